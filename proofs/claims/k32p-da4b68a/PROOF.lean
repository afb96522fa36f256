import PyProof.Rows.All
import Wide.All
import OpenK.AllK
import Wide.FinOn
import Lean
import PyProof.EqAt
import PyProof.EqKinds
import PyProof.TupleCall
import PySem.Challenge.RW_calmword_k32_sayings_looked_at
set_option Elab.async false
set_option linter.all false
set_option maxRecDepth 100000
set_option maxHeartbeats 4000000
namespace L2
open PySem PySem.Spec PyProof.Rows
abbrev Key:=Sum Int Str
def keyIs:Key->Value->Bool
  | .inl k,v=>Value.isInt k v
  | .inr x,v=>Value.isStrOf x v
def keyH (w:World):Key->Int
  | .inl k=>hashInt k
  | .inr x=>hashStr w x
theorem keyIs_shape:∀ {k:Key} {v:Value},keyIs k v=true->(∃ i t,k=Sum.inl i/\v=Value.int i t)∨(∃ x t,k=Sum.inr x/\v=Value.str x t)
  | .inl i,v,h=>by
    obtain ⟨t,e⟩:=Value.isInt_shape (k:=i) (v:=v) h
    exact .inl ⟨i,t,rfl,e⟩
  | .inr x,v,h=>by
    obtain ⟨t,e⟩:=Value.isStrOf_shape (x:=x) (v:=v) h
    exact .inr ⟨x,t,rfl,e⟩
theorem keyIs_int (i:Int) (t:Tok):keyIs (.inl i) (.int i t)=true:=by simp [keyIs,Value.isInt]
theorem keyIs_str (x:Str) (t:Tok):keyIs (.inr x) (.str x t)=true:=by simp [keyIs,Value.isStrOf]
theorem key_ll (a b:Int):decide ((Sum.inl a:Key)=Sum.inl b)=(a == b):=by
  by_cases e:a=b
  · subst e;simp
  · have h:¬ (Sum.inl a:Key)=Sum.inl b:=fun q=>e (Sum.inl.inj q)
    rw [decide_eq_false h]
    exact (beq_eq_false_iff_ne.mpr e).symm
theorem key_rr (a b:Str):decide ((Sum.inr a:Key)=Sum.inr b)=decide (a=b):=by
  by_cases e:a=b
  · subst e;simp
  · have h:¬ (Sum.inr a:Key)=Sum.inr b:=fun q=>e (Sum.inr.inj q)
    rw [decide_eq_false h,decide_eq_false e]
theorem key_lr (a:Int) (b:Str):decide ((Sum.inl a:Key)=Sum.inr b)=false:=decide_eq_false (fun q=>nomatch q)
theorem key_rl (a:Str) (b:Int):decide ((Sum.inr a:Key)=Sum.inl b)=false:=decide_eq_false (fun q=>nomatch q)
def mixKind (prog:Program) (w:World):PySem.KeyKind prog w Key where
  is:=keyIs
  hash:=keyH w
  inj:=fun v a b ha hb=>by
    rcases keyIs_shape ha with ⟨i,t,rfl,rfl⟩ | ⟨x,t,rfl,rfl⟩
    · rcases keyIs_shape hb with ⟨j,u,rfl,e⟩ | ⟨y,u,rfl,e⟩
      · injection e with e1 _;rw [e1]
      · exact nomatch e
    · rcases keyIs_shape hb with ⟨j,u,rfl,e⟩ | ⟨y,u,rfl,e⟩
      · exact nomatch e
      · injection e with e1 _;rw [e1]
  byValue:=fun k v h=>by
    rcases keyIs_shape h with ⟨i,t,rfl,rfl⟩ | ⟨x,t,rfl,rfl⟩ <;> rfl
  pyHash:=fun hv h=>by
    rcases keyIs_shape hv with ⟨i,t,rfl,rfl⟩ | ⟨x,t,rfl,rfl⟩
    · exact wpAny_pyHash_int h
    · exact wpAny_pyHash_str h
  eqBool:=fun hu hv h=>by
    rcases keyIs_shape hu with ⟨i,t,rfl,rfl⟩ | ⟨x,t,rfl,rfl⟩
    · rcases keyIs_shape hv with ⟨j,u,rfl,rfl⟩ | ⟨y,u,rfl,rfl⟩
      · rw [key_ll] at h;exact wpAny_eqBool_int h
      · rw [key_lr] at h;exact SeqAt.EqAt.int_str i t y u _ _ _ _ h
    · rcases keyIs_shape hv with ⟨j,u,rfl,rfl⟩ | ⟨y,u,rfl,rfl⟩
      · rw [key_rl] at h;exact SeqAt.EqAt.str_int x t j u _ _ _ _ h
      · rw [key_rr] at h;exact wpAny_eqBool_str h
  «strs»:=fun k x t v h=>by
    rcases keyIs_shape h with ⟨i,u,rfl,e⟩ | ⟨y,u,rfl,e⟩
    · exact nomatch e
    · injection e with e1 _
      subst e1
      cases v <;> rfl
theorem mixKind_int (prog:Program) (w:World) (i:Int) (t:Tok):(mixKind prog w).is (.inl i) (.int i t)=true:=keyIs_int i t
theorem mixKind_str (prog:Program) (w:World) (x:Str) (t:Tok):(mixKind prog w).is (.inr x) (.str x t)=true:=keyIs_str x t
end L2
namespace L2
open PySem PySem.Spec PyProof.Rows
inductive V where
  | non | bl (b:Bool) | int (i:Int) | str (x:Str) | byt (b:Array UInt8) | flt (b:UInt64) | ref (a:Addr) | ty (n:String)
  deriving DecidableEq
def RelV:V->Value->Prop
  | .non,u=>u=Value.none
  | .bl b,u=>u=Value.bool b
  | .int i,u=>∃ t,u=Value.int i t
  | .str x,u=>∃ t,u=Value.str x t
  | .byt b,u=>∃ t,u=Value.bytes b t
  | .flt b,u=>∃ t,u=Value.float b t
  | .ref a,u=>u=Value.ref a
  | .ty n,u=>u=Value.type n
abbrev Vals:List V->List Value->Prop:=Paired RelV
theorem Vals.length {xs:List V} {us:List Value} (r:Vals xs us):xs.length=us.length:=Paired.length r
theorem Vals.get:∀ {xs:List V} {us:List Value} {i:Nat} {x:V},Vals xs us->xs[i]?=some x->∃ u,us[i]?=some u/\RelV x u
  | _,_,_,_,.nil,e=>by simp at e
  | _,_,0,_,.cons r _,e=>by simp at e;subst e;exact ⟨_,rfl,r⟩
  | _,_,i+1,x,.cons _ t,e=>by
    obtain ⟨u,h1,h2⟩:=Vals.get (i:=i) (x:=x) t (by simpa using e)
    exact ⟨u,by simpa using h1,h2⟩
theorem Vals.set {x:V} {u:Value} (r:RelV x u):∀ {xs:List V} {us:List Value} (i:Nat),Vals xs us->Vals (xs.set i x) (us.set i u)
  | _,_,_,.nil=>.nil
  | _,_,0,.cons _ t=>.cons r t
  | _,_,i+1,.cons q t=>.cons q (Vals.set r i t)
theorem Vals.append:∀ {xs ys:List V} {us ws:List Value},Vals xs us->Vals ys ws->Vals (xs++ys) (us++ws)
  | _,_,_,_,.nil,s=>s
  | _,_,_,_,.cons r t,s=>.cons r (Vals.append t s)
theorem Vals.take:∀ {xs:List V} {us:List Value} (n:Nat),Vals xs us->Vals (xs.take n) (us.take n)
  | _,_,0,_=>.nil
  | _,_,_+1,.nil=>.nil
  | _,_,n+1,.cons r t=>.cons r (Vals.take n t)
theorem Vals.drop:∀ {xs:List V} {us:List Value} (n:Nat),Vals xs us->Vals (xs.drop n) (us.drop n)
  | _,_,0,r=>r
  | _,_,_+1,.nil=>.nil
  | _,_,n+1,.cons _ t=>Vals.drop n t
def RelO:Option V->Option Value->Prop
  | some v,some u=>RelV v u
  | none,none=>True
  | _,_=>False
def KV {κ:Type}:List (κ × V)->List (κ × Value)->Prop:=Paired fun (p:κ × V) (q:κ × Value)=>p.1=q.1/\RelV p.2 q.2
def kV:Key->V
  | .inl i=>.int i
  | .inr x=>.str x
inductive HO where
    | lst (xs:List V)
    | tup (xs:List V)
    | dK (kvs:List (Key × V)) | dT (kvs:List (List Key × V))
    | set (S:Int->Bool) (n:Nat)
    | ins (C dx:Addr) (fs:List (Str × V))
    | own (x:Addr)
    | xd (fs:List (Str × V))
    | met (f x:Addr)
    | rng (lo hi:Int)
    | frz (o:Obj) (u:HO)
    | tbl (ps:Array Value)
    | ext (φ:Heap->Prop)
abbrev Hp:=Addr->Option HO
def upd (H:Hp) (a:Addr) (o:HO):Hp:=fun b=>if b=a then some o else H b
theorem jc {H:Hp} {a:Addr} {o:HO}:upd H a o a=some o:=by unfold upd;rw [if_pos rfl]
theorem je {H:Hp} {a b:Addr} {o:HO} (h:b≠a):upd H a o b=H b:=by unfold upd;rw [if_neg h]
theorem upd_upd {H:Hp} {a:Addr} {o u:HO}:upd (upd H a o) a u=upd H a u:=by
  funext b;unfold upd;split <;> rfl
theorem ne_of {H:Hp} {a b:Addr} {o u:HO} (h:H a=some o) (h':H b=some u) (d:o≠u):a≠b:=by
  intro e;subst e;rw [h] at h';exact d (Option.some.inj h')
theorem jh {H:Hp} {a b:Addr} {o:HO} (h:H a=some o) (h':H b=none):a≠b:=by
  intro e;subst e;rw [h] at h';cases h'
section
variable (P:Program) (w:World)
def ObjOk (H:Hp) (h:Heap) (a:Addr):HO->Prop
  | .lst xs=>xs.length<=sizeLine/\∃ (its:List Value) (n:Nat),Vals xs its/\h.get? a=some { cls:=.type "list",data:=.seq its.toArray n }
  | .tup xs=>xs.length<=sizeLine/\∃ its:List Value,Vals xs its/\IsTup h a its.toArray
  | .dK kvs=>kvs.length<=sizeLine/\(a == sysModules)=false/\∃ vs,KV kvs vs/\h.DictOf (mixKind P w) a vs
  | .dT kvs=>kvs.length<=sizeLine/\(a == sysModules)=false/\∃ xs:List (List Key × Addr × Value),
      Paired (fun (p:List Key × V) (q:List Key × Addr × Value)=>p.1=q.1/\H q.2.1=some (.tup (p.1.map kV))/\RelV p.2 q.2.2) kvs xs /\
      ∃ o es ep,h.get? a=some o/\o.ExactDict/\o.data=.dict es ep/\es.toList=xs.map (entryOfKey (tupleKind (mixKind P w)))/\(xs.map (·.1)).Nodup
  | .set S n=>h.SetOf (intKind P w) a S n
  | .ins C dx fs=>H dx=some (.own a)/\fs.length<=1000/\dx≠a/\h.get? a=some (PySem.W.instObj C dx) /\
      ∃ mA,h.Ns1 dx mA/\(∀ f,RelO (fs.lookup f) (mA f))/\PySem.Within mA (fs.map (·.1))
  | .own _=>∃ o,h.get? a=some o
  | .xd fs=>∃ mA,h.Ns1 a mA/\∀ f,RelO (fs.lookup f) (mA f)
  | .rng lo hi=>∃ t u v,h.get? a=some { cls:=.type "range",data:=.fields #[.int lo t,.int hi u,.int 1 v] }
  | .frz o u=>h.get? a=some o/\ObjOk H h a u
  | .tbl ps=>h.get? a=some { cls:=.none,data:=.fields ps }
  | .met f x=>h.get? a=some (PySem.W.methodObj (.ref f) (.ref x))
  | .ext φ=>φ h/\(∃ o,h.get? a=some o)/\∀ h1 h2:Heap,φ h1->(∀ o,h1.get? a=some o->h2.get? a=some o)->φ h2
def HOk (H:Hp) (h:Heap):Prop:=∀ a o,H a=some o->ObjOk P w H h a o
end
section
variable {P:Program} {w:World} {H H':Hp} {h h':Heap} {a:Addr} {o:HO}
theorem ObjOk.lt (x:ObjOk P w H h a o):a < h.objs.size:=by
  cases o with
  | lst xs=>obtain ⟨_,_,_,_,e⟩:=x;exact Heap.lt_size e
  | tup xs=>obtain ⟨_,_,_,p⟩:=x;exact p.lt
  | dK kvs=>obtain ⟨_,_,_,_,o,_,_,e,_⟩:=x;exact Heap.lt_size e
  | dT kvs=>obtain ⟨_,_,_,_,o,_,_,e,_⟩:=x;exact Heap.lt_size e
  | set S n=>obtain ⟨o,_,_,_,e,_⟩:=x;exact Heap.lt_size e
  | ins C dx fs=>obtain ⟨_,_,_,e,_⟩:=x;exact Heap.lt_size e
  | own y=>obtain ⟨_,e⟩:=x;exact Heap.lt_size e
  | xd fs=>obtain ⟨_,⟨_,_,_,e,_⟩,_⟩:=x;exact Heap.lt_size e
  | rng lo hi=>obtain ⟨_,_,_,e⟩:=x;exact Heap.lt_size e
  | frz ob u=>obtain ⟨e,_⟩:=x;exact Heap.lt_size e
  | tbl ps=>exact Heap.lt_size (show h.get? a=some _ from x)
  | met f y=>exact Heap.lt_size (show h.get? a=some _ from x)
  | ext φ=>obtain ⟨_,⟨_,e⟩,_⟩:=x;exact Heap.lt_size e
theorem Paired.mapP {α β:Type} {F G:α->β->Prop}:∀ {l₁:List α} {l₂:List β},Paired F l₁ l₂->(∀ a b,F a b->G a b)->Paired G l₁ l₂
  | _,_,.nil,_=>.nil
  | _,_,.cons r t,f=>.cons (f _ _ r) (Paired.mapP t f)
theorem ObjOk.stay (x:ObjOk P w H h a o) (k:∀ b u,(b=a∨H b=some (.own a))->h.get? b=some u->h'.get? b=some u)
    (ho:∀ b,H b=some (.own a)->H' b=some (.own a)) (ht:∀ b xs,H b=some (.tup xs)->H' b=some (.tup xs)):ObjOk P w H' h' a o:=by
  induction o with
  | lst xs=>obtain ⟨z,its,n,r,e⟩:=x;exact ⟨z,its,n,r,k _ _ (.inl rfl) e⟩
  | tup xs=>obtain ⟨z,its,r,ob,e,c⟩:=x;exact ⟨z,its,r,ob,k _ _ (.inl rfl) e,c⟩
  | dK kvs=>obtain ⟨z,y,vs,r,ob,es,ep,e,c⟩:=x;exact ⟨z,y,vs,r,ob,es,ep,k _ _ (.inl rfl) e,c⟩
  | dT kvs =>
    obtain ⟨z,y,xs,r,ob,es,ep,e,c⟩:=x
    exact ⟨z,y,xs,Paired.mapP r fun p q z=>⟨z.1,ht _ _ z.2.1,z.2.2⟩,ob,es,ep,k _ _ (.inl rfl) e,c⟩
  | set S n=>obtain ⟨ob,es,ep,t,e,c⟩:=x;exact ⟨ob,es,ep,t,k _ _ (.inl rfl) e,c⟩
  | ins C dx fs =>
    obtain ⟨d,z,ne,e,mA,⟨od,es,ep,e2,c⟩,r⟩:=x
    exact ⟨ho _ d,z,ne,k _ _ (.inl rfl) e,mA,⟨od,es,ep,k _ _ (.inr d) e2,c⟩,r⟩
  | own y=>obtain ⟨ob,e⟩:=x;exact ⟨ob,k _ _ (.inl rfl) e⟩
  | xd fs=>obtain ⟨mA,⟨od,es,ep,e,c⟩,r⟩:=x;exact ⟨mA,⟨od,es,ep,k _ _ (.inl rfl) e,c⟩,r⟩
  | rng lo hi=>obtain ⟨t,u,v,e⟩:=x;exact ⟨t,u,v,k _ _ (.inl rfl) e⟩
  | frz ob u ih=>obtain ⟨e,q⟩:=x;exact ⟨k _ _ (.inl rfl) e,ih q⟩
  | tbl ps =>
    have e:h.get? a=some { cls:=.none,data:=.fields ps }:=x
    show h'.get? a=some { cls:=.none,data:=.fields ps }
    exact k a _ (.inl rfl) e
  | met f y =>
    have e:h.get? a=some (PySem.W.methodObj (.ref f) (.ref y)):=x
    show h'.get? a=some (PySem.W.methodObj (.ref f) (.ref y))
    exact k a _ (.inl rfl) e
  | ext φ=>obtain ⟨p,⟨o,e⟩,st⟩:=x;exact ⟨st _ _ p fun o q=>k _ _ (.inl rfl) q,⟨o,k _ _ (.inl rfl) e⟩,st⟩
theorem HOk.lt (x:HOk P w H h) (e:H a=some o):a < h.objs.size:=(x a o e).lt
theorem HOk.fresh (x:HOk P w H h) (e:h.objs.size<=a):H a=none:=by
  cases q:H a with
  | none=>rfl
  | some u=>exact absurd (Nat.lt_of_lt_of_le (x.lt q) e) (Nat.lt_irrefl _)
theorem HOk.kept (x:HOk P w H h) (k:∀ b u,h.get? b=some u->h'.get? b=some u):HOk P w H h':=fun a o e =>
  (x a o e).stay (fun b u _ q=>k b u q) (fun _ q=>q) fun _ _ q=>q
theorem HOk.laid (x:HOk P w H h) (k:∀ b u,h.get? b=some u->h'.get? b=some u) (hp:h.objs.size<=a) (new:ObjOk P w (upd H a o) h' a o):HOk P w (upd H a o) h':=fun b u e=>by
  have hn:=x.fresh hp
  by_cases hb:b=a
  · subst hb;rw [jc] at e;cases e;exact new
  · rw [je hb] at e
    exact (x b u e).stay (fun c v _ q=>k c v q) (fun c q=>by rw [je (jh q hn)];exact q) fun c xs q=>by rw [je (jh q hn)];exact q
end
def Rd (H:Hp) (a:Addr) (u:HO):Prop:=H a=some u∨∃ o,H a=some (.frz o u)
theorem Rd.ok {P:Program} {w:World} {H:Hp} {h:Heap} {a:Addr} {u:HO} (r:Rd H a u) (x:HOk P w H h):ObjOk P w H h a u:=by
  rcases r with r | ⟨o,r⟩
  · exact x a u r
  · obtain ⟨_,q⟩:=x a _ r
    exact q
def Mut:Option HO->Prop
  | some (.lst _)=>True
  | some (.dK _)=>True
  | some (.dT _)=>True
  | some (.set _ _)=>True
  | some (.ins _ _ _)=>True
  | some (.ext _)=>True
  | _=>False
section
variable {P:Program} {w:World} {H:Hp} {h h':Heap} {x e:Addr} {o':HO}
theorem HOk.write (ok:HOk P w H h) (mu:Mut (H x)) (he:e=x∨H e=some (.own x)) (k:∀ b u,b≠e->h.get? b=some u->h'.get? b=some u) (heo:∃ u,h'.get? e=some u)
    (new:ObjOk P w (upd H x o') h' x o'):HOk P w (upd H x o') h':=fun b u q=>by
  have nown:∀ c y,H c=some (.own y)->c≠x:=fun c y r z=>by subst z;rw [r] at mu;exact mu
  have ntup:∀ c xs,H c=some (.tup xs)->c≠x:=fun c xs r z=>by subst z;rw [r] at mu;exact mu
  by_cases hb:b=x
  · subst hb;rw [jc] at q;cases q;exact new
  · rw [je hb] at q
    by_cases hbe:b=e
    · have q':H b=some (.own x):=by
        rcases he with z | z
        · exact absurd (hbe.trans z) hb
        · rw [hbe];exact z
      rw [q] at q';cases q'
      obtain ⟨v,hv⟩:=heo
      exact ⟨v,by rw [hbe];exact hv⟩
    · refine (ok b u q).stay (fun c v hc r=>k c v ?_ r) (fun c r=>by rw [je (nown c b r)];exact r) fun c xs r=>by rw [je (ntup c xs r)];exact r
      rcases hc with rfl | hc
      · exact hbe
      · rintro rfl
        rcases he with z | z
        · exact nown c b hc z
        · rw [hc] at z;cases z;exact hb rfl
end
structure Un (fs ex:List Addr) (H H':Hp) (h h':Heap):Prop where
  keep:∀ b o,h.get? b=some o->H b=none->b ∉ fs->b ∉ ex->h'.get? b=some o
  slot:∀ b o,h.get? b=some o->H b=none->b ∈ fs->b ∉ ex->∃ sl,h'.get? b=some { o with slots:=sl }
  free:∀ b o,h.get? b=some o->H b=none->b ∉ ex->H' b=none
  there:∀ b o,h.get? b=some o->b ∉ ex->∃ o',h'.get? b=some o'
  tups:∀ b xs,H b=some (.tup xs)->H' b=some (.tup xs)
  frzs:∀ b o u,H b=some (.frz o u)->H' b=some (.frz o u)
  tbls:∀ b ps,H b=some (.tbl ps)->∃ more,H' b=some (.tbl (ps++more))
section
variable {fs fs' ex ex':List Addr} {H H1 H2:Hp} {h h1 h2 h':Heap} {a x e:Addr} {o:HO}
theorem Un.any (u:Un fs ex H H1 h h1) {b:Addr} {ob:Obj} (q:h.get? b=some ob) (n:H b=none) (hx:b ∉ ex):∃ sl,h1.get? b=some { ob with slots:=sl }:=by
  by_cases hb:b ∈ fs
  · exact u.slot b ob q n hb hx
  · exact ⟨ob.slots,u.keep b ob q n hb hx⟩
theorem Un.kept (k:∀ b u,h.get? b=some u->h'.get? b=some u):Un fs ex H H h h' :=
  ⟨fun b ob q _ _ _=>k b ob q,fun b ob q _ _ _=>⟨ob.slots,k b ob q⟩,fun _ _ _ n _=>n,fun b ob q _=>⟨ob,k b ob q⟩,fun _ _ q=>q,fun _ _ _ q=>q,fun _ ps q=>⟨#[],by rw [q];simp⟩⟩
theorem Un.refl:Un fs ex H H h h:=Un.kept fun _ _ q=>q
theorem Un.laid (k:∀ b u,h.get? b=some u->h'.get? b=some u) (hp:h.objs.size<=a) (hn:H a=none):Un fs ex H (upd H a o) h h' where
  keep:=fun b u q _ _ _=>k b u q
  slot:=fun b u q _ _ _=>⟨u.slots,k b u q⟩
  free:=fun b u q n _=>by rw [je (Nat.ne_of_lt (Nat.lt_of_lt_of_le (Heap.lt_size q) hp))];exact n
  there:=fun b u q _=>⟨u,k b u q⟩
  tups:=fun b xs q=>by rw [je (jh q hn)];exact q
  frzs:=fun b u xs q=>by rw [je (jh q hn)];exact q
  tbls:=fun b ps q=>⟨#[],by rw [je (jh q hn),q];simp⟩
theorem Un.write (mu:Mut (H x)) (he:e=x∨H e=some (.own x)) (k:∀ b u,b≠e->h.get? b=some u->h'.get? b=some u) (heo:∃ u,h'.get? e=some u):Un fs ex H (upd H x o) h h':=by
  have hx:∀ b,H b=none->b≠x:=fun b n z=>by subst z;rw [n] at mu;exact mu
  have hb:∀ b,H b=none->b≠e:=fun b n z=>by
    subst z
    rcases he with r | r
    · exact hx b n r
    · rw [n] at r;cases r
  have hm:∀ b u,H b=some u->¬ Mut (some u)->b≠x:=fun b u q nm z=>by subst z;rw [q] at mu;exact nm mu
  refine ⟨fun b u q n _ _=>k b u (hb b n) q,fun b u q n _ _=>⟨u.slots,k b u (hb b n) q⟩,fun b u q n _=>by rw [je (hx b n)];exact n,fun b u q _=>?_,
    fun b xs q=>by rw [je (hm b _ q fun z=>z)];exact q,fun b u xs q=>by rw [je (hm b _ q fun z=>z)];exact q,fun b ps q=>⟨#[],by rw [je (hm b _ q fun z=>z),q];simp⟩⟩
  by_cases hbe:b=e
  · subst hbe;exact heo
  · exact ⟨u,k b u hbe q⟩
end
def trk (h:Heap) (H:Hp):List Addr:=(List.range h.objs.size).filter fun a=>(H a).isSome
def hidT (h:Heap) (H:Hp):Heap:=PySem.W.hideAll h (trk h H)
theorem hidT_size (h:Heap) (H:Hp):(hidT h H).objs.size=h.objs.size:=PySem.W.hideAll_size _ _
theorem hidT_get {h:Heap} {H:Hp} {b:Addr} {o:Obj} (e:h.get? b=some o) (n:H b=none):(hidT h H).get? b=some o :=
  PySem.W.hideAll_get _ e fun hm=>by
    have q:(H b).isSome=true:=(List.mem_filter.mp hm).2
    rw [n] at q;simp at q
theorem of_hidT {h:Heap} {H:Hp} {b:Addr} {o:Obj} (e:(hidT h H).get? b=some o):h.get? b=some o/\H b=none:=by
  have e':h.get? b=some o:=PySem.W.of_hideAll (trk h H) e
  refine ⟨e',?_⟩
  cases q:H b with
  | none=>rfl
  | some x =>
    have hm:b ∈ trk h H:=List.mem_filter.mpr ⟨List.mem_range.mpr (Heap.lt_size e'),by simp [q]⟩
    have z:(hidT h H).get? b=none:=PySem.W.hideAll_none (trk h H) hm
    rw [z] at e;cases e
end L2
namespace L2
open PySem PySem.Spec PyProof.Rows
structure Mod (K:PySem.W.Frag) (mg:Str->Option Value) (base:Heap):Prop where
  kin:K.In base
  glob:base.Ns mainGlobals mg
  blt:∃ mb,base.Ns builtinsNs mb/\∀ x:Str,x≠"__name__"->mb x=bootBuiltins x
  nolimit:base.NoLimit
structure Cx where
  prog:Program
  w:World
  K:PySem.W.Frag
  mg:Str->Option Value
  base:Heap
  A:Around
  N:List Str
  s₀:Shared
  H₀:Hp
  env:Env
  outer:List Env
  stack:List Env
  ex:List Addr
  fn:Str->Bool
  calm:Bool
  pn:List (Addr × Obj)
  xe:Value->Shared->Prop
def frs (l:List Env):List Addr:=l.filterMap (·.frame)
abbrev Cx.fs (X:Cx):List Addr:=frs X.outer
def Vis (sc:Scope) (x:Str):Prop:=sc.names.lookup x=some .local∨sc.names.lookup x=some .cell∨sc.names.lookup x=some .free
def Loc (sc:Scope) (x:Str):Prop:=sc.names.lookup x=some .local∨sc.names.lookup x=some .cell
def Look (env:Env) (h:Heap) (m:Str->Option Value) (x:Str) (u:Value):Prop :=
  (env.kindOf x=some .local/\m x=some u)∨((env.kindOf x=some .cell∨env.kindOf x=some .free)/\∃ c,env.cells.lookup x=some c/\h.IsCell c (some u))
structure Cx.Ok (X:Cx):Prop where
  mod:Mod X.K X.mg X.base
  kind:X.env.scope.kind=.function
  glob:X.env.globals=mainGlobals
  blt:X.env.builtins=builtinsNs
  above:X.s₀.heap.objs.size<=X.env.locals
  inj:∀ x y c,X.env.cells.lookup x=some c->X.env.cells.lookup y=some c->x=y
  has:∀ x,(X.env.kindOf x=some .cell∨X.env.kindOf x=some .free)->∃ c,X.env.cells.lookup x=some c
  cab:∀ x c,X.fn x=true->X.env.cells.lookup x=some c->X.s₀.heap.objs.size<=c
  hd:X.calm=true->X.A.handled=none
  frames:X.A.frames=some X.stack
  stk:X.stack=X.outer∨(X.stack=X.env::X.outer/\X.env.frame=some X.env.locals)
  exf:∀ b ∈ X.ex,b≠X.env.locals/\∀ x c,X.env.cells.lookup x=some c->c≠b
  bs:∀ b o,X.base.get? b=some o->X.s₀.heap.get? b=some o/\X.H₀ b=none
  bsz:X.base.objs.size<=X.s₀.heap.objs.size
  noex:∀ b o,X.base.get? b=some o->b ∉ X.ex
  exfs:∀ b ∈ X.ex,b ∉ X.fs
  funs:X.s₀.heap.FunFrames X.base X.outer
  frf:∀ b ∈ X.fs,X.H₀ b=none
structure Inv (X:Cx) (pins:List (Addr × Obj)) (σ:List (Option V)) (H:Hp) (s:Shared):Prop where
  ok:X.Ok
  os:s.os=X.s₀.os
  bare:AllBare s.gens
  base:Un X.fs X.ex X.H₀ H X.s₀.heap s.heap
  loc:∃ m,s.heap.Ns X.env.locals m/\∀ (i:Nat) (x:Str) (v:V),X.N[i]?=some x->σ[i]?=some (some v)->Vis X.env.scope x->∃ u,RelV v u/\Look X.env s.heap m x u
  cell:∀ x c,X.env.cells.lookup x=some c->∃ v,s.heap.IsCell c v
  free:H X.env.locals=none
  freeC:∀ x c,X.env.cells.lookup x=some c->H c=none
  pin:∀ p ∈ X.pn++pins,s.heap.get? p.1=some p.2/\H p.1=none/\p.1≠X.env.locals/\p.1 ∉ X.fs/\∀ v,p.2.data≠.cell v
  hok:HOk X.prog X.w H s.heap
  len:σ.length=X.N.length
section
variable {X:Cx} {pins:List (Addr × Obj)} {σ:List (Option V)} {H H':Hp} {s:Shared} {h':Heap}
theorem Cx.Ok.nofr (ok:X.Ok) {b:Addr} {o:Obj} (e:X.base.get? b=some o):b ∉ X.fs:=fun hb=>by
  have:=(ok.funs.mem hb).1
  rw [e] at this;cases this
theorem Inv.bs (I:Inv X pins σ H s):∀ b o,X.base.get? b=some o->s.heap.get? b=some o/\H b=none:=fun b o e =>
  ⟨I.base.keep b o (I.ok.bs b o e).1 (I.ok.bs b o e).2 (I.ok.nofr e) (I.ok.noex b o e),I.base.free b o (I.ok.bs b o e).1 (I.ok.bs b o e).2 (I.ok.noex b o e)⟩
theorem Inv.bk (I:Inv X pins σ H s):∀ b o,X.base.get? b=some o->s.heap.get? b=some o:=fun b o e=>(I.bs b o e).1
theorem Inv.mod (I:Inv X pins σ H s):Mod X.K X.mg X.base:=I.ok.mod
theorem Inv.kIn (I:Inv X pins σ H s):X.K.In s.heap:=I.ok.mod.kin.keeps I.bk
theorem Inv.lt (I:Inv X pins σ H s):X.env.locals < s.heap.objs.size:=let ⟨_,hn,_⟩:=I.loc;hn.lt
theorem Inv.sz (I:Inv X pins σ H s):X.s₀.heap.objs.size<=s.heap.objs.size:=Nat.le_trans I.ok.above (Nat.le_of_lt I.lt)
theorem Inv.nofs (I:Inv X pins σ H s) {a:Addr} (h:s.heap.objs.size<=a):a ∉ X.fs:=fun hb=>by
  obtain ⟨_,o,ho,_⟩:=I.ok.funs.mem hb
  exact absurd (Nat.lt_of_lt_of_le (Heap.lt_size ho) (Nat.le_trans I.sz h)) (Nat.lt_irrefl _)
theorem Inv.cne (I:Inv X pins σ H s):∀ x c,X.env.cells.lookup x=some c->c≠X.env.locals:=fun x c e z=>by
  obtain ⟨v,o,ho,hd⟩:=I.cell x c e
  obtain ⟨m,⟨o',es,ep,ho',hd',_⟩,_⟩:=I.loc
  rw [z,ho'] at ho;cases ho;rw [hd'] at hd;cases hd
theorem Inv.funs (I:Inv X pins σ H s):s.heap.FunFrames X.base X.outer:=by
  have all:∀ (l:List Env),(∀ b ∈ frs l,b ∈ X.fs)->X.s₀.heap.FunFrames X.base l->s.heap.FunFrames X.base l:=by
    intro l
    induction l with
    | nil=>intro _ _;trivial
    | cons env r ih =>
      intro hs hl
      obtain ⟨hk,⟨L,o,hf,hn,ho,hd⟩,hr⟩:=hl
      have hL:L ∈ X.fs:=hs L (by unfold frs;rw [List.filterMap_cons,hf];exact List.mem_cons_self)
      obtain ⟨sl,e⟩:=I.base.slot L o ho (I.ok.frf L hL) hL fun z=>I.ok.exfs L z hL
      exact ⟨hk,⟨L,_,hf,hn,e,hd⟩,ih (fun b hb=>hs b (by unfold frs;rw [List.filterMap_cons,hf];exact List.mem_cons_of_mem _ hb)) hr⟩
  exact all X.outer (fun _ hb=>hb) I.ok.funs
theorem Inv.stack (I:Inv X pins σ H s):s.heap.FunFrames X.base X.stack:=by
  rcases I.ok.stk with e | ⟨e,hf⟩
  · rw [e];exact I.funs
  · rw [e]
    obtain ⟨m,hn,_⟩:=I.loc
    refine .cons (by rw [I.ok.kind];decide) hf hn ?_ I.funs
    exact Heap.get?_none_of_le (Nat.le_trans I.ok.bsz I.ok.above)
theorem Inv.stkSub (I:Inv X pins σ H s):∀ b ∈ frs X.stack,b ∈ X.env.locals::X.fs:=fun b hb=>by
  rcases I.ok.stk with e | ⟨e,hf⟩
  · rw [e] at hb;exact List.mem_cons_of_mem _ hb
  · rw [e] at hb
    unfold frs at hb
    rw [List.filterMap_cons,hf] at hb
    exact hb
theorem Inv.stkFree (I:Inv X pins σ H s):∀ b ∈ frs X.stack,H b=none:=fun b hb=>by
  rcases List.mem_cons.mp (I.stkSub b hb) with e | hb
  · rw [e];exact I.free
  · obtain ⟨_,o,ho,_⟩:=I.ok.funs.mem hb
    exact I.base.free b o ho (I.ok.frf b hb) fun z=>I.ok.exfs b z hb
theorem Inv.step {g':Array GenState} {t':Nat} {d':Drawn} {ch:List Addr} (I:Inv X pins σ H s)
    (hch:∀ b ∈ ch,(b ∈ X.ex∨X.s₀.heap.objs.size<=b)/\b≠X.env.locals/\(∀ x c,X.env.cells.lookup x=some c->c≠b)/\∀ p ∈ X.pn++pins,p.1≠b)
    (keep:∀ b o,b≠X.env.locals->b ∉ X.fs->b ∉ ch->s.heap.get? b=some o->H b=none->h'.get? b=some o)
    (slot:∀ b o,b≠X.env.locals->b ∈ X.fs->b ∉ ch->s.heap.get? b=some o->H b=none->∃ sl,h'.get? b=some { o with slots:=sl }) (free:∀ b o,b ∉ ch->s.heap.get? b=some o->H b=none->H' b=none)
    (there:∀ b o,b ∉ ch->s.heap.get? b=some o->∃ o',h'.get? b=some o')
    (tups:∀ b xs,H b=some (.tup xs)->H' b=some (.tup xs)) (frzs:∀ b o u,H b=some (.frz o u)->H' b=some (.frz o u)) (tbls:∀ b ps,H b=some (.tbl ps)->∃ more,H' b=some (.tbl (ps++more)))
    (ns:∀ m,s.heap.Ns X.env.locals m->h'.Ns X.env.locals m) (hok:HOk X.prog X.w H' h') (hg:AllBare g') :
    Inv X pins σ H' { s with heap:=h',gens:=g',drawn:=d',toks:=t' }:=by
  have neL:∀ b o,X.s₀.heap.get? b=some o->b≠X.env.locals:=fun b o e=>Nat.ne_of_lt (Nat.lt_of_lt_of_le (Heap.lt_size e) I.ok.above)
  have neC:∀ b o,X.s₀.heap.get? b=some o->b ∉ X.ex->b ∉ ch:=fun b o e hx hb=>by
    rcases (hch b hb).1 with z | z
    · exact hx z
    · exact absurd (Nat.lt_of_lt_of_le (Heap.lt_size e) z) (Nat.lt_irrefl _)
  have cellK:∀ x c,X.env.cells.lookup x=some c->∀ v,s.heap.IsCell c v->h'.IsCell c v:=fun x c e v ⟨o,ho,hd⟩=>by
    have nch:c ∉ ch:=fun z=>(hch c z).2.2.1 x c e rfl
    by_cases hc:c ∈ X.fs
    · obtain ⟨sl,q⟩:=slot c o (I.cne x c e) hc nch ho (I.freeC x c e)
      exact ⟨_,q,hd⟩
    · exact ⟨o,keep c o (I.cne x c e) hc nch ho (I.freeC x c e),hd⟩
  refine ⟨I.ok,I.os,hg,⟨fun b o e n hb hx=>?_,fun b o e n hb hx=>?_,fun b o e n hx=>?_,fun b o e hx=>?_,fun b xs e=>tups b xs (I.base.tups b xs e),fun b o xs e=>frzs b o xs (I.base.frzs b o xs e),fun b ps e=>?_⟩,?_,fun x c e=>?_,?_,fun x c e=>?_,fun p hp=>?_,hok,I.len⟩
  · exact keep b o (neL b o e) hb (neC b o e hx) (I.base.keep b o e n hb hx) (I.base.free b o e n hx)
  · obtain ⟨sl,e1⟩:=I.base.slot b o e n hb hx
    obtain ⟨sl',e2⟩:=slot b _ (neL b o e) hb (neC b o e hx) e1 (I.base.free b o e n hx)
    exact ⟨sl',e2⟩
  · obtain ⟨o',e1⟩:=I.base.there b o e hx
    exact free b o' (neC b o e hx) e1 (I.base.free b o e n hx)
  · obtain ⟨o',e1⟩:=I.base.there b o e hx
    exact there b o' (neC b o e hx) e1
  · obtain ⟨m1,e1⟩:=I.base.tbls b ps e
    obtain ⟨m2,e2⟩:=tbls b _ e1
    exact ⟨m1++m2,by rw [e2,Array.append_assoc]⟩
  · obtain ⟨m,hn,hl⟩:=I.loc
    refine ⟨m,ns m hn,fun i x v e1 e2 e3=>?_⟩
    obtain ⟨u,r,l⟩:=hl i x v e1 e2 e3
    refine ⟨u,r,?_⟩
    rcases l with l | ⟨k,c,e,z⟩
    · exact .inl l
    · exact .inr ⟨k,c,e,cellK x c e _ z⟩
  · obtain ⟨v,z⟩:=I.cell x c e
    exact ⟨v,cellK x c e v z⟩
  · obtain ⟨m,⟨o,_,_,ho,_⟩,_⟩:=I.loc
    exact free _ o (fun z=>(hch _ z).2.1 rfl) ho I.free
  · obtain ⟨v,o,ho,hd⟩:=I.cell x c e
    exact free c o (fun z=>(hch c z).2.2.1 x c e rfl) ho (I.freeC x c e)
  · obtain ⟨e,n,ne,nf,d⟩:=I.pin p hp
    have nch:p.1 ∉ ch:=fun z=>(hch p.1 z).2.2.2 p hp rfl
    exact ⟨keep p.1 p.2 ne nf nch e n,free p.1 p.2 nch e n,ne,nf,d⟩
theorem Inv.un {t':Nat} (I:Inv X pins σ H s) (u:Un X.fs [] H H' s.heap h') (hok:HOk X.prog X.w H' h'):Inv X pins σ H' { s with heap:=h',toks:=t' }:=by
  obtain ⟨m,⟨o,es,ep,ho,r⟩,_⟩:=id I.loc
  obtain ⟨sl,hL⟩:=u.any ho I.free (by simp)
  exact I.step (g':=s.gens) (d':=s.drawn) (ch:=[]) (fun _ z=>nomatch z) (fun b o _ hb _ e n=>u.keep b o e n hb (by simp)) (fun b o _ hb _ e n=>u.slot b o e n hb (by simp)) (fun b o _ e n=>u.free b o e n (by simp)) (fun b o _ e=>u.there b o e (by simp)) u.tups u.frzs u.tbls (fun m' hm=>by
    obtain ⟨o',es',ep',ho',r'⟩:=hm
    rw [ho] at ho';cases ho'
    exact ⟨_,es',ep',hL,r'⟩) hok I.bare
theorem Inv.call {g':Array GenState} {t':Nat} {d':Drawn} {ch:List Addr} (I:Inv X pins σ H s) (u:Un (frs X.stack) ch H H' s.heap h') (hok:HOk X.prog X.w H' h') (hg:AllBare g')
    (hch:∀ b ∈ ch,(b ∈ X.ex∨X.s₀.heap.objs.size<=b)/\b≠X.env.locals/\(∀ x c,X.env.cells.lookup x=some c->c≠b)/\∀ p ∈ X.pn++pins,p.1≠b) :
    Inv X pins σ H' { s with heap:=h',gens:=g',drawn:=d',toks:=t' }:=by
  obtain ⟨m,⟨o,es,ep,ho,r⟩,_⟩:=id I.loc
  obtain ⟨sl,hL⟩:=u.any ho I.free fun z=>(hch _ z).2.1 rfl
  exact I.step (ch:=ch) hch (fun b o hL hb hc e n=>u.keep b o e n (fun z=>(List.mem_cons.mp (I.stkSub b z)).elim hL hb) hc) (fun b o _ _ hc e n=>u.any e n hc) (fun b o hc e n=>u.free b o e n hc) (fun b o hc e=>u.there b o e hc) u.tups u.frzs u.tbls (fun m' hm=>by
    obtain ⟨o',es',ep',ho',r'⟩:=hm
    rw [ho] at ho';cases ho'
    exact ⟨_,es',ep',hL,r'⟩) hok hg
theorem Inv.turned {t':Nat} {it:Addr} (I:Inv X pins σ H s) (k:∀ b o,b≠it->s.heap.get? b=some o->h'.get? b=some o) (hn:H it=none) (hL:it≠X.env.locals)
    (h1:it ∈ X.ex∨X.s₀.heap.objs.size<=it) (h2:∀ x c,X.env.cells.lookup x=some c->c≠it) (h3:∀ p ∈ X.pn++pins,p.1≠it):Inv X pins σ H { s with heap:=h',toks:=t' }:=by
  have nit:∀ b u,H b=some u->b≠it:=fun b u e z=>by rw [z,hn] at e;cases e
  refine I.step (g':=s.gens) (d':=s.drawn) (ch:=[it]) (fun b hb=>?_) (fun b o _ _ hc e _=>k b o (fun z=>hc (by simp [z])) e) (fun b o _ _ hc e _=>⟨o.slots,k b o (fun z=>hc (by simp [z])) e⟩) (fun _ _ _ _ n=>n)
    (fun b o hc e=>⟨o,k b o (fun z=>hc (by simp [z])) e⟩) (fun _ _ e=>e) (fun _ _ _ e=>e) (fun b ps e=>⟨#[],by rw [e];simp⟩) (fun m hm=>?_) (fun b u e=>?_) I.bare
  · have e:b=it:=by simpa using hb
    subst e
    exact ⟨h1,hL,h2,h3⟩
  · obtain ⟨o,es,ep,ho,r⟩:=hm
    exact ⟨o,es,ep,k _ o (Ne.symm hL) ho,r⟩
  · refine (I.hok b u e).stay (fun c v hc q=>k c v ?_ q) (fun _ q=>q) fun _ _ q=>q
    rcases hc with z | z
    · rw [z];exact nit b u e
    · exact nit c _ z
theorem Inv.tok (I:Inv X pins σ H s) (t:Nat):Inv X pins σ H { s with toks:=t }:=I.un (h':=s.heap) (t':=t) Un.refl I.hok
theorem Inv.kept {t':Nat} (I:Inv X pins σ H s) (k:∀ b u,s.heap.get? b=some u->h'.get? b=some u):Inv X pins σ H { s with heap:=h',toks:=t' }:=I.un (Un.kept k) (I.hok.kept k)
theorem Inv.laid {a:Addr} {o:HO} {t':Nat} (I:Inv X pins σ H s) (k:∀ b u,s.heap.get? b=some u->h'.get? b=some u) (hp:s.heap.objs.size<=a) (new:ObjOk X.prog X.w (upd H a o) h' a o) :
    Inv X pins σ (upd H a o) { s with heap:=h',toks:=t' }:=I.un (Un.laid k hp (I.hok.fresh hp)) (I.hok.laid k hp new)
theorem Inv.write {x e:Addr} {o:HO} {t':Nat} (I:Inv X pins σ H s) (mu:Mut (H x)) (he:e=x∨H e=some (.own x)) (k:∀ b u,b≠e->s.heap.get? b=some u->h'.get? b=some u) (heo:∃ u,h'.get? e=some u)
    (new:ObjOk X.prog X.w (upd H x o) h' x o):Inv X pins σ (upd H x o) { s with heap:=h',toks:=t' }:=I.un (Un.write mu he k heo) (I.hok.write mu he k heo new)
theorem Inv.pins_of {pins':List (Addr × Obj)} (I:Inv X pins σ H s) (h:∀ p ∈ pins',s.heap.get? p.1=some p.2/\H p.1=none/\p.1≠X.env.locals/\p.1 ∉ X.fs/\∀ v,p.2.data≠.cell v):Inv X pins' σ H s :=
  ⟨I.ok,I.os,I.bare,I.base,I.loc,I.cell,I.free,I.freeC,fun p hp=>(List.mem_append.mp hp).elim (fun z=>I.pin p (List.mem_append_left _ z)) (h p),I.hok,I.len⟩
theorem nodup_ix {N:List Str} (hN:N.Nodup) {i j:Nat} {x:Str} (a:N[i]?=some x) (b:N[j]?=some x):i=j:=by
  obtain ⟨h1,e1⟩:=List.getElem?_eq_some_iff.mp a
  obtain ⟨h2,e2⟩:=List.getElem?_eq_some_iff.mp b
  exact (List.getElem_inj hN).mp (e1.trans e2.symm)
theorem store_ok2 {M:Model} {A:Around} {E:Value->Shared->Prop} {i:Nat} {x:Str} {v:V} {u:Value} {Q:Unit->Shared->Prop} (I:Inv X pins σ H s) (hN:X.N.Nodup) (hi:X.N[i]?=some x) (hx:Loc X.env.scope x) (r:RelV v u)
    (h:∀ s',Inv X pins (σ.set i (some v)) H s'->(∃ a,Heap.SameBut a s.heap s'.heap/\(a=X.env.locals∨X.env.cells.lookup x=some a))->Q () s') (hf:X.fn x=true∨X.env.scope.names.lookup x=some .local:=by first | exact .inl rfl | exact .inr rfl | assumption):wpAny M A (storeName X.env x u) Q E s:=by
  obtain ⟨m,hn,hl⟩:=id I.loc
  have hcls:(X.env.scope.kind == .class || (X.env.scope.kind == .module && X.env.locals != X.env.globals))=false:=by rw [I.ok.kind];rfl
  have hiσ:i < σ.length:=by rw [I.len];exact (List.getElem?_eq_some_iff.mp hi).1
  have cne:=I.cne
  have tracked:∀ {a:Addr} {h':Heap},(∃ o,s.heap.get? a=some o/\H a=none)->Heap.SameBut a s.heap h'->HOk X.prog X.w H h':=fun {a h'} ha hs b ob e=>by
    obtain ⟨_,_,hfree⟩:=ha
    refine (I.hok b ob e).stay (fun c w' hc q=>(hs.2 c ?_).trans q) (fun _ q=>q) fun _ _ q=>q
    rintro rfl
    rcases hc with rfl | hc
    · rw [hfree] at e;cases e
    · rw [hfree] at hc;cases hc
  rcases hx with hk | hk
  · refine wpAny_storeName_local hk hn (fun h' hn' hs=>?_) hcls
    obtain ⟨oL,_,_,hoL,_⟩:=id hn
    refine h _ ⟨I.ok,I.os,I.bare,⟨fun b o e n hb hx=>?_,fun b o e n hb hx=>?_,I.base.free,fun b o e hx=>?_,I.base.tups,I.base.frzs,I.base.tbls⟩,⟨_,hn',fun j y v' e1 e2 e3=>?_⟩,fun y c e=>?_,I.free,I.freeC,fun p hp=>?_,tracked ⟨oL,hoL,I.free⟩ hs,by simpa using I.len⟩ ⟨_,hs,.inl rfl⟩
    · exact (hs.2 b (Nat.ne_of_lt (Nat.lt_of_lt_of_le (Heap.lt_size e) I.ok.above))).trans (I.base.keep b o e n hb hx)
    · obtain ⟨sl,e1⟩:=I.base.slot b o e n hb hx
      exact ⟨sl,(hs.2 b (Nat.ne_of_lt (Nat.lt_of_lt_of_le (Heap.lt_size e) I.ok.above))).trans e1⟩
    · obtain ⟨o',e1⟩:=I.base.there b o e hx
      exact ⟨o',(hs.2 b (Nat.ne_of_lt (Nat.lt_of_lt_of_le (Heap.lt_size e) I.ok.above))).trans e1⟩
    · by_cases hj:j=i
      · subst hj
        rw [hi] at e1;cases e1
        rw [List.getElem?_set_self hiσ] at e2
        cases e2
        exact ⟨u,r,.inl ⟨hk,by simp⟩⟩
      · rw [List.getElem?_set_ne (Ne.symm hj)] at e2
        obtain ⟨u',r',q⟩:=hl j y v' e1 e2 e3
        refine ⟨u',r',?_⟩
        rcases q with ⟨k,e⟩ | ⟨k,c,e,z⟩
        · refine .inl ⟨k,?_⟩
          have:y≠x:=fun e=>hj (nodup_ix hN e1 (e ▸ hi))
          simp [this,e]
        · exact .inr ⟨k,c,e,z.sameBut hs (cne y c e)⟩
    · obtain ⟨w',z⟩:=I.cell y c e
      exact ⟨w',z.sameBut hs (cne y c e)⟩
    · obtain ⟨e,n,ne,nf,d⟩:=I.pin p hp
      exact ⟨(hs.2 p.1 ne).trans e,n,ne,nf,d⟩
  · have hfn:X.fn x=true:=by
      rcases hf with z | z
      · exact z
      · rw [z] at hk;cases hk
    obtain ⟨c,hc⟩:=I.ok.has x (.inl hk)
    obtain ⟨w',z⟩:=I.cell x c hc
    refine wpAny_storeName_cell I.ok.kind hk hc z (fun h' hc' hs=>?_)
    obtain ⟨oc,hoc,hocd⟩:=id z
    refine h { s with heap:=h' } ⟨I.ok,I.os,I.bare,⟨fun b o e n hb hx=>?_,fun b o e n hb hx=>?_,I.base.free,fun b o e hx=>?_,I.base.tups,I.base.frzs,I.base.tbls⟩,⟨m,hn.sameBut hs (Ne.symm (cne x c hc)),fun j y v' e1 e2 e3=>?_⟩,fun y c' e=>?_,I.free,I.freeC,fun p hp=>?_,tracked ⟨oc,hoc,I.freeC x c hc⟩ hs,by simpa using I.len⟩ ⟨c,hs,.inr hc⟩
    · exact (hs.2 b (Nat.ne_of_lt (Nat.lt_of_lt_of_le (Heap.lt_size e) (I.ok.cab x c hfn hc)))).trans (I.base.keep b o e n hb hx)
    · obtain ⟨sl,e1⟩:=I.base.slot b o e n hb hx
      exact ⟨sl,(hs.2 b (Nat.ne_of_lt (Nat.lt_of_lt_of_le (Heap.lt_size e) (I.ok.cab x c hfn hc)))).trans e1⟩
    · obtain ⟨o',e1⟩:=I.base.there b o e hx
      exact ⟨o',(hs.2 b (Nat.ne_of_lt (Nat.lt_of_lt_of_le (Heap.lt_size e) (I.ok.cab x c hfn hc)))).trans e1⟩
    · by_cases hj:j=i
      · subst hj
        rw [hi] at e1;cases e1
        rw [List.getElem?_set_self hiσ] at e2
        cases e2
        exact ⟨u,r,.inr ⟨.inl hk,c,hc,hc'⟩⟩
      · rw [List.getElem?_set_ne (Ne.symm hj)] at e2
        obtain ⟨u',r',q⟩:=hl j y v' e1 e2 e3
        refine ⟨u',r',?_⟩
        rcases q with q | ⟨k,c',e,z'⟩
        · exact .inl q
        · refine .inr ⟨k,c',e,z'.sameBut hs ?_⟩
          rintro rfl
          exact hj (nodup_ix hN e1 (I.ok.inj _ _ _ e hc ▸ hi))
    · by_cases hcc:c'=c
      · subst hcc;exact ⟨_,hc'⟩
      · obtain ⟨w2,z2⟩:=I.cell y c' e
        exact ⟨w2,z2.sameBut hs hcc⟩
    · obtain ⟨e,n,ne,nf,d⟩:=I.pin p hp
      refine ⟨(hs.2 p.1 ?_).trans e,n,ne,nf,d⟩
      intro q
      rw [q,hoc] at e
      have q':oc=p.2:=Option.some.inj e
      exact d w' (by rw [← q'];exact hocd)
theorem store_ok {M:Model} {A:Around} {E:Value->Shared->Prop} {i:Nat} {x:Str} {v:V} {u:Value} {Q:Unit->Shared->Prop} (I:Inv X pins σ H s) (hN:X.N.Nodup) (hi:X.N[i]?=some x) (hx:Loc X.env.scope x) (r:RelV v u)
    (h:∀ s',Inv X pins (σ.set i (some v)) H s'->Q () s') (hf:X.fn x=true∨X.env.scope.names.lookup x=some .local:=by first | exact .inl rfl | exact .inr rfl | assumption):wpAny M A (storeName X.env x u) Q E s :=
  store_ok2 I hN hi hx r (fun s' I' _=>h s' I') hf
theorem Inv.call' {s':Shared} {ch:List Addr} (I:Inv X pins σ H s) (ho:s'.os=s.os) (u:Un (frs X.stack) ch H H' s.heap s'.heap) (hok:HOk X.prog X.w H' s'.heap) (hg:AllBare s'.gens)
    (hch:∀ b ∈ ch,(b ∈ X.ex∨X.s₀.heap.objs.size<=b)/\b≠X.env.locals/\(∀ x c,X.env.cells.lookup x=some c->c≠b)/\∀ p ∈ X.pn++pins,p.1≠b):Inv X pins σ H' s':=by
  obtain ⟨h',g',d',t',o'⟩:=s'
  have e:o'=s.os:=ho
  subst e
  exact I.call (g':=g') (t':=t') (d':=d') u hok hg hch
end
abbrev XK:=Value->Option Addr->Hp->Prop
abbrev St:=List (Option V)
abbrev VK:=V->Hp->Prop
abbrev TE:=St->Hp->VK->Prop
abbrev TT:=St->Hp->(Bool->Hp->Prop)->Prop
abbrev TA:=St->Hp->(List V->Hp->Prop)->Prop
structure Ends where
  nx:St->Hp->Prop
  rt:VK
  bk:St->Hp->Prop:=fun _ _=>False
  ct:St->Hp->Prop:=fun _ _=>False
abbrev TS:=Ends->St->Hp->Prop
def EP (X:Cx) (pins:List (Addr × Obj)) (σ:St) (Q:VK) (u:Value) (s':Shared):Prop:=∃ v H',Inv X pins σ H' s'/\RelV v u/\Q v H'
def TP (X:Cx) (pins:List (Addr × Obj)) (σ:St) (Q:Bool->Hp->Prop) (b:Bool) (s':Shared):Prop:=∃ H',Inv X pins σ H' s'/\Q b H'
def AP (X:Cx) (pins:List (Addr × Obj)) (σ:St) (Q:List V->Hp->Prop) (us:List Value) (s':Shared):Prop:=∃ vs H',Inv X pins σ H' s'/\Vals vs us/\Q vs H'
def SP (X:Cx) (pins:List (Addr × Obj)) (D:Ends) (f:Flow) (s':Shared):Prop :=
  match f with
  | .next=>∃ σ' H',Inv X pins σ' H' s'/\D.nx σ' H'
  | .brk=>∃ σ' H',Inv X pins σ' H' s'/\D.bk σ' H'
  | .cont=>∃ σ' H',Inv X pins σ' H' s'/\D.ct σ' H'
  | .ret u=>∃ v σ' H',Inv X pins σ' H' s'/\RelV v u/\D.rt v H'
def PE (X:Cx) (e:Expr) (t:TE):Prop :=
  ∀ (pins:List (Addr × Obj)) (s:Shared) (σ:St) (H:Hp) (Q:VK),Inv X pins σ H s->t σ H Q->wpAny (model X.prog X.w) X.A (eval e X.env) (EP X pins σ Q) X.xe s
def PT (X:Cx) (e:Expr) (t:TT):Prop :=
  ∀ (pins:List (Addr × Obj)) (s:Shared) (σ:St) (H:Hp) (Q:Bool->Hp->Prop),Inv X pins σ H s->t σ H Q->wpAny (model X.prog X.w) X.A (isTrue e X.env (eval e X.env)) (TP X pins σ Q) X.xe s
def PW (X:Cx) (e:Expr) (t:TT):Prop :=
  ∀ (whole:Sem Value) (pins:List (Addr × Obj)) (s:Shared) (σ:St) (H:Hp) (Q:Bool->Hp->Prop),Inv X pins σ H s->t σ H Q->wpAny (model X.prog X.w) X.A (isTrue e X.env whole) (TP X pins σ Q) X.xe s
theorem PW.pt {X:Cx} {e:Expr} {t:TT} (h:PW X e t):PT X e t:=h _
def PA (X:Cx) (es:List Expr) (t:TA):Prop :=
  ∀ (pos:Pos) (pins:List (Addr × Obj)) (s:Shared) (σ:St) (H:Hp) (Q:List V->Hp->Prop),Inv X pins σ H s->t σ H Q->wpAny (model X.prog X.w) X.A (spliced (backTo pos (starEach es X.env))) (AP X pins σ Q) X.xe s
def PS (X:Cx) (st:Stmt) (t:TS):Prop :=
  ∀ (pins:List (Addr × Obj)) (s:Shared) (σ:St) (H:Hp) (D:Ends),Inv X pins σ H s->t D σ H->wpAny (model X.prog X.w) X.A (exec st X.env) (SP X pins D) X.xe s
def PSs (X:Cx) (st:List Stmt) (t:TS):Prop :=
  ∀ (pins:List (Addr × Obj)) (s:Shared) (σ:St) (H:Hp) (D:Ends),Inv X pins σ H s->t D σ H->wpAny (model X.prog X.w) X.A (execs st X.env) (SP X pins D) X.xe s
theorem thn {α:Type} {t:Sem α} {Q Q':α->Shared->Prop} {M:Model} {A:Around} {E:Value->Shared->Prop} {s:Shared} (h:wpAny M A t Q E s) (hQ:∀ a s,Q a s->Q' a s):wpAny M A t Q' E s:=wpAny_mono h hQ fun _ _ x=>x
end L2
namespace L2
open PySem PySem.Spec PyProof.Rows
section
variable {X:Cx}
def tVar (i:Nat):TE:=fun σ H Q=>∃ v,σ[i]?=some (some v)/\Q v H
def tC (v:V):TE:=fun _ H Q=>Q v H
theorem jco {i:Nat} {x:Str} {pos:Pos} (hN:X.N[i]?=some x) (hv:Vis X.env.scope x) (hd:(x == ("__debug__":Str))=false:=by decide) (hcd:(x == ("__classdict__":Str))=false:=by decide):PE X (.Name x pos) (tVar i):=by
  intro pins s σ H Q I h
  obtain ⟨v,e,h⟩:=h
  obtain ⟨m,hn,hl⟩:=I.loc
  obtain ⟨u,r,l⟩:=hl i x v hN e hv
  have fin:EP X pins σ Q u s:=⟨v,H,I,r,h⟩
  rcases l with ⟨hk,hm⟩ | ⟨hk,c,hc,hcell⟩
  · exact wpAny_Name (wpAny_loadName_local I.ok.kind hk hn hm fin) hd
  · rcases hk with hk | hk
    · exact wpAny_Name (wpAny_loadName_cell I.ok.kind hk hc hcell fin) hd
    · exact wpAny_Name (wpAny_loadName_free I.ok.kind hk hc hcell fin hcd) hd
theorem pe_int {i j pos}:PE X (.Constant (.int i) j pos) (tC (.int i)):=fun _ _ _ H _ I h=>wpAny_Constant_int ⟨.int i,H,I.tok _,⟨_,rfl⟩,h⟩
theorem pe_bl {b j pos}:PE X (.Constant (.bool b) j pos) (tC (.bl b)):=fun _ _ _ H _ I h=>Constant_bool ⟨.bl b,H,I,rfl,h⟩
theorem pe_non {j pos}:PE X (.Constant .none j pos) (tC .non):=fun _ _ _ H _ I h=>Constant_none ⟨.non,H,I,rfl,h⟩
theorem pe_str {x j pos}:PE X (.Constant (.str x) j pos) (tC (.str x)):=fun _ _ _ H _ I h=>Calls.Constant_str ⟨.str x,H,I.tok _,⟨_,rfl⟩,h⟩
def Gl (X:Cx) (x:Str):Prop:=X.env.kindOf x=some .globalImplicit
theorem ld_glob {E:Value->Shared->Prop} {pins:List (Addr × Obj)} {s:Shared} {σ:St} {H:Hp} {x:Str} {u:Value} {pos:Pos} {Q:Value->Shared->Prop} (I:Inv X pins σ H s) (hg:Gl X x) (hm:X.mg x=some u) (h:Q u s)
    (hd:(x == ("__debug__":Str))=false:=by decide):wpAny (model X.prog X.w) X.A (eval (.Name x pos) X.env) Q E s :=
  Calls.Name_function_global I.ok.kind hg (Calls.loadGlobal_global (by rw [I.ok.glob];exact I.mod.glob.keeps I.bk) hm h) hd
theorem ld_blt {E:Value->Shared->Prop} {pins:List (Addr × Obj)} {s:Shared} {σ:St} {H:Hp} {x:Str} {u:Value} {pos:Pos} {Q:Value->Shared->Prop} (I:Inv X pins σ H s) (hg:Gl X x) (hm:X.mg x=none) (hv:bootBuiltins x=some u) (h:Q u s)
    (hn:x≠"__name__":=by decide) (hd:(x == ("__debug__":Str))=false:=by decide):wpAny (model X.prog X.w) X.A (eval (.Name x pos) X.env) Q E s:=by
  obtain ⟨mb,h1,h2⟩:=I.mod.blt
  exact Calls.Name_function_global I.ok.kind hg (Calls.loadGlobal_builtin (by rw [I.ok.glob];exact I.mod.glob.keeps I.bk) hm (by rw [I.ok.blt];exact h1.keeps I.bk) ((h2 x hn).trans hv) h) hd
theorem pe_glob {x:Str} {v:V} {u:Value} {pos:Pos} (hg:Gl X x) (hm:X.mg x=some u) (r:RelV v u) (hd:(x == ("__debug__":Str))=false:=by decide):PE X (.Name x pos) (tC v) :=
  fun _ _ _ H _ I h=>ld_glob I hg hm ⟨v,H,I,r,h⟩ hd
theorem pe_bltn {x:Str} {v:V} {u:Value} {pos:Pos} (hg:Gl X x) (hm:X.mg x=none) (hv:bootBuiltins x=some u) (r:RelV v u) (hn:x≠"__name__":=by decide) (hd:(x == ("__debug__":Str))=false:=by decide):PE X (.Name x pos) (tC v) :=
  fun _ _ _ H _ I h=>ld_blt I hg hm hv ⟨v,H,I,r,h⟩ hn hd
variable {a b:Expr} {ta tb:TE} {pos:Pos}
def PC (X:Cx) (op:CmpOp) (a b:Expr) (t:TE):Prop :=
  ∀ (pins:List (Addr × Obj)) (s:Shared) (σ:St) (H:Hp) (Q:VK),Inv X pins σ H s->t σ H Q ->
    wpAny (model X.prog X.w) X.A (eval a X.env) (fun v s₁=>wpAny (model X.prog X.w) X.A (eval b X.env) (fun u s₂=>wpAny (model X.prog X.w) X.A (compareOp op v u) (EP X pins σ Q) X.xe s₂) X.xe s₁) X.xe s
def tB (t:TE):TT:=fun σ H Q=>t σ H fun x H1=>∃ c,x=.bl c/\Q c H1
theorem pt_cmp {op:CmpOp} {t:TE} (h:PC X op a b t) (h1:behindInMarks op b=false:=by first | exact nobehind _ (by decide) (by decide) | rfl):PT X (.Compare a [op] [b] pos) (tB t):=by
  intro pins s σ H Q I hw
  refine wpAny_isTrue_Compare1 (thn (h pins s σ H _ I hw) fun v s1 h1=>thn h1 fun u s2 h2=>thn h2 fun c s3 ⟨x,H1,I1,r1,q1⟩=>?_) h1
  obtain ⟨d,rfl,q⟩:=q1
  cases r1
  exact wpAny_truthy_bool ⟨H1,I1,q⟩
theorem pt_val {e:Expr} {t:TE} (h:PE X e t) (he:∀ whole,isTrue e X.env whole=(do let v ← whole;standAt e.pos;holding [v] (truthy v)):=by intro _;rfl):PT X e (tB t):=by
  intro pins s σ H Q I hw
  refine isTrue_plain (thn (h pins s σ H _ I hw) fun v s1 ⟨x,H1,I1,r1,q1⟩=>?_) (he _)
  obtain ⟨d,rfl,q⟩:=q1
  cases r1
  exact wpAny_truthy_bool ⟨H1,I1,q⟩
variable {tA tB':TT} {rest:List Expr}
def tAnd (t u:TT):TT:=fun σ H Q=>t σ H fun c H1=>if c=true then u σ H1 Q else Q false H1
def tOr (t u:TT):TT:=fun σ H Q=>t σ H fun c H1=>if c=true then Q true H1 else u σ H1 Q
def tNot (t:TT):TT:=fun σ H Q=>t σ H fun c H1=>Q (!c) H1
theorem pw_and1 (ha:PT X a tA):PW X (.BoolOp .And [a] pos) tA:=by
  intro wh pins s σ H Q I h
  refine isTrue_and (thn (ha pins s σ H Q I h) fun c s1 e=>?_)
  cases c with
  | true=>exact isTrue_and_nil e
  | false=>exact e
theorem pw_or1 (ha:PT X a tA):PW X (.BoolOp .Or [a] pos) tA:=by
  intro wh pins s σ H Q I h
  refine isTrue_or (thn (ha pins s σ H Q I h) fun c s1 e=>?_)
  cases c with
  | false=>exact isTrue_or_nil e
  | true=>exact e
theorem pw_and (ha:PT X a tA) (hb:PW X (.BoolOp .And (b::rest) pos) tB'):PW X (.BoolOp .And (a::b::rest) pos) (tAnd tA tB'):=by
  intro wh pins s σ H Q I h
  refine isTrue_and (thn (ha pins s σ H _ I h) fun c s1 ⟨H1,I1,q1⟩=>?_)
  cases c with
  | true=>exact hb wh pins s1 σ H1 Q I1 q1
  | false=>exact ⟨H1,I1,q1⟩
theorem pw_or (ha:PT X a tA) (hb:PW X (.BoolOp .Or (b::rest) pos) tB'):PW X (.BoolOp .Or (a::b::rest) pos) (tOr tA tB'):=by
  intro wh pins s σ H Q I h
  refine isTrue_or (thn (ha pins s σ H _ I h) fun c s1 ⟨H1,I1,q1⟩=>?_)
  cases c with
  | true=>exact ⟨H1,I1,q1⟩
  | false=>exact hb wh pins s1 σ H1 Q I1 q1
theorem pt_not (ha:PT X a tA):PT X (.UnaryOp .Not a pos) (tNot tA):=by
  intro pins s σ H Q I h
  exact isTrue_not (ha pins s σ H (fun c H1=>Q (!c) H1) I h)
def tAndV (ta tb:TE):TE:=fun σ H Q=>ta σ H fun x H1=>∃ c,x=.bl c/\if c=true then tb σ H1 Q else Q (.bl false) H1
def tNotV (ta:TE):TE:=fun σ H Q=>ta σ H fun x H1=>∃ c,x=.bl c/\Q (.bl (!c)) H1
theorem pe_one {op} {t:TE} (h:PE X a t):PE X (.BoolOp op [a] pos) t:=fun pins s σ H Q I hw=>BoolOp_one (h pins s σ H Q I hw)
theorem pe_and (ha:PE X a ta) (hb:PE X (.BoolOp .And (b::rest) pos) tb):PE X (.BoolOp .And (a::b::rest) pos) (tAndV ta tb):=by
  intro pins s σ H Q I h
  refine BoolOp_and (thn (ha pins s σ H _ I h) fun v s1 ⟨x,H1,I1,r1,q1⟩=>?_)
  obtain ⟨c,rfl,q1⟩:=q1
  cases r1
  refine wpAny_truthy_bool ?_
  cases c with
  | true=>exact hb pins s1 σ H1 Q I1 q1
  | false=>exact ⟨.bl false,H1,I1,rfl,q1⟩
theorem pe_not (ha:PE X a ta):PE X (.UnaryOp .Not a pos) (tNotV ta):=by
  intro pins s σ H Q I h
  refine UnaryOp_ (thn (ha pins s σ H _ I h) fun v s1 ⟨x,H1,I1,r1,q1⟩=>?_)
  obtain ⟨c,rfl,q1⟩:=q1
  cases r1
  exact not_of (wpAny_truthy_bool ⟨.bl (!c),H1,I1,rfl,q1⟩)
end
end L2
namespace L2
open PySem PySem.Spec PyProof.Rows
def SqL (K:PySem.W.Frag) (H:Hp) (a:Addr) (xs:List V):Prop :=
  Rd H a (.lst xs) ∨
    ∃ (o:Obj) (its:Array Value) (n:Nat),K.lookup a=some o/\o.cls=.type "list"/\o.dict=none/\o.data=.seq its n/\its.size<=sizeLine/\Vals xs its.toList
def SqT (K:PySem.W.Frag) (H:Hp) (a:Addr) (xs:List V):Prop :=
  Rd H a (.tup xs) ∨
    ∃ (o:Obj) (its:Array Value) (n:Nat),K.lookup a=some o/\o.cls=.type "tuple"/\o.data=.seq its n/\its.size<=sizeLine/\Vals xs its.toList
def absV:Value->Option V
  | .none=>some .non
  | .bool b=>some (.bl b)
  | .int i _=>some (.int i)
  | .str x _=>some (.str x)
  | .bytes b _=>some (.byt b)
  | .float b _=>some (.flt b)
  | .ref a=>some (.ref a)
  | .type n=>some (.ty n)
  | _=>none
theorem RelV.abs {x:V} {u:Value} (r:RelV x u):absV u=some x:=by
  cases x with
  | non=>cases r;rfl
  | bl _=>cases r;rfl
  | int _=>obtain ⟨t,rfl⟩:=r;rfl
  | str _=>obtain ⟨t,rfl⟩:=r;rfl
  | byt _=>obtain ⟨t,rfl⟩:=r;rfl
  | flt _=>obtain ⟨t,rfl⟩:=r;rfl
  | ref _=>cases r;rfl
  | ty _=>cases r;rfl
theorem RelV.inj {x y:V} {u:Value} (r:RelV x u) (q:RelV y u):x=y:=Option.some.inj (r.abs.symm.trans q.abs)
theorem Vals.inj:∀ {xs ys:List V} {us:List Value},Vals xs us->Vals ys us->xs=ys
  | _,_,_,.nil,.nil=>rfl
  | _,_,_,.cons r t,.cons r' t'=>by rw [r.inj r',Vals.inj t t']
section
variable {X:Cx} {pins:List (Addr × Obj)} {σ:St} {H:Hp} {s:Shared} {a:Addr} {xs ys:List V}
theorem SqL.of {K:PySem.W.Frag} (h:H a=some (.lst xs)):SqL K H a xs:=.inl (.inl h)
theorem SqT.of {K:PySem.W.Frag} (h:H a=some (.tup xs)):SqT K H a xs:=.inl (.inl h)
theorem Inv.list (I:Inv X pins σ H s) (h:SqL X.K H a xs):∃ its:List Value,Vals xs its/\PlainL s.heap a its.toArray/\xs.length<=sizeLine:=by
  rcases h with h | ⟨o,its,n,hk,hc,hd,hs,hz,r⟩
  · obtain ⟨z,its,n,r,e⟩:=h.ok I.hok
    exact ⟨its,r,⟨_,n,e,rfl,rfl,rfl⟩,z⟩
  · refine ⟨its.toList,r,⟨o,n,I.kIn a o hk,hc,hd,by simpa using hs⟩,?_⟩
    have e:=r.length
    simp only [Array.length_toList] at e
    omega
theorem Inv.tuple (I:Inv X pins σ H s) (h:SqT X.K H a xs):∃ its:List Value,Vals xs its/\IsTup s.heap a its.toArray/\xs.length<=sizeLine:=by
  rcases h with h | ⟨o,its,n,hk,hc,hs,hz,r⟩
  · obtain ⟨z,its,r,p⟩:=h.ok I.hok
    exact ⟨its,r,p,z⟩
  · refine ⟨its.toList,r,⟨o,I.kIn a o hk,hc,n,by simpa using hs⟩,?_⟩
    have e:=r.length
    simp only [Array.length_toList] at e
    omega
theorem Inv.list_inj (I:Inv X pins σ H s) (h:SqL X.K H a xs) (h':SqL X.K H a ys):xs=ys:=by
  obtain ⟨its,r,⟨o,n,e,_,_,d⟩,_⟩:=I.list h
  obtain ⟨its',r',⟨o',n',e',_,_,d'⟩,_⟩:=I.list h'
  rw [e] at e';cases e'
  rw [d] at d'
  injection d' with d1 _
  have:its=its':=by simpa using congrArg Array.toList d1
  subst this
  exact r.inj r'
theorem Inv.tuple_inj (I:Inv X pins σ H s) (h:SqT X.K H a xs) (h':SqT X.K H a ys):xs=ys:=by
  obtain ⟨its,r,⟨o,e,_,n,d⟩,_⟩:=I.tuple h
  obtain ⟨its',r',⟨o',e',_,n',d'⟩,_⟩:=I.tuple h'
  rw [e] at e';cases e'
  rw [d] at d'
  injection d' with d1 _
  have:its=its':=by simpa using congrArg Array.toList d1
  subst this
  exact r.inj r'
end
abbrev Cx.wish (X:Cx) (E:Value->Shared->Prop):Cx:={ X with xe:=E }
abbrev Cx.nox (X:Cx):Cx:=X.wish fun _ _=>False
theorem Cx.Ok.wish {X:Cx} (ok:X.Ok) (E:Value->Shared->Prop):(X.wish E).Ok :=
  ⟨ok.mod,ok.kind,ok.glob,ok.blt,ok.above,ok.inj,ok.has,ok.cab,ok.hd,ok.frames,ok.stk,ok.exf,ok.bs,ok.bsz,ok.noex,ok.exfs,ok.funs,ok.frf⟩
theorem Cx.Ok.unwish {X:Cx} {E:Value->Shared->Prop} (ok:(X.wish E).Ok):X.Ok :=
  ⟨ok.mod,ok.kind,ok.glob,ok.blt,ok.above,ok.inj,ok.has,ok.cab,ok.hd,ok.frames,ok.stk,ok.exf,ok.bs,ok.bsz,ok.noex,ok.exfs,ok.funs,ok.frf⟩
section
variable {X:Cx} {pins:List (Addr × Obj)} {σ:St} {H:Hp} {s:Shared} {E:Value->Shared->Prop}
theorem Inv.wish (I:Inv X pins σ H s) (E:Value->Shared->Prop):Inv (X.wish E) pins σ H s:=⟨I.ok.wish E,I.os,I.bare,I.base,I.loc,I.cell,I.free,I.freeC,I.pin,I.hok,I.len⟩
theorem Inv.unwish (I:Inv (X.wish E) pins σ H s):Inv X pins σ H s:=⟨I.ok.unwish,I.os,I.bare,I.base,I.loc,I.cell,I.free,I.freeC,I.pin,I.hok,I.len⟩
theorem SP.unwish {D:Ends} {f:Flow} {s':Shared} (h:SP (X.wish E) pins D f s'):SP X pins D f s':=by
  cases f with
  | next=>obtain ⟨σ',H',I,q⟩:=h;exact ⟨σ',H',I.unwish,q⟩
  | brk=>obtain ⟨σ',H',I,q⟩:=h;exact ⟨σ',H',I.unwish,q⟩
  | cont=>obtain ⟨σ',H',I,q⟩:=h;exact ⟨σ',H',I.unwish,q⟩
  | ret u=>obtain ⟨v,σ',H',I,r,q⟩:=h;exact ⟨v,σ',H',I.unwish,r,q⟩
theorem PSs.nox {st:List Stmt} {t:TS} (h:PSs X.nox st t):PSs X st t:=fun pins s σ H D I hw =>
  wpAny_mono (h pins s σ H D (I.wish _) hw) (fun _ _ q=>q.unwish) fun _ _ z=>False.elim z
end
section
variable {X:Cx} {st:Stmt} {rest:List Stmt} {t u:TS} {e:Expr} {te:TE} {pos:Pos}
def tNext:TS:=fun D σ H=>D.nx σ H
def tSeq (t u:TS):TS:=fun D σ H=>t { D with nx:=u D } σ H
theorem pss_nil:PSs X [] tNext:=fun _ _ σ H _ I h=>wpAny_execs_nil ⟨σ,H,I,h⟩
theorem pss_cons (h1:PS X st t) (h2:PSs X rest u):PSs X (st::rest) (tSeq t u):=by
  intro pins s σ H D I h
  refine wpAny_execs_cons (thn (h1 pins s σ H { D with nx:=u D } I h) fun f s1 q=>?_)
  cases f with
  | next =>
    obtain ⟨σ',H',I',q⟩:=q
    exact h2 pins s1 σ' H' D I' q
  | ret v=>exact q
  | brk=>exact q
  | cont=>exact q
theorem pss_one (h1:PS X st t):PSs X [st] t:=by
  intro pins s σ H D I h
  refine wpAny_execs_cons (thn (h1 pins s σ H D I h) fun f s1 q=>?_)
  cases f with
  | next=>exact wpAny_execs_nil q
  | ret v=>exact q
  | brk=>exact q
  | cont=>exact q
theorem Inv.quiet {pins:List (Addr × Obj)} {σ:St} {H:Hp} {s:Shared} (I:Inv X pins σ H s):interactive X.env=false:=by simp [interactive,I.ok.kind]
def tDrop (te:TE):TS:=fun D σ H=>te σ H fun _ H1=>D.nx σ H1
theorem ps_expr (he:PE X e te) (hs:swapsWith e none pos.line X.env=pure false:=by rfl):PS X (.Expr e pos) (tDrop te):=by
  intro pins s σ H D I h
  exact wpAny_Expr_any (thn (he pins s σ H _ I h) fun v s1 ⟨x,H1,I1,r1,q1⟩=>⟨σ,H1,I1,q1⟩) I.quiet hs
def tRet (te:TE):TS:=fun D σ H=>te σ H D.rt
theorem ps_ret (he:PE X e te):PS X (.Return (some e) pos) (tRet te):=by
  intro pins s σ H D I h
  exact wpAny_Return_some (thn (he pins s σ H _ I h) fun v s1 ⟨x,H1,I1,r1,q1⟩=>⟨x,σ,H1,I1,r1,q1⟩)
def tIfS (c:TT) (t u:TS):TS:=fun D σ H=>c σ H fun b H1=>if b=true then t D σ H1 else u D σ H1
theorem ps_if {c:Expr} {a b:List Stmt} {tc:TT} (hc:PT X c tc) (ha:PSs X a t) (hb:PSs X b u):PS X (.If c a b pos) (tIfS tc t u):=by
  intro pins s σ H D I h
  refine wpAny_If (thn (hc pins s σ H _ I h) fun d s1 ⟨H1,I1,q1⟩=>?_)
  cases d with
  | true=>exact ha pins s1 σ H1 D I1 q1
  | false=>exact hb pins s1 σ H1 D I1 q1
end
abbrev TG:=V->St->Hp->(St->Hp->Prop)->Prop
abbrev TGs:=List V->St->Hp->(St->Hp->Prop)->Prop
def PG (X:Cx) (target:Expr) (t:TG):Prop :=
  ∀ (pins:List (Addr × Obj)) (s:Shared) (σ:St) (H:Hp) (v:V) (u:Value) (Q:St->Hp->Prop),Inv X pins σ H s->RelV v u->t v σ H Q ->
    wpAny (model X.prog X.w) X.A (assign target X.env u) (fun _ s'=>∃ σ' H',Inv X pins σ' H' s'/\Q σ' H') X.xe s
def PGs (X:Cx) (ts:List Expr) (t:TGs):Prop :=
  ∀ (pins:List (Addr × Obj)) (s:Shared) (σ:St) (H:Hp) (vs:List V) (us:List Value) (Q:St->Hp->Prop),Inv X pins σ H s->Vals vs us->t vs σ H Q ->
    wpAny (model X.prog X.w) X.A (assignInOrder ((assignEach ts X.env).map (·.2)) us) (fun _ s'=>∃ σ' H',Inv X pins σ' H' s'/\Q σ' H') X.xe s
abbrev TSet:=V->V->V->Hp->(Hp->Prop)->Prop
def PSet (X:Cx) (t:TSet):Prop :=
  ∀ (pins:List (Addr × Obj)) (s:Shared) (σ:St) (H:Hp) (o i v:V) (ov iv u:Value) (Q:Hp->Prop),Inv X pins σ H s->RelV o ov->RelV i iv->RelV v u->t o i v H Q ->
    wpAny (model X.prog X.w) X.A (setItem ov iv u) (fun _ s'=>∃ H',Inv X pins σ H' s'/\Q H') X.xe s
section
variable {X:Cx} {pos:Pos}
def gName (i:Nat):TG:=fun v σ H Q=>Q (σ.set i (some v)) H
theorem pg_name {i:Nat} {x:Str} (hN:X.N.Nodup) (hi:X.N[i]?=some x) (hx:Loc X.env.scope x) (hf:X.fn x=true∨X.env.scope.names.lookup x=some .local:=by first | exact .inl rfl | exact .inr rfl | assumption):PG X (.Name x pos) (gName i):=by
  intro pins s σ H v u Q I r h
  exact wpAny_assign_Name (store_ok I hN hi hx r (fun s' I'=>⟨_,H,I',h⟩) hf)
def gNil:TGs:=fun vs σ H Q=>vs=[]/\Q σ H
def gCons (t:TG) (u:TGs):TGs:=fun vs σ H Q=>∃ v r,vs=v::r/\t v σ H fun σ' H'=>u r σ' H' Q
theorem pgs_nil:PGs X [] gNil:=by
  intro pins s σ H vs us Q I r h
  obtain ⟨e,h⟩:=h
  subst e
  cases r
  exact assignInOrder_nil ⟨σ,H,I,h⟩
theorem pgs_cons {e:Expr} {es:List Expr} {t:TG} {u:TGs} (h1:PG X e t) (h2:PGs X es u)
    (hs:(assignEach (e::es) X.env).map (·.2)=assign e X.env::(assignEach es X.env).map (·.2):=by rfl):PGs X (e::es) (gCons t u):=by
  intro pins s σ H vs us Q I r h
  obtain ⟨v,vr,e1,h⟩:=h
  subst e1
  cases r with
  | cons r rr =>
    rw [hs]
    refine assignInOrder_cons (thn (h1 pins s σ H _ _ _ I r h) fun _ s1 ⟨σ1,H1,I1,q1⟩=>?_)
    exact h2 pins s1 σ1 H1 _ _ Q I1 rr q1
def gTup (K:PySem.W.Frag) (n:Nat) (t:TGs):TG:=fun v σ H Q=>∃ a xs,v=.ref a/\SqT K H a xs/\xs.length=n/\t xs σ H Q
theorem pg_tup {es:List Expr} {k:Nat} {t:TGs} {n:Nat} (hc:X.calm=true) (h:PGs X es t)
    (hn:(assignEach es X.env).length=n:=by rfl) (hst:(assignEach es X.env).findIdx? (·.1)=none:=by rfl):PG X (.Tuple es k pos) (gTup X.K n t):=by
  intro pins s σ H v u Q I r hw
  obtain ⟨a,xs,e1,hq,hl,hw⟩:=hw
  subst e1
  cases r
  obtain ⟨its,rv,ht,hz⟩:=I.tuple hq
  refine assign_Tuple_tuple (I.ok.hd hc) ht (by simp [hn,← hl,rv.length]) hst fun h' hx=>?_
  have I1:Inv X pins σ H { s with heap:=h' }:=I.kept (t':=s.toks) fun b o e=>hx b o (Nat.ne_of_lt (Heap.lt_size e)) e
  exact h pins _ σ H xs _ Q I1 (by simpa using rv) hw
def gSub (to ti:TE) (t:TSet):TG:=fun v σ H Q=>to σ H fun o H1=>ti σ H1 fun i H2=>t o i v H2 fun H3=>Q σ H3
theorem pg_sub {o i:Expr} {to ti:TE} {t:TSet} (ho:PE X o to) (hi:PE X i ti) (hs:PSet X t)
    (ha:∀ v,assign (.Subscript o i pos) X.env v=(do
      let ov ← holding [v] (eval o X.env)
      let iv ← holding [v,ov] (eval i X.env)
      standAt pos
      holding [v,ov,iv] (setItem ov iv v)
      release [v,ov,iv] []):=by intro _;rfl):PG X (.Subscript o i pos) (gSub to ti t):=by
  intro pins s σ H v u Q I r h
  rw [ha]
  refine wpAny_bind (wpAny_holding (thn (ho pins s σ H _ I h) fun ov s1 ⟨x,H1,I1,r1,q1⟩=>?_))
  refine wpAny_bind (wpAny_holding (thn (hi pins s1 σ H1 _ I1 q1) fun iv s2 ⟨y,H2,I2,r2,q2⟩=>?_))
  refine wpAny_bind (wpAny_standAt (wpAny_bind (wpAny_holding (thn (hs pins s2 σ H2 x y v ov iv u _ I2 r1 r2 r q2) fun _ s3 ⟨H3,I3,q3⟩=>?_))))
  exact wpAny_release ⟨σ,H3,I3,q3⟩
def tAsg (te:TE) (g:TG):TS:=fun D σ H=>te σ H fun x H1=>g x σ H1 D.nx
theorem ps_asg {tg e:Expr} {te:TE} {g:TG} (he:PE X e te) (hg:PG X tg g) (hs:swapsWithSole [tg] e pos.line X.env=pure false:=by rfl) (hw:swappedStores [tg] e X.env=pure none:=by rfl)
    (h1:(assignEach [tg] X.env).map (·.2)=[assign tg X.env]:=by rfl):PS X (.Assign [tg] e pos) (tAsg te g):=by
  intro pins s σ H D I h
  refine wpAny_Assign_stores (thn (he pins s σ H _ I h) fun v s1 ⟨x,H1,I1,r1,q1⟩=>?_) hs hw
  rw [h1]
  exact thn (hg pins s1 σ H1 x v _ I1 r1 q1) fun _ s2 q=>q
theorem ps_set {i:Nat} {x:Str} {e:Expr} {te:TE} {pos':Pos} (hN:X.N.Nodup) (hi:X.N[i]?=some x) (hx:Loc X.env.scope x) (he:PE X e te) (hs:swapsWith e (some (.Name x pos')) pos.line X.env=pure false:=by rfl) (hf:X.fn x=true∨X.env.scope.names.lookup x=some .local:=by first | exact .inl rfl | exact .inr rfl | assumption) :
    PS X (.Assign [.Name x pos'] e pos) (tAsg te (gName i)):=by
  intro pins s σ H D I h
  refine wpAny_Assign_Name (thn (he pins s σ H _ I h) fun v s1 ⟨y,H1,I1,r1,q1⟩=>?_) hs
  exact store_ok I1 hN hi hx r1 (fun s2 I2=>⟨_,H1,I2,q1⟩) hf
end
section
variable {X:Cx} {pos:Pos}
def tWhile (c:TT) (tb:TS):TS:=fun D σ H=>∃ W:Nat->St->Hp->Prop,(∃ m,W m σ H)/\∀ m σ H,W m σ H ->
  c σ H fun b H1=>if b=true then ∃ N:St->Hp->Prop,(∀ σ' H',N σ' H'->∃ m',m' < m/\W m' σ' H')/\tb { D with nx:=N,ct:=N,bk:=D.nx } σ H1 else D.nx σ H1
theorem ps_while {c:Expr} {body:List Stmt} {tc:TT} {tb:TS} (hp:PassesOwn (model X.prog X.w) X.A X.env X.xe) (hc:PT X c tc) (hb:PSs X body tb):PS X (.While c body [] pos) (tWhile tc tb):=by
  intro pins s σ H D I h
  obtain ⟨W,⟨m0,w0⟩,turn⟩:=h
  refine wpAny_While (codeAny_whileLoop (fun n s'=>∃ σ' H',Inv X pins σ' H' s'/\W n σ' H') ?_ m0 ⟨σ,H,I,w0⟩)
  rintro n s1 ⟨σ1,H1,I1,w1⟩
  refine wpAny_passesOwn hp (thn (hc pins s1 σ1 H1 _ I1 (turn n σ1 H1 w1)) fun b s2 ⟨H2,I2,q2⟩=>?_)
  cases b with
  | true =>
    obtain ⟨N,hN,q2⟩:=q2
    rw [if_pos rfl]
    refine wpAny_passesOwn hp (thn (hb pins s2 σ1 H2 _ I2 q2) fun f s3 q3=>?_)
    cases f with
    | next =>
      obtain ⟨σ3,H3,I3,n3⟩:=q3
      obtain ⟨m',hm,w3⟩:=hN σ3 H3 n3
      exact ⟨m',hm,σ3,H3,I3,w3⟩
    | cont =>
      obtain ⟨σ3,H3,I3,n3⟩:=q3
      obtain ⟨m',hm,w3⟩:=hN σ3 H3 n3
      exact ⟨m',hm,σ3,H3,I3,w3⟩
    | brk=>exact q3
    | ret v=>exact q3
  | false =>
    rw [if_neg Bool.false_ne_true]
    exact wpAny_execs_nil ⟨σ1,H2,I2,q2⟩
end
structure It where
  go:Nat->Hp->Prop
  yld:Nat->Hp->V->Hp->Prop
  stop:Nat->Hp->Prop
def FpOk (X:Cx) (pins:List (Addr × Obj)) (H:Hp) (b:Addr):Prop :=
  H b=none/\b≠X.env.locals/\b ∉ X.fs/\(b ∈ X.ex∨X.s₀.heap.objs.size<=b)/\(∀ x c,X.env.cells.lookup x=some c->c≠b)/\∀ p ∈ X.pn++pins,p.1≠b
theorem Inv.fpOk {X:Cx} {pins:List (Addr × Obj)} {σ:St} {H H':Hp} {s:Shared} {b:Addr} (I:Inv X pins σ H s) (hb:s.heap.objs.size<=b) (hn:H' b=none):FpOk X pins H' b:=by
  refine ⟨hn,Nat.ne_of_gt (Nat.lt_of_lt_of_le I.lt hb),I.nofs hb,.inr (Nat.le_trans I.sz hb),fun x c e z=>?_,fun p hp z=>?_⟩
  · obtain ⟨v,q⟩:=I.cell x c e
    exact absurd (Nat.lt_of_lt_of_le q.lt (by rw [z];exact hb)) (Nat.lt_irrefl _)
  · exact absurd (Nat.lt_of_lt_of_le (Heap.lt_size (I.pin p hp).1) (by rw [z];exact hb)) (Nat.lt_irrefl _)
structure Turn (P:Program) (w:World) (K:PySem.W.Frag) (tg:Expr) (J:It) (fp:List Addr) (it:Addr) (tn:Nat->Heap->Prop):Prop where
  mem:it ∈ fp
  obj:∀ i h,tn i h->∀ b ∈ fp,∃ o,h.get? b=some o/\∀ v,o.data≠.cell v
  keep:∀ i h h',tn i h->(∀ b ∈ fp,∀ o,h.get? b=some o->h'.get? b=some o)->tn i h'
  item:∀ (X:Cx),X.prog=P->X.w=w->X.K=K->X.calm=true->∀ (i:Nat) (pins:List (Addr × Obj)) (s:Shared) (σ:St) (H:Hp) (E:Value->Shared->Prop),Inv X pins σ H s->(∀ b ∈ fp,FpOk X pins H b)->tn i s.heap->J.go i H ->
    wpAny (model P w) X.A (pyNext (.ref it)) (fun r s1=>∃ u,r=some u /\
      wpAny (model P w) X.A (letOwnedTupleGo tg (.ref it) u) (fun _ s2=>∃ x H',Inv X pins σ H' s2/\RelV x u/\J.yld i H x H'/\tn (i+1) s2.heap/\∀ b ∈ fp,H' b=none) E s1) E s
  done:∀ (X:Cx),X.prog=P->X.w=w->X.K=K->X.calm=true->∀ (i:Nat) (pins:List (Addr × Obj)) (s:Shared) (σ:St) (H:Hp) (E:Value->Shared->Prop),Inv X pins σ H s->(∀ b ∈ fp,FpOk X pins H b)->tn i s.heap->J.stop i H ->
    wpAny (model P w) X.A (pyNext (.ref it)) (fun r s1=>r=none/\Inv X pins σ H s1) E s
  self:∀ (A:Around) (i:Nat) (s:Shared) (Q:Value->Shared->Prop) (E:Value->Shared->Prop),tn i s.heap->Q (.ref it) s->wpAny (model P w) A (pyIter (.ref it)) Q E s
abbrev TI:=St->Hp->(It->Hp->Prop)->Prop
def PIE (X:Cx) (pins:List (Addr × Obj)) (σ:St) (tg:Expr) (R:It->Hp->Prop) (itv:Value) (s2:Shared):Prop :=
  ∃ (it:Addr) (fp:List Addr) (tn:Nat->Heap->Prop) (J:It) (H':Hp),itv=.ref it/\Inv X pins σ H' s2/\Turn X.prog X.w X.K tg J fp it tn/\tn 0 s2.heap/\(∀ b ∈ fp,FpOk X pins H' b)/\R J H'
def PI (X:Cx) (tg iter:Expr) (wi:TI):Prop :=
  ∀ (pins:List (Addr × Obj)) (s:Shared) (σ:St) (H:Hp) (R:It->Hp->Prop),Inv X pins σ H s->wi σ H R ->
    wpAny (model X.prog X.w) X.A (eval iter X.env) (fun v s1=>wpAny (model X.prog X.w) X.A (pyIter v) (PIE X pins σ tg R) X.xe s1) X.xe s
theorem go_of {M:Model} {A:Around} {E:Value->Shared->Prop} {s:Shared} {tg:Expr} {it:Addr} {u:Value} {o:Obj} {n:String} {vs:Array Value} {Q:Unit->Shared->Prop} (ho:s.heap.get? it=some o) (hc:o.cls=.type n) (hd:o.data=.fields vs)
    (hn:["enumerate","zip","dict_itemiterator","dict_reverseitemiterator","odict_iterator","itertools.zip_longest","itertools.pairwise"].contains n=false) (hQ:Q () s):wpAny M A (letOwnedTupleGo tg (.ref it) u) Q E s:=by
  unfold letOwnedTupleGo
  cases tg <;> first
    | exact wpAny_pure hQ
    | (cases u <;> first
        | exact wpAny_pure hQ
        | (refine wpAny_bind (wpAny_load ho ?_)
           rw [hc,hd]
           show wpAny M A (if (["enumerate","zip","dict_itemiterator","dict_reverseitemiterator","odict_iterator","itertools.zip_longest","itertools.pairwise"].contains n && vs[0]? == some (rawInt _))=true then _ else _) Q E s
           rw [if_neg (by intro h;rw [hn,Bool.false_and] at h;cases h)]
           exact wpAny_pure hQ))
def Itl (K:PySem.W.Frag) (a:Addr):It :=
  ⟨fun i H=>∃ xs x,SqL K H a xs/\xs[i]?=some x,fun i H x H'=>H'=H/\∀ xs,SqL K H a xs->xs[i]?=some x,fun i H=>∃ xs,SqL K H a xs/\xs.length<=i⟩
def Itt (K:PySem.W.Frag) (a:Addr):It :=
  ⟨fun i H=>∃ xs x,SqT K H a xs/\xs[i]?=some x,fun i H x H'=>H'=H/\∀ xs,SqT K H a xs->xs[i]?=some x,fun i H=>∃ xs,SqT K H a xs/\xs.length<=i⟩
def Itr (lo:Int) (n:Nat):It:=⟨fun i _=>i < n,fun i H x H'=>H'=H/\x=.int (lo+i),fun i _=>n<=i⟩
theorem turn_list {P:Program} {w:World} {K:PySem.W.Frag} {tg:Expr} (a it:Addr):Turn P w K tg (Itl K a) [it] it (fun i h=>h.IsListIter it a i) where
  mem:=by simp
  obj:=fun i h st b hb=>by
    have e:b=it:=by simpa using hb
    subst e
    obtain ⟨o,e,c,d⟩:=st
    exact ⟨o,e,fun v z=>by rw [d] at z;cases z⟩
  keep:=fun i h h' st k=>st.at fun o e=>k it (by simp) o e
  item:=by
    intro X hP hw hK hc i pins s σ H E I hf st hg
    subst hP hw hK
    obtain ⟨xs,x,hq,hx⟩:=hg
    obtain ⟨its,rv,p,hz⟩:=I.list hq
    obtain ⟨u,hu,ru⟩:=rv.get hx
    obtain ⟨f0,f1,f2,f3,f4,f5⟩:=hf it (by simp)
    refine wpAny_pyNext_list_item st p.isList (x:=u) (by simpa using hu) fun h' st' sb=>?_
    have I1:Inv X pins σ H { s with heap:=h' }:=I.turned (t':=s.toks) (fun b o hb e=>(sb.2 b hb).trans e) f0 f1 f3 f4 f5
    obtain ⟨o,e,c,d⟩:=id st'
    exact ⟨u,rfl,go_of (s:={ s with heap:=h' }) e c d (by decide) ⟨x,H,I1,ru,⟨rfl,fun ys hy=>by rw [I.list_inj hy hq];exact hx⟩,st',fun b hb=>(hf b hb).1⟩⟩
  done:=by
    intro X hP hw hK hc i pins s σ H E I hf st hg
    subst hP hw hK
    obtain ⟨xs,hq,hx⟩:=hg
    obtain ⟨its,rv,p,hz⟩:=I.list hq
    obtain ⟨f0,f1,f2,f3,f4,f5⟩:=hf it (by simp)
    have hl:=rv.length
    exact wpAny_pyNext_list_end (I.ok.hd hc) st p.isList (by simp;omega) fun h' eb=>⟨rfl,I.turned (t':=s.toks) (fun b o hb e=>eb b o hb e) f0 f1 f3 f4 f5⟩
  self:=fun _ _ _ _ _ st h=>wpAny_pyIter_listiter st h
theorem turn_tuple {P:Program} {w:World} {K:PySem.W.Frag} {tg:Expr} (a it:Addr):Turn P w K tg (Itt K a) [it] it (fun i h=>h.IsTupleIter it a i) where
  mem:=by simp
  obj:=fun i h st b hb=>by
    have e:b=it:=by simpa using hb
    subst e
    obtain ⟨o,e,c,d⟩:=st
    exact ⟨o,e,fun v z=>by rw [d] at z;cases z⟩
  keep:=fun i h h' st k=>st.at fun o e=>k it (by simp) o e
  item:=by
    intro X hP hw hK hc i pins s σ H E I hf st hg
    subst hP hw hK
    obtain ⟨xs,x,hq,hx⟩:=hg
    obtain ⟨its,rv,p,hz⟩:=I.tuple hq
    obtain ⟨u,hu,ru⟩:=rv.get hx
    obtain ⟨f0,f1,f2,f3,f4,f5⟩:=hf it (by simp)
    refine wpAny_pyNext_tuple_item st (show s.heap.IsTuple a its.toArray from p) (x:=u) (by simpa using hu) fun h' st' sb=>?_
    have I1:Inv X pins σ H { s with heap:=h' }:=I.turned (t':=s.toks) (fun b o hb e=>(sb.2 b hb).trans e) f0 f1 f3 f4 f5
    obtain ⟨o,e,c,d⟩:=id st'
    exact ⟨u,rfl,go_of (s:={ s with heap:=h' }) e c d (by decide) ⟨x,H,I1,ru,⟨rfl,fun ys hy=>by rw [I.tuple_inj hy hq];exact hx⟩,st',fun b hb=>(hf b hb).1⟩⟩
  done:=by
    intro X hP hw hK hc i pins s σ H E I hf st hg
    subst hP hw hK
    obtain ⟨xs,hq,hx⟩:=hg
    obtain ⟨its,rv,p,hz⟩:=I.tuple hq
    obtain ⟨f0,f1,f2,f3,f4,f5⟩:=hf it (by simp)
    have hl:=rv.length
    exact wpAny_pyNext_tuple_end (I.ok.hd hc) st (show s.heap.IsTuple a its.toArray from p) (by simp;omega) fun h' eb=>⟨rfl,I.turned (t':=s.toks) (fun b o hb e=>eb b o hb e) f0 f1 f3 f4 f5⟩
  self:=fun _ _ _ _ _ st h=>wpAny_pyIter_tupleiter st h
theorem turn_range {P:Program} {w:World} {K:PySem.W.Frag} {tg:Expr} (it:Addr) (lo:Int) (n:Nat):Turn P w K tg (Itr lo n) [it] it (fun i h=>IsRangeIter h it (lo+(i:Nat) * 1) ((n:Int) - (i:Nat)) 1) where
  mem:=by simp
  obj:=fun i h st b hb=>by
    have e:b=it:=by simpa using hb
    subst e
    exact ⟨_,st,fun v z=>by
      have z':Data.fields _=Data.cell v:=z
      cases z'⟩
  keep:=fun i h h' st k=>k it (by simp) _ st
  item:=by
    intro X hP hw hK hc i pins s σ H E I hf st hg
    subst hP hw hK
    obtain ⟨f0,f1,f2,f3,f4,f5⟩:=hf it (by simp)
    have W:=Walks.range (prog:=X.prog) (w:=X.w) (I.ok.hd hc) it lo 1 n
    refine W.item i s _ _ hg st fun v h' tk hv st' kk=>?_
    obtain ⟨t,rfl⟩:=hv
    have I1:Inv X pins σ H { s with heap:=h',toks:=tk }:=I.turned (fun b o hb e=>kk b o (by simpa using hb) e) f0 f1 f3 f4 f5
    refine ⟨_,rfl,go_of (s:={ s with heap:=h',toks:=tk }) (n:="range_iterator") st' rfl rfl (by decide) ⟨.int (lo+i),H,I1,⟨t,?_⟩,⟨rfl,rfl⟩,st',fun b hb=>(hf b hb).1⟩⟩
    rw [Int.mul_one]
  done:=by
    intro X hP hw hK hc i pins s σ H E I hf st hg
    subst hP hw hK
    obtain ⟨f0,f1,f2,f3,f4,f5⟩:=hf it (by simp)
    exact wpAny_pyNext_range_end (I.ok.hd hc) st (by have:n<=i:=hg;omega) fun h' eb=>⟨rfl,I.turned (t':=s.toks) (fun b o hb e=>eb b o hb e) f0 f1 f3 f4 f5⟩
  self:=fun _ _ _ _ _ st h=>wpAny_pyIter_rangeiter st h
end L2
namespace L2
open PySem PySem.Spec PyProof.Rows
section
variable {X:Cx} {tg:Expr}
theorem range_it {pins:List (Addr × Obj)} {σ:St} {H:Hp} {s:Shared} {R:It->Hp->Prop} {E:Value->Shared->Prop} {lo hi:Int} {t u v:Tok} {tk:Nat} (I:Inv X pins σ H s) (h1:-(2 ^ 62)<=lo) (h2:lo < 2 ^ 62) (h3:-(2 ^ 62)<=hi) (h4:hi < 2 ^ 62)
    (q:R (Itr lo (hi - lo).toNat) H):wpAny (model X.prog X.w) X.A (pyIter (.ref s.heap.objs.size)) (PIE X pins σ tg R) E { s with heap:=s.heap.push { cls:=.type "range",data:=.fields #[.int lo t,.int hi u,.int 1 v] },toks:=tk }:=by
  refine wpAny_pyIter_range (IsRange.new ..) (small_one h1 h2 h3 h4) ?_
  have I1:Inv X pins σ H { s with heap:=s.heap.push { cls:=.type "range",data:=.fields #[.int lo t,.int hi u,.int 1 v] },toks:=tk }:=I.kept fun b o e=>Heap.get?_push_of_some _ e
  refine ⟨(s.heap.push { cls:=.type "range",data:=.fields #[.int lo t,.int hi u,.int 1 v] }).objs.size,[(s.heap.push { cls:=.type "range",data:=.fields #[.int lo t,.int hi u,.int 1 v] }).objs.size],_,_,H,rfl,
    I1.kept (t':=tk) fun b o e=>Heap.get?_push_of_some _ e,turn_range _ lo (hi - lo).toNat,?_,fun b hb=>?_,q⟩
  · have e1:lo+((0:Nat):Int) * 1=lo:=by simp
    have e2:(((hi - lo).toNat:Nat):Int) - ((0:Nat):Int)=Builtin.Range.rangeSize lo hi 1:=by rw [rangeSize_one];split <;> omega
    show IsRangeIter _ _ (lo+((0:Nat):Int) * 1) ((((hi - lo).toNat:Nat):Int) - ((0:Nat):Int)) 1
    rw [e1,e2]
    exact Heap.get?_push_size _ rfl
  · have e:b=(s.heap.push { cls:=.type "range",data:=.fields #[.int lo t,.int hi u,.int 1 v] }).objs.size:=by simpa using hb
    subst e
    exact I1.fpOk (Nat.le_refl _) (I1.hok.fresh (Nat.le_refl _))
def iRng1 (ta:TA):TI:=fun σ H R=>ta σ H fun vs H1=>∃ j:Int,vs=[.int j]/\-(2 ^ 62)<=j/\j < 2 ^ 62/\R (Itr 0 j.toNat) H1
theorem pi_range1 {a:Expr} {ta:TA} {p pos:Pos} (hg:Gl X "range") (hm:X.mg "range"=none) (ha:PA X [a] ta) (hs:starEach [a] X.env=[(false,eval a X.env)]:=by rfl):PI X tg (.Call (.Name "range" p) [a] [] pos) (iRng1 ta):=by
  intro pins s σ H R I h
  refine Call_ (ld_blt I hg hm boot_range (PyProof.Rows.callWith_type1 (thn (ha pos pins s σ H _ I h) fun us s1 ⟨vs,H1,I1,r1,q1⟩=>?_) hs rfl))
  obtain ⟨j,e,q1,q2,q⟩:=q1
  subst e
  cases r1 with
  | cons r rr =>
    cases rr
    obtain ⟨t,rfl⟩:=r
    exact call_range_1 (range_it I1 (by omega) (by omega) q1 q2 (by simpa using q))
def tFor (wi:TI) (g:TG) (tb:TS):TS:=fun D σ H=>wi σ H fun J H1=>∃ W:Nat->Nat->St->Hp->Prop,(∃ m,W 0 m σ H1)/\∀ i m σ H,W i m σ H ->
  (J.stop i H/\D.nx σ H)∨(J.go i H/\∃ N:St->Hp->Prop,(∀ σ' H',N σ' H'->∃ m',m' < m/\W (i+1) m' σ' H')/\∀ x H',J.yld i H x H'->g x σ H' fun σ2 H2=>tb { D with nx:=N,ct:=N,bk:=D.nx } σ2 H2)
def pinsAt (fp:List Addr) (h:Heap):List (Addr × Obj):=fp.filterMap fun b=>(h.get? b).map fun o=>(b,o)
theorem mem_pinsAt {fp:List Addr} {h:Heap} {b:Addr} {o:Obj} (hb:b ∈ fp) (e:h.get? b=some o):(b,o) ∈ pinsAt fp h:=List.mem_filterMap.mpr ⟨b,hb,by rw [e];rfl⟩
theorem of_pinsAt {fp:List Addr} {h:Heap} {p:Addr × Obj} (hp:p ∈ pinsAt fp h):p.1 ∈ fp/\h.get? p.1=some p.2:=by
  obtain ⟨b,hb,e⟩:=List.mem_filterMap.mp hp
  cases q:h.get? b with
  | none=>rw [q] at e;cases e
  | some o =>
    rw [q] at e
    have e':(b,o)=p:=Option.some.inj e
    subst e'
    exact ⟨hb,q⟩
theorem Inv.pinned {pins:List (Addr × Obj)} {σ:St} {H:Hp} {s:Shared} {fp:List Addr} (I:Inv X pins σ H s) (hf:∀ b ∈ fp,FpOk X pins H b) (ho:∀ b ∈ fp,∃ o,s.heap.get? b=some o/\∀ v,o.data≠.cell v):Inv X (pins++pinsAt fp s.heap) σ H s :=
  I.pins_of fun p hp=>(List.mem_append.mp hp).elim (fun z=>I.pin p (List.mem_append_right _ z)) fun z=>by
    obtain ⟨hb,e⟩:=of_pinsAt z
    obtain ⟨f0,f1,f2,_⟩:=hf p.1 hb
    obtain ⟨o,e',d⟩:=ho p.1 hb
    rw [e] at e';cases e'
    exact ⟨e,f0,f1,f2,d⟩
theorem Inv.unpinned {pins pl:List (Addr × Obj)} {σ:St} {H:Hp} {s:Shared} (I:Inv X (pins++pl) σ H s):Inv X pins σ H s:=I.pins_of fun p hp=>I.pin p (List.mem_append_right _ (List.mem_append_left _ hp))
theorem ps_for {iter:Expr} {body:List Stmt} {wi:TI} {g:TG} {tb:TS} {pos:Pos} (hp:PassesOwn (model X.prog X.w) X.A X.env X.xe) (hc:X.calm=true) (hi:PI X tg iter wi) (hg:PG X tg g) (hb:PSs X body tb)
    (hs:∀ x,foldedSetIterable iter X.env x=pure x:=by intro _;rfl):PS X (.For tg iter body [] pos) (tFor wi g tb):=by
  intro pins s σ H D I h
  refine wpAny_For (thn (hi pins s σ H _ I h) fun v s1 h1=>thn h1 fun itv s2 h2=>?_) hs
  obtain ⟨it,fp,tn,J,H2,e,I2,T,st2,f2,W,⟨m0,w0⟩,turn⟩:=h2
  subst e
  have stat:∀ {H':Hp},(∀ b ∈ fp,H' b=none)->∀ b ∈ fp,FpOk X pins H' b:=fun hn b hb=>⟨hn b hb,(f2 b hb).2⟩
  refine codeAny_forLoop_any (fun n s'=>∃ i σ' H',Inv X pins σ' H' s'/\tn i s'.heap/\(∀ b ∈ fp,H' b=none)/\W i n σ' H') ?_ m0 ⟨0,σ,H2,I2,st2,fun b hb=>(f2 b hb).1,w0⟩
  rintro n s3 ⟨i,σ3,H3,I3,st3,fr3,w3⟩
  rcases turn i n σ3 H3 w3 with ⟨stop,qn⟩ | ⟨go,N,hN,step⟩
  · refine wpAny_passesOwn hp (thn (T.done X rfl rfl rfl hc i pins s3 σ3 H3 X.xe I3 (stat fr3) st3 stop) fun r s4 ⟨hr,I4⟩=>?_)
    subst hr
    exact wpAny_execs_nil ⟨σ3,H3,I4,qn⟩
  · refine wpAny_passesOwn hp (thn (T.item X rfl rfl rfl hc i pins s3 σ3 H3 X.xe I3 (stat fr3) st3 go) fun r s4 ⟨u,hr,h4⟩=>?_)
    subst hr
    refine wpAny_passesOwn hp (thn h4 fun _ s5 ⟨x,H5,I5,r5,y5,st5,fr5⟩=>?_)
    have I5':=I5.pinned (stat fr5) (T.obj _ _ st5)
    refine wpAny_passesOwn hp (thn (hg _ s5 σ3 H5 x u _ I5' r5 (step x H5 y5)) fun _ s6 ⟨σ6,H6,I6,q6⟩=>?_)
    refine wpAny_passesOwn hp (thn (hb _ s6 σ6 H6 _ I6 q6) fun f s7 q7=>?_)
    have again:∀ {σ7:St} {H7:Hp},Inv X (pins++pinsAt fp s5.heap) σ7 H7 s7->N σ7 H7->∃ m,m < n/\∃ i σ' H',Inv X pins σ' H' s7/\tn i s7.heap/\(∀ b ∈ fp,H' b=none)/\W i m σ' H':=fun {σ7 H7} I7 n7=>by
      obtain ⟨m',hm,w7⟩:=hN σ7 H7 n7
      refine ⟨m',hm,i+1,σ7,H7,I7.unpinned,T.keep _ _ _ st5 fun b hb o e=>(I7.pin (b,o) (List.mem_append_right _ (List.mem_append_right _ (mem_pinsAt hb e)))).1,fun b hb=>?_,w7⟩
      obtain ⟨o,e,d⟩:=T.obj _ _ st5 b hb
      exact (I7.pin (b,o) (List.mem_append_right _ (List.mem_append_right _ (mem_pinsAt hb e)))).2.1
    cases f with
    | next=>obtain ⟨σ7,H7,I7,n7⟩:=q7;exact again I7 n7
    | cont=>obtain ⟨σ7,H7,I7,n7⟩:=q7;exact again I7 n7
    | brk=>obtain ⟨σ7,H7,I7,q7⟩:=q7;exact ⟨σ7,H7,I7.unpinned,q7⟩
    | ret v=>obtain ⟨x7,σ7,H7,I7,r7,q7⟩:=q7;exact ⟨x7,σ7,H7,I7.unpinned,r7,q7⟩
end
theorem for_list {K:PySem.W.Frag} {a:Addr} {xs:List V} {g:TG} {tb:TS} {D:Ends} {σ:St} {H:Hp} (Pv:Nat->St->Hp->Prop) (h0:Pv 0 σ H) (hl:∀ i σ H,i<=xs.length->Pv i σ H->SqL K H a xs)
    (hs:∀ i x σ H,xs[i]?=some x->Pv i σ H->g x σ H fun σ2 H2=>tb { D with nx:=Pv (i+1),ct:=Pv (i+1),bk:=D.nx } σ2 H2) (hd:∀ σ H,Pv xs.length σ H->D.nx σ H) :
    ∃ W:Nat->Nat->St->Hp->Prop,(∃ m,W 0 m σ H)/\∀ i m σ H,W i m σ H ->
      ((Itl K a).stop i H/\D.nx σ H)∨((Itl K a).go i H/\∃ N:St->Hp->Prop,(∀ σ' H',N σ' H'->∃ m',m' < m/\W (i+1) m' σ' H')/\∀ x H',(Itl K a).yld i H x H'->g x σ H' fun σ2 H2=>tb { D with nx:=N,ct:=N,bk:=D.nx } σ2 H2):=by
  refine ⟨fun i m σ H=>m=xs.length - i/\i<=xs.length/\Pv i σ H,⟨xs.length,by simp,Nat.zero_le _,h0⟩,?_⟩
  rintro i m σ H ⟨rfl,hi,p⟩
  have q:=hl i σ H hi p
  by_cases hlt:i < xs.length
  · refine .inr ⟨⟨xs,xs[i],q,by simp [hlt]⟩,Pv (i+1),fun σ' H' p'=>⟨xs.length - (i+1),by omega,rfl,hlt,p'⟩,fun x H' y=>?_⟩
    obtain ⟨e,y⟩:=y
    subst e
    exact hs i x σ _ (y xs q) p
  · have e:i=xs.length:=by omega
    subst e
    exact .inl ⟨⟨xs,q,Nat.le_refl _⟩,hd σ H p⟩
theorem for_tup {K:PySem.W.Frag} {a:Addr} {xs:List V} {g:TG} {tb:TS} {D:Ends} {σ:St} {H:Hp} (Pv:Nat->St->Hp->Prop) (h0:Pv 0 σ H) (hl:∀ i σ H,i<=xs.length->Pv i σ H->SqT K H a xs)
    (hs:∀ i x σ H,xs[i]?=some x->Pv i σ H->g x σ H fun σ2 H2=>tb { D with nx:=Pv (i+1),ct:=Pv (i+1),bk:=D.nx } σ2 H2) (hd:∀ σ H,Pv xs.length σ H->D.nx σ H) :
    ∃ W:Nat->Nat->St->Hp->Prop,(∃ m,W 0 m σ H)/\∀ i m σ H,W i m σ H ->
      ((Itt K a).stop i H/\D.nx σ H)∨((Itt K a).go i H/\∃ N:St->Hp->Prop,(∀ σ' H',N σ' H'->∃ m',m' < m/\W (i+1) m' σ' H')/\∀ x H',(Itt K a).yld i H x H'->g x σ H' fun σ2 H2=>tb { D with nx:=N,ct:=N,bk:=D.nx } σ2 H2):=by
  refine ⟨fun i m σ H=>m=xs.length - i/\i<=xs.length/\Pv i σ H,⟨xs.length,by simp,Nat.zero_le _,h0⟩,?_⟩
  rintro i m σ H ⟨rfl,hi,p⟩
  have q:=hl i σ H hi p
  by_cases hlt:i < xs.length
  · refine .inr ⟨⟨xs,xs[i],q,by simp [hlt]⟩,Pv (i+1),fun σ' H' p'=>⟨xs.length - (i+1),by omega,rfl,hlt,p'⟩,fun x H' y=>?_⟩
    obtain ⟨e,y⟩:=y
    subst e
    exact hs i x σ _ (y xs q) p
  · have e:i=xs.length:=by omega
    subst e
    exact .inl ⟨⟨xs,q,Nat.le_refl _⟩,hd σ H p⟩
theorem for_range {lo:Int} {n:Nat} {g:TG} {tb:TS} {D:Ends} {σ:St} {H:Hp} (Pv:Nat->St->Hp->Prop) (h0:Pv 0 σ H)
    (hs:∀ i σ H,i < n->Pv i σ H->g (.int (lo+i)) σ H fun σ2 H2=>tb { D with nx:=Pv (i+1),ct:=Pv (i+1),bk:=D.nx } σ2 H2) (hd:∀ σ H,Pv n σ H->D.nx σ H) :
    ∃ W:Nat->Nat->St->Hp->Prop,(∃ m,W 0 m σ H)/\∀ i m σ H,W i m σ H ->
      ((Itr lo n).stop i H/\D.nx σ H)∨((Itr lo n).go i H/\∃ N:St->Hp->Prop,(∀ σ' H',N σ' H'->∃ m',m' < m/\W (i+1) m' σ' H')/\∀ x H',(Itr lo n).yld i H x H'->g x σ H' fun σ2 H2=>tb { D with nx:=N,ct:=N,bk:=D.nx } σ2 H2):=by
  refine ⟨fun i m σ H=>m=n - i/\i<=n/\Pv i σ H,⟨n,by simp,Nat.zero_le _,h0⟩,?_⟩
  rintro i m σ H ⟨rfl,hi,p⟩
  by_cases hlt:i < n
  · refine .inr ⟨hlt,Pv (i+1),fun σ' H' p'=>⟨n - (i+1),by omega,rfl,hlt,p'⟩,fun x H' y=>?_⟩
    obtain ⟨e,y⟩:=y
    subst e y
    exact hs i σ _ hlt p
  · have e:i=n:=by omega
    subst e
    exact .inl ⟨Nat.le_refl _,hd σ H p⟩
theorem while_by {c:TT} {tb:TS} {D:Ends} {σ:St} {H:Hp} (Pv:St->Hp->Prop) (μ:St->Hp->Nat) (h0:Pv σ H)
    (hs:∀ σ H,Pv σ H->c σ H fun b H1=>if b=true then tb { D with nx:=fun σ' H'=>Pv σ' H'/\μ σ' H' < μ σ H,ct:=fun σ' H'=>Pv σ' H'/\μ σ' H' < μ σ H,bk:=D.nx } σ H1 else D.nx σ H1)
    (mono:∀ σ H Q Q',(∀ b H1,Q b H1->Q' b H1)->c σ H Q->c σ H Q'):tWhile c tb D σ H:=by
  refine ⟨fun m σ H=>m=μ σ H/\Pv σ H,⟨_,rfl,h0⟩,?_⟩
  rintro m σ H ⟨rfl,p⟩
  refine mono σ H _ _ (fun b H1 q=>?_) (hs σ H p)
  cases b with
  | true=>exact ⟨_,fun σ' H' ⟨p',l⟩=>⟨_,l,rfl,p'⟩,q⟩
  | false=>exact q
end L2
namespace L2
open PySem PySem.Spec PyProof.Rows
abbrev R2:=V->V->Hp->VK->Prop
def OpR (X:Cx) (f:Value->Value->Sem Value) (r:R2):Prop :=
  ∀ (pins:List (Addr × Obj)) (s:Shared) (σ:St) (H:Hp) (x y:V) (v u:Value) (Q:VK),Inv X pins σ H s->RelV x v->RelV y u->r x y H Q ->
    wpAny (model X.prog X.w) X.A (f v u) (EP X pins σ Q) X.xe s
def UnR (X:Cx) (f:Value->Sem Value) (r:V->Hp->VK->Prop):Prop :=
  ∀ (pins:List (Addr × Obj)) (s:Shared) (σ:St) (H:Hp) (x:V) (v:Value) (Q:VK),Inv X pins σ H s->RelV x v->r x H Q ->
    wpAny (model X.prog X.w) X.A (f v) (EP X pins σ Q) X.xe s
def CallR (X:Cx) (f:Value) (r:List V->Hp->VK->Prop):Prop :=
  ∀ (pins:List (Addr × Obj)) (s:Shared) (σ:St) (H:Hp) (xs:List V) (us:List Value) (Q:VK),Inv X pins σ H s->Vals xs us->r xs H Q ->
    wpAny (model X.prog X.w) X.A (call f us) (EP X pins σ Q) X.xe s
def tOp (r:R2) (ta tb:TE):TE:=fun σ H Q=>ta σ H fun x H1=>tb σ H1 fun y H2=>r x y H2 Q
def tUn (r:V->Hp->VK->Prop) (ta:TE):TE:=fun σ H Q=>ta σ H fun x H1=>r x H1 Q
def rI (C:Int->Int->Prop) (g:Int->Int->V):R2:=fun x y H Q=>∃ i j,x=.int i/\y=.int j/\C i j/\Q (g i j) H
def rI0 (g:Int->Int->V):R2:=fun x y H Q=>∃ i j,x=.int i/\y=.int j/\Q (g i j) H
def rU (g:Int->V):V->Hp->VK->Prop:=fun x H Q=>∃ i,x=.int i/\Q (g i) H
section
variable {X:Cx} {a b c:Expr} {ta tb tc:TE} {pos:Pos}
theorem binT (ha:PE X a ta) (hb:PE X b tb) {pins:List (Addr × Obj)} {s:Shared} {σ:St} {H:Hp} {R:V->V->Hp->Prop} (I:Inv X pins σ H s)
    (h:ta σ H fun x H1=>tb σ H1 fun y H2=>R x y H2) {Q:Value->Shared->Prop} {f:Value->Value->Sem Value}
    (hf:∀ v u s2 x y H2,Inv X pins σ H2 s2->RelV x v->RelV y u->R x y H2->wpAny (model X.prog X.w) X.A (f v u) Q X.xe s2) :
    wpAny (model X.prog X.w) X.A (eval a X.env) (fun v s₁=>wpAny (model X.prog X.w) X.A (eval b X.env) (fun u s₂=>wpAny (model X.prog X.w) X.A (f v u) Q X.xe s₂) X.xe s₁) X.xe s:=by
  refine thn (ha pins s σ H _ I h) fun v s1 ⟨x,H1,I1,r1,q1⟩=>?_
  refine thn (hb pins s1 σ H1 _ I1 q1) fun u s2 ⟨y,H2,I2,r2,q2⟩=>?_
  exact hf v u s2 x y H2 I2 r1 r2 q2
theorem pe_op {op:Operator} {r:R2} (ho:OpR X (binaryOp op) r) (ha:PE X a ta) (hb:PE X b tb):PE X (.BinOp a op b pos) (tOp r ta tb):=by
  intro pins s σ H Q I h
  exact wpAny_BinOp (binT ha hb I h fun v u s2 x y H2 I2 rx ry q=>ho pins s2 σ H2 x y v u Q I2 rx ry q)
theorem pe_un {op:UnaryOp} {r:V->Hp->VK->Prop} (ho:UnR X (unaryOp op) r) (ha:PE X a ta):PE X (.UnaryOp op a pos) (tUn r ta):=by
  intro pins s σ H Q I h
  exact UnaryOp_ (thn (ha pins s σ H _ I h) fun v s1 ⟨x,H1,I1,r1,q1⟩=>ho pins s1 σ H1 x v Q I1 r1 q1)
theorem opI {f:Value->Value->Sem Value} {C:Int->Int->Prop} {g:Int->Int->Int}
    (rule:∀ (i j:Int) (t u:Tok) (s:Shared) (Q:Value->Shared->Prop) (E:Value->Shared->Prop),C i j->Q (.int (g i j) s.toks) { s with toks:=s.toks+1 }->wpAny (model X.prog X.w) X.A (f (.int i t) (.int j u)) Q E s) :
    OpR X f (rI C fun i j=>.int (g i j)):=by
  intro pins s σ H x y v u Q I rx ry h
  obtain ⟨i,j,rfl,rfl,hc,q⟩:=h
  obtain ⟨t,rfl⟩:=rx
  obtain ⟨t',rfl⟩:=ry
  exact rule i j t t' s _ _ hc ⟨.int (g i j),H,I.tok _,⟨_,rfl⟩,q⟩
theorem opI0 {f:Value->Value->Sem Value} {g:Int->Int->Int}
    (rule:∀ (i j:Int) (t u:Tok) (s:Shared) (Q:Value->Shared->Prop) (E:Value->Shared->Prop),Q (.int (g i j) s.toks) { s with toks:=s.toks+1 }->wpAny (model X.prog X.w) X.A (f (.int i t) (.int j u)) Q E s) :
    OpR X f (rI0 fun i j=>.int (g i j)):=by
  intro pins s σ H x y v u Q I rx ry h
  obtain ⟨i,j,rfl,rfl,q⟩:=h
  obtain ⟨t,rfl⟩:=rx
  obtain ⟨t',rfl⟩:=ry
  exact rule i j t t' s _ _ ⟨.int (g i j),H,I.tok _,⟨_,rfl⟩,q⟩
theorem opB0 {f:Value->Value->Sem Value} {g:Int->Int->Bool}
    (rule:∀ (i j:Int) (t u:Tok) (s:Shared) (Q:Value->Shared->Prop) (E:Value->Shared->Prop),Q (.bool (g i j)) s->wpAny (model X.prog X.w) X.A (f (.int i t) (.int j u)) Q E s) :
    OpR X f (rI0 fun i j=>.bl (g i j)):=by
  intro pins s σ H x y v u Q I rx ry h
  obtain ⟨i,j,rfl,rfl,q⟩:=h
  obtain ⟨t,rfl⟩:=rx
  obtain ⟨t',rfl⟩:=ry
  exact rule i j t t' s _ _ ⟨.bl (g i j),H,I,rfl,q⟩
def CDiv (i j:Int):Prop:=0 < j/\j < 1073741824
def CPow (i j:Int):Prop:=0<=j/\j<=1000000/\i.natAbs < 2 ^ 64
def CMul (i j:Int):Prop:=(-(2 ^ 64) < i/\i < 2 ^ 64)∨(-(2 ^ 64) < j/\j < 2 ^ 64)
theorem CMul.ok {i j:Int} (h:CMul i j):IntMulOk i j:=by
  rcases h with ⟨h1,h2⟩ | ⟨h1,h2⟩
  · exact .of_left (intBits_le_64 h1 h2)
  · exact .of_right (intBits_le_64 h1 h2)
theorem op_add:OpR X (binaryOp .Add) (rI0 fun i j=>.int (i+j)):=opI0 fun _ _ _ _ _ _ _ q=>add_int q
theorem jag:OpR X (binaryOp .Sub) (rI0 fun i j=>.int (i - j)):=opI0 fun _ _ _ _ _ _ _ q=>sub_int q
theorem op_mul:OpR X (binaryOp .Mult) (rI CMul fun i j=>.int (i * j)):=opI fun _ _ _ _ _ _ _ hc q=>mul_int q hc.ok
theorem jcg:OpR X (binaryOp .FloorDiv) (rI CDiv fun i j=>.int (i / j)):=opI fun i j _ _ _ _ _ hc q=>by
  have h1:(0:Int) < j:=hc.1
  have h2:j < 1073741824:=hc.2
  exact floordiv_int (by omega) (by rw [Int.fdiv_eq_ediv_of_nonneg i (by omega)];exact q) (.inl (PyProof.noPylong_small (by omega)))
theorem jaf:OpR X (binaryOp .Mod) (rI (fun _ j=>0 < j) fun i j=>.int (i % j)):=opI fun i j _ _ _ _ _ hc q=>by
  have h1:(0:Int) < j:=hc
  exact mod_int' (by omega) (by rw [Int.fmod_eq_emod_of_nonneg i (by omega)];exact q)
theorem jb5:OpR X (binaryOp .Pow) (rI CPow fun i j=>.int (i ^ j.toNat)):=opI fun _ _ _ _ _ _ _ hc q=>pow_int_small hc.1 hc.2.1 hc.2.2 q
theorem unI {f:Value->Sem Value} {g:Int->Int}
    (rule:∀ (i:Int) (t:Tok) (s:Shared) (Q:Value->Shared->Prop) (E:Value->Shared->Prop),Q (.int (g i) s.toks) { s with toks:=s.toks+1 }->wpAny (model X.prog X.w) X.A (f (.int i t)) Q E s) :
    UnR X f (rU fun i=>.int (g i)):=by
  intro pins s σ H x v Q I rx h
  obtain ⟨i,rfl,q⟩:=h
  obtain ⟨t,rfl⟩:=rx
  exact rule i t s _ _ ⟨.int (g i),H,I.tok _,⟨_,rfl⟩,q⟩
theorem un_neg:UnR X (unaryOp .USub) (rU fun i=>.int (-i)):=unI fun _ _ _ _ _ q=>neg_int q
end
def scal:V->V->Bool
  | .non,.non=>true | .non,.int _=>true | .int _,.non=>true | .non,.bl _=>true | .bl _,.non=>true | .non,.str _=>true | .str _,.non=>true
  | .int _,.int _=>true | .bl _,.bl _=>true | .str _,.str _=>true | .byt _,.byt _=>true
  | .int _,.str _=>true | .str _,.int _=>true | .bl _,.str _=>true | .str _,.bl _=>true
  | _,_=>false
def rEq:R2:=fun x y H Q=>scal x y=true/\Q (.bl (decide (x=y))) H
def rNe:R2:=fun x y H Q=>scal x y=true/\Q (.bl (!decide (x=y))) H
theorem dec_int {i j:Int}:decide (V.int i=V.int j)=(i == j):=by
  rw [Bool.eq_iff_iff]
  simp
theorem dec_bl {i j:Bool}:decide (V.bl i=V.bl j)=(i == j):=by
  rw [Bool.eq_iff_iff]
  simp
theorem dec_str {i j:Str}:decide (V.str i=V.str j)=(i == j):=by
  rw [Bool.eq_iff_iff]
  simp
theorem dec_byt {i j:Array UInt8}:decide (V.byt i=V.byt j)=(i.toList == j.toList):=by
  rw [Bool.eq_iff_iff]
  cases i
  cases j
  simp
section
variable {X:Cx} {a b c:Expr} {ta tb tc:TE} {pos:Pos}
theorem fin_bl {pins:List (Addr × Obj)} {σ:St} {H:Hp} {s:Shared} {Q:VK} {k k':Bool} (I:Inv X pins σ H s) (q:Q (.bl k) H) (e:k=k'):EP X pins σ Q (.bool k') s:=by
  subst e
  exact ⟨.bl k,H,I,rfl,q⟩
theorem jb2:OpR X (compareOp .Eq) rEq:=by
  intro pins s σ H x y v u Q I rx ry h
  obtain ⟨hs,q⟩:=h
  cases x with
  | non =>
    cases rx
    cases y with
    | non=>cases ry;exact PySem.EqNone.eq_none_none (fin_bl I q (by simp))
    | bl j=>cases ry;exact PySem.EqNone.eq_none_bool (fin_bl I q (by simp))
    | int j=>obtain ⟨t',rfl⟩:=ry;exact PySem.EqNone.eq_none_int (fin_bl I q (by simp))
    | str j=>obtain ⟨t',rfl⟩:=ry;exact PySem.EqNone.eq_none_str (fin_bl I q (by simp))
    | _=>exact absurd (show false=true from hs) Bool.false_ne_true
  | bl i =>
    cases rx
    cases y with
    | non=>cases ry;exact PySem.EqNone.eq_bool_none (fin_bl I q (by simp))
    | bl j=>cases ry;exact eq_bool (fin_bl I q dec_bl)
    | str j=>obtain ⟨t',rfl⟩:=ry;exact PySem.EqMixed.eq_bool_str (fin_bl I q (by simp))
    | _=>exact absurd (show false=true from hs) Bool.false_ne_true
  | int i =>
    obtain ⟨t,rfl⟩:=rx
    cases y with
    | non=>cases ry;exact PySem.EqNone.eq_int_none (fin_bl I q (by simp))
    | int j=>obtain ⟨t',rfl⟩:=ry;exact eq_int (fin_bl I q dec_int)
    | str j=>obtain ⟨t',rfl⟩:=ry;exact PySem.EqMixed.eq_int_str (fin_bl I q (by simp))
    | _=>exact absurd (show false=true from hs) Bool.false_ne_true
  | str i =>
    obtain ⟨t,rfl⟩:=rx
    cases y with
    | non=>cases ry;exact PySem.EqNone.eq_str_none (fin_bl I q (by simp))
    | bl j=>cases ry;exact PySem.EqMixed.eq_str_bool (fin_bl I q (by simp))
    | int j=>obtain ⟨t',rfl⟩:=ry;exact PySem.EqMixed.eq_str_int (fin_bl I q (by simp))
    | str j=>obtain ⟨t',rfl⟩:=ry;exact eq_str (fin_bl I q dec_str)
    | _=>exact absurd (show false=true from hs) Bool.false_ne_true
  | byt i =>
    obtain ⟨t,rfl⟩:=rx
    cases y with
    | byt j=>obtain ⟨t',rfl⟩:=ry;exact PySem.W.eq_bytes (fin_bl I q dec_byt)
    | _=>exact absurd (show false=true from hs) Bool.false_ne_true
  | _=>cases y <;> exact absurd (show false=true from hs) Bool.false_ne_true
theorem jb3:OpR X (compareOp .NotEq) rNe:=by
  intro pins s σ H x y v u Q I rx ry h
  obtain ⟨hs,q⟩:=h
  cases x with
  | non =>
    cases rx
    cases y with
    | non=>cases ry;exact PySem.EqNone.ne_none_none (fin_bl I q (by simp))
    | bl j=>cases ry;exact PySem.EqNone.ne_none_bool (fin_bl I q (by simp))
    | int j=>obtain ⟨t',rfl⟩:=ry;exact PySem.EqNone.ne_none_int (fin_bl I q (by simp))
    | str j=>obtain ⟨t',rfl⟩:=ry;exact PySem.EqNone.ne_none_str (fin_bl I q (by simp))
    | _=>exact absurd (show false=true from hs) Bool.false_ne_true
  | bl i =>
    cases rx
    cases y with
    | non=>cases ry;exact PySem.EqNone.ne_bool_none (fin_bl I q (by simp))
    | bl j=>cases ry;exact ne_bool (fin_bl I q (congrArg not dec_bl))
    | str j=>obtain ⟨t',rfl⟩:=ry;exact PySem.EqMixed.ne_bool_str (fin_bl I q (by simp))
    | _=>exact absurd (show false=true from hs) Bool.false_ne_true
  | int i =>
    obtain ⟨t,rfl⟩:=rx
    cases y with
    | non=>cases ry;exact PySem.EqNone.ne_int_none (fin_bl I q (by simp))
    | int j=>obtain ⟨t',rfl⟩:=ry;exact ne_int (fin_bl I q (congrArg not dec_int))
    | str j=>obtain ⟨t',rfl⟩:=ry;exact PySem.EqMixed.ne_int_str (fin_bl I q (by simp))
    | _=>exact absurd (show false=true from hs) Bool.false_ne_true
  | str i =>
    obtain ⟨t,rfl⟩:=rx
    cases y with
    | non=>cases ry;exact PySem.EqNone.ne_str_none (fin_bl I q (by simp))
    | bl j=>cases ry;exact PySem.EqMixed.ne_str_bool (fin_bl I q (by simp))
    | int j=>obtain ⟨t',rfl⟩:=ry;exact PySem.EqMixed.ne_str_int (fin_bl I q (by simp))
    | str j=>obtain ⟨t',rfl⟩:=ry;exact ne_str (fin_bl I q (congrArg not dec_str))
    | _=>exact absurd (show false=true from hs) Bool.false_ne_true
  | byt i =>
    obtain ⟨t,rfl⟩:=rx
    cases y with
    | byt j=>obtain ⟨t',rfl⟩:=ry;exact PySem.W.ne_bytes (fin_bl I q (congrArg not dec_byt))
    | _=>exact absurd (show false=true from hs) Bool.false_ne_true
  | _=>cases y <;> exact absurd (show false=true from hs) Bool.false_ne_true
theorem op_lt:OpR X (compareOp .Lt) (rI0 fun i j=>.bl (decide (i < j))):=opB0 fun _ _ _ _ _ _ _ q=>lt_int q
theorem op_le:OpR X (compareOp .LtE) (rI0 fun i j=>.bl (decide (i<=j))):=opB0 fun _ _ _ _ _ _ _ q=>le_int q
theorem ja2:OpR X (compareOp .Gt) (rI0 fun i j=>.bl (decide (j < i))):=opB0 fun _ _ _ _ _ _ _ q=>gt_int q
theorem op_ge:OpR X (compareOp .GtE) (rI0 fun i j=>.bl (decide (j<=i))):=opB0 fun _ _ _ _ _ _ _ q=>ge_int q
theorem op_lt_str:OpR X (compareOp .Lt) (fun x y H Q=>∃ i j,x=.str i/\y=.str j/\Q (.bl (decide (i.cps.toList < j.cps.toList))) H):=by
  intro pins s σ H x y v u Q I rx ry h
  obtain ⟨i,j,rfl,rfl,q⟩:=h
  obtain ⟨t,rfl⟩:=rx
  obtain ⟨t',rfl⟩:=ry
  exact lt_str (fin_bl I q rfl)
theorem op_in_str:OpR X (compareOp .In) (fun x y H Q=>∃ i j,x=.str i/\y=.str j/\Q (.bl (!(Builtin.Str.occurrences j i 0 j.length 1).isEmpty)) H):=by
  intro pins s σ H x y v u Q I rx ry h
  obtain ⟨i,j,rfl,rfl,q⟩:=h
  obtain ⟨t,rfl⟩:=rx
  obtain ⟨t',rfl⟩:=ry
  exact in_str (fin_bl I q rfl)
theorem jcm:OpR X (compareOp .Is) (fun x y H Q=>y=.non/\Q (.bl (decide (x=.non))) H):=by
  intro pins s σ H x y v u Q I rx ry h
  obtain ⟨rfl,q⟩:=h
  cases ry
  refine is_none_gen (fin_bl I q ?_)
  cases x <;> first
    | (cases rx;rfl)
    | (obtain ⟨t,rfl⟩:=rx;rfl)
theorem jv (b:Expr) {op:CmpOp} (h:op≠.In:=by decide) (h2:op≠.NotIn:=by decide):behindInMarks op b=false:=by
  have e1:(op == CmpOp.In)=false:=by cases op <;> first | rfl | exact absurd rfl h
  have e2:(op == CmpOp.NotIn)=false:=by cases op <;> first | rfl | exact absurd rfl h2
  cases b <;> simp [behindInMarks,e1,e2]
theorem pe_cmpR {op:CmpOp} {r:R2} (ho:OpR X (compareOp op) r) (ha:PE X a ta) (hb:PE X b tb) (hm:behindInMarks op b=false):PE X (.Compare a [op] [b] pos) (tOp r ta tb):=by
  intro pins s σ H Q I h
  exact wpAny_Compare1 (binT ha hb I h fun v u s2 x y H2 I2 rx ry q=>ho pins s2 σ H2 x y v u Q I2 rx ry q) hm
def tTest (t:TE):TT:=fun σ H Q=>t σ H fun x H'=>∃ k,x=.bl k/\Q k H'
theorem pt_cmpR {op:CmpOp} {r:R2} (ho:OpR X (compareOp op) r) (ha:PE X a ta) (hb:PE X b tb) (hm:behindInMarks op b=false):PT X (.Compare a [op] [b] pos) (tTest (tOp r ta tb)):=by
  intro pins s σ H Q I h
  refine wpAny_isTrue_Compare1 (thn (ha pins s σ H _ I h) fun v s1 ⟨x,H1,I1,r1,q1⟩=>thn (hb pins s1 σ H1 _ I1 q1) fun u s2 ⟨y,H2,I2,r2,q2⟩ =>
    thn (ho pins s2 σ H2 x y v u _ I2 r1 r2 q2) fun c s3 ⟨z,H3,I3,r3,k,e,q3⟩=>?_) hm
  subst e
  cases r3
  exact wpAny_truthy_bool ⟨H3,I3,q3⟩
def tChain (r r':R2) (ta tb tc:TE):TE:=fun σ H Q=>ta σ H fun x H1=>tb σ H1 fun y H2=>r x y H2 fun z H3=>∃ k,z=.bl k /\
  (if k=true then tc σ H3 fun w' H4=>r' y w' H4 Q else Q (.bl false) H3)
theorem pe_chain {op op':CmpOp} {r r':R2} (ho:OpR X (compareOp op) r) (ho':OpR X (compareOp op') r') (ha:PE X a ta) (hb:PE X b tb) (hc:PE X c tc)
    (hm:lastMarks [op,op'] [b,c]=false:=by with_unfolding_all rfl):PE X (.Compare a [op,op'] [b,c] pos) (tChain r r' ta tb tc):=by
  intro pins s σ H Q I h
  refine Compare_chain (thn (ha pins s σ H _ I h) fun v s1 ⟨x,H1,I1,r1,q1⟩=>chain_link (thn (hb pins s1 σ H1 _ I1 q1) fun u s2 ⟨y,H2,I2,r2,q2⟩ =>
    thn (ho pins s2 σ H2 x y v u _ I2 r1 r2 q2) fun d s3 ⟨z,H3,I3,r3,k,e,q3⟩=>?_)) hm
  subst e
  cases r3
  refine wpAny_truthy_bool ?_
  cases k with
  | false=>exact ite_ff ⟨.bl false,H3,I3,rfl,q3⟩
  | true=>exact ite_tt (chain_last (thn (hc pins s3 σ H3 _ I3 q3) fun w' s4 ⟨z',H4,I4,r4,q4⟩=>ho' pins s4 σ H4 y z' u w' Q I4 r2 r4 q4))
theorem line63:(sizeLine:Nat) < 2 ^ 63:=by rw [sizeLine_eq];decide
theorem op_add_str:OpR X (binaryOp .Add) (fun x y H Q=>∃ i j,x=.str i/\y=.str j/\i.length+j.length<=sizeLine/\Q (.str (i++j)) H):=by
  intro pins s σ H x y v u Q I rx ry h
  obtain ⟨i,j,rfl,rfl,hz,q⟩:=h
  obtain ⟨t,rfl⟩:=rx
  obtain ⟨t',rfl⟩:=ry
  exact add_str (fun t' tk=>⟨.str (i++j),H,I.tok _,⟨_,rfl⟩,q⟩) hz
theorem vals1 {x:V} {us:List Value} (r:Vals [x] us):∃ u,us=[u]/\RelV x u:=by
  cases r with
  | cons r1 r2=>cases r2;exact ⟨_,rfl,r1⟩
theorem vals2 {x y:V} {us:List Value} (r:Vals [x,y] us):∃ u w',us=[u,w']/\RelV x u/\RelV y w':=by
  cases r with
  | cons r1 r2 =>
    cases r2 with
    | cons r3 r4=>cases r4;exact ⟨_,_,rfl,r1,r3⟩
theorem jbx:CallR X (.type "int") (fun xs H Q=>(∃ i,xs=[.int i]/\Q (.int i) H)∨∃ k,xs=[.bl k]/\Q (.int (if k then 1 else 0)) H):=by
  intro pins s σ H xs us Q I r h
  rcases h with ⟨i,rfl,q⟩ | ⟨k,rfl,q⟩
  · obtain ⟨u,rfl,t,rfl⟩:=vals1 r
    exact call_int_int ⟨.int i,H,I,⟨_,rfl⟩,q⟩
  · obtain ⟨u,rfl,r1⟩:=vals1 r
    cases r1
    exact call_int_bool ⟨.int (if k then 1 else 0),H,I.tok _,⟨_,rfl⟩,q⟩
end
end L2
namespace L2
open PySem PySem.Spec PyProof.Rows
structure ObjM (h:Heap) (x dx C:Addr) (mA:Str->Option Value):Prop where
  obj:h.get? x=some (PySem.W.instObj C dx)
  ns:h.Ns1 dx mA
  ne:dx≠x
theorem lookIn_ns {h:Heap} {dx:Addr} {mA:Str->Option Value} (n:h.Ns1 dx mA):∃ od,h.get? dx=some od/\∀ name,PySem.W.lookIn name od=some (mA name):=by
  obtain ⟨o,es,ep,ho,hd,hk,_,hm⟩:=n
  refine ⟨o,ho,fun name=>?_⟩
  have e:=hm name
  unfold nsFind findBy at e
  rw [← Array.find?_toList] at e
  unfold PySem.W.lookIn
  rw [hd]
  dsimp only
  split
  · rename_i y q
    rw [q] at e
    exact congrArg some e
  · rename_i q
    rw [q] at e
    have a:es.toList.any (·.refKey)=false:=by
      rw [List.any_eq_false]
      intro y hy
      obtain ⟨z,t,hkey⟩:=hk y (Array.mem_toList_iff.mp hy)
      simp [DictEntry.refKey,hkey]
    have a':¬ es.toList.any (·.refKey)=true:=by rw [a];exact Bool.false_ne_true
    rw [if_neg a']
    exact congrArg some e
theorem ObjM.look {h:Heap} {x dx C:Addr} {mA:Str->Option Value} (I:ObjM h x dx C mA):∃ od,PySem.W.InstAt h x (PySem.W.instObj C dx) C (some od)/\∀ name,PySem.W.lookIn name od=some (mA name) :=
  let ⟨od,ho,hl⟩:=lookIn_ns I.ns
  ⟨od,⟨I.obj,rfl,rfl,ho⟩,hl⟩
section
variable {prog:Program} {w:World} {A:Around} {E:Value->Shared->Prop} {s:Shared} {K:PySem.W.Frag} {x dx C f:Addr} {mA:Str->Option Value} {name:Str} {v:Value}
end
theorem RelO.some_of {v:V} {o:Option Value} (r:RelO (some v) o):∃ u,o=some u/\RelV v u:=by
  cases o with
  | none=>exact (show False from r).elim
  | some u=>exact ⟨u,rfl,r⟩
theorem handed_of {v:V} {u:Value} (r:RelV v u):PySem.W.handedIn u=true:=by
  cases v with
  | non=>cases (show u=Value.none from r);rfl
  | bl b=>cases (show u=Value.bool b from r);rfl
  | int i=>obtain ⟨t,e⟩:=(show ∃ t,u=Value.int i t from r);cases e;rfl
  | str x=>obtain ⟨t,e⟩:=(show ∃ t,u=Value.str x t from r);cases e;rfl
  | byt b=>obtain ⟨t,e⟩:=(show ∃ t,u=Value.bytes b t from r);cases e;rfl
  | flt b=>obtain ⟨t,e⟩:=(show ∃ t,u=Value.float b t from r);cases e;rfl
  | ref a=>cases (show u=Value.ref a from r);rfl
  | ty n=>cases (show u=Value.type n from r);rfl
section
variable {P:Program} {w:World} {H H':Hp} {h h':Heap} {a C dx:Addr} {fs fs':List (Str × V)}
theorem ins_get (hok:HOk P w H h) (e:H a=some (.ins C dx fs)):∃ mA,ObjM h a dx C mA/\(∀ f,RelO (fs.lookup f) (mA f))/\PySem.Within mA (fs.map (·.1))/\fs.length<=1000/\H dx=some (.own a):=by
  obtain ⟨d,z,ne,ob,mA,n,r,q⟩:=(show ObjOk P w H h a (.ins C dx fs) from hok a _ e)
  exact ⟨mA,⟨ob,n,ne⟩,r,q,z,d⟩
end
structure Cls (K:PySem.W.Frag) (C:Addr):Prop where
  pg:PySem.W.plainGet K C Str.empty=true
  hd:PySem.W.hasDictIn K C=true
  po:PySem.W.plainOver K C=true
  sa:PySem.W.findIn K (.ref C) "__setattr__"=some (some (.builtin "object.__setattr__"))
theorem Cls.get {K:PySem.W.Frag} {C:Addr} (c:Cls K C) (f:Str):PySem.W.plainGet K C f=true:=c.pg
section
variable {X:Cx} {pins:List (Addr × Obj)} {σ:St} {H:Hp} {s:Shared} {a C dx:Addr} {fs:List (Str × V)} {f:Str} {v:V} {A:Around} {E:Value->Shared->Prop}
theorem attr_of {prog:Program} {w:World} {env:Env} {e:Expr} {f:Str} {pos:Pos} {s:Shared} {Q:Value->Shared->Prop} (hb:attributeBase e f env (eval e env)=eval e env)
    (h:wpAny (model prog w) A (eval e env) (fun o s₁=>wpAny (model prog w) A (getAttr o f true) Q E s₁) E s):wpAny (model prog w) A (eval (.Attribute e f pos) env) Q E s :=
  Attribute_any_ h (by rw [arm_eval_Attribute,hb])
end
section
variable {X:Cx} {o e value:Expr} {f:Str} {pos pos' tpos:Pos} {ta tv:TE}
end
section
variable {X:Cx} {pins:List (Addr × Obj)} {σ:St} {H:Hp} {s:Shared} {A:Around} {E:Value->Shared->Prop} {Q:Value->Shared->Prop} {c:Value} {b:Bool}
inductive TyOf (K:PySem.W.Frag) (H:Hp):V->Value->Prop where
  | non:TyOf K H .non (.type "NoneType")
  | bl (x:Bool):TyOf K H (.bl x) (.type "bool")
  | int (i:Int):TyOf K H (.int i) (.type "int")
  | str (x:Str):TyOf K H (.str x) (.type "str")
  | flt (x:UInt64):TyOf K H (.flt x) (.type "float")
  | lst {a:Addr} {xs:List V} (e:H a=some (.lst xs)):TyOf K H (.ref a) (.type "list")
  | frz {a:Addr} {o:Obj} {xs:List V} (e:H a=some (.frz o (.lst xs))):TyOf K H (.ref a) (.type "list")
  | tup {a:Addr} {xs:List V} (e:H a=some (.tup xs)):TyOf K H (.ref a) (.type "tuple")
  | dK {a:Addr} {kvs:List (Key × V)} (e:H a=some (.dK kvs)):TyOf K H (.ref a) (.type "dict")
  | dT {a:Addr} {kvs:List (List Key × V)} (e:H a=some (.dT kvs)):TyOf K H (.ref a) (.type "dict")
  | ins {a C dx:Addr} {fs:List (Str × V)} (e:H a=some (.ins C dx fs)) (cl:Cls K C) (ha:PySem.W.findIn K (.ref C) "__class__"=some (some (.builtin "object.__class__")))
      (hn:PySem.W.specialIn K (.builtin "object.__class__") "__get__"=some (some (.builtin "getset_descriptor.__get__"))) (htk:PySem.W.takesIn K (.builtin "object.__class__")=some true)
      (hm:PySem.W.mroIn K C (.type "object")=some true):TyOf K H (.ref a) (.ref C)
theorem isinst_ok {x:V} {u t:Value} (I:Inv X pins σ H s) (rx:RelV x u) (ty:TyOf X.K H x t) (e:PySem.W.kitOne X.K t c=some b) (h:∀ tk,Q (.bool b) { s with toks:=tk }) :
    wpAny (model X.prog X.w) A (call (.builtin "isinstance") [u,c]) Q E s:=by
  cases ty with
  | non=>cases (show u=Value.none from rx);exact PySem.W.kia_one PySem.W.kitx_none I.kIn True.intro e (fun z=>nomatch z) h
  | bl y=>cases (show u=Value.bool y from rx);exact PySem.W.kia_one PySem.W.kitx_bool I.kIn True.intro e (fun z=>nomatch z) h
  | int i=>obtain ⟨t,q⟩:=(show ∃ t,u=Value.int i t from rx);cases q;exact PySem.W.kia_one PySem.W.kitx_int I.kIn True.intro e (fun z=>nomatch z) h
  | str y=>obtain ⟨t,q⟩:=(show ∃ t,u=Value.str y t from rx);cases q;exact PySem.W.kia_one PySem.W.kitx_str I.kIn True.intro e (fun z=>nomatch z) h
  | flt y=>obtain ⟨t,q⟩:=(show ∃ t,u=Value.float y t from rx);cases q;exact PySem.W.kia_one PySem.W.kitx_float I.kIn True.intro e (fun z=>nomatch z) h
  | @lst a xs ea =>
    cases (show u=Value.ref a from rx)
    obtain ⟨_,_,n,_,h1⟩:=(show ObjOk X.prog X.w H s.heap a (.lst xs) from I.hok a _ ea)
    exact PySem.W.kia_one PySem.W.kitx_list I.kIn ⟨_,h1,rfl⟩ e (fun z=>nomatch z) h
  | @frz a ob xs ea =>
    cases (show u=Value.ref a from rx)
    obtain ⟨_,_,_,n,_,h1⟩:=(show ObjOk X.prog X.w H s.heap a (.frz ob (.lst xs)) from I.hok a _ ea)
    exact PySem.W.kia_one PySem.W.kitx_list I.kIn ⟨_,h1,rfl⟩ e (fun z=>nomatch z) h
  | @tup a xs ea =>
    cases (show u=Value.ref a from rx)
    obtain ⟨_,_,_,p⟩:=(show ObjOk X.prog X.w H s.heap a (.tup xs) from I.hok a _ ea)
    obtain ⟨o,h1,h2,_⟩:=p
    exact PySem.W.kia_one PySem.W.kitx_tuple I.kIn ⟨o,h1,h2⟩ e (fun z=>nomatch z) h
  | @dK a kvs ea =>
    cases (show u=Value.ref a from rx)
    obtain ⟨_,_,vs,_,p⟩:=(show ObjOk X.prog X.w H s.heap a (.dK kvs) from I.hok a _ ea)
    obtain ⟨o,es,ep,h1,h2,_⟩:=p
    exact PySem.W.kia_one PySem.W.kitx_dict I.kIn ⟨o,h1,h2.1⟩ e (fun z=>nomatch z) h
  | @dT a kvs ea =>
    cases (show u=Value.ref a from rx)
    obtain ⟨_,_,xs,_,o,es,ep,h1,h2,_⟩:=(show ObjOk X.prog X.w H s.heap a (.dT kvs) from I.hok a _ ea)
    exact PySem.W.kia_one PySem.W.kitx_dict I.kIn ⟨o,h1,h2.1⟩ e (fun z=>nomatch z) h
  | @ins a C dx fs ea cl ha hn htk hm =>
    cases (show u=Value.ref a from rx)
    obtain ⟨mA,O,_⟩:=ins_get I.hok ea
    obtain ⟨od,J,_⟩:=O.look
    exact PySem.W.kia_one (PySem.W.kitx_own (cl.get _) cl.hd ha hn htk hm) I.kIn J e (fun z=>nomatch z) h
end
end L2
namespace L2
open PySem PySem.Spec PyProof.Rows
structure Room (k:Nat) (A:Around):Prop where
  hd:A.handled=none
  dp:A.depth+3 * k+5 < recursionLimit
  un:A.units+16 * k+200 < cLine
  gd:A.guards=some []
theorem Room.mono {j k:Nat} {A:Around} (r:Room k A) (h:j<=k):Room j A:=⟨r.hd,by have:=r.dp;omega,by have:=r.un;omega,r.gd⟩
theorem Room.deeper {k:Nat} {A:Around} (r:Room (k+1) A) (env:Env):Room k (A.deeper env) :=
  ⟨r.hd,by have:=r.dp;show A.depth+1+3 * k+5 < _;omega,by have:=r.un;show A.units+3+16 * k+200 < _;omega,r.gd⟩
theorem make_depth {A:Around} {C:Addr} {us:List Value} {kw:List (Str × Value)}:(A.under (.builtin "type.__call__" ⟨.ref C::us,kw⟩)).depth=A.depth+1:=by
  first | rfl | simp [Around.under,Code.weight,Code.isCreation,Code.isGuard,Code.isCaller,Code.frames,Code.isFrame,guardIds]
theorem make_units {A:Around} {C:Addr} {us:List Value} {kw:List (Str × Value)}:(A.under (.builtin "type.__call__" ⟨.ref C::us,kw⟩)).units=A.units+1:=by
  first | rfl | simp [Around.under,Code.cUnits,Code.frames,Code.isFrame]
theorem Room.make {k:Nat} {A:Around} (r:Room (k+1) A) (C:Addr) (us:List Value) (kw:List (Str × Value)):Room k (A.under (.builtin "type.__call__" ⟨.ref C::us,kw⟩)) :=
  ⟨r.hd,by have:=r.dp;rw [make_depth];omega,by have:=r.un;rw [make_units];omega,by first | exact r.gd | (simpa [Around.under,Code.isGuard,guardIds] using r.gd)⟩
theorem Room.depth {k:Nat} {A:Around} (r:Room k A):A.depth < recursionLimit:=by have:=r.dp;omega
theorem Room.units {k:Nat} {A:Around} (r:Room k A):A.units+64 < cLine:=by have:=r.un;omega
def tNil:TA:=fun _ H Q=>Q [] H
def tCons (ta:TE) (tr:TA):TA:=fun σ H Q=>ta σ H fun x H1=>tr σ H1 fun xs H2=>Q (x::xs) H2
section
variable {X:Cx} {e:Expr} {es:List Expr} {te:TE} {t:TA} {pos:Pos}
theorem jcn:PA X [] tNil:=fun _ _ _ _ H Q I h=>Calls.spliced_nil ⟨[],H,I,.nil,h⟩
theorem jcf (ha:PE X e te) (hr:PA X es t) (hs:starEach (e::es) X.env=(false,eval e X.env)::starEach es X.env:=by rfl):PA X (e::es) (tCons te t):=by
  intro pos pins s σ H Q I h
  rw [hs]
  show wpAny _ _ (spliced ((false,eval e X.env)::backTo pos (starEach es X.env))) _ _ s
  refine Calls.spliced_cons (thn (ha pins s σ H _ I h) fun u s1 ⟨x,H1,I1,r1,q1⟩=>?_)
  exact thn (hr pos pins s1 σ H1 _ I1 q1) fun us s2 ⟨xs,H2,I2,r2,q2⟩=>⟨x::xs,H2,I2,.cons r1 r2,q2⟩
def tTup (t:TA):TE:=fun σ H Q=>t σ H fun xs H1=>xs.length<=sizeLine/\∀ p,H1 p=none->Q (.ref p) (upd H1 p (.tup xs))
def tLst (t:TA):TE:=fun σ H Q=>t σ H fun xs H1=>xs.length<=sizeLine/\∀ p,H1 p=none->Q (.ref p) (upd H1 p (.lst xs))
theorem pe_tup {x1} (h:PA X es t):PE X (.Tuple es x1 pos) (tTup t):=by
  intro pins s σ H Q I hq
  refine wpAny_Tuple_spliced (thn (h pos pins s σ H _ I hq) fun us s1 ⟨xs,H1,I1,r,z,q⟩=>⟨by rw [← r.length];exact z,?_⟩)
  have hf:H1 s1.heap.objs.size=none:=I1.hok.fresh (Nat.le_refl _)
  refine ⟨.ref s1.heap.objs.size,upd H1 s1.heap.objs.size (.tup xs),I1.laid (t':=s1.toks) (fun b u e=>Heap.get?_push_of_some _ e) (Nat.le_refl _) ?_,rfl,q _ hf⟩
  exact ⟨z,us,r,⟨_,Heap.get?_push_size _ rfl,rfl,_,rfl⟩⟩
theorem pe_lst (h:PA X es t):PE X (.List es pos) (tLst t):=by
  intro pins s σ H Q I hq
  refine wpAny_List_spliced (thn (h pos pins s σ H _ I hq) fun us s1 ⟨xs,H1,I1,r,z,q⟩=>⟨by rw [← r.length];exact z,?_⟩)
  have hf:H1 s1.heap.objs.size=none:=I1.hok.fresh (Nat.le_refl _)
  refine ⟨.ref s1.heap.objs.size,upd H1 s1.heap.objs.size (.lst xs),I1.laid (t':=s1.toks) (fun b u e=>Heap.get?_push_of_some _ e) (Nat.le_refl _) ?_,rfl,q _ hf⟩
  exact ⟨z,us,0,r,Heap.get?_push_size _ rfl⟩
end
abbrev Sp:=List V->Hp->VK->XK->Prop
abbrev CXT:=List Env->Hp->Shared->XK->Value->Shared->Prop
structure Env0 (P:Program) (w:World) (K:PySem.W.Frag) (mg:Str->Option Value) (base:Heap) (A:Around) (outer:List Env) (s:Shared) (H:Hp):Prop where
  frames:A.frames=some outer
  mod:Mod K mg base
  bs:∀ b o,base.get? b=some o->s.heap.get? b=some o/\H b=none
  bsz:base.objs.size<=s.heap.objs.size
  funs:s.heap.FunFrames base outer
  frf:∀ b ∈ frs outer,H b=none
  hok:HOk P w H s.heap
  bare:AllBare s.gens
def CE (outer:List Env) (P:Program) (w:World) (H:Hp) (s:Shared) (Q:VK) (u:Value) (s':Shared):Prop :=
  ∃ v H',s'.os=s.os/\AllBare s'.gens/\Un (frs outer) [] H H' s.heap s'.heap/\HOk P w H' s'.heap/\RelV v u/\Q v H'
def CR (CX:CXT) (outer:List Env) (P:Program) (w:World) (H:Hp) (s:Shared) (Q:VK) (E:XK) (r:Result) (s':Shared):Prop :=
  match r with
  | .ok (.ret u)=>CE outer P w H s Q u s'
  | .ok _=>False
  | .error e=>CX outer H s E e s'
structure FnOk (P:Program) (w:World) (K:PySem.W.Frag) (mg:Str->Option Value) (base:Heap) (CX:CXT) (k:Nat) (f:Addr) (fd:FuncData) (ps:List Str) (sp:Sp):Prop where
  len:∀ vs H Q E,sp vs H Q E->vs.length=ps.length
  run:∀ (A:Around) (outer:List Env) (s:Shared) (H:Hp) (args:Args) (us:List Value) (vs:List V) (Q:VK) (E:XK),Room k A->Env0 P w K mg base A outer s H->BindsTo s fd args (ps.zip us)->Vals vs us->sp vs H Q E ->
    codeAny (model P w) A (.call (.ref f) args) (CR CX outer P w H s Q E) s
theorem Env0.make {P:Program} {w:World} {K:PySem.W.Frag} {mg:Str->Option Value} {base:Heap} {A:Around} {outer:List Env} {s:Shared} {H:Hp} (e:Env0 P w K mg base A outer s H) (C:Addr) (us:List Value) (kw:List (Str × Value)) :
    Env0 P w K mg base (A.under (.builtin "type.__call__" ⟨.ref C::us,kw⟩)) outer s H:=⟨by first | exact e.frames | (simpa [Around.under,Code.envs,Code.isFrame,pushEnvs] using e.frames),e.mod,e.bs,e.bsz,e.funs,e.frf,e.hok,e.bare⟩
section
variable {X:Cx} {pins:List (Addr × Obj)} {σ:St} {H:Hp} {s s':Shared}
theorem Inv.env0 (I:Inv X pins σ H s):Env0 X.prog X.w X.K X.mg X.base X.A X.stack s H :=
  ⟨I.ok.frames,I.ok.mod,I.bs,Nat.le_trans I.ok.bsz I.sz,I.stack,I.stkFree,I.hok,I.bare⟩
theorem Inv.after {Q:VK} {u:Value} (I:Inv X pins σ H s) (h:CE X.stack X.prog X.w H s Q u s'):EP X pins σ Q u s':=by
  obtain ⟨v,H',os,bare,un,hok,r,q⟩:=h
  obtain ⟨hh,g,d,t,os'⟩:=s'
  obtain rfl:os'=s.os:=os
  exact ⟨v,H',I.call (h':=hh) (g':=g) (d':=d) (t':=t) (ch:=[]) un hok bare (fun b z=>absurd z (by simp)),r,q⟩
end
def tCall (sp:Sp) (dvs:List V) (E:XK) (t:TA):TE:=fun σ H Q=>t σ H fun vs H1=>sp (vs++dvs) H1 Q E
def Binds (K:PySem.W.Frag) (fd:FuncData) (ps:List Str) (ds:List Value):Prop :=
  ∀ (s:Shared) (us:List Value),K.In s.heap->(us++ds).length=ps.length->BindsTo s fd ⟨us,[]⟩ (ps.zip (us++ds))
theorem Binds.all {K:PySem.W.Frag} {fd:FuncData} {ps:List Str} (h:∀ us:List Value,us.length=ps.length->bindArgs fd ⟨us,[]⟩=pure (ps.zip us)):Binds K fd ps []:=fun s us _ hl=>by
  rw [List.append_nil] at hl ⊢
  exact .of_eq (h us hl)
def Passes (CX:CXT) (X:Cx) (E:XK):Prop:=∀ (pins:List (Addr × Obj)) (σ:St) (H:Hp) (s:Shared) (e:Value) (s':Shared),Inv X pins σ H s->CX X.stack H s E e s'->X.xe e s'
section
variable {X:Cx} {CX:CXT} {k:Nat} {f C:Addr} {fd:FuncData} {ps:List Str} {sp:Sp} {dvs:List V} {ds:List Value} {E:XK} {x m:Str} {p pos apos:Pos} {e o:Expr} {es:List Expr} {ta:TE} {t:TA}
theorem run_fn {pins:List (Addr × Obj)} {σ:St} {H:Hp} {s:Shared} {Q:VK} {us:List Value} {vs:List V} (F:FnOk X.prog X.w X.K X.mg X.base CX k f fd ps sp) (hr:Room k X.A) (hb:Binds X.K fd ps ds) (hd:Vals dvs ds) (hx:Passes CX X E)
    (I:Inv X pins σ H s) (r:Vals vs us) (h:sp (vs++dvs) H Q E):wpAny (model X.prog X.w) X.A (call (.ref f) us) (EP X pins σ Q) X.xe s:=by
  have r2:Vals (vs++dvs) (us++ds):=r.append hd
  have hl:(us++ds).length=ps.length:=by rw [← r2.length];exact F.len _ _ _ _ h
  refine wpAny_call (codeAny_mono (F.run X.A X.stack s H ⟨us,[]⟩ (us++ds) (vs++dvs) Q E hr I.env0 (hb s us I.kIn hl) r2 h) fun r s' hq=>?_)
  cases r with
  | error e=>exact hx pins σ H s e s' I hq
  | ok fl =>
    cases fl with
    | ret u=>exact I.after hq
    | next=>exact False.elim hq
    | brk=>exact False.elim hq
    | cont=>exact False.elim hq
theorem pe_call (F:FnOk X.prog X.w X.K X.mg X.base CX k f fd ps sp) (hr:Room k X.A) (hg:Gl X x) (hm:X.mg x=some (.ref f)) (hk:PySem.W.keepIn X.K (.ref f)=true) (hb:Binds X.K fd ps ds) (hd:Vals dvs ds) (hx:Passes CX X E)
    (ha:PA X (e::es) t) (hdb:(x == ("__debug__":Str))=false:=by decide) (he:starEach (e::es) X.env=(false,eval e X.env)::starEach es X.env:=by rfl) (hpl:(backTo pos (starEach es X.env)).any (·.1)=false:=by rfl) :
    PE X (.Call (.Name x p) (e::es) [] pos) (tCall sp dvs E t):=by
  intro pins s σ H Q I h
  refine wpAny_Call_Name_kw (ld_glob I hg hm ?_ hdb)
  refine PySem.W.callWith_K (h₀:=X.base) I.ok.mod.kin hk (thn (ha pos pins s σ H _ I h) fun us s1 ⟨vs,H1,I1,r,q⟩=>⟨I1.kIn,?_⟩) he hpl
  exact run_fn F hr hb hd hx I1 r q
end
section
variable {X:Cx} {CX:CXT} {k:Nat} {f C:Addr} {fd:FuncData} {ps ks:List Str} {sp:Sp} {E:XK} {x m:Str} {p pos apos kpos:Pos} {e o:Expr} {es:List Expr} {kws:List Keyword} {te ta:TE} {t tk:TA} {nm:Option Str}
variable {g:List Value->List Value->List Value} {gV:List V->List V->List V}
end
structure FnScope (N P:List Str) (sc:Scope):Prop where
  kind:sc.kind=.function
  co:sc.isCoroutine=false
  gen:sc.isGenerator=false
  nd:N.Nodup
  pre:N.take P.length=P
  par:∀ x ∈ P,sc.names.lookup x=some .local∨sc.names.lookup x=some .cell
  nofree:∀ y ∈ sc.names,y.2≠.free
theorem bindL_out {kindOf:Str->Option NameKind} {x:Str}:∀ {binds:List (Str × Value)} {m:Str->Option Value},(∀ v,(x,v) ∉ binds)->bindL kindOf binds m x=m x
  | [],_,_=>rfl
  | (n,v)::r,m,h=>by
    unfold bindL
    rw [bindL_out fun w hw=>h w (List.mem_cons_of_mem _ hw)]
    split
    · have:x≠n:=by rintro rfl;exact h v List.mem_cons_self
      simp [this]
    · rfl
theorem bindC_out {kindOf:Str->Option NameKind} {x:Str}:∀ {binds:List (Str × Value)} {m:Str->Option Value},(∀ v,(x,v) ∉ binds)->bindC kindOf binds m x=m x
  | [],_,_=>rfl
  | (n,v)::r,m,h=>by
    unfold bindC
    rw [bindC_out fun w hw=>h w (List.mem_cons_of_mem _ hw)]
    split
    · rfl
    · have:x≠n:=by rintro rfl;exact h v List.mem_cons_self
      simp [this]
theorem bindL_get {kindOf:Str->Option NameKind} {x:Str} {v:Value}:∀ {P:List Str} {vs:List Value} {i:Nat} {m:Str->Option Value},P.Nodup->P[i]?=some x->vs[i]?=some v->kindOf x=some .local ->
    bindL kindOf (P.zip vs) m x=some v
  | [],_,_,_,_,h,_,_=>by simp at h
  | _::_,[],_,_,_,_,h,_=>by simp at h
  | p::P,w::vs,0,m,nd,h1,h2,hk=>by
    simp at h1 h2;subst h1;subst h2
    show bindL kindOf ((p,w)::P.zip vs) m p=_
    unfold bindL
    rw [bindL_out fun v hv=>(List.nodup_cons.mp nd).1 (List.of_mem_zip hv).1,if_pos hk]
    simp
  | p::P,w::vs,i+1,m,nd,h1,h2,hk=>by
    show bindL kindOf ((p,w)::P.zip vs) m x=_
    unfold bindL
    exact bindL_get (i:=i) (List.nodup_cons.mp nd).2 (by simpa using h1) (by simpa using h2) hk
theorem bindC_get {kindOf:Str->Option NameKind} {x:Str} {v:Value}:∀ {P:List Str} {vs:List Value} {i:Nat} {m:Str->Option Value},P.Nodup->P[i]?=some x->vs[i]?=some v->kindOf x≠some .local ->
    bindC kindOf (P.zip vs) m x=some v
  | [],_,_,_,_,h,_,_=>by simp at h
  | _::_,[],_,_,_,_,h,_=>by simp at h
  | p::P,w::vs,0,m,nd,h1,h2,hk=>by
    simp at h1 h2;subst h1;subst h2
    show bindC kindOf ((p,w)::P.zip vs) m p=_
    unfold bindC
    rw [bindC_out fun v hv=>(List.nodup_cons.mp nd).1 (List.of_mem_zip hv).1,if_neg hk]
    simp
  | p::P,w::vs,i+1,m,nd,h1,h2,hk=>by
    show bindC kindOf ((p,w)::P.zip vs) m x=_
    unfold bindC
    exact bindC_get (i:=i) (List.nodup_cons.mp nd).2 (by simpa using h1) (by simpa using h2) hk
def start (N:List Str) (vs:List V):St:=vs.map some++List.replicate (N.length - vs.length) none
def cxOf (CX:CXT) (P:Program) (w:World) (K:PySem.W.Frag) (mg:Str->Option Value) (base:Heap) (N:List Str) (qual:Str) (scope:Scope) (f:Addr) (cd:Value) (A:Around) (outer:List Env) (s:Shared) (H:Hp) (E:XK):Cx where
  prog:=P
  w:=w
  K:=K
  mg:=mg
  base:=base
  A:=A.deeper (envOfC qual scope s.heap.objs.size f cd)
  N:=N
  s₀:=s
  H₀:=H
  env:=envOfC qual scope s.heap.objs.size f cd
  outer:=outer
  stack:=envOfC qual scope s.heap.objs.size f cd::outer
  ex:=[]
  calm:=true
  fn:=fun _=>true
  pn:=[]
  xe:=fun e s'=>wpAny (model P w) (A.deeper (envOfC qual scope s.heap.objs.size f cd)) (leaving (envOfC qual scope s.heap.objs.size f cd) e) (fun _ s''=>CX outer H s E e s'') (fun e' s''=>CX outer H s E e' s'') s'
theorem cell_has {sc:Scope} {n:Nat} {x:Str} (h:sc.names.lookup x=some .cell):∃ c,(cellsFrom n sc.names []).lookup x=some c:=by
  have q:=PySem.W.cellsFrom_some sc.names n [] (.inl h)
  exact Option.isSome_iff_exists.mp q
theorem inv_start {CX:CXT} {P:Program} {w:World} {K:PySem.W.Frag} {mg:Str->Option Value} {base:Heap} {N ps:List Str} {qual:Str} {scope:Scope} {f:Addr} {cd:Value} {A:Around} {outer:List Env} {s s1:Shared} {H:Hp} {E:XK} {us:List Value} {vs:List V}
    (S:FnScope N ps scope) (hd:A.handled=none) (e0:Env0 P w K mg base A outer s H) (hl:vs.length=ps.length) (r:Vals vs us)
    (x:InCallC s s.heap.objs.size (bindL (envOfC qual scope s.heap.objs.size f cd).kindOf (ps.zip us) fun _=>none) (cellsFrom (s.heap.objs.size+1) scope.names []) (bindC (envOfC qual scope s.heap.objs.size f cd).kindOf (ps.zip us) fun _=>none) s1) :
    Inv (cxOf CX P w K mg base N qual scope f cd A outer s H E) [] (start N vs) H s1:=by
  have hpl:ps.length<=N.length:=by have:=congrArg List.length S.pre;rw [List.length_take] at this;omega
  obtain ⟨h1,tk,rfl,hk⟩:=x.done
  have noA:∀ b:Addr,b ∉ (cxOf CX P w K mg base N qual scope f cd A outer s H E).ex:=fun b z=>absurd (show b ∈ ([]:List Addr) from z) (by simp)
  refine ⟨⟨e0.mod,S.kind,rfl,rfl,Nat.le_refl _,fun y z c h1 h2=>?_,fun y hy=>?_,fun y c _ h=>?_,fun _=>hd,Around.frames_deeper e0.frames,.inr ⟨rfl,rfl⟩,fun b z=>absurd z (noA b),e0.bs,e0.bsz,fun b _ _=>noA b,fun b z=>absurd z (noA b),e0.funs,e0.frf⟩,
    rfl,e0.bare,Un.kept hk,⟨_,x.toInCall.ns,fun i y v h1 h2 h3=>?_⟩,fun y c h=>⟨_,x.cell y c h⟩,e0.hok.fresh (Nat.le_refl _),fun y c h=>?_,fun p hp=>absurd (show p ∈ ([]:List (Addr × Obj)) from hp) (by simp),e0.hok.kept hk,?_⟩
  · exact name_of_addr x.apart (PySem.mem_of_lookup h1) (PySem.mem_of_lookup h2)
  · have hy:scope.names.lookup y=some .cell∨scope.names.lookup y=some .free:=hy
    rcases hy with hy | hy
    · exact cell_has hy
    · exact absurd rfl (S.nofree _ (PySem.mem_of_lookup hy))
  · exact Nat.le_of_lt (x.above y c (PySem.mem_of_lookup h))
  · have hi:i < vs.length:=by
      unfold start at h2
      by_cases hi:i < vs.length
      · exact hi
      · rw [List.getElem?_append_right (by simpa using hi)] at h2
        rw [List.getElem?_replicate] at h2
        split at h2 <;> cases h2
    have ha:vs[i]?=some v:=by
      unfold start at h2
      rw [List.getElem?_append_left (by simpa using hi),List.getElem?_map] at h2
      cases e:vs[i]? with
      | none=>rw [e] at h2;cases h2
      | some a=>rw [e] at h2;cases h2;rfl
    obtain ⟨u,hu,rv⟩:=r.get ha
    have hp:ps[i]?=some y:=by
      rw [← S.pre,List.getElem?_take_of_lt (by omega)];exact h1
    have ndP:ps.Nodup:=by rw [← S.pre];exact S.nd.sublist (List.take_sublist _ _)
    refine ⟨u,rv,?_⟩
    rcases S.par y (List.mem_of_getElem? hp) with k | k
    · exact .inl ⟨k,bindL_get ndP hp hu k⟩
    · obtain ⟨c,e⟩:=cell_has (n:=s.heap.objs.size+1) k
      refine .inr ⟨.inl k,c,e,?_⟩
      have q:=x.cell y c e
      rw [bindC_get ndP hp hu (by show scope.names.lookup y≠_;rw [k];decide)] at q
      exact q
  · exact e0.hok.fresh (Nat.le_of_lt (x.above y c (PySem.mem_of_lookup h)))
  · unfold start
    show _=N.length
    rw [List.length_append,List.length_map,List.length_replicate]
    omega
theorem fn_of {CX:CXT} {P:Program} {w:World} {K:PySem.W.Frag} {mg:Str->Option Value} {base:Heap} {k:Nat} {f:Addr} {name qual:Str} {params:Arguments} {body:List Stmt} {scope:Scope} {dV kV doc pm cdv ct oc:Value} {an od:Option Addr}
    {osl:Array (Option Value)} {N ps:List Str} {sp:Sp} (lk:K.lookup f=some ⟨oc,od,.func (PySem.W.fnOf name qual params body scope dV kV doc pm an cdv ct),osl⟩) (hcd:PySem.W.codeIn K cdv qual=true) (S:FnScope N ps scope)
    (len:∀ vs H Q E,sp vs H Q E->vs.length=ps.length)
    (hbody:∀ (A:Around) (outer:List Env) (s:Shared) (H:Hp) (vs:List V) (Q:VK) (E:XK),Room k (A.deeper (envOfC qual scope s.heap.objs.size f cdv))->sp vs H Q E ->
      ∃ t,PSs (cxOf CX P w K mg base N qual scope f cdv A outer s H E) body t/\t { nx:=fun _ H'=>Q .non H',rt:=Q } (start N vs) H) :
    FnOk P w K mg base CX (k+1) f (PySem.W.fnOf name qual params body scope dV kV doc pm an cdv ct) ps sp:=by
  refine ⟨len,fun A outer s H args us vs Q E hr e0 hb r hsp=>?_⟩
  have hl:=len _ _ _ _ hsp
  have KX:K.In s.heap:=e0.mod.kin.keeps fun b o e=>(e0.bs b o e).1
  have lim:s.heap.NoLimit:=e0.mod.nolimit.keeps fun b o e=>(e0.bs b o e).1
  have hkind:∀ y ∈ ps.zip us,scope.names.lookup y.1=some .local∨(scope.names.lookup y.1=some .cell/\((cellsFrom (s.heap.objs.size+1) scope.names []).lookup y.1).isSome=true):=fun ⟨n,v⟩ hy=>by
    rcases S.par n (List.of_mem_zip hy).1 with q | q
    · exact .inl q
    · exact .inr ⟨q,PySem.W.cellsFrom_some _ _ _ (.inl q)⟩
  refine codeAny_call_function hr.depth (KX _ _ lk) rfl S.co S.gen rfl (PySem.W.codeRec_of KX hcd) (hb _ _ _ _ ?_)
  refine wpAny_newFunctionEnv_cells S.kind hkind fun env he s1 x=>?_
  subst he
  refine ⟨lim.keeps x.toInCall.keep,codeAny_func ?_⟩
  obtain ⟨t,ht,hq⟩:=hbody A outer s H vs Q E (hr.deeper _) hsp
  have I:Inv (cxOf CX P w K mg base N qual scope f cdv A outer s H E) [] (start N vs) H s1:=inv_start S hr.hd e0 hl r x
  refine wpAny_mono (ht [] s1 (start N vs) H _ I hq) (fun fl s' hs=>?_) fun e s' hs=>hs
  have fin:∀ {σ':St} {H':Hp} {v:V} {u:Value},Inv (cxOf CX P w K mg base N qual scope f cdv A outer s H E) [] σ' H' s'->RelV v u->Q v H'->CE outer P w H s Q u s' :=
    fun {σ' H' v u} J rv q=>⟨v,H',J.os,J.bare,J.base,J.hok,rv,q⟩
  cases fl with
  | ret u =>
    obtain ⟨v,σ',H',J,rv,q⟩:=hs
    exact fin J rv q
  | next =>
    obtain ⟨σ',H',J,q⟩:=hs
    exact fin (v:=V.non) (u:=Value.none) J rfl q
  | brk =>
    obtain ⟨_,_,_,q⟩:=hs
    exact False.elim q
  | cont =>
    obtain ⟨_,_,_,q⟩:=hs
    exact False.elim q
end L2
namespace L2
open PySem PySem.Spec PyProof.Rows
section
variable {X:Cx} {x:Str} {p pos:Pos} {e:Expr} {es:List Expr} {t:TA} {id T:String} {r:List V->Hp->VK->Prop}
def tCB (r:List V->Hp->VK->Prop) (t:TA):TE:=fun σ H Q=>t σ H fun vs H1=>r vs H1 Q
theorem pe_callB (hc:CallR X (.builtin id) r) (hg:Gl X x) (hm:X.mg x=none) (hv:bootBuiltins x=some (.builtin id)) (ha:PA X (e::es) t) (hn:x≠"__name__":=by decide) (hdb:(x == ("__debug__":Str))=false:=by decide)
    (he:starEach (e::es) X.env=(false,eval e X.env)::starEach es X.env:=by rfl) (hpl:(backTo pos (starEach es X.env)).any (·.1)=false:=by rfl):PE X (.Call (.Name x p) (e::es) [] pos) (tCB r t):=by
  intro pins s σ H Q I h
  refine wpAny_Call_Name_kw (ld_blt I hg hm hv ?_ hn hdb)
  exact PyProof.Rows.callWith_builtin1 (thn (ha pos pins s σ H _ I h) fun us s1 ⟨vs,H1,I1,r1,q1⟩=>hc pins s1 σ H1 vs us Q I1 r1 q1) he hpl
theorem pe_callTy (hc:CallR X (.type T) r) (hg:Gl X x) (hm:X.mg x=none) (hv:bootBuiltins x=some (.type T)) (ha:PA X (e::es) t) (hn:x≠"__name__":=by decide) (hdb:(x == ("__debug__":Str))=false:=by decide)
    (he:starEach (e::es) X.env=(false,eval e X.env)::starEach es X.env:=by rfl) (hpl:(backTo pos (starEach es X.env)).any (·.1)=false:=by rfl):PE X (.Call (.Name x p) (e::es) [] pos) (tCB r t):=by
  intro pins s σ H Q I h
  refine wpAny_Call_Name_kw (ld_blt I hg hm hv ?_ hn hdb)
  exact PyProof.Rows.callWith_type1 (thn (ha pos pins s σ H _ I h) fun us s1 ⟨vs,H1,I1,r1,q1⟩=>hc pins s1 σ H1 vs us Q I1 r1 q1) he hpl
end
end L2
namespace HT
open PySem PyProof.Rows
section
open PySem.SeqAt
open PySem.AutoSeq1 (wpAny_loadPart')
open PySem.MeetsSeq PySem.MeetsSeq2 PySem.MeetsSeq3
end
section
variable {prog:Program} {w:World} {A:Around} {E:Value->Shared->Prop} {s:Shared}
theorem cat_tup {t b:Addr} {vs ws:List Value} {Q:Value->Shared->Prop} (ht:IsTup s.heap t vs.toArray) (hb:IsTup s.heap b ws.toArray) (hv:vs≠[])
    (h1:ws=[]->Q (.ref t) s) (h2:ws≠[]->Q (.ref s.heap.objs.size) { s with heap:=s.heap.push { cls:=.type "tuple",data:=.seq (vs++ws).toArray } })
    (hsz:vs.length+ws.length<=sizeLine):wpAny (model prog w) A (binaryOp .Add (.ref t) (.ref b)) Q E s:=by
  obtain ⟨⟨cls,dd,data,sl⟩,ho,hc,n,hd⟩:=id ht
  obtain ⟨⟨cls2,dd2,data2,sl2⟩,ho2,hc2,n2,hd2⟩:=id hb
  simp only at hc hd hc2 hd2
  subst hc hd hc2 hd2
  have e:vs.toArray++ws.toArray=(vs++ws).toArray:=by simp
  by_cases hw:ws=[]
  · exact concat_meets ⟨_,ho,rfl⟩ ⟨_,ho2,rfl⟩ noFill_tuple_add seq_tuple_add PySem.F.slot_tuple_add PySem.F.entry_tuple_add (PySem.F.args_tuple_add_2 _ _)
      (tuple_addW1 t b vs.toArray ws.toArray n n2 dd dd2 sl sl2 (by simpa using hv) (by simp [hw])) ⟨ho,ho2,h1 hw⟩
  · refine concat_meets ⟨_,ho,rfl⟩ ⟨_,ho2,rfl⟩ noFill_tuple_add seq_tuple_add PySem.F.slot_tuple_add PySem.F.entry_tuple_add (PySem.F.args_tuple_add_2 _ _)
      (tuple_addW2 t b vs.toArray ws.toArray n n2 dd dd2 sl sl2 (by simpa using hv) (by simpa using hw) (by rw [List.size_toArray,List.size_toArray];exact hsz)) ⟨ho,ho2,?_⟩
    rw [e]
    exact h2 hw
def sIx (n d:Nat):Option Int->Nat
  | none=>d
  | some v=>if v < 0 then (v+(n:Int)).toNat else min v.toNat n
theorem sIx_none (n d:Nat):sIx n d none=d:=rfl
theorem sIx_nat (n d k:Nat):sIx n d (some (k:Int))=min k n:=by
  show (if (k:Int) < 0 then ((k:Int)+(n:Int)).toNat else min (k:Int).toNat n)=min k n
  rw [if_neg (by omega),Int.toNat_natCast]
theorem sIx_le (n d:Nat) (hd:d<=n) (o:Option Int):sIx n d o<=n:=by
  cases o with
  | none=>exact hd
  | some v =>
    show (if v < 0 then (v+(n:Int)).toNat else min v.toNat n)<=n
    by_cases hv:v < 0
    · rw [if_pos hv];omega
    · rw [if_neg hv];exact Nat.min_le_right _ _
theorem clip_eq (v:Int) (n d:Nat):(if v < 0 then max (v+(n:Int)) 0 else min v (n:Int))=((sIx n d (some v):Nat):Int):=by
  show (if v < 0 then max (v+(n:Int)) 0 else min v (n:Int))=(((if v < 0 then (v+(n:Int)).toNat else min v.toNat n):Nat):Int)
  by_cases hv:v < 0
  · simp only [if_pos hv];omega
  · simp only [if_neg hv];omega
theorem adjust_gen (lo hi:Option Int) (n:Nat):Builtin.Slice.sliceAdjust lo hi 1 (n:Int)=(((sIx n 0 lo:Nat):Int),((sIx n n hi:Nat):Int)):=by
  have h1:¬ ((1:Int) < 0):=by omega
  unfold Builtin.Slice.sliceAdjust
  simp only [h1,if_false]
  refine Prod.ext ?_ ?_
  · cases lo with
    | none=>rfl
    | some v=>exact clip_eq v n 0
  · cases hi with
    | none=>rfl
    | some v=>exact clip_eq v n n
theorem places_gen (i j:Nat):Builtin.Slice.slicePlaces (i:Int) (j:Int) 1=j - i:=by
  unfold Builtin.Slice.slicePlaces
  have h1:(1:Int) > 0:=by omega
  simp only [h1,if_true,Int.ediv_one]
  split <;> omega
theorem slicePart_ {v:Value} {o:Option Int} {Q:Option Int->Shared->Prop} (p:IsPart v o) (h:Q o s):wpAny (model prog w) A (Builtin.Slice.slicePartIndex v) Q E s:=by
  cases p with
  | none=>exact slicePart_none h
  | int i t=>exact slicePart_int h
theorem sliceApplied_gen {sl:Addr} {vl vu:Value} {lo hi:Option Int} {n:Nat} {Q:Int × Int × Nat->Shared->Prop} (hs:s.heap.IsSliceOf sl vl vu .none) (pl:IsPart vl lo) (pu:IsPart vu hi)
    (h:Q (((sIx n 0 lo:Nat):Int),1,sIx n n hi - sIx n 0 lo) s):wpAny (model prog w) A (Builtin.Slice.sliceApplied (.ref sl) (pure (n:Int))) Q E s:=by
  obtain ⟨os,hos,hcs,hds⟩:=id hs
  unfold Builtin.Slice.sliceApplied Builtin.Slice.sliceFields
  refine wpAny_bind (wpAny_bind (wpAny_field hos hds (x:=vl) rfl (wpAny_bind (wpAny_field hos hds (x:=vu) rfl (wpAny_bind (wpAny_field hos hds (x:=.none) rfl (wpAny_pure ?_)))))))
  refine wpAny_bind (slicePart_none ?_)
  show wpAny _ _ (if ((1:Int) == 0)=true then _ else _) _ _ s
  rw [if_neg (by decide)]
  refine wpAny_bind (slicePart_ pl (wpAny_bind (slicePart_ pu (wpAny_bind (wpAny_pure ?_)))))
  show wpAny _ _ (match Builtin.Slice.sliceAdjust lo hi 1 (n:Int) with | (lo,hi)=>pure (lo,(1:Int),Builtin.Slice.slicePlaces lo hi 1)) _ _ s
  rw [adjust_gen lo hi n]
  show wpAny _ _ (pure (((sIx n 0 lo:Nat):Int),(1:Int),Builtin.Slice.slicePlaces ((sIx n 0 lo:Nat):Int) ((sIx n n hi:Nat):Int) 1)) _ _ s
  rw [places_gen]
  exact wpAny_pure h
theorem pick_gen (xs:Array Value) (i k:Nat):((List.range k).filterMap fun (m:Nat)=>xs[((i:Int)+(m:Int) * 1).toNat]?).toArray=((xs.toList.drop i).take k).toArray:=by
  have e:(fun (m:Nat)=>xs[((i:Int)+(m:Int) * 1).toNat]?)=fun m=>xs[i+m]?:=by
    funext m
    have:((i:Int)+(m:Int) * 1).toNat=i+m:=by omega
    rw [this]
  rw [e]
  have:=pick_run xs i k
  rw [List.filterMap_map] at this
  have e2:((fun x=>xs[x]?) ∘ fun x=>i+x)=fun m=>xs[i+m]?:=rfl
  rw [e2] at this
  rw [this]
theorem getItem_tuple_cut {t sl:Addr} {items:Array Value} {vl vu:Value} {lo hi:Option Int} {Q:Value->Shared->Prop} (ht:IsTup s.heap t items) (hs:s.heap.IsSliceOf sl vl vu .none) (pl:IsPart vl lo) (pu:IsPart vu hi)
    (hw:¬ (sIx items.size 0 lo=0/\sIx items.size items.size hi=items.size))
    (h:Q (.ref s.heap.objs.size) { s with heap:=s.heap.push { cls:=.type "tuple",data:=.seq ((items.toList.drop (sIx items.size 0 lo)).take (sIx items.size items.size hi - sIx items.size 0 lo)).toArray } })
    (hsz:items.size<=sizeLine):wpAny (model prog w) A (getItem (.ref t) (.ref sl)) Q E s:=by
  have htake:sizeOk (.seq ((items.toList.drop (sIx items.size 0 lo)).take (sIx items.size items.size hi - sIx items.size 0 lo)).toArray):=by
    show ((items.toList.drop (sIx items.size 0 lo)).take (sIx items.size items.size hi - sIx items.size 0 lo)).toArray.size<=sizeLine
    rw [List.size_toArray,List.length_take,List.length_drop,Array.length_toList]
    omega
  have hj:sIx items.size items.size hi<=items.size:=sIx_le _ _ (Nat.le_refl _) hi
  obtain ⟨os,hos,hcs,hds⟩:=id hs
  have hTs:s.TypeIs (.ref sl) "slice":=⟨os,hos,hcs⟩
  unfold getItem
  try with_reducible refine wpAny_holding ?_
  first | refine wpAny_bind (wpAny_pure ?_) | skip
  refine wpAny_bind (wpAny_sequenceKey ht.typeIs (by decide) ?_)
  refine wpAny_bind (wpAny_callSpecial?_slot (name:=Str.ofString "__getitem__") ht.typeIs PyProof.Rows.slot_tuple_getitem
    (wpAny_call_entry PyProof.Rows.slot_tuple_getitem ht.typeIs entry_tuple_getitem ?_ (args_tuple_getitem _ _)))
  show wpAny _ _ (Builtin.Tuple.tupleItemsOf (.ref t) >>= _) _ _ s
  refine wpAny_bind (tupleItemsOf_ ht ?_)
  refine wpAny_bind (wpAny_typeOf hTs ?_)
  rw [if_pos (by decide)]
  refine wpAny_bind (sliceApplied_gen hs pl pu ?_)
  have hno:¬ ((((sIx items.size 0 lo:Nat):Int) == 0 && (1:Int) == 1 && (sIx items.size items.size hi - sIx items.size 0 lo) == items.size)=true):=by
    intro q
    rw [Bool.and_eq_true,Bool.and_eq_true] at q
    have q1:((sIx items.size 0 lo:Nat):Int)=0:=eq_of_beq q.1.1
    have q2:sIx items.size items.size hi - sIx items.size 0 lo=items.size:=eq_of_beq q.2
    exact hw ⟨by omega,by omega⟩
  show wpAny _ _ (if (((sIx items.size 0 lo:Nat):Int) == 0 && (1:Int) == 1 && (sIx items.size items.size hi - sIx items.size 0 lo) == items.size)=true then _ else _) _ _ s
  rw [if_neg hno,pick_gen]
  first
    | exact wpAny_bind (m:=Builtin.Tuple.tupleExact _) (wpAny_newObj_type (wpAny_pure ⟨_,rfl,wpAny_pure h⟩) htake)
    | exact wpAny_bind (m:=Builtin.Tuple.tupleExact _) (wpAny_newObj_type (wpAny_bind (wpAny_pure (wpAny_pure ⟨_,rfl,wpAny_pure h⟩))) htake)
    | exact wpAny_bind (wpAny_bind (m:=Builtin.Tuple.tupleExact _) (wpAny_newObj_type (wpAny_pure (wpAny_pure ⟨_,rfl,wpAny_pure h⟩)) htake))
    | exact wpAny_bind (wpAny_bind (m:=Builtin.Tuple.tupleExact _) (wpAny_newObj_type (wpAny_pure ⟨_,rfl,wpAny_pure h⟩) htake))
end
end HT
namespace L2
open PySem PySem.Spec PyProof.Rows
abbrev TO:=St->Hp->(Option Int->Hp->Prop)->Prop
def PO (X:Cx) (e:Option Expr) (t:TO):Prop :=
  ∀ (pins:List (Addr × Obj)) (s:Shared) (σ:St) (H:Hp) (Q:Option Int->Hp->Prop),Inv X pins σ H s->t σ H Q ->
    wpAny (model X.prog X.w) X.A (evalPart e X.env) (fun u s'=>∃ o H',Inv X pins σ H' s'/\IsPart u o/\Q o H') X.xe s
def tNoPart:TO:=fun _ H Q=>Q none H
def tPart (t:TE):TO:=fun σ H Q=>t σ H fun x H1=>∃ i,x=.int i/\Q (some i) H1
section
variable {X:Cx} {e:Expr} {te:TE} {lo hi:Option Expr} {tl th:TO} {pos p2:Pos}
theorem po_none:PO X none tNoPart:=by
  intro pins s σ H Q I h
  rw [evalPart_none]
  exact wpAny_pure ⟨none,H,I,.none,h⟩
theorem po_some (h:PE X e te):PO X (some e) (tPart te):=by
  intro pins s σ H Q I hw
  rw [evalPart_some]
  refine thn (h pins s σ H _ I hw) fun u s1 ⟨x,H1,I1,r1,q1⟩=>?_
  obtain ⟨i,rfl,q⟩:=q1
  obtain ⟨t,rfl⟩:=r1
  exact ⟨some i,H1,I1,.int i t,q⟩
def SlR (X:Cx) (r:V->Option Int->Option Int->Hp->VK->Prop):Prop :=
  ∀ (pins:List (Addr × Obj)) (s:Shared) (σ:St) (H:Hp) (x:V) (v vl vu:Value) (lo hi:Option Int) (sl:Addr) (Q:VK),Inv X pins σ H s->RelV x v->s.heap.IsSliceOf sl vl vu .none->IsPart vl lo->IsPart vu hi->r x lo hi H Q ->
    ∃ T id,typeLookup (.type T) "__getitem__"=pure (some (.builtin id))/\s.TypeIs v T/\wpAny (model X.prog X.w) X.A (getItem v (.ref sl)) (EP X pins σ Q) X.xe s
theorem SlR.or {r r':V->Option Int->Option Int->Hp->VK->Prop} (h:SlR X r) (h':SlR X r'):SlR X (fun x lo hi H Q=>r x lo hi H Q∨r' x lo hi H Q):=by
  intro pins s σ H x v vl vu lo hi sl Q I rx hs pl pu q
  rcases q with q | q
  · exact h pins s σ H x v vl vu lo hi sl Q I rx hs pl pu q
  · exact h' pins s σ H x v vl vu lo hi sl Q I rx hs pl pu q
def tSl (r:V->Option Int->Option Int->Hp->VK->Prop) (te:TE) (tl th:TO):TE:=fun σ H Q=>te σ H fun x H1=>tl σ H1 fun l H2=>th σ H2 fun u H3=>r x l u H3 Q
theorem pe_slice {r:V->Option Int->Option Int->Hp->VK->Prop} (hr:SlR X r) (he:PE X e te) (hl:PO X lo tl) (hu:PO X hi th):PE X (.Subscript e (.Slice lo hi none p2) pos) (tSl r te tl th):=by
  intro pins s σ H Q I h
  refine Subscript_ (thn (he pins s σ H _ I h) fun v s1 ⟨x,H1,I1,r1,q1⟩=>?_)
  refine wpAny_Slice (thn (hl pins s1 σ H1 _ I1 q1) fun vl s2 ⟨l,H2,I2,pl,q2⟩=>thn (hu pins s2 σ H2 _ I2 q2) fun vu s3 ⟨u,H3,I3,pu,q3⟩=>?_)
  rw [evalPart_none]
  refine wpAny_pure ?_
  have I4:Inv X pins σ H3 { s3 with heap:=s3.heap.push { cls:=.type "slice",data:=.fields #[vl,vu,.none] } }:=I3.kept (t':=s3.toks) fun b ob q=>Heap.get?_push_of_some _ q
  obtain ⟨T,id,hT,ht,hg⟩:=hr pins { s3 with heap:=s3.heap.push { cls:=.type "slice",data:=.fields #[vl,vu,.none] } } σ H3 x v vl vu l u s3.heap.objs.size Q I4 r1 (Heap.IsSliceOf.new ..) pl pu q3
  show wpAny (model X.prog X.w) X.A (subscriptTail e (.Slice lo hi none p2) v (.ref s3.heap.objs.size)) (EP X pins σ Q) X.xe { s3 with heap:=s3.heap.push { cls:=.type "slice",data:=.fields #[vl,vu,.none] } }
  exact tail_any (ops:=[.ref s3.heap.objs.size,v]) ht hT hg (by with_unfolding_all rfl)
def cutV (xs:List V) (lo hi:Option Int):List V:=(xs.drop (HT.sIx xs.length 0 lo)).take (HT.sIx xs.length xs.length hi - HT.sIx xs.length 0 lo)
theorem cutV_length (xs:List V) (lo hi:Option Int):(cutV xs lo hi).length<=xs.length:=by
  unfold cutV
  rw [List.length_take,List.length_drop]
  omega
def rSlT (K:PySem.W.Frag):V->Option Int->Option Int->Hp->VK->Prop:=fun x lo hi H Q=>∃ a xs,x=.ref a/\SqT K H a xs /\
  ¬ (HT.sIx xs.length 0 lo=0/\HT.sIx xs.length xs.length hi=xs.length)/\∀ p,H p=none->Q (.ref p) (upd H p (.tup (cutV xs lo hi)))
theorem sl_tup:SlR X (rSlT X.K):=by
  intro pins s σ H x v vl vu lo hi sl Q I rx hs pl pu h
  obtain ⟨a,xs,rfl,hx,hw,q⟩:=h
  cases rx
  obtain ⟨its,r,ht,hz⟩:=I.tuple hx
  have hlen:its.toArray.size=xs.length:=by rw [List.size_toArray];exact r.length.symm
  refine ⟨"tuple",_,PyProof.Rows.slot_tuple_getitem.lookup,ht.typeIs,?_⟩
  refine HT.getItem_tuple_cut ht hs pl pu (by rw [hlen];exact hw) ?_ (by rw [hlen];exact hz)
  rw [hlen]
  refine ⟨.ref s.heap.objs.size,_,I.laid (t':=s.toks) (o:=.tup (cutV xs lo hi)) (fun b ob q=>Heap.get?_push_of_some _ q) (Nat.le_refl _) ?_,rfl,q _ (I.hok.fresh (Nat.le_refl _))⟩
  exact ⟨Nat.le_trans (cutV_length xs lo hi) hz,_,(r.drop (HT.sIx xs.length 0 lo)).take (HT.sIx xs.length xs.length hi - HT.sIx xs.length 0 lo),IsTup.new _ _⟩
def rCatT (K:PySem.W.Frag):R2:=fun x y H Q=>∃ a b xs ys,x=.ref a/\y=.ref b/\SqT K H a xs/\SqT K H b ys/\xs≠[]/\xs.length+ys.length<=sizeLine /\
  (ys=[]->Q (.ref a) H)/\(ys≠[]->∀ p,H p=none->Q (.ref p) (upd H p (.tup (xs++ys))))
theorem Vals.nil_iff {xs:List V} {us:List Value} (r:Vals xs us):us=[]↔xs=[]:=by
  cases r with
  | nil=>simp
  | cons _ _=>simp
theorem jch:OpR X (binaryOp .Add) (rCatT X.K):=by
  intro pins s σ H x y v u Q I rx ry h
  obtain ⟨a,b,xs,ys,rfl,rfl,ha,hb,hx,hz,q1,q2⟩:=h
  cases rx
  cases ry
  obtain ⟨its,r1,p1,_⟩:=I.tuple ha
  obtain ⟨its2,r2,p2,_⟩:=I.tuple hb
  refine HT.cat_tup p1 p2 (fun z=>hx (r1.nil_iff.mp z)) (fun z=>⟨.ref a,H,I,rfl,q1 (r2.nil_iff.mp z)⟩) (fun z=>?_) (by rw [← r1.length,← r2.length];exact hz)
  refine ⟨.ref s.heap.objs.size,_,I.laid (t':=s.toks) (o:=.tup (xs++ys)) (fun b ob q=>Heap.get?_push_of_some _ q) (Nat.le_refl _) ?_,rfl,q2 (fun w=>z (r2.nil_iff.mpr w)) _ (I.hok.fresh (Nat.le_refl _))⟩
  exact ⟨by rw [List.length_append];exact hz,_,r1.append r2,IsTup.new _ _⟩
end
end L2
namespace L2
open PySem PySem.Spec PyProof.Rows
def ixN (n:Nat) (i:Int):Option Nat:=if 0<=i then (if i < n then some i.toNat else none) else if -(n:Int)<=i then some (i+n).toNat else none
def atI {α:Type} (xs:List α) (i:Int):Option α:=(ixN xs.length i).bind fun j=>xs[j]?
theorem ixN_seq {n:Nat} {i:Int} {j:Nat} (h:ixN n i=some j):seqIndex? i n=some j/\j < n/\-(n:Int)<=i/\i < n:=by
  unfold ixN at h
  by_cases h0:0<=i
  · rw [if_pos h0] at h
    by_cases h1:i < n
    · rw [if_pos h1] at h
      have e:i.toNat=j:=Option.some.inj h
      exact ⟨by rw [seqIndex_of h0 h1,e],by omega,by omega,h1⟩
    · rw [if_neg h1] at h;cases h
  · rw [if_neg h0] at h
    by_cases h1:-(n:Int)<=i
    · rw [if_pos h1] at h
      have e:(i+n).toNat=j:=Option.some.inj h
      exact ⟨by rw [seqIndex_neg (by omega) h1,e],by omega,h1,by omega⟩
    · rw [if_neg h1] at h;cases h
theorem atI_get {α:Type} {xs:List α} {i:Int} {v:α} (h:atI xs i=some v):∃ j,seqIndex? i xs.length=some j/\xs[j]?=some v/\j < xs.length/\-(xs.length:Int)<=i/\i < xs.length:=by
  unfold atI at h
  cases e:ixN xs.length i with
  | none=>rw [e] at h;cases h
  | some j =>
    rw [e] at h
    obtain ⟨h1,h2,h3,h4⟩:=ixN_seq e
    exact ⟨j,h1,h,h2,h3,h4⟩
theorem atI_nat {α:Type} {xs:List α} {j:Nat} {v:α} (h:xs[j]?=some v):atI xs (j:Int)=some v:=by
  have hj:j < xs.length:=(List.getElem?_eq_some_iff.mp h).1
  have e:ixN xs.length (j:Int)=some j:=by
    unfold ixN
    rw [if_pos (by omega),if_pos (by omega)];simp
  unfold atI;rw [e];exact h
theorem atI_last {α:Type} (xs:List α) (v:α):atI (xs++[v]) (-1)=some v:=by
  have hl:(xs++[v]).length=xs.length+1:=by simp
  have e:ixN (xs++[v]).length (-1)=some xs.length:=by
    unfold ixN
    rw [hl,if_neg (by decide),if_pos (by omega)]
    congr 1
    omega
  unfold atI
  rw [e]
  show (xs++[v])[xs.length]?=some v
  simp
def PlainIx (b:Expr):Prop:=∀ o i,subscripted b false o i=operate [o,i] (getItem o i)
def IxR (X:Cx) (r:R2):Prop :=
  ∀ (value slice:Expr) (pins:List (Addr × Obj)) (s:Shared) (σ:St) (H:Hp) (x y:V) (v u:Value) (Q:VK),Inv X pins σ H s->RelV x v->RelV y u->r x y H Q ->
    subscripted slice false v u=operate [v,u] (getItem v u)->wpAny (model X.prog X.w) X.A (subscriptTail value slice v u) (EP X pins σ Q) X.xe s
def MtR (X:Cx) (id:String) (r:V->List V->Hp->VK->Prop):Prop :=
  ∀ (pins:List (Addr × Obj)) (s:Shared) (σ:St) (H:Hp) (x:V) (xs:List V) (v:Value) (us:List Value) (Q:VK),Inv X pins σ H s->RelV x v->Vals xs us->r x xs H Q ->
    wpAny (model X.prog X.w) X.A (call (.builtin id) (v::us)) (EP X pins σ Q) X.xe s
section
variable {X:Cx} {a b:Expr} {ta tb:TE} {pos:Pos}
theorem pe_ix {r:R2} (hr:IxR X r) (ha:PE X a ta) (hb:PE X b tb) (hs:PlainIx b):PE X (.Subscript a b pos) (tOp r ta tb):=by
  intro pins s σ H Q I h
  exact Subscript_ (binT ha hb I h fun v u s2 x y H2 I2 rx ry q=>hr a b pins s2 σ H2 x y v u Q I2 rx ry q (hs _ _))
def rIxL (K:PySem.W.Frag):R2:=fun x y H Q=>∃ p xs i v,x=.ref p/\y=.int i/\SqL K H p xs/\atI xs i=some v/\Q v H
def rIxT (K:PySem.W.Frag):R2:=fun x y H Q=>∃ p xs i v,x=.ref p/\y=.int i/\SqT K H p xs/\atI xs i=some v/\Q v H
def rIxS:R2:=fun x y H Q=>∃ z i c,x=.str z/\y=.int i/\z.length<=sizeLine/\atI z.cps.toList i=some c/\Q (.str ⟨#[c]⟩) H
theorem jbt:IxR X (rIxL X.K):=by
  intro value slice pins s σ H x y v u Q I rx ry h hs
  obtain ⟨p,xs,i,z,rfl,rfl,hq,he,q⟩:=h
  cases rx
  obtain ⟨t,rfl⟩:=ry
  obtain ⟨its,r,pl,hz⟩:=I.list hq
  obtain ⟨j,h1,h2,h3,h4,h5⟩:=atI_get he
  obtain ⟨w,ew,rw'⟩:=r.get h2
  have hl:=r.length
  have hn:=line63
  have fin:EP X pins σ Q w s:=⟨z,H,I,rw',q⟩
  by_cases h0:0<=i
  · have hj:i.toNat=j:=by
      rw [seqIndex_of h0 h5] at h1
      exact Option.some.inj h1
    exact item_listR pl.isList h0 (by omega) (by rw [hj];simpa using ew) fin hs
  · have hj:(i+(its.toArray.size:Int)).toNat=j:=by
      rw [seqIndex_neg (by omega) h4] at h1
      rw [List.size_toArray,← hl]
      exact Option.some.inj h1
    exact subscriptTail_builtinR (x:=w) pl.isList.typeIs slot_list_getitem.lookup
      (wpAny_getItem_list_neg (Q:=fun r s'=>r=w/\EP X pins σ Q r s') pl.isList (by omega) (by rw [List.size_toArray] <;> omega) (by omega) (by rw [hj];simpa using ew) ⟨rfl,fin⟩) hs
theorem ix_tup:IxR X (rIxT X.K):=by
  intro value slice pins s σ H x y v u Q I rx ry h hs
  obtain ⟨p,xs,i,z,rfl,rfl,hq,he,q⟩:=h
  cases rx
  obtain ⟨t,rfl⟩:=ry
  obtain ⟨its,r,pl,hz⟩:=I.tuple hq
  obtain ⟨j,h1,h2,h3,h4,h5⟩:=atI_get he
  obtain ⟨w,ew,rw'⟩:=r.get h2
  have hl:=r.length
  have hn:=line63
  have fin:EP X pins σ Q w s:=⟨z,H,I,rw',q⟩
  exact subscriptTail_builtinR (x:=w) pl.typeIs slot_tuple_getitem.lookup
    (getItem_tuple (j:=j) (Q:=fun r s'=>r=w/\EP X pins σ Q r s') pl (by omega) (by omega) (by rw [List.size_toArray,← hl];exact h1) (by simpa using ew) ⟨rfl,fin⟩) hs
theorem ix_str:IxR X rIxS:=by
  intro value slice pins s σ H x y v u Q I rx ry h hs
  obtain ⟨z,i,c,rfl,rfl,hz,he,q⟩:=h
  obtain ⟨t,rfl⟩:=rx
  obtain ⟨t',rfl⟩:=ry
  obtain ⟨j,h1,h2,h3,h4,h5⟩:=atI_get he
  have hl:z.cps.toList.length=z.length:=by simp [Str.length]
  rw [hl] at h1 h4 h5
  have hn:=line63
  exact tail_any (typeIs_str s z t) slot_str_getitem.lookup (getItem_str (c:=c) (by
    have e1:decide (i < -(2 ^ 63:Int))=false:=decide_eq_false (by omega)
    have e2:decide (i ≥ 2 ^ 63)=false:=decide_eq_false (by omega)
    rw [e1,e2,Bool.or_false]) (by rw [h1];simpa using h2) ⟨.str ⟨#[c]⟩,H,I.tok _,⟨_,rfl⟩,q⟩) hs
theorem mapSeq_set (its:List Value) (n j:Nat) (u:Value):Obj.mapSeq (·.setIfInBounds j u) { cls:=.type "list",data:=.seq its.toArray n }={ cls:=.type "list",data:=.seq (its.set j u).toArray n }:=by
  simp [Obj.mapSeq]
theorem Inv.lst {pins:List (Addr × Obj)} {σ:St} {H:Hp} {s:Shared} {p:Addr} {xs:List V} (I:Inv X pins σ H s) (h:H p=some (.lst xs)) :
    ∃ (its:List Value) (n:Nat),Vals xs its/\s.heap.get? p=some { cls:=.type "list",data:=.seq its.toArray n }/\xs.length<=sizeLine:=by
  obtain ⟨z,its,n,r,e⟩:=I.hok p _ h
  exact ⟨its,n,r,e,z⟩
theorem Inv.lstUpd {pins:List (Addr × Obj)} {σ:St} {H:Hp} {s:Shared} {p:Addr} {xs ys:List V} {its its':List Value} {n n':Nat} {f:Obj->Obj} (I:Inv X pins σ H s) (h:H p=some (.lst xs))
    (ho:s.heap.get? p=some { cls:=.type "list",data:=.seq its.toArray n }) (hf:f { cls:=.type "list",data:=.seq its.toArray n }={ cls:=.type "list",data:=.seq its'.toArray n' }) (r:Vals ys its') (hz:ys.length<=sizeLine) (t:Nat) :
    Inv X pins σ (upd H p (.lst ys)) { s with heap:=s.heap.update p f,toks:=t }:=by
  have e:(s.heap.update p f).get? p=some { cls:=.type "list",data:=.seq its'.toArray n' }:=by
    rw [Heap.get?_update_self f ho (by rw [hf] <;> rfl),hf]
  refine I.write (x:=p) (e:=p) (by rw [h];trivial) (.inl rfl) (fun b u hb q=>(Heap.get?_update_other _ _ (Ne.symm hb)).trans q) ⟨_,e⟩ ?_
  exact ⟨hz,its',n',r,e⟩
def rSetL:V->V->V->Hp->(Hp->Prop)->Prop:=fun o i v H Q=>∃ p xs k j,o=.ref p/\i=.int k/\H p=some (.lst xs)/\ixN xs.length k=some j/\Q (upd H p (.lst (xs.set j v)))
theorem set_list:PSet X rSetL:=by
  intro pins s σ H o i v ov iv u Q I ro ri rv h
  obtain ⟨p,xs,k,j,rfl,rfl,hp,hj,q⟩:=h
  cases ro
  obtain ⟨t,rfl⟩:=ri
  obtain ⟨its,n,r,ho,hz⟩:=I.lst hp
  obtain ⟨h1,h2,h3,h4⟩:=ixN_seq hj
  have hl:=r.length
  have hn:=line63
  have I':Inv X pins σ (upd H p (.lst (xs.set j v))) { s with heap:=s.heap.update p (Obj.mapSeq (·.setIfInBounds j u)) } :=
    I.lstUpd hp ho (mapSeq_set its n j u) (r.set rv j) (by rw [List.length_set];exact hz) s.toks
  by_cases h0:0<=k
  · have hk:k.toNat=j:=by
      rw [seqIndex_of h0 h4] at h1
      exact Option.some.inj h1
    exact PySem.W.ki_setAt ho h0 (by omega) (by rw [List.size_toArray,← hl];exact h4) (by rw [hk];exact ⟨_,I',q⟩)
  · have hk:(k+(its.toArray.size:Int)).toNat=j:=by
      rw [seqIndex_neg (by omega) h3] at h1
      rw [List.size_toArray,← hl]
      exact Option.some.inj h1
    exact PySem.W.ki_setBack ho (by omega) (by rw [List.size_toArray,← hl];exact h3) (by omega) (by rw [hk];exact ⟨_,I',q⟩)
theorem slice_bounds (lo hi:Option Int) (n:Nat):(sliceBounds lo hi none n).1=((HT.sIx n 0 lo:Nat):Int)/\(sliceBounds lo hi none n).2.1=((HT.sIx n n hi:Nat):Int)/\(sliceBounds lo hi none n).2.2=1:=by
  refine ⟨?_,?_,rfl⟩
  · cases lo with
    | none=>simp [sliceBounds,HT.sIx]
    | some i =>
      simp only [sliceBounds,HT.sIx,Option.getD_none,show (1:Int) > 0 by decide,if_true]
      by_cases h:i < 0
      · simp only [h,if_true] <;> omega
      · simp only [h,if_false] <;> omega
  · cases hi with
    | none=>simp [sliceBounds,HT.sIx]
    | some i =>
      simp only [sliceBounds,HT.sIx,Option.getD_none,show (1:Int) > 0 by decide,if_true]
      by_cases h:i < 0
      · simp only [h,if_true] <;> omega
      · simp only [h,if_false] <;> omega
theorem slicePick_cut (its:List Value) (lo hi:Option Int):slicePick its.toArray lo hi none=((its.drop (HT.sIx its.length 0 lo)).take (HT.sIx its.length its.length hi - HT.sIx its.length 0 lo)).toArray:=by
  obtain ⟨h1,h2,h3⟩:=slice_bounds lo hi its.toArray.size
  unfold slicePick
  rw [h1,h2,h3]
  simp only [sliceRange_one,pick_run,List.size_toArray] <;> rfl
def rSlL (K:PySem.W.Frag):V->Option Int->Option Int->Hp->VK->Prop:=fun x lo hi H Q=>∃ a xs,x=.ref a/\SqL K H a xs/\∀ p,H p=none->Q (.ref p) (upd H p (.lst (cutV xs lo hi)))
theorem sl_list:SlR X (rSlL X.K):=by
  intro pins s σ H x v vl vu lo hi sl Q I rx hs pl pu h
  obtain ⟨a,xs,rfl,hx,q⟩:=h
  cases rx
  obtain ⟨its,r,ht,hz⟩:=I.list hx
  have hlen:=r.length
  refine ⟨"list",_,slot_list_getitem.lookup,ht.isList.typeIs,?_⟩
  refine wpAny_getItem_list_slice ht.isList hs pl pu .none (by simp) ?_ (by rw [List.size_toArray] <;> omega)
  rw [slicePick_cut,← hlen]
  refine ⟨.ref s.heap.objs.size,_,I.laid (t':=s.toks) (o:=.lst (cutV xs lo hi)) (fun b ob q=>Heap.get?_push_of_some _ q) (Nat.le_refl _) ?_,rfl,q _ (I.hok.fresh (Nat.le_refl _))⟩
  exact ⟨Nat.le_trans (cutV_length xs lo hi) hz,_,0,(r.drop (HT.sIx xs.length 0 lo)).take (HT.sIx xs.length xs.length hi - HT.sIx xs.length 0 lo),Heap.get?_push_size _ rfl⟩
def flatV:V->Bool
  | .non=>true
  | .bl _=>true
  | .int _=>true
  | .str _=>true
  | _=>false
def eqV:V->V->Bool
  | .non,.non=>true
  | .bl a,.bl b=>a == b
  | .bl a,.int b=>(if a then 1 else 0) == b
  | .int a,.bl b=>a == (if b then 1 else 0)
  | .int a,.int b=>a == b
  | .str a,.str b=>a == b
  | _,_=>false
theorem eqAt_V {A:Around} {s:Shared} {y x:V} {u v:Value} (ry:RelV y u) (rx:RelV x v) (fy:flatV y=true) (fx:flatV x=true):SeqAt.EqAt A s u v (eqV y x):=by
  cases y with
  | non =>
    cases ry
    cases x with
    | non=>cases rx;exact SeqAt.EqAt.same _
    | bl b=>cases rx;exact SeqAt.EqAt.none_bool b
    | int b=>obtain ⟨t,rfl⟩:=rx;exact SeqAt.EqAt.none_int b t
    | str b=>obtain ⟨t,rfl⟩:=rx;exact SeqAt.EqAt.none_str b t
    | _=>exact absurd (show false=true from fx) Bool.false_ne_true
  | bl a =>
    cases ry
    cases x with
    | non=>cases rx;exact SeqAt.EqAt.bool_none a
    | bl b=>cases rx;exact SeqAt.EqAt.bool_bool a b
    | int b=>obtain ⟨t,rfl⟩:=rx;exact SeqAt.EqAt.bool_int a b t
    | str b=>obtain ⟨t,rfl⟩:=rx;exact SeqAt.EqAt.bool_str a b t
    | _=>exact absurd (show false=true from fx) Bool.false_ne_true
  | int a =>
    obtain ⟨t',rfl⟩:=ry
    cases x with
    | non=>cases rx;exact SeqAt.EqAt.int_none a t'
    | bl b=>cases rx;exact SeqAt.EqAt.int_bool a t' b
    | int b=>obtain ⟨t,rfl⟩:=rx;exact SeqAt.EqAt.int_int a t' b t
    | str b=>obtain ⟨t,rfl⟩:=rx;exact SeqAt.EqAt.int_str a t' b t
    | _=>exact absurd (show false=true from fx) Bool.false_ne_true
  | str a =>
    obtain ⟨t',rfl⟩:=ry
    cases x with
    | non=>cases rx;exact SeqAt.EqAt.str_none a t'
    | bl b=>cases rx;exact SeqAt.EqAt.str_bool a t' b
    | int b=>obtain ⟨t,rfl⟩:=rx;exact SeqAt.EqAt.str_int a t' b t
    | str b=>obtain ⟨t,rfl⟩:=rx;exact SeqAt.EqAt.str_str a t' b t
    | _=>exact absurd (show false=true from fx) Bool.false_ne_true
  | _=>exact absurd (show false=true from fy) Bool.false_ne_true
def eqU (x:V) (u:Value):Bool:=match u with
  | .none=>eqV .non x
  | .bool b=>eqV (.bl b) x
  | .int i _=>eqV (.int i) x
  | .str z _=>eqV (.str z) x
  | _=>false
theorem eqU_of {x y:V} {u:Value} (r:RelV y u) (f:flatV y=true):eqU x u=eqV y x:=by
  cases y with
  | non=>cases r;rfl
  | bl b=>cases r;rfl
  | int i=>obtain ⟨t,rfl⟩:=r;rfl
  | str z=>obtain ⟨t,rfl⟩:=r;rfl
  | _=>exact absurd (show false=true from f) Bool.false_ne_true
theorem any_eqU {x:V}:∀ {xs:List V} {us:List Value},Vals xs us->xs.all flatV=true->us.any (eqU x)=xs.any fun y=>eqV y x
  | _,_,.nil,_=>rfl
  | y::xs,u::us,.cons r t,f=>by
    rw [List.all_cons,Bool.and_eq_true] at f
    rw [List.any_cons,List.any_cons,eqU_of r f.1,any_eqU t f.2]
theorem mem_eqAt {A:Around} {s:Shared} {x:V} {v:Value} (rx:RelV x v) (fx:flatV x=true):∀ {xs:List V} {us:List Value},Vals xs us->xs.all flatV=true->∀ u ∈ us,SeqAt.EqAt A s u v (eqU x u)
  | _,_,.nil,_=>fun u hu=>by cases hu
  | y::xs,u::us,.cons r t,f=>fun u' hu=>by
    rw [List.all_cons,Bool.and_eq_true] at f
    rcases List.mem_cons.mp hu with rfl | hu
    · rw [eqU_of r f.1];exact eqAt_V r rx f.1 fx
    · exact mem_eqAt rx fx t f.2 u' hu
def inV (x:V) (xs:List V):Bool:=xs.any fun y=>eqV y x
def rIn (K:PySem.W.Frag) (neg:Bool):R2:=fun x y H Q=>∃ p xs,y=.ref p/\(SqL K H p xs∨SqT K H p xs)/\flatV x=true/\xs.all flatV=true/\Q (.bl (if neg then !inV x xs else inV x xs)) H
theorem op_in_seq:OpR X (compareOp .In) (rIn X.K false):=by
  intro pins s σ H x y v u Q I rx ry h
  obtain ⟨p,xs,rfl,hq,fx,fs,q⟩:=h
  cases ry
  rcases hq with hq | hq
  · obtain ⟨its,r,pl,hz⟩:=I.list hq
    refine SeqAt.in_listAt (eqU x) pl.isList (fun w hw=>mem_eqAt rx fx r fs w (by simpa using hw)) ⟨.bl _,H,I,rfl,?_⟩
    rw [show its.toArray.any (eqU x)=its.any (eqU x) by simp,any_eqU r fs]
    exact q
  · obtain ⟨its,r,pl,hz⟩:=I.tuple hq
    refine SeqAt.in_tupleAt (eqU x) pl (fun w hw=>mem_eqAt rx fx r fs w (by simpa using hw)) ⟨.bl _,H,I,rfl,?_⟩
    rw [show its.toArray.any (eqU x)=its.any (eqU x) by simp,any_eqU r fs]
    exact q
theorem op_notIn_seq:OpR X (compareOp .NotIn) (rIn X.K true):=by
  intro pins s σ H x y v u Q I rx ry h
  obtain ⟨p,xs,rfl,hq,fx,fs,q⟩:=h
  cases ry
  rcases hq with hq | hq
  · obtain ⟨its,r,pl,hz⟩:=I.list hq
    refine SeqAt.notIn_listAt (eqU x) pl.isList (fun w hw=>mem_eqAt rx fx r fs w (by simpa using hw)) ⟨.bl _,H,I,rfl,?_⟩
    rw [show its.toArray.any (eqU x)=its.any (eqU x) by simp,any_eqU r fs]
    exact q
  · obtain ⟨its,r,pl,hz⟩:=I.tuple hq
    refine SeqAt.notIn_tupleAt (eqU x) pl (fun w hw=>mem_eqAt rx fx r fs w (by simpa using hw)) ⟨.bl _,H,I,rfl,?_⟩
    rw [show its.toArray.any (eqU x)=its.any (eqU x) by simp,any_eqU r fs]
    exact q
theorem op_notIn_str:OpR X (compareOp .NotIn) (fun x y H Q=>∃ i j,x=.str i/\y=.str j/\Q (.bl (!(!(Builtin.Str.occurrences j i 0 j.length 1).isEmpty))) H):=by
  intro pins s σ H x y v u Q I rx ry h
  obtain ⟨i,j,rfl,rfl,q⟩:=h
  obtain ⟨t,rfl⟩:=rx
  obtain ⟨t',rfl⟩:=ry
  exact notIn_str ⟨.bl _,H,I,rfl,q⟩
theorem zv:CallR X (.builtin "len") (fun xs H Q=>∃ p ys,xs=[.ref p]/\(SqL X.K H p ys∨SqT X.K H p ys)/\Q (.int ys.length) H):=by
  intro pins s σ H xs us Q I r h
  obtain ⟨p,ys,rfl,hq,q⟩:=h
  obtain ⟨u,rfl,rx⟩:=vals1 r
  cases rx
  have hn:=line63
  rcases hq with hq | hq
  · obtain ⟨its,r',pl,hz⟩:=I.list hq
    have hlen:=r'.length
    exact Calls.call_len_list pl.isList (by simp only [List.size_toArray] <;> omega) ⟨.int ys.length,H,I.tok _,⟨s.toks+1,by rw [List.size_toArray,hlen]⟩,q⟩
  · obtain ⟨its,r',pl,hz⟩:=I.tuple hq
    have hlen:=r'.length
    exact len_tuple pl (by simp only [List.size_toArray] <;> omega) ⟨.int ys.length,H,I.tok _,⟨s.toks+1,by rw [List.size_toArray,hlen]⟩,q⟩
theorem call_len_str:CallR X (.builtin "len") (fun xs H Q=>∃ z,xs=[.str z]/\z.length<=sizeLine/\Q (.int z.length) H):=by
  intro pins s σ H xs us Q I r h
  obtain ⟨z,rfl,hz,q⟩:=h
  obtain ⟨u,rfl,t,rfl⟩:=vals1 r
  have hn:=line63
  exact len_str (by omega) ⟨.int z.length,H,I.tok _,⟨_,rfl⟩,q⟩
theorem jbc:CallR X (.type "list") (fun xs H Q=>∃ p ys,xs=[.ref p]/\(SqL X.K H p ys∨SqT X.K H p ys)/\∀ l,H l=none->Q (.ref l) (upd H l (.lst ys))):=by
  intro pins s σ H xs us Q I r h
  obtain ⟨p,ys,rfl,hq,q⟩:=h
  obtain ⟨u,rfl,rx⟩:=vals1 r
  cases rx
  have fin:∀ (its:List Value),Vals ys its->ys.length<=sizeLine->∀ (h':Heap) (c':Nat),(∀ b o',s.heap.get? b=some o'->h'.get? b=some o') ->
      h'.get? s.heap.objs.size=some { cls:=.type "list",dict:=none,data:=.seq its.toArray c',slots:=#[] }->EP X pins σ Q (.ref s.heap.objs.size) { s with heap:=h' }:=fun its r' hz h' c' kp e =>
    ⟨.ref s.heap.objs.size,_,I.laid (t':=s.toks) kp (Nat.le_refl _) (show ObjOk X.prog X.w _ h' _ (.lst ys) from ⟨hz,its,c',r',e⟩),rfl,q _ (I.hok.fresh (Nat.le_refl _))⟩
  rcases hq with hq | hq
  · obtain ⟨its,r',pl,hz⟩:=I.list hq
    have hlen:=r'.length
    obtain ⟨o,ho,hc,n,hd⟩:=pl.isList
    exact call_list_seq p (.inl rfl) ho hc hd (fun h' c' kp e=>fin its r' hz h' c' kp e) (by simp only [List.size_toArray] <;> omega)
  · obtain ⟨its,r',pl,hz⟩:=I.tuple hq
    have hlen:=r'.length
    obtain ⟨o,ho,hc,n,hd⟩:=pl
    exact call_list_seq p (.inr rfl) ho hc hd (fun h' c' kp e=>fin its r' hz h' c' kp e) (by simp only [List.size_toArray] <;> omega)
theorem ja9:CallR X (.type "tuple") (fun xs H Q=>∃ p ys,xs=[.ref p]/\((SqL X.K H p ys/\∀ l,H l=none->Q (.ref l) (upd H l (.tup ys)))∨(SqT X.K H p ys/\Q (.ref p) H))):=by
  intro pins s σ H xs us Q I r h
  obtain ⟨p,ys,rfl,h⟩:=h
  obtain ⟨u,rfl,rx⟩:=vals1 r
  cases rx
  rcases h with ⟨hq,q⟩ | ⟨hq,q⟩
  · obtain ⟨its,r',pl,hz⟩:=I.list hq
    have hlen:=r'.length
    refine call_tuple_list pl.isList (fun h' kp=>?_) (by simp only [List.size_toArray] <;> omega)
    have I1:Inv X pins σ H { s with heap:=h' }:=I.kept (t':=s.toks) kp
    have I2:Inv X pins σ (upd H h'.objs.size (.tup ys)) { s with heap:=h'.push { cls:=.type "tuple",data:=.seq its.toArray } } :=
      I1.laid (t':=s.toks) (fun b o e=>Heap.get?_push_of_some _ e) (Nat.le_refl _) (show ObjOk X.prog X.w _ _ _ (.tup ys) from ⟨hz,its,r',IsTup.new _ _⟩)
    exact ⟨.ref h'.objs.size,_,I2,rfl,q _ (I1.hok.fresh (Nat.le_refl _))⟩
  · obtain ⟨its,r',pl,hz⟩:=I.tuple hq
    exact call_tuple_same pl ⟨.ref p,H,I,rfl,q⟩
def tyV (K:PySem.W.Frag) (T:String) (x:V) (H:Hp):Prop:=match x with
  | .str _=>T="str"
  | .int _=>T="int"
  | .ref p=>(T="list"/\∃ xs,SqL K H p xs)∨(T="tuple"/\∃ o,K.lookup p=some o/\o.cls=.type "tuple"/\o.dict=none) ∨
      (T="dict"/\((∃ kvs,H p=some (.dK kvs))∨∃ kvs,H p=some (.dT kvs)))∨(T="set"/\∃ S n,H p=some (.set S n))
  | _=>False
theorem tyV_is {pins:List (Addr × Obj)} {σ:St} {H:Hp} {s:Shared} {T:String} {x:V} {v:Value} (I:Inv X pins σ H s) (r:RelV x v) (ty:tyV X.K T x H) :
    s.TypeIs v T/\∀ a,v=.ref a->∃ ob,s.heap.get? a=some ob/\ob.dict=none:=by
  cases x with
  | str z =>
    obtain ⟨t,rfl⟩:=r
    cases (show T="str" from ty)
    exact ⟨typeIs_str s z t,fun _ e=>nomatch e⟩
  | int i =>
    obtain ⟨t,rfl⟩:=r
    cases (show T="int" from ty)
    exact ⟨typeIs_int s i t,fun _ e=>nomatch e⟩
  | ref p =>
    cases r
    rcases ty with ⟨rfl,xs,hq⟩ | ⟨rfl,o,hk,hc,hd⟩ | ⟨rfl,hk⟩ | ⟨rfl,S,n,hk⟩
    · obtain ⟨its,_,pl,_⟩:=I.list hq
      refine ⟨pl.isList.typeIs,fun a e=>?_⟩
      cases e
      obtain ⟨o,n,e,c,hd,_⟩:=pl
      exact ⟨o,e,hd⟩
    · refine ⟨⟨o,I.kIn p o hk,hc⟩,fun a e=>?_⟩
      cases e
      exact ⟨o,I.kIn _ o hk,hd⟩
    · have z:∃ o,s.heap.get? p=some o/\o.ExactDict:=by
        rcases hk with ⟨kvs,hk⟩ | ⟨kvs,hk⟩
        · obtain ⟨_,_,_,_,o,_,_,e,ex,_⟩:=I.hok p _ hk
          exact ⟨o,e,ex⟩
        · obtain ⟨_,_,_,_,o,_,_,e,ex,_⟩:=I.hok p _ hk
          exact ⟨o,e,ex⟩
      obtain ⟨o,e,ex⟩:=z
      refine ⟨⟨o,e,ex.1⟩,fun a e2=>?_⟩
      cases e2
      exact ⟨o,e,ex.2.1⟩
    · obtain ⟨o,_,_,_,e,ex,_⟩:=I.hok p _ hk
      refine ⟨⟨o,e,ex.1⟩,fun a e2=>?_⟩
      cases e2
      exact ⟨o,e,ex.2.1⟩
  | _=>exact False.elim ty
def tBM0 (K:PySem.W.Frag) (T:String) (r:V->List V->Hp->VK->Prop) (to:TE):TE:=fun σ H Q=>to σ H fun x H1=>tyV K T x H1/\r x [] H1 Q
def tBM (K:PySem.W.Frag) (T:String) (r:V->List V->Hp->VK->Prop) (to:TE) (t:TA):TE:=fun σ H Q=>to σ H fun x H1=>tyV K T x H1/\t σ H1 fun xs H2=>r x xs H2 Q
variable {o e:Expr} {es:List Expr} {to:TE} {t:TA} {name:Str} {apos cpos:Pos} {T id:String} {r:V->List V->Hp->VK->Prop}
theorem pe_bm0 (pa:PlainAttrs T) (slot:Slot T name id) (hty:typeOf (.builtin id)=pure (.type "method_descriptor")) (hm:MtR X id r) (ho:PE X o to)
    (hbase:attributeBase o name X.env (eval o X.env)=eval o X.env:=by rfl) (hline:(apos.endLine == cpos.line)=true:=by rfl):PE X (.Call (.Attribute o name apos) [] [] cpos) (tBM0 X.K T r to):=by
  intro pins s σ H Q I h
  refine wpAny_Call_method0_late hbase hline (thn (ho pins s σ H _ I h) fun v s1 ⟨x,H1,I1,r1,ty,q1⟩=>?_)
  obtain ⟨h1,h2⟩:=tyV_is I1 r1 ty
  exact ⟨T,id,pa,slot,hty,h1,h2,Calls.callWith_builtin rfl (PySem.evalArgs_none (hm pins s1 σ H1 x [] v [] Q I1 r1 .nil q1))⟩
theorem jcq (pa:PlainAttrs T) (slot:Slot T name id) (hty:typeOf (.builtin id)=pure (.type "method_descriptor")) (hm:MtR X id r) (ho:PE X o to) (ha:PA X (e::es) t)
    (hbase:attributeBase o name X.env (eval o X.env)=eval o X.env:=by rfl)
    (hfew:((backTo cpos (starEach (e::es) X.env)).all (fun x=>!x.1) && (backToKw cpos (keywordEach [] X.env)).all (fun x=>x.1.isSome)
      && decide ((e::es).length+([]:List Keyword).length+(if ([]:List Keyword).isEmpty then 0 else 1) < 30))=true:=by rfl)
    (hline:(apos.endLine == cpos.line)=true:=by rfl) (hs:starEach (e::es) X.env=(false,eval e X.env)::starEach es X.env:=by rfl) (hplain:(backTo cpos (starEach es X.env)).any (·.1)=false:=by rfl) :
    PE X (.Call (.Attribute o name apos) (e::es) [] cpos) (tBM X.K T r to t):=by
  intro pins s σ H Q I h
  refine wpAny_Call_method_late hbase hfew hline rfl (thn (ho pins s σ H _ I h) fun v s1 ⟨x,H1,I1,r1,ty,q1⟩=>?_)
  obtain ⟨h1,h2⟩:=tyV_is I1 r1 ty
  refine ⟨T,id,pa,slot,hty,h1,h2,?_⟩
  have hA:=ha cpos pins s1 σ H1 _ I1 q1
  rw [hs] at hA ⊢
  refine Calls.callWith_builtin (by show (false || (backTo cpos (starEach es X.env)).any (·.1))=false;rw [hplain] <;> rfl) (Calls.evalArgs_plain ?_)
  exact thn hA fun us s2 ⟨vs,H2,I2,r2,q2⟩=>hm pins s2 σ H2 x vs v us Q I2 r1 r2 q2
end
end L2
namespace L2
open PySem PySem.Spec PyProof.Rows
def MtM (X:Cx) (id:String) (r:V->List V->Hp->VK->Prop):Prop :=
  ∀ (pins:List (Addr × Obj)) (s:Shared) (σ:St) (H:Hp) (x:V) (xs:List V) (v:Value) (us:List Value) (Q:VK),Inv X pins σ H s->RelV x v->Vals xs us->r x xs H Q ->
    wpAny (model X.prog X.w) X.A (call (.builtin id) (v::us)) (EP X pins σ Q) X.xe s
theorem Vals.one:∀ {x:V} {us:List Value},Vals [x] us->∃ u,us=[u]/\RelV x u
  | _,_,.cons r .nil=>⟨_,rfl,r⟩
theorem Vals.eraseIdx:∀ {xs:List V} {us:List Value} (i:Nat),Vals xs us->Vals (xs.eraseIdx i) (us.eraseIdx i)
  | _,_,_,.nil=>.nil
  | _,_,0,.cons _ t=>t
  | _,_,i+1,.cons r t=>.cons r (Vals.eraseIdx i t)
theorem Vals.rep {xs:List V} {us:List Value} (h:Vals xs us):∀ k:Nat,Vals (List.replicate k xs).flatten (List.replicate k us).flatten
  | 0=>.nil
  | k+1=>by
    rw [List.replicate_succ,List.replicate_succ,List.flatten_cons,List.flatten_cons]
    exact Vals.append h (Vals.rep h k)
theorem len_erase {α:Type}:∀ (l:List α) (i:Nat),(l.eraseIdx i).length<=l.length
  | [],_=>Nat.le_refl _
  | _::_,0=>Nat.le_succ _
  | _::r,i+1=>Nat.succ_le_succ (len_erase r i)
theorem foldl_rep (its:List Value):∀ (k:Nat) (acc:List Value),
    List.foldl (fun x1 x2=>x1++x2) acc.toArray (List.replicate k its.toArray)=(acc++(List.replicate k its).flatten).toArray
  | 0,acc=>by simp
  | k+1,acc=>by
    have e:acc.toArray++its.toArray=(acc++its).toArray:=by simp
    have e2:(acc++its)++(List.replicate k its).flatten=acc++(List.replicate (k+1) its).flatten:=by
      rw [List.replicate_succ,List.flatten_cons,List.append_assoc]
    rw [← e2,← foldl_rep its k (acc++its),← e,List.replicate_succ,List.foldl_cons]
section
variable {X:Cx} {pins:List (Addr × Obj)} {σ:St} {H:Hp} {s:Shared} {l b:Addr} {xs ys zs:List V}
theorem Inv.lset {its its':List Value} {n:Nat} {f:Array Value->Array Value} {t':Nat} (I:Inv X pins σ H s) (hH:H l=some (.lst xs))
    (e:s.heap.get? l=some { cls:=.type "list",data:=.seq its.toArray n }) (hf:f its.toArray=its'.toArray) (hv:Vals ys its') (hz:ys.length<=sizeLine) :
    Inv X pins σ (upd H l (.lst ys)) { s with heap:=s.heap.update l (Obj.mapSeq f),toks:=t' }:=by
  have q:=PySem.IsL.update e f
  rw [hf] at q
  refine I.write (x:=l) (e:=l) (by rw [hH];exact trivial) (.inl rfl) (fun b' u hb hu=>(Heap.get?_update_other s.heap (Obj.mapSeq f) (Ne.symm hb)).trans hu) ⟨_,q⟩ ?_
  exact ⟨hz,its',_,hv,q⟩
theorem Inv.lnew {its:List Value} {t':Nat} (I:Inv X pins σ H s) (hv:Vals ys its) (hz:ys.length<=sizeLine) :
    Inv X pins σ (upd H s.heap.objs.size (.lst ys)) { s with heap:=s.heap.push { cls:=.type "list",data:=.seq its.toArray },toks:=t' } :=
  I.laid (fun _ _ q=>Heap.get?_push_of_some _ q) (Nat.le_refl _) ⟨hz,its,0,hv,Heap.get?_push_size _ rfl⟩
theorem Inv.fresh (I:Inv X pins σ H s):H s.heap.objs.size=none:=I.hok.fresh (Nat.le_refl _)
theorem Inv.lstM (I:Inv X pins σ H s) (hH:H l=some (.lst xs)):xs.length<=sizeLine/\∃ (its:List Value) (n:Nat),Vals xs its/\xs.length=its.length/\s.heap.get? l=some { cls:=.type "list",data:=.seq its.toArray n }:=by
  obtain ⟨z,its,n,r,e⟩:=I.hok l _ hH
  exact ⟨z,its,n,r,r.length,e⟩
theorem notLongL {n:Nat} (h:n<=sizeLine):Builtin.List.listTooLong n=false:=by
  unfold Builtin.List.listTooLong
  exact decide_eq_false (by omega)
end
section
variable {X:Cx}
def rAppend:V->List V->Hp->VK->Prop:=fun x vs H Q=>∃ l xs y,x=.ref l/\vs=[y]/\H l=some (.lst xs)/\xs.length < sizeLine/\Q .non (upd H l (.lst (xs++[y])))
theorem jba:MtM X "list.append" rAppend:=by
  intro pins s σ H x vs v us Q I rx rv h
  obtain ⟨l,xs,y,rfl,rfl,hH,hz,q⟩:=h
  cases rx
  obtain ⟨u,rfl,ru⟩:=rv.one
  obtain ⟨z,its,n,r,hl,e⟩:=I.lstM hH
  refine call_meets F.slot_list_append ⟨_,e,rfl⟩ F.entry_list_append (F.args_list_append_2 _ _) (PySem.list_append l its.toArray n u (by rw [List.size_toArray];omega)) ⟨e,?_⟩
  refine ⟨.non,_,I.lset (its':=its++[u]) hH e (by simp) (r.append (.cons ru .nil)) ?_,rfl,q⟩
  rw [List.length_append,List.length_singleton]
  omega
def rPopAt:V->List V->Hp->VK->Prop:=fun x vs H Q=>∃ l xs i k y,x=.ref l/\vs=[.int i]/\H l=some (.lst xs)/\-(2 ^ 63)<=i/\i < 2 ^ 63/\seqIndex? i xs.length=some k/\xs[k]?=some y/\Q y (upd H l (.lst (xs.eraseIdx k)))
theorem mt_popAt:MtM X "list.pop" rPopAt:=by
  intro pins s σ H x vs v us Q I rx rv h
  obtain ⟨l,xs,i,k,y,rfl,rfl,hH,h1,h2,hk,hy,q⟩:=h
  cases rx
  obtain ⟨u,rfl,ru⟩:=rv.one
  obtain ⟨t,rfl⟩:=ru
  obtain ⟨z,its,n,r,hl,e⟩:=I.lstM hH
  obtain ⟨w,hw,rw'⟩:=r.get hy
  refine call_meets F.slot_list_pop ⟨_,e,rfl⟩ F.entry_list_pop (F.args_list_pop_2 _ _)
    (MeetsSeq.list_pop_at l its.toArray n i t k w (fitsIndex_both h1 h2) (by rw [List.size_toArray,← hl];exact hk) (by rw [← Array.getElem?_toList];exact hw) (by rw [List.size_toArray];omega)) ⟨e,?_⟩
  refine ⟨y,_,I.lset (its':=its.eraseIdx k) hH e ?_ (r.eraseIdx k) ?_,rw',q⟩
  · show its.toArray.eraseIdxIfInBounds k=(its.eraseIdx k).toArray
    rw [List.eraseIdxIfInBounds_toArray]
  · have:=len_erase xs k
    omega
def rCat:R2:=fun x y H Q=>∃ l b xs zs,x=.ref l/\y=.ref b/\H l=some (.lst xs)/\H b=some (.lst zs)/\xs.length+zs.length<=sizeLine/\∀ p,H p=none->Q (.ref p) (upd H p (.lst (xs++zs)))
theorem op_cat:OpR X (binaryOp .Add) rCat:=by
  intro pins s σ H x y v u Q I rx ry h
  obtain ⟨l,b,xs,zs,rfl,rfl,hH,hB,hz,q⟩:=h
  cases rx
  cases ry
  obtain ⟨z,its,n,r,hl,e⟩:=I.lstM hH
  obtain ⟨z2,its2,n2,r2,hl2,e2⟩:=I.lstM hB
  refine PySem.P.add_list e e2 ?_ (by rw [List.size_toArray,List.size_toArray];omega)
  have ea:its.toArray++its2.toArray=(its++its2).toArray:=by simp
  rw [ea]
  exact ⟨.ref _,_,I.lnew (t':=s.toks) (r.append r2) (by rw [List.length_append];omega),rfl,q _ I.fresh⟩
def rRep:R2:=fun x y H Q=>∃ l k xs,x=.ref l/\y=.int k/\H l=some (.lst xs)/\-(2 ^ 63)<=k/\k < 2 ^ 63/\xs.length * k.toNat<=sizeLine /\
  ∀ p,H p=none->Q (.ref p) (upd H p (.lst (List.replicate k.toNat xs).flatten))
theorem len_rep {α:Type} (xs:List α) (k:Nat):(List.replicate k xs).flatten.length=k * xs.length:=by
  induction k with
  | zero=>simp
  | succ k ih=>rw [List.replicate_succ,List.flatten_cons,List.length_append,ih,Nat.succ_mul,Nat.add_comm]
theorem op_rep:OpR X (binaryOp .Mult) rRep:=by
  intro pins s σ H x y v u Q I rx ry h
  obtain ⟨l,k,xs,rfl,rfl,hH,h1,h2,hz,q⟩:=h
  cases rx
  obtain ⟨t,rfl⟩:=ry
  obtain ⟨z,its,n,r,hl,e⟩:=I.lstM hH
  have hlen:its.toArray.size * k.toNat<=sizeLine:=by rw [List.size_toArray,← hl];exact hz
  have hcap:¬ its.toArray.size * k.toNat > (2 ^ 63 - 1) / 8:=by
    have:(sizeLine:Nat)<=(2 ^ 63 - 1) / 8:=by decide
    omega
  have hfit:¬ (!Builtin.List.listFitsIndex k)=true:=by
    rw [fitsIndex_both h1 h2]
    exact Bool.false_ne_true
  have hlong:¬ Builtin.List.listTooLong (its.toArray.size * k.toNat)=true:=by
    rw [notLongL hlen]
    exact Bool.false_ne_true
  have hnew:List.foldl (fun x1 x2=>x1++x2) #[] (List.replicate (if its.toArray.isEmpty=true then 0 else k.toNat) its.toArray)=(List.replicate k.toNat its).flatten.toArray:=by
    have f0:∀ m:Nat,List.foldl (fun x1 x2=>x1++x2) #[] (List.replicate m its.toArray)=(List.replicate m its).flatten.toArray:=fun m=>by
      have:=foldl_rep its m []
      rw [List.nil_append] at this
      exact this
    rw [f0]
    cases its with
    | nil=>simp
    | cons a r'=>rw [if_neg (by simp)]
  refine wpAny_binaryOp_repeat_ref (T:="list") (U:="int") (by decide) ⟨_,e,rfl⟩ (fun s'=>typeIs_int s' k t) noFill_list_mul F.fills_int_mul F.slot_int_rmul repeat_list F.slot_int_index.lookup
    (call_meets F.slot_int_rmul (typeIs_int s k t) F.entry_int_rmul (F.args_int_rmul_2 _ _) (int___rmul___int_list k t l its.toArray n)
      ⟨e,rfl,⟨_,e,rfl⟩,call_meets F.slot_list_mul ⟨_,e,rfl⟩ F.entry_list_mul (F.args_list_mul_2 _ _) (AutoListH.list___mul___list_int_3 l its.toArray n k t hfit hcap hlong) ⟨e,?_⟩⟩)
  rw [hnew]
  exact ⟨.ref _,_,I.lnew (t':=s.toks) (r.rep k.toNat) (by rw [len_rep,Nat.mul_comm];exact hz),rfl,q _ I.fresh⟩
end
section
variable {prog:Program} {w:World} {A:Around} {E:Value->Shared->Prop} {s:Shared}
end
section
variable {X:Cx}
end
end L2
namespace Att
open PySem PySem.W PySem.Calls PyProof.Rows
theorem ints_of_wellAll {P:Params} {h:Heap}:∀ (ns:List Int) (vs:List Value),WellAll P h vs (ns.map WData.int)->IntsAre vs ns:=by
  intro ns
  induction ns with
  | nil =>
    intro vs w
    rw [List.map_nil] at w
    cases w
    exact .nil
  | cons n ns ih =>
    intro vs w
    rw [List.map_cons] at w
    cases w with
    | cons a b =>
      cases a
      exact .cons _ _ (ih _ b)
theorem script_of {l:OpenLaw} {n:Nat} (hn:l.most=some n) {P:Params} {h:Heap} {args:List WData} {vals:List Value}
    (hpre:l.row.toRowW.claim.pre args=true) (hwl:WellAll P h vals args) :
    ∃ a vs ns,vals=[Value.ref a]/\args=[WData.list (ns.map WData.int)]/\h.get? a=some { cls:=.type "list",data:=.seq vs.toArray }/\IntsAre vs ns/\ns.length<=n:=by
  have hsh:WShape.hasAll [] args [.list .int]=true:=(pre_splitW hpre).1
  have hc:l.pre.holds [] { args:=args }=true:=(pre_splitW hpre).2
  obtain ⟨d,r,rfl,h1,h2⟩:=hasAllW_cons hsh
  obtain rfl:=hasAllW_nil h2
  obtain ⟨xs,rfl,h3⟩:=hasW_list h1
  obtain ⟨ns,rfl⟩:=items_int h3
  have hlen:ns.length<=n:=by
    unfold OpenLaw.pre at hc
    have h4:(WTm.not (.lt (.lit (.int (n:Int))) (.len (.arg 0)))).holds [] { args:=[.list (ns.map .int)] }=true:=by
      have h4:=(holds_andW hc).1
      rw [hn] at h4
      exact h4
    have h5:=condW_of h4 (w_not (w_lt w_lit (w_len_list (w_arg rfl))))
    rw [List.length_map] at h5
    refine Nat.le_of_not_lt fun q=>?_
    have q':(n:Int) < ((ns.length:Nat):Int):=by omega
    first
      | (rw [decide_eq_true q'] at h5;exact absurd h5 (by decide))
      | (simp at h5;omega)
  cases hwl with
  | cons w1 w2 =>
    cases w2
    cases w1 with
    | list ho hall=>exact ⟨_,_,ns,rfl,rfl,ho,ints_of_wellAll ns _ hall,hlen⟩
theorem post_true (l:OpenLaw) (args:List WData):l.row.toRowW.claim.post args (.bool true) args=true :=
  postW_of (r:=l.row.toRowW) (X:=(true == true))
    (show WShape.has [] (.bool true) .bool=true by first | rfl | decide | simp [WShape.has,WShape.arms,WShape.armsAll])
    (show (WTm.eq .res (.lit (.bool true))).value [] { args:=args,res:=some (.bool true),after:=args }=some (.bool (true == true)) from w_eq_bool (w_res rfl) w_lit) rfl
theorem attach_call {l:OpenLaw} {n:Nat} {q:Program} {loose:List Str} {XP:(Str->Option Value)->Heap->Prop} {YP:World->Heap->Prop} {d:DefRec}
    (hn:l.most=some n) (hdf:d.params.defaults=[])
    (call:∀ (w:World) (s₀ s₁:Shared) (mg mb:Str->Option Value) (fa:Addr) (o:Obj) (pm cd doc:Value) (a:Addr) (vs:List Value) (ns:List Int),
      Ground q loose [] XP w s₀ mg mb s₁.heap->YP w s₁.heap ->
      s₁.heap.get? fa=some o->o.data=.func (docDef d.name d.params d.body d.scope pm cd doc)->s₁.heap.CodeRec cd d.name->mg d.name=some (.ref fa) ->
      s₁.heap.get? a=some { cls:=.type "list",data:=.seq vs.toArray }->IntsAre vs ns->ns.length<=n->s₁.gens=#[] ->
      codeAny (model l.prog w) callerA (.call (.ref fa) ⟨[.ref a],[]⟩) (fun r s'=>r=.ok (.ret (.bool true))/\OldK s₁.heap s'.heap/\s'.os=s₁.os/\AllBare s'.gens) s₁) :
    WalkO q loose XP YP l.row.toRowW d [] (fun f vs=>PySem.call f vs):=by
  intro w s₀ s₁ mg mb G Y fa o pm cd doc dV kV ho hd hcd hD hmg hg args vals as hpre hlay hrd hwl hlo
  obtain rfl:dV=.none:=Dflts.none hD hdf
  obtain rfl:kV=.none:=Dflts.noKw hD
  obtain ⟨a,vs,ns,rfl,rfl,hobj,hints,hlen⟩:=script_of hn hpre hwl
  refine enter_call (codeAny_mono (call w s₀ s₁ mg mb fa o pm cd doc a vs ns G Y ho (fd_plain hd) hcd hmg hobj hints hlen hg) fun r s' hq=>?_)
  obtain ⟨rfl,h2,h3,h4⟩:=hq
  exact ⟨.inl ⟨.bool true,.bool true,[],rfl,fun _=>rfl,.bool true,post_true l _,fun _=>⟨List.Pairwise.nil,fun _ hm=>(nomatch hm)⟩⟩,h2,h3,h4⟩
section
variable {prog:Program} {w:World} {A:Around} {E:Value->Shared->Prop} {s:Shared} {K:Frag}
end
end Att
namespace L2
open PySem PySem.Spec PyProof.Rows
theorem vals_ints:∀ {vs:List Value} {ns:List Int},IntsAre vs ns->Vals (ns.map V.int) vs
  | _,_,.nil=>.nil
  | _,_,.cons n t h=>.cons ⟨t,rfl⟩ (vals_ints h)
end L2
namespace L2
open PySem PySem.Spec PyProof.Rows
end L2
namespace L2
open PySem PySem.Spec PyProof.Rows
def jz (s:Stmt):Arguments:=match s with
  | .FunctionDef _ a _ _ _ _ _ _ _ _=>a
  | _=>{ posonlyargs:=[],args:=[],vararg:=none,kwonlyargs:=[],kw_defaults:=[],kwarg:=none,defaults:=[] }
def jx (s:Stmt):List Stmt:=match s with
  | .FunctionDef _ _ b _ _ _ _ _ _ _=>b
  | _=>[]
def jj (s:Stmt):Scope:=match s with
  | .FunctionDef _ _ _ _ _ _ sc _ _ _=>sc
  | _=>{ kind:=.function,names:=[],isGenerator:=false,isCoroutine:=false }
abbrev CX0:CXT:=fun _ _ _ _ _ _=>False
abbrev E0:XK:=fun _ _ _=>False
theorem jt {X:Cx}:Passes CX0 X E0:=fun _ _ _ _ _ _ _ h=>h.elim
structure Fun (K:PySem.W.Frag) (x qual:Str) (st:Stmt) (f:Addr) (fd:FuncData):Prop where
  ex:∃ (oc:Value) (od:Option Addr) (kV doc pm:Value) (an:Option Addr) (cdv ct:Value) (osl:Array (Option Value)),
    fd=PySem.W.fnOf x qual (jz st) (jx st) (jj st) .none kV doc pm an cdv ct/\K.lookup f=some ⟨oc,od,.func fd,osl⟩/\PySem.W.codeIn K cdv qual=true
  kp:PySem.W.keepIn K (.ref f)=true
section
variable {P:Program} {w:World} {K:PySem.W.Frag} {mg:Str->Option Value} {base:Heap}
theorem Fun.ok {x qual:Str} {st:Stmt} {f:Addr} {fd:FuncData} {N ps:List Str} {k:Nat} {sp:Sp} (F:Fun K x qual st f fd) (S:FnScope N ps (jj st)) (len:∀ vs H Q E,sp vs H Q E->vs.length=ps.length)
    (hbody:∀ (cdv:Value) (A:Around) (outer:List Env) (s:Shared) (H:Hp) (vs:List V) (Q:VK) (E:XK),Room k (A.deeper (envOfC qual (jj st) s.heap.objs.size f cdv))->sp vs H Q E ->
      ∃ t,PSs (cxOf CX0 P w K mg base N qual (jj st) f cdv A outer s H E).nox (jx st) t/\t { nx:=fun _ H'=>Q .non H',rt:=Q } (start N vs) H):FnOk P w K mg base CX0 (k+1) f fd ps sp:=by
  obtain ⟨oc,od,kV,doc,pm,an,cdv,ct,osl,rfl,lk,hcd⟩:=F.ex
  refine fn_of lk hcd S len fun A outer s H vs Q E hr hsp=>?_
  obtain ⟨t,h,q⟩:=hbody cdv A outer s H vs Q E hr hsp
  exact ⟨t,h.nox,q⟩
theorem Fun.binds {x qual:Str} {st:Stmt} {f:Addr} {fd:FuncData} {ps:List Str} (F:Fun K x qual st f fd)
    (h:∀ (kV doc pm:Value) (an:Option Addr) (cdv ct:Value) (us:List Value),us.length=ps.length->bindArgs (PySem.W.fnOf x qual (jz st) (jx st) (jj st) .none kV doc pm an cdv ct) ⟨us,[]⟩=pure (ps.zip us)):Binds K fd ps []:=by
  obtain ⟨oc,od,kV,doc,pm,an,cdv,ct,osl,rfl,lk,hcd⟩:=F.ex
  exact .all (h kV doc pm an cdv ct)
theorem fun_mk {x qual:Str} {st:Stmt} {f:Addr} {oc:Value} {od an:Option Addr} {osl:Array (Option Value)} {kV doc pm cdv ct:Value} (l:K.lookup f=some ⟨oc,od,.func (PySem.W.fnOf x qual (jz st) (jx st) (jj st) .none kV doc pm an cdv ct),osl⟩)
    (c:PySem.W.codeIn K cdv qual=true) (k:PySem.W.keepIn K (.ref f)=true):Fun K x qual st f (PySem.W.fnOf x qual (jz st) (jx st) (jj st) .none kV doc pm an cdv ct):=⟨⟨oc,od,kV,doc,pm,an,cdv,ct,osl,rfl,l,c⟩,k⟩
end
section
variable {X:Cx}
theorem pv (i:Nat) {x:Str} {pos:Pos} (hN:X.N[i]?=some x:=by rfl) (hv:Vis X.env.scope x:=by first | exact Or.inl rfl | exact Or.inr (Or.inl rfl) | exact Or.inr (Or.inr rfl)) (hd:(x == ("__debug__":Str))=false:=by decide)
    (hcd:(x == ("__classdict__":Str))=false:=by decide):PE X (.Name x pos) (tVar i):=jco hN hv hd hcd
end
theorem ite2 {c A B:Prop} [Decidable c] (h1:c->A) (h2:¬ c->B):if c then A else B:=by
  by_cases h:c
  · rw [if_pos h]
    exact h1 h
  · rw [if_neg h]
    exact h2 h
end L2
namespace L2
open PySem PySem.Spec PyProof.Rows
section
variable {κ:Type} [DecidableEq κ]
def valV (kvs:List (κ × V)) (k:κ):Option V:=(kvs.find? fun kv=>decide (kv.1=k)).map (·.2)
def putK (kvs:List (κ × V)) (k:κ) (v:V):List (κ × V) :=
  if (kvs.any fun kv=>decide (kv.1=k))=true then kvs.map (fun kv=>if kv.1=k then (kv.1,v) else kv) else kvs++[(k,v)]
theorem valV_pos {p:κ × V} {r:List (κ × V)} {k:κ} (e:p.1=k):valV (p::r) k=some p.2:=by simp [valV,List.find?_cons,e]
theorem valV_neg {p:κ × V} {r:List (κ × V)} {k:κ} (e:¬ p.1=k):valV (p::r) k=valV r k:=by simp [valV,List.find?_cons,e]
theorem length_putK (kvs:List (κ × V)) (k:κ) (v:V):(putK kvs k v).length<=kvs.length+1:=by
  unfold putK
  split
  · rw [List.length_map];omega
  · rw [List.length_append,List.length_cons,List.length_nil];omega
theorem RelO.isSome_eq {o:Option V} {u:Option Value} (r:RelO o u):o.isSome=u.isSome:=by
  cases o with
  | none=>cases u with
    | none=>rfl
    | some _=>exact (show False from r).elim
  | some _=>cases u with
    | none=>exact (show False from r).elim
    | some _=>rfl
theorem KV.val {kvs:List (κ × V)} {vs:List (κ × Value)} (r:KV kvs vs) (k:κ):RelO (valV kvs k) (valueAt vs k):=by
  unfold KV at r
  induction r with
  | nil=>exact True.intro
  | @cons p q ps qs h t ih =>
    obtain ⟨h1,h2⟩:=h
    by_cases e:p.1=k
    · have e':q.1=k:=h1.symm.trans e
      have b:valueAt (q::qs) k=some q.2:=by simp [valueAt,List.find?_cons,e']
      rw [valV_pos e,b];exact h2
    · have e':¬ q.1=k:=fun z=>e (h1.trans z)
      have b:valueAt (q::qs) k=valueAt qs k:=by simp [valueAt,List.find?_cons,e']
      rw [valV_neg e,b];exact ih
theorem KV.any {kvs:List (κ × V)} {vs:List (κ × Value)} (r:KV kvs vs) (k:κ):(kvs.any fun kv=>decide (kv.1=k))=vs.any fun kv=>decide (kv.1=k):=by
  unfold KV at r
  induction r with
  | nil=>rfl
  | cons h t ih=>rw [List.any_cons,List.any_cons,ih,h.1]
theorem KV.repl {kvs:List (κ × V)} {vs:List (κ × Value)} (r:KV kvs vs) (k:κ) {y:V} {u:Value} (ry:RelV y u) :
    KV (kvs.map fun kv=>if kv.1=k then (kv.1,y) else kv) (vs.map fun kv=>if kv.1=k then (kv.1,u) else kv):=by
  unfold KV at r ⊢
  induction r with
  | nil=>exact .nil
  | @cons p q ps qs h t ih =>
    rw [List.map_cons,List.map_cons]
    refine .cons ?_ ih
    obtain ⟨h1,h2⟩:=h
    by_cases e:p.1=k
    · rw [if_pos e,if_pos (h1.symm.trans e)];exact ⟨h1,ry⟩
    · rw [if_neg e,if_neg (fun z=>e (h1.trans z))];exact ⟨h1,h2⟩
theorem KV.put {kvs:List (κ × V)} {vs:List (κ × Value)} (r:KV kvs vs) (k:κ) {y:V} {u:Value} (ry:RelV y u):KV (putK kvs k y) (stored vs k u):=by
  unfold putK stored
  rw [r.any k]
  by_cases e:(vs.any fun kv=>decide (kv.1=k))=true
  · rw [if_pos e,if_pos e];exact r.repl k ry
  · rw [if_neg e,if_neg e];exact Paired.snoc r ⟨rfl,ry⟩
theorem KV.length {kvs:List (κ × V)} {vs:List (κ × Value)} (r:KV kvs vs):kvs.length=vs.length:=Paired.length r
end
theorem kV_is {P:Program} {w:World} {k:Key} {u:Value} (r:RelV (kV k) u):(mixKind P w).is k u=true:=by
  cases k with
  | inl i=>obtain ⟨t,e⟩:=(show ∃ t,u=Value.int i t from r);subst e;exact mixKind_int P w i t
  | inr x=>obtain ⟨t,e⟩:=(show ∃ t,u=Value.str x t from r);subst e;exact mixKind_str P w x t
theorem items_are {P:Program} {w:World}:∀ {ks:List Key} {us:List Value},Vals (ks.map kV) us->ItemsAre (mixKind P w) ks us
  | [],_,r=>by rw [List.map_nil] at r;cases r;exact .nil
  | k::ks,_,r=>by
    rw [List.map_cons] at r
    cases r with
    | cons h t=>exact .cons (kV_is h) (items_are t)
abbrev KT (H:Hp):List (List Key × V)->List (List Key × Addr × Value)->Prop:=Paired fun p q=>p.1=q.1/\H q.2.1=some (.tup (p.1.map kV))/\RelV p.2 q.2.2
theorem KT.val {H:Hp} {kvs:List (List Key × V)} {xs:List (List Key × Addr × Value)} (r:KT H kvs xs) (k:List Key):RelO (valV kvs k) ((atKey xs k).map (·.2)):=by
  induction r with
  | nil=>exact True.intro
  | @cons p q ps qs h t ih =>
    obtain ⟨h1,_,h2⟩:=h
    by_cases e:p.1=k
    · have e':q.1=k:=h1.symm.trans e
      have b:atKey (q::qs) k=some q.2:=by simp [atKey,List.find?_cons,e']
      rw [valV_pos e,b];exact h2
    · have e':¬ q.1=k:=fun z=>e (h1.trans z)
      have b:atKey (q::qs) k=atKey qs k:=by simp [atKey,List.find?_cons,e']
      rw [valV_neg e,b];exact ih
section
variable {P:Program} {w:World} {H:Hp} {h:Heap} {a:Addr}
theorem rd_of {u:HO} (ok:HOk P w H h) (e:Rd H a u):ObjOk P w H h a u:=e.ok ok
theorem dk_rd {kvs:List (Key × V)} (ok:HOk P w H h) (e:Rd H a (.dK kvs)):kvs.length<=sizeLine/\(a == sysModules)=false/\∃ vs,KV kvs vs/\h.DictOf (mixKind P w) a vs :=
  show ObjOk P w H h a (.dK kvs) from rd_of ok e
theorem dk_of {kvs:List (Key × V)} (ok:HOk P w H h) (e:H a=some (.dK kvs)):kvs.length<=sizeLine/\(a == sysModules)=false/\∃ vs,KV kvs vs/\h.DictOf (mixKind P w) a vs:=dk_rd ok (.inl e)
theorem key_of {ks:List Key} (ok:HOk P w H h) (e:H a=some (.tup (ks.map kV))):(tupleKind (mixKind P w)).is h ks a:=by
  obtain ⟨_,its,r,o,h1,h2,n,h3⟩:=(show ObjOk P w H h a (.tup (ks.map kV)) from ok a _ e)
  exact ⟨o,its.toArray,n,h1,h2,h3,by simpa using items_are r⟩
theorem dt_rd {kvs:List (List Key × V)} (ok:HOk P w H h) (e:Rd H a (.dT kvs)):kvs.length<=sizeLine/\(a == sysModules)=false /\
    ∃ xs,KT H kvs xs/\h.DictOfH (tupleKind (mixKind P w)) a xs:=by
  obtain ⟨z,y,xs,r,o,es,ep,h1,h2,h3,h4,h5⟩:=(show ObjOk P w H h a (.dT kvs) from rd_of ok e)
  refine ⟨z,y,xs,r,o,es,ep,h1,h2,h3,h4,fun x hx=>?_,h5⟩
  have all:∀ {l:List (List Key × V)} {m:List (List Key × Addr × Value)},KT H l m->∀ x ∈ m,(tupleKind (mixKind P w)).is h x.1 x.2.1:=by
    intro l m q
    induction q with
    | nil=>intro x hx;exact nomatch hx
    | @cons p q ps qs hq t ih =>
      intro x hx
      rcases List.mem_cons.mp hx with e | hx
      · subst e
        exact key_of ok (by rw [← hq.1];exact hq.2.1)
      · exact ih x hx
  exact all r x hx
end
def DGet (H:Hp) (a:Addr) (y:V) (r:Option V):Prop :=
  (∃ kvs k,Rd H a (.dK kvs)/\y=kV k/\r=valV kvs k)∨∃ kvs k b,Rd H a (.dT kvs)/\y=.ref b/\H b=some (.tup (k.map kV))/\r=valV kvs k
section
variable {X:Cx} {pins:List (Addr × Obj)} {σ:St} {H:Hp} {s:Shared} {a:Addr} {y v:V} {u r:Value} {o:Option V} {A:Around} {E:Value->Shared->Prop}
theorem Inv.big (I:Inv X pins σ H s):sysModules < s.heap.objs.size:=by
  have h:mainGlobals < s.heap.objs.size:=(I.mod.glob.keeps I.bk).lt
  exact Nat.lt_trans (by decide) h
theorem d_getItem {Q:Value->Shared->Prop} (hu:A.units+1 < cLine) (I:Inv X pins σ H s) (g:DGet H a y (some v)) (ry:RelV y u) (h:∀ w' s',Inv X pins σ H s'->RelV v w'->Q w' s') :
    wpAny (model X.prog X.w) A (getItem (.ref a) u) Q E s:=by
  rcases g with ⟨kvs,k,e,ey,l⟩ | ⟨kvs,k,b,e,ey,eb,l⟩
  · subst ey
    obtain ⟨z,hd,vs,rel,dd⟩:=dk_rd I.hok e
    obtain ⟨w',hw,rw'⟩:=RelO.some_of (v:=v) (o:=valueAt vs k) (by rw [l];exact rel.val k)
    exact wpAny_getItem_of (kV_is ry) dd.mapOf hw (h w' _ (I.tok _) rw')
  · subst ey
    cases (show u=Value.ref b from ry)
    obtain ⟨z,hd,xs,rel,dd⟩:=dt_rd I.hok e
    obtain ⟨w',hw,rw'⟩:=RelO.some_of (v:=v) (o:=(atKey xs k).map (·.2)) (by rw [l];exact rel.val k)
    obtain ⟨p,hp,hp2⟩:=Option.map_eq_some_iff.mp hw
    refine wpAny_getItem_heap (tupleKind_room_in1 hu) (key_of I.hok eb) dd hp ?_
    rw [hp2]
    exact h w' _ (I.tok _) rw'
theorem d_notIn {Q:Value->Shared->Prop} (hu:A.units+1 < cLine) (I:Inv X pins σ H s) (g:DGet H a y o) (ry:RelV y u) (h:∀ s',Inv X pins σ H s'->Q (.bool (!o.isSome)) s') :
    wpAny (model X.prog X.w) A (compareOp .NotIn u (.ref a)) Q E s:=by
  rcases g with ⟨kvs,k,e,ey,l⟩ | ⟨kvs,k,b,e,ey,eb,l⟩
  · subst ey
    obtain ⟨z,hd,vs,rel,dd⟩:=dk_rd I.hok e
    refine wpAny_notIn_of (kV_is ry) hd dd.mapOf ?_
    rw [← (rel.val k).isSome_eq,← l]
    exact h _ (I.tok _)
  · subst ey
    cases (show u=Value.ref b from ry)
    obtain ⟨z,hd,xs,rel,dd⟩:=dt_rd I.hok e
    refine wpAny_notIn_heap (tupleKind_room_in1 hu) (key_of I.hok eb) hd dd ?_
    have q:=(rel.val k).isSome_eq
    rw [Option.isSome_map] at q
    rw [← q,← l]
    exact h _ (I.tok _)
theorem d_write {h':Heap} {t':Nat} {ob:HO} (I:Inv X pins σ H s) (mu:Mut (H a)) (hs:Heap.SameBut a s.heap h') (he:∃ q,h'.get? a=some q) (new:ObjOk X.prog X.w (upd H a ob) h' a ob) :
    Inv X pins σ (upd H a ob) { s with heap:=h',toks:=t' } :=
  I.write (x:=a) (e:=a) mu (.inl rfl) (fun b q hb z=>(hs.2 b hb).trans z) he new
theorem dk_new {P:Program} {w:World} {H':Hp} {h':Heap} {kvs:List (Key × V)} {vs:List (Key × Value)} (z:kvs.length<=sizeLine) (hd:(a == sysModules)=false) (rel:KV kvs vs) (dd:h'.DictOf (mixKind P w) a vs) :
    ObjOk P w H' h' a (.dK kvs):=⟨z,hd,vs,rel,dd⟩
end
section
variable {X:Cx} {pins:List (Addr × Obj)} {σ:St} {H:Hp} {s:Shared} {a:Addr} {kvs:List (Key × V)} {k:Key} {u:Value} {A:Around} {E:Value->Shared->Prop}
end
def NoSl (i:Expr):Prop:=∀ ov iv,subscripted i false ov iv=operate [ov,iv] (getItem ov iv)
theorem subD_of {prog:Program} {w:World} {A:Around} {E:Value->Shared->Prop} {s:Shared} {env:Env} {value slice:Expr} {pos:Pos} {T id:String} {Q:Value->Shared->Prop}
    (hl:typeLookup (.type T) "__getitem__"=pure (some (.builtin id))) (hs:NoSl slice)
    (h:wpAny (model prog w) A (eval value env) (fun o s₁=>wpAny (model prog w) A (eval slice env) (fun i s₂=>s₂.TypeIs o T/\wpAny (model prog w) A (getItem o i) Q E s₂) E s₁) E s) :
    wpAny (model prog w) A (eval (.Subscript value slice pos) env) Q E s:=by
  refine Subscript_ (wpAny_mono h (fun o s₁ h₁=>wpAny_mono h₁ (fun i s₂ h₂=>?_) fun _ _ x=>x) fun _ _ x=>x)
  obtain ⟨hT,h₂⟩:=h₂
  unfold subscriptTail
  refine wpAny_bind ?_
  rw [getitemInPython_of_ne hT.not_modules]
  refine wpAny_bind (wpAny_specialOf hT hl ?_)
  have fin:wpAny (model prog w) A (subscripted slice false o i) (fun r s₃=>wpAny (model prog w) A (letTemporaryGo value o r >>= fun _=>pure r) Q E s₃) E s₂:=by
    rw [hs o i]
    exact wpAny_operating (wpAny_mono h₂ (fun r s₃ h₃=>wpAny_bind (wpAny_letTemporaryGo (wpAny_pure h₃))) fun _ _ x=>x)
  first
    | exact wpAny_pure (wpAny_bind fin)
    | exact wpAny_bind (wpAny_pure (wpAny_bind fin))
    | exact wpAny_bind fin
theorem dict_typeIs {X:Cx} {pins:List (Addr × Obj)} {σ:St} {H:Hp} {s:Shared} {a:Addr} {y:V} {o:Option V} (I:Inv X pins σ H s) (g:DGet H a y o):s.TypeIs (.ref a) "dict":=by
  rcases g with ⟨kvs,k,e,_,_⟩ | ⟨kvs,k,b,e,_,_,_⟩
  · obtain ⟨_,_,vs,_,dd⟩:=dk_rd I.hok e
    exact dd.typeIs
  · obtain ⟨_,_,xs,_,dd⟩:=dt_rd I.hok e
    exact dd.typeIs
def tDGet (td ty:TE):TE:=fun σ H Q=>td σ H fun x H1=>ty σ H1 fun y H2=>∃ a v,x=.ref a/\DGet H2 a y (some v)/\Q v H2
def tDNotIn (ty td:TE):TE:=fun σ H Q=>ty σ H fun y H1=>td σ H1 fun x H2=>∃ a o,x=.ref a/\DGet H2 a y o/\Q (.bl (!o.isSome)) H2
section
variable {X:Cx} {o i e value:Expr} {pos pos' tpos:Pos} {td ty tv:TE}
theorem pe_dget (hu:X.A.units+1 < cLine) (ho:PE X o td) (hi:PE X i ty) (hs:NoSl i):PE X (.Subscript o i pos) (tDGet td ty):=by
  intro pins s σ H Q I h
  refine subD_of PySem.F.slot_dict_getitem.lookup hs (thn (ho pins s σ H _ I h) fun u s1 ⟨x,H1,I1,rx,q1⟩=>thn (hi pins s1 σ H1 _ I1 q1) fun iv s2 ⟨y,H2,I2,ry,a,v,ex,g,q2⟩=>?_)
  subst ex
  obtain rfl:u=Value.ref a:=rx
  exact ⟨dict_typeIs I2 g,d_getItem hu I2 g ry fun w' s3 I3 rw'=>⟨v,H2,I3,rw',q2⟩⟩
theorem pc_dnotin (hu:X.A.units+1 < cLine) (hi:PE X i ty) (ho:PE X o td):PC X .NotIn i o (tDNotIn ty td):=by
  intro pins s σ H Q I h
  refine thn (hi pins s σ H _ I h) fun iv s1 ⟨y,H1,I1,ry,q1⟩=>thn (ho pins s1 σ H1 _ I1 q1) fun u s2 ⟨x,H2,I2,rx,a,ov,ex,g,q2⟩=>?_
  subst ex
  obtain rfl:u=Value.ref a:=rx
  exact d_notIn hu I2 g ry fun s3 I3=>⟨.bl (!ov.isSome),H2,I3,rfl,q2⟩
end
theorem dk_empty {P:Program} {w:World} {H:Hp} (h:Heap) (hb:sysModules < h.objs.size):ObjOk P w H (h.push { cls:=.type "dict",data:=.dict #[] }) h.objs.size (.dK []) :=
  ⟨Nat.zero_le _,beq_eq_false_iff_ne.mpr (Ne.symm (Nat.ne_of_lt hb)),[],.nil,Heap.DictOf.new h⟩
section
variable {X:Cx} {pos:Pos}
end
def tPairs:List (TE × TE)->St->Hp->(List (V × V)->Hp->Prop)->Prop
  | [],_,H,Q=>Q [] H
  | (tk,tv)::r,σ,H,Q=>tk σ H fun x H1=>tv σ H1 fun y H2=>tPairs r σ H2 fun ps H3=>Q ((x,y)::ps) H3
abbrev VV:List (V × V)->List (Value × Value)->Prop:=Paired fun p q=>RelV p.1 q.1/\RelV p.2 q.2
def PPs (X:Cx) (pos:Pos) (keys:List (Option Expr)) (values:List Expr) (trs:List (TE × TE)):Prop :=
  ∀ (pins:List (Addr × Obj)) (s:Shared) (σ:St) (H:Hp) (Q:List (V × V)->Hp->Prop),Inv X pins σ H s->tPairs trs σ H Q ->
    wpAny (model X.prog X.w) X.A (evalPairs (pairTrees keys values X.env pos)) (fun vs s'=>∃ ps H',Inv X pins σ H' s'/\VV ps vs/\Q ps H') X.xe s
theorem pps_nil {X:Cx} {pos:Pos}:PPs X pos [] [] []:=fun pins s σ H Q I h=>pairTrees_nil_walk ⟨[],H,I,.nil,h⟩
theorem pps_cons {X:Cx} {pos:Pos} {k v:Expr} {ks:List (Option Expr)} {vs:List Expr} {tk tv:TE} {trs:List (TE × TE)} (hk:PE X k tk) (hv:PE X v tv) (hr:PPs X pos ks vs trs) :
    PPs X pos (some k::ks) (v::vs) ((tk,tv)::trs):=fun pins s σ H Q I h =>
  pairTrees_cons_walk (thn (hk pins s σ H _ I h) fun u s1 ⟨x,H1,I1,rx,q1⟩=>thn (hv pins s1 σ H1 _ I1 q1) fun w2 s2 ⟨y,H2,I2,ry,q2⟩ =>
    thn (hr pins s2 σ H2 _ I2 q2) fun ws s3 ⟨ps,H3,I3,rel,q3⟩=>⟨(x,y)::ps,H3,I3,.cons ⟨rx,ry⟩ rel,q3⟩)
def mergeK (kvs more:List (Key × V)):List (Key × V):=more.foldl (fun acc kv=>putK acc kv.1 kv.2) kvs
theorem KV.merge:∀ {more:List (Key × V)} {rs:List (Key × Value)} {kvs:List (Key × V)} {vs:List (Key × Value)},KV more rs->KV kvs vs->KV (mergeK kvs more) (merged vs rs):=by
  intro more rs kvs vs r
  unfold KV at r
  induction r generalizing kvs vs with
  | nil=>intro q;exact q
  | @cons p q ps qs h t ih =>
    intro r0
    have e:KV (putK kvs p.1 p.2) (stored vs q.1 q.2):=by
      have:=r0.put p.1 h.2
      rw [← h.1];exact this
    exact ih e
theorem length_mergeK:∀ (more kvs:List (Key × V)),(mergeK kvs more).length<=kvs.length+more.length
  | [],kvs=>by show kvs.length<=kvs.length+0;omega
  | p::r,kvs=>by
    have h1:=length_mergeK r (putK kvs p.1 p.2)
    have h2:=length_putK kvs p.1 p.2
    show (mergeK (putK kvs p.1 p.2) r).length<=_
    rw [List.length_cons];omega
theorem carries_of {P:Program} {w:World}:∀ {kvs:List (Key × V)} {ws:List (Value × Value)},VV (kvs.map fun kv=>(kV kv.1,kv.2)) ws->∃ rs,Carries (mixKind P w) ws rs/\KV kvs rs
  | [],_,r=>by rw [List.map_nil] at r;cases r;exact ⟨[],True.intro,.nil⟩
  | p::kvs,_,r=>by
    rw [List.map_cons] at r
    cases r with
    | @cons a b as bs h t =>
      obtain ⟨rs,c,q⟩:=carries_of (P:=P) (w:=w) t
      obtain ⟨b1,b2⟩:=b
      exact ⟨(p.1,b2)::rs,⟨kV_is h.1,rfl,c⟩,.cons ⟨rfl,h.2⟩ q⟩
def tDisp (trs:List (TE × TE)):TE:=fun σ H Q=>∀ p,H p=none->tPairs trs σ (upd H p (.dK [])) fun ps H2=>H2 p=some (.dK [])/\∃ kvs:List (Key × V),ps=kvs.map (fun kv=>(kV kv.1,kv.2))/\kvs.length<=15/\Q (.ref p) (upd H2 p (.dK (mergeK [] kvs)))
theorem pe_disp {X:Cx} {pos:Pos} {keys:List (Option Expr)} {values:List Expr} {trs:List (TE × TE)} (h:PPs X pos keys values trs) (hall:keys.all (·.isSome)=true) (hl:keys.length=values.length) (h0:keys≠[])
    (h15:keys.length<=15):PE X (.Dict keys values pos) (tDisp trs):=by
  intro pins s σ H Q I q
  have hn:=I.hok.fresh (Nat.le_refl s.heap.objs.size)
  have I1:=I.laid (a:=s.heap.objs.size) (o:=.dK []) (h':=s.heap.push { cls:=.type "dict",data:=.dict #[] }) (t':=s.toks) (fun _ _ q=>Heap.get?_push_of_some _ q) (Nat.le_refl _) (dk_empty s.heap I.big)
  refine wpAny_Dict_walk (knd:=mixKind X.prog X.w) hall hl h0 h15 (thn (h pins _ σ _ _ I1 (q _ hn)) fun ws s2 ⟨ps,H2,I2,rel,e,kvs,ep,lk,q2⟩=>?_)
  subst ep
  obtain ⟨rs,c,rk⟩:=carries_of (P:=X.prog) (w:=X.w) rel
  obtain ⟨z,hd,vs0,r0,dd⟩:=dk_of I2.hok e
  cases r0
  refine ⟨rs,c,dd,fun h' dd' hs=>⟨.ref s.heap.objs.size,_,?_,rfl,q2⟩⟩
  have hz:(mergeK [] kvs).length<=sizeLine:=by
    have h1:=length_mergeK kvs []
    rw [List.length_nil] at h1
    rw [sizeLine_eq];omega
  have he:∃ q,h'.get? s.heap.objs.size=some q:=let ⟨q,_,_,hq,_⟩:=dd';⟨q,hq⟩
  exact d_write I2 (by rw [e];exact True.intro) hs he (dk_new hz hd (rk.merge .nil) dd')
structure M1 (X:Cx) (o:Expr) (m:Str) (apos:Pos) (e:Expr) (cpos:Pos):Prop where
  base:attributeBase o m X.env (eval o X.env)=eval o X.env
  few:((backTo cpos (starEach [e] X.env)).all (fun x=>!x.1) && (backToKw cpos (keywordEach [] X.env)).all (fun x=>x.1.isSome)
    && decide (([e]:List Expr).length+([]:List Keyword).length+(if ([]:List Keyword).isEmpty then 0 else 1) < 30))=true
  line:(apos.endLine == cpos.line)=true
  trees:backTo cpos (starEach [e] X.env)=[(false,eval e X.env)]
def IsD (H:Hp) (a:Addr):Prop:=(∃ kvs,Rd H a (.dK kvs))∨∃ kvs,Rd H a (.dT kvs)
theorem isD_at {X:Cx} {pins:List (Addr × Obj)} {σ:St} {H:Hp} {s:Shared} {a:Addr} (I:Inv X pins σ H s) (d:IsD H a) :
    s.TypeIs (.ref a) "dict"/\(∀ b,Value.ref a=.ref b->∃ ob,s.heap.get? b=some ob/\ob.dict=none)/\(a == sysModules)=false:=by
  rcases d with ⟨kvs,e⟩ | ⟨kvs,e⟩
  · obtain ⟨_,hd,vs,_,dd⟩:=dk_rd I.hok e
    refine ⟨dd.typeIs,fun b q=>?_,hd⟩
    cases q
    obtain ⟨ob,_,_,h1,h2,_⟩:=dd
    exact ⟨ob,h1,h2.2.1⟩
  · obtain ⟨_,hd,xs,_,dd⟩:=dt_rd I.hok e
    refine ⟨dd.typeIs,fun b q=>?_,hd⟩
    cases q
    obtain ⟨ob,_,_,h1,h2,_⟩:=dd
    exact ⟨ob,h1,h2.2.1⟩
section
variable {X:Cx} {pins:List (Addr × Obj)} {σ:St} {H:Hp} {s:Shared} {a:Addr} {y d:V} {u r:Value} {o:Option V} {A:Around} {E:Value->Shared->Prop}
end
section
variable {X:Cx} {o e f:Expr} {apos cpos:Pos} {td ty tx:TE}
end
section
variable {X:Cx} {pins:List (Addr × Obj)} {σ:St} {H:Hp} {s:Shared} {a:Addr} {kvs:List (Key × V)} {A:Around} {E:Value->Shared->Prop}
end
section
variable {X:Cx} {pins:List (Addr × Obj)} {σ:St} {H:Hp} {s:Shared} {a:Addr} {y:V} {u:Value} {A:Around} {E:Value->Shared->Prop}
end
end L2
namespace L2
open PySem PySem.Spec PyProof.Rows
section
variable {κ:Type} [DecidableEq κ]
end
end L2
namespace L2
open PySem PySem.Spec PyProof.Rows
structure Kp (S:List Addr) (H H':Hp):Prop where
  old:∀ a o,H a=some o->a ∉ S->H' a=some o
  tup:∀ a xs,H a=some (.tup xs)->H' a=some (.tup xs)
  dom:∀ a o,H a=some o->∃ o',H' a=some o'
theorem Kp.refl (S:List Addr) (H:Hp):Kp S H H:=⟨fun _ _ e _=>e,fun _ _ e=>e,fun _ o e=>⟨o,e⟩⟩
theorem Kp.trans {S:List Addr} {H H1 H2:Hp} (a:Kp S H H1) (b:Kp S H1 H2):Kp S H H2 :=
  ⟨fun c o e n=>b.old c o (a.old c o e n) n,fun c xs e=>b.tup c xs (a.tup c xs e),fun c o e=>let ⟨o',e'⟩:=a.dom c o e;b.dom c o' e'⟩
theorem Kp.mono {S S':List Addr} {H H1:Hp} (a:Kp S H H1) (h:∀ x ∈ S,x ∈ S'):Kp S' H H1:=⟨fun c o e n=>a.old c o e fun z=>n (h c z),a.tup,a.dom⟩
theorem Kp.free {S:List Addr} {H H1:Hp} (k:Kp S H H1) {p:Addr} (h:H1 p=none):H p=none:=by
  cases e:H p with
  | none=>rfl
  | some o=>obtain ⟨o',e'⟩:=k.dom p o e;rw [h] at e';cases e'
theorem Kp.trans' {S S':List Addr} {H H1 H2:Hp} (a:Kp S H H1) (b:Kp S' H1 H2) (h:∀ x ∈ S',x ∈ S∨H x=none):Kp S H H2 :=
  ⟨fun c o e n=>b.old c o (a.old c o e n) fun z=>by
    rcases h c z with q | q
    · exact n q
    · (rw [q] at e;exact nomatch e),fun c xs e=>b.tup c xs (a.tup c xs e),fun c o e=>let ⟨o',e'⟩:=a.dom c o e;b.dom c o' e'⟩
theorem Kp.new {S:List Addr} {H H1:Hp} (k:Kp S H H1) {p:Addr} {o:HO} (h:H1 p=none):Kp S H (upd H1 p o) :=
  ⟨fun c u e n=>by rw [je (jh (k.old c u e n) h)];exact k.old c u e n,fun c xs e=>by rw [je (jh (k.tup c xs e) h)];exact k.tup c xs e,
    fun c u e=>by
      obtain ⟨o',e'⟩:=k.dom c u e
      exact ⟨o',by rw [je (jh e' h)];exact e'⟩⟩
theorem Kp.set {S:List Addr} {H H1:Hp} (k:Kp S H H1) {b:Addr} {xs:List V} {o:HO} (hb:H1 b=some (.lst xs)) (h:b ∈ S∨H b=none):Kp S H (upd H1 b o) :=
  ⟨fun c u e n=>by
    have:c≠b:=by
      rintro rfl
      rcases h with h | h
      · exact n h
      · rw [h] at e;cases e
    rw [je this];exact k.old c u e n,
   fun c ys e=>by
    have e1:=k.tup c ys e
    rw [je (ne_of e1 hb (by intro z;cases z))];exact e1,
   fun c u e=>by
    obtain ⟨o',e'⟩:=k.dom c u e
    by_cases q:c=b
    · subst q;exact ⟨o,jc⟩
    · exact ⟨o',by rw [je q];exact e'⟩⟩
def lstOf:Option HO->Option (List V)
  | some (.lst xs)=>some xs
  | _=>none
def tupOf:Option HO->Option (List V)
  | some (.tup xs)=>some xs
  | _=>none
def seqOf:Option HO->Option (List V)
  | some (.lst xs)=>some xs
  | some (.tup xs)=>some xs
  | _=>none
theorem lstOf_lst (xs:List V):lstOf (some (.lst xs))=some xs:=rfl
theorem tupOf_tup (xs:List V):tupOf (some (.tup xs))=some xs:=rfl
theorem seqOf_lst (xs:List V):seqOf (some (.lst xs))=some xs:=rfl
theorem seqOf_tup (xs:List V):seqOf (some (.tup xs))=some xs:=rfl
theorem of_lstOf {o:Option HO} {xs:List V} (h:lstOf o=some xs):o=some (.lst xs):=by
  unfold lstOf at h
  split at h
  · cases h;rfl
  · cases h
theorem of_tupOf {o:Option HO} {xs:List V} (h:tupOf o=some xs):o=some (.tup xs):=by
  unfold tupOf at h
  split at h
  · cases h;rfl
  · cases h
theorem of_seqOf {o:Option HO} {xs:List V} (h:seqOf o=some xs):o=some (.lst xs)∨o=some (.tup xs):=by
  unfold seqOf at h
  split at h
  · cases h;exact .inl rfl
  · cases h;exact .inr rfl
  · cases h
section
variable {X:Cx}
def rLtU:R2:=fun x y H Q=>match x,y with
  | .int i,.int j=>Q (.bl (decide (i < j))) H
  | .str i,.str j=>Q (.bl (decide (i.cps.toList < j.cps.toList))) H
  | _,_=>False
theorem jao:OpR X (compareOp .Lt) rLtU:=by
  intro pins s σ H x y v u Q I rx ry h
  cases x with
  | int i=>cases y with
    | int j=>exact op_lt pins s σ H _ _ v u Q I rx ry ⟨i,j,rfl,rfl,h⟩
    | _=>exact False.elim h
  | str i=>cases y with
    | str j=>exact op_lt_str pins s σ H _ _ v u Q I rx ry ⟨i,j,rfl,rfl,h⟩
    | _=>exact False.elim h
  | _=>exact False.elim h
def rLeU:R2:=fun x y H Q=>match x,y with
  | .int i,.int j=>Q (.bl (decide (i<=j))) H
  | .str i,.str j=>Q (.bl (!decide (j.cps.toList < i.cps.toList))) H
  | _,_=>False
theorem jbj:OpR X (compareOp .LtE) rLeU:=by
  intro pins s σ H x y v u Q I rx ry h
  cases x with
  | int i=>cases y with
    | int j=>exact op_le pins s σ H _ _ v u Q I rx ry ⟨i,j,rfl,rfl,h⟩
    | _=>exact False.elim h
  | str i=>cases y with
    | str j =>
      obtain ⟨t,rfl⟩:=rx
      obtain ⟨t',rfl⟩:=ry
      exact PySem.P.le_str (fin_bl I h (by rfl))
    | _=>exact False.elim h
  | _=>exact False.elim h
def rIxU:R2:=fun x y H Q=>match x,y with
  | .str z,.int i=>z.length<=sizeLine/\∃ c,atI z.cps.toList i=some c/\Q (.str ⟨#[c]⟩) H
  | .ref p,.int i=>∃ xs,seqOf (H p)=some xs/\∃ v,atI xs i=some v/\Q v H
  | _,_=>False
theorem ix_U:IxR X rIxU:=by
  intro value slice pins s σ H x y v u Q I rx ry h hs
  cases x with
  | str z=>cases y with
    | int i=>obtain ⟨h1,c,h2,h3⟩:=h;exact ix_str value slice pins s σ H _ _ v u Q I rx ry ⟨z,i,c,rfl,rfl,h1,h2,h3⟩ hs
    | _=>exact False.elim h
  | ref p=>cases y with
    | int i =>
      obtain ⟨xs,e,w,h2,h3⟩:=h
      rcases of_seqOf e with e | e
      · exact jbt value slice pins s σ H _ _ v u Q I rx ry ⟨p,xs,i,w,rfl,rfl,SqL.of e,h2,h3⟩ hs
      · exact ix_tup value slice pins s σ H _ _ v u Q I rx ry ⟨p,xs,i,w,rfl,rfl,SqT.of e,h2,h3⟩ hs
    | _=>exact False.elim h
  | _=>exact False.elim h
theorem atI_0 {α:Type} (x:α) (r:List α):atI (x::r) 0=some x:=atI_nat (j:=0) rfl
theorem atI_1 {α:Type} (x y:α) (r:List α):atI (x::y::r) 1=some y:=atI_nat (j:=1) rfl
theorem atI_2 {α:Type} (x y z:α) (r:List α):atI (x::y::z::r) 2=some z:=atI_nat (j:=2) rfl
theorem atI_of {α:Type} {xs:List α} {i:Int} {v:α} (h0:0<=i) (h:xs[i.toNat]?=some v):atI xs i=some v:=by
  have:=atI_nat (xs:=xs) (j:=i.toNat) h
  rwa [Int.toNat_of_nonneg h0] at this
def rSetU:V->V->V->Hp->(Hp->Prop)->Prop:=fun o i v H Q=>match o,i with
  | .ref p,.int k=>∃ xs,lstOf (H p)=some xs/\∃ j,ixN xs.length k=some j/\Q (upd H p (.lst (xs.set j v)))
  | _,_=>False
theorem set_U:PSet X rSetU:=by
  intro pins s σ H o i v ov iv u Q I ro ri rv h
  cases o with
  | ref p=>cases i with
    | int k =>
      obtain ⟨xs,e,j,h1,h2⟩:=h
      exact set_list pins s σ H _ _ v ov iv u Q I ro ri rv ⟨p,xs,k,j,rfl,rfl,of_lstOf e,h1,h2⟩
    | _=>exact False.elim h
  | _=>exact False.elim h
def rLenU:List V->Hp->VK->Prop:=fun xs H Q=>match xs with
  | [.str z]=>z.length<=sizeLine/\Q (.int z.length) H
  | [.ref p]=>∃ ys,seqOf (H p)=some ys/\Q (.int ys.length) H
  | _=>False
theorem jy:CallR X (.builtin "len") rLenU:=by
  intro pins s σ H xs us Q I r h
  unfold rLenU at h
  split at h
  · rename_i z;exact call_len_str pins s σ H _ us Q I r ⟨z,rfl,h⟩
  · rename_i p
    obtain ⟨ys,e,h⟩:=h
    rcases of_seqOf e with e | e
    · exact zv pins s σ H _ us Q I r ⟨p,ys,rfl,.inl (SqL.of e),h⟩
    · exact zv pins s σ H _ us Q I r ⟨p,ys,rfl,.inr (SqT.of e),h⟩
  · exact h.elim
def rIntU:List V->Hp->VK->Prop:=fun xs H Q=>match xs with
  | [.int i]=>Q (.int i) H
  | [.bl k]=>Q (.int (if k then 1 else 0)) H
  | _=>False
theorem jby:CallR X (.type "int") rIntU:=by
  intro pins s σ H xs us Q I r h
  unfold rIntU at h
  split at h
  · rename_i i;exact jbx pins s σ H _ us Q I r (.inl ⟨i,rfl,h⟩)
  · rename_i k;exact jbx pins s σ H _ us Q I r (.inr ⟨k,rfl,h⟩)
  · exact h.elim
def sgn (z:Str):List V:=z.cps.toList.map fun c=>V.str ⟨#[c]⟩
theorem sgn_len (z:Str):(sgn z).length=z.length:=by simp [sgn,Str.length]
theorem vals_sgn {z:Str} {acc:Array Value} (h:ItemsOf (SignAt z) acc z.cps.size):Vals (sgn z) acc.toList:=by
  obtain ⟨h1,h2⟩:=h
  have hl:(sgn z).length=acc.toList.length:=by simp [sgn,h1]
  have gen:∀ (xs:List V) (us:List Value),xs.length=us.length->(∀ (i:Nat) (x:V) (u:Value),xs[i]?=some x->us[i]?=some u->RelV x u)->Vals xs us:=by
    intro xs
    induction xs with
    | nil=>intro us hl _;cases us with
      | nil=>exact .nil
      | cons _ _=>simp at hl
    | cons x xs ih=>intro us hl h;cases us with
      | nil=>simp at hl
      | cons u us=>exact .cons (h 0 x u rfl rfl) (ih us (by simpa using hl) fun i a b e1 e2=>h (i+1) a b (by simpa using e1) (by simpa using e2))
  refine gen _ _ hl fun i x u e1 e2=>?_
  obtain ⟨c,t,hc,hu⟩:=h2 i u (by simpa using e2)
  subst hu
  simp only [sgn,List.getElem?_map] at e1
  have:z.cps.toList[i]?=some c:=by simpa using hc
  rw [this] at e1
  have e1':V.str ⟨#[c]⟩=x:=Option.some.inj e1
  subst e1'
  exact ⟨t,rfl⟩
def rListU:List V->Hp->VK->Prop:=fun xs H Q=>match xs with
  | [.str z]=>z.length<=sizeLine/\∀ l,H l=none->Q (.ref l) (upd H l (.lst (sgn z)))
  | [.ref p]=>∃ ys,seqOf (H p)=some ys/\∀ l,H l=none->Q (.ref l) (upd H l (.lst ys))
  | _=>False
theorem ja6 (hc:X.calm=true):CallR X (.type "list") rListU:=by
  intro pins s σ H xs us Q I r h
  unfold rListU at h
  split at h
  · rename_i z
    obtain ⟨u,rfl,t,rfl⟩:=vals1 r
    obtain ⟨hz,q⟩:=h
    refine call_list_str (I.ok.hd hc) z t (fun h' tk acc c hk hn hi=>?_) hz
    have hf:=I.hok.fresh (Nat.le_refl s.heap.objs.size)
    refine ⟨.ref s.heap.objs.size,upd H s.heap.objs.size (.lst (sgn z)),I.laid hk (Nat.le_refl _) ⟨by rw [sgn_len];exact hz,acc.toList,c,vals_sgn hi,by simpa using hn⟩,rfl,q _ hf⟩
  · rename_i p
    obtain ⟨ys,e,h⟩:=h
    rcases of_seqOf e with e | e
    · exact jbc pins s σ H _ us Q I r ⟨p,ys,rfl,.inl (SqL.of e),h⟩
    · exact jbc pins s σ H _ us Q I r ⟨p,ys,rfl,.inr (SqT.of e),h⟩
  · exact h.elim
def rPopU:V->List V->Hp->VK->Prop:=fun x vs H Q=>match x,vs with
  | .ref l,[.int i]=>∃ xs,lstOf (H l)=some xs/\0<=i/\∃ y,xs[i.toNat]?=some y/\Q y (upd H l (.lst (xs.eraseIdx i.toNat)))
  | _,_=>False
theorem jcc:MtM X "list.pop" rPopU:=by
  intro pins s σ H x vs v us Q I rx rv h
  unfold rPopU at h
  split at h
  · rename_i l i
    obtain ⟨xs,e,h0,y,hy,q⟩:=h
    have e:=of_lstOf e
    have hz:=(I.lstM e).1
    have hlt:i.toNat < xs.length:=(List.getElem?_eq_some_iff.mp hy).1
    have hs:sizeLine=16777216:=sizeLine_eq
    refine mt_popAt pins s σ H _ _ v us Q I rx rv ⟨l,xs,i,i.toNat,y,rfl,rfl,e,by omega,by omega,?_,hy,q⟩
    exact seqIndex_of h0 (by omega)
  · exact h.elim
def rIsU (K:PySem.W.Frag):List V->Hp->VK->Prop:=fun xs H Q=>match xs with
  | [x,.ty c]=>∃ t b,TyOf K H x t/\PySem.W.kitOne K t (.type c)=some b/\Q (.bl b) H
  | _=>False
theorem call_isinstanceU:CallR X (.builtin "isinstance") (rIsU X.K):=by
  intro pins s σ H xs us Q I r h
  unfold rIsU at h
  split at h
  · rename_i x c
    obtain ⟨t,b,ty,e,q⟩:=h
    obtain ⟨u,w',rfl,rx,rc⟩:=vals2 r
    cases rc
    exact isinst_ok I rx ty e fun tk=>⟨.bl b,H,I.tok tk,rfl,q⟩
  · exact h.elim
def ItS (z:Str):It:=⟨fun i _=>i < z.length,fun i H x H'=>H'=H/\∃ c,z.cps.toList[i]?=some c/\x=.str ⟨#[c]⟩,fun i _=>z.length<=i⟩
theorem turn_strA {P:Program} {w:World} {K:PySem.W.Frag} {tg:Expr} (z:Str) (t:Tok) (it:Addr):Turn P w K tg (ItS z) [it] it (fun i h=>h.IsStrIter it "str_ascii_iterator" z t i) where
  mem:=by simp
  obj:=fun i h st b hb=>by
    have e:b=it:=by simpa using hb
    subst e
    obtain ⟨o,e,c,d⟩:=st
    exact ⟨o,e,fun v z=>by rw [d] at z;cases z⟩
  keep:=fun i h h' st k=>let ⟨o,ho,r⟩:=st;⟨o,k it (by simp) o ho,r⟩
  item:=by
    intro X hP hw hK hc i pins s σ H E I hf st hg
    subst hP hw hK
    obtain ⟨f0,f1,f2,f3,f4,f5⟩:=hf it (by simp)
    have hi:i < z.cps.size:=hg
    refine wpAny_pyNext_ascii_item st (c:=z.cps[i]) (by simp [hi]) fun h' st' sb=>?_
    have I1:Inv X pins σ H { s with heap:=h',toks:=s.toks+1 }:=I.turned (t':=s.toks+1) (fun b o hb e=>(sb.2 b hb).trans e) f0 f1 f3 f4 f5
    obtain ⟨o,e,c,d⟩:=id st'
    exact ⟨_,rfl,go_of (s:={ s with heap:=h',toks:=s.toks+1 }) e c d (by decide) ⟨.str ⟨#[z.cps[i]]⟩,H,I1,⟨_,rfl⟩,⟨rfl,_,by simp [hi],rfl⟩,st',fun b hb=>(hf b hb).1⟩⟩
  done:=by
    intro X hP hw hK hc i pins s σ H E I hf st hg
    subst hP hw hK
    obtain ⟨f0,f1,f2,f3,f4,f5⟩:=hf it (by simp)
    have hi:z.cps.size<=i:=hg
    exact wpAny_pyNext_ascii_end (I.ok.hd hc) st (by simp [hi]) fun h' eb=>⟨rfl,I.turned (t':=s.toks) (fun b o hb e=>eb b o hb e) f0 f1 f3 f4 f5⟩
  self:=fun _ _ _ _ _ st h=>wpAny_pyIter_striter_ascii st h
theorem turn_strW {P:Program} {w:World} {K:PySem.W.Frag} {tg:Expr} (z:Str) (t:Tok) (it:Addr):Turn P w K tg (ItS z) [it] it (fun i h=>h.IsStrIter it "str_iterator" z t i) where
  mem:=by simp
  obj:=fun i h st b hb=>by
    have e:b=it:=by simpa using hb
    subst e
    obtain ⟨o,e,c,d⟩:=st
    exact ⟨o,e,fun v z=>by rw [d] at z;cases z⟩
  keep:=fun i h h' st k=>let ⟨o,ho,r⟩:=st;⟨o,k it (by simp) o ho,r⟩
  item:=by
    intro X hP hw hK hc i pins s σ H E I hf st hg
    subst hP hw hK
    obtain ⟨f0,f1,f2,f3,f4,f5⟩:=hf it (by simp)
    have hi:i < z.cps.size:=hg
    refine wpAny_pyNext_wide_item st (c:=z.cps[i]) (by simp [hi]) fun h' st' sb=>?_
    have I1:Inv X pins σ H { s with heap:=h',toks:=s.toks+1 }:=I.turned (t':=s.toks+1) (fun b o hb e=>(sb.2 b hb).trans e) f0 f1 f3 f4 f5
    obtain ⟨o,e,c,d⟩:=id st'
    exact ⟨_,rfl,go_of (s:={ s with heap:=h',toks:=s.toks+1 }) e c d (by decide) ⟨.str ⟨#[z.cps[i]]⟩,H,I1,⟨_,rfl⟩,⟨rfl,_,by simp [hi],rfl⟩,st',fun b hb=>(hf b hb).1⟩⟩
  done:=by
    intro X hP hw hK hc i pins s σ H E I hf st hg
    subst hP hw hK
    obtain ⟨f0,f1,f2,f3,f4,f5⟩:=hf it (by simp)
    have hi:z.cps.size<=i:=hg
    exact wpAny_pyNext_wide_end (I.ok.hd hc) st (by simp [hi]) fun h' eb=>⟨rfl,I.turned (t':=s.toks) (fun b o hb e=>eb b o hb e) f0 f1 f3 f4 f5⟩
  self:=fun _ _ _ _ _ st h=>wpAny_pyIter_striter_wide st h
def iAny (K:PySem.W.Frag) (t:TE):TI:=fun σ H R=>t σ H fun x H1=>match x with
  | .str z=>R (ItS z) H1
  | .ref a=>match H1 a with
    | some (.lst _)=>R (Itl K a) H1
    | some (.tup _)=>R (Itt K a) H1
    | _=>False
  | _=>False
theorem pi_any {tg l:Expr} {tl:TE} (hl:PE X l tl):PI X tg l (iAny X.K tl):=by
  intro pins s σ H R I h
  refine thn (hl pins s σ H _ I h) fun v s1 ⟨x,H1,I1,r1,q1⟩=>?_
  cases x with
  | str z =>
    obtain ⟨t,rfl⟩:=r1
    have fr:∀ b ∈ [s1.heap.objs.size],FpOk X pins H1 b:=fun b hb=>by
      have e:b=s1.heap.objs.size:=by simpa using hb
      subst e
      exact I1.fpOk (Nat.le_refl _) (I1.hok.fresh (Nat.le_refl _))
    cases ha:z.cps.all (· < 128)
    · exact wpAny_pyIter_wide ha ⟨s1.heap.objs.size,[s1.heap.objs.size],_,_,H1,rfl,I1.kept (t':=s1.toks) fun b o e=>Heap.get?_push_of_some _ e,turn_strW z t _,⟨_,Heap.get?_push_size _ rfl,rfl,rfl⟩,fr,q1⟩
    · exact wpAny_pyIter_ascii ha ⟨s1.heap.objs.size,[s1.heap.objs.size],_,_,H1,rfl,I1.kept (t':=s1.toks) fun b o e=>Heap.get?_push_of_some _ e,turn_strA z t _,⟨_,Heap.get?_push_size _ rfl,rfl,rfl⟩,fr,q1⟩
  | ref a =>
    cases r1
    have fr:∀ b ∈ [s1.heap.objs.size],FpOk X pins H1 b:=fun b hb=>by
      have e:b=s1.heap.objs.size:=by simpa using hb
      subst e
      exact I1.fpOk (Nat.le_refl _) (I1.hok.fresh (Nat.le_refl _))
    simp only at q1
    split at q1
    · rename_i xs e
      obtain ⟨its,rv,p,hz⟩:=I1.list (SqL.of e)
      exact wpAny_pyIter_list p.isList ⟨s1.heap.objs.size,[s1.heap.objs.size],_,_,H1,rfl,I1.kept (t':=s1.toks) fun b o e=>Heap.get?_push_of_some _ e,turn_list a _,⟨_,Heap.get?_push_size _ rfl,rfl,rfl⟩,fr,q1⟩
    · rename_i xs e
      obtain ⟨its,rv,p,hz⟩:=I1.tuple (SqT.of e)
      exact wpAny_pyIter_tuple (show s1.heap.IsTuple a its.toArray from p) ⟨s1.heap.objs.size,[s1.heap.objs.size],_,_,H1,rfl,I1.kept (t':=s1.toks) fun b o e=>Heap.get?_push_of_some _ e,turn_tuple a _,⟨_,Heap.get?_push_size _ rfl,rfl,rfl⟩,fr,q1⟩
    · exact q1.elim
  | _=>exact False.elim q1
theorem for_str {z:Str} {g:TG} {tb:TS} {D:Ends} {σ:St} {H:Hp} (Pv:Nat->St->Hp->Prop) (h0:Pv 0 σ H)
    (hs:∀ i c σ H,z.cps.toList[i]?=some c->Pv i σ H->g (.str ⟨#[c]⟩) σ H fun σ2 H2=>tb { D with nx:=Pv (i+1),ct:=Pv (i+1),bk:=D.nx } σ2 H2) (hd:∀ σ H,Pv z.length σ H->D.nx σ H) :
    ∃ W:Nat->Nat->St->Hp->Prop,(∃ m,W 0 m σ H)/\∀ i m σ H,W i m σ H ->
      ((ItS z).stop i H/\D.nx σ H)∨((ItS z).go i H/\∃ N:St->Hp->Prop,(∀ σ' H',N σ' H'->∃ m',m' < m/\W (i+1) m' σ' H')/\∀ x H',(ItS z).yld i H x H'->g x σ H' fun σ2 H2=>tb { D with nx:=N,ct:=N,bk:=D.nx } σ2 H2):=by
  refine ⟨fun i m σ H=>m=z.length - i/\i<=z.length/\Pv i σ H,⟨z.length,by simp,Nat.zero_le _,h0⟩,?_⟩
  rintro i m σ H ⟨rfl,hi,p⟩
  by_cases hlt:i < z.length
  · refine .inr ⟨hlt,Pv (i+1),fun σ' H' p'=>⟨z.length - (i+1),by omega,rfl,hlt,p'⟩,fun x H' y=>?_⟩
    obtain ⟨e,c,e1,e2⟩:=y
    subst e e2
    exact hs i c σ _ e1 p
  · have e:i=z.length:=by omega
    subst e
    exact .inl ⟨Nat.le_refl _,hd σ H p⟩
mutual
def Rep (H:Hp):V->PyData->Prop
  | v,.none=>v=.non
  | v,.bool b=>v=.bl b
  | v,.int i=>v=.int i
  | v,.str x=>v=.str x
  | v,.list ds=>∃ a vs,v=.ref a/\H a=some (.lst vs)/\Reps H vs ds
  | v,.tuple ds=>∃ a vs,v=.ref a/\H a=some (.tup vs)/\Reps H vs ds
  | _,.dict _=>False
def Reps (H:Hp):List V->List PyData->Prop
  | [],[]=>True
  | v::vs,d::ds=>Rep H v d/\Reps H vs ds
  | _,_=>False
end
section
variable {pins:List (Addr × Obj)} {σ:L2.St} {H:Hp} {s:Shared}
mutual
theorem Rep.reads (I:Inv X pins σ H s):∀ {d:PyData} {v:V} {u:Value},Rep H v d->RelV v u->∃ as,Reads s.heap u d as
  | .none,v,u,h,r=>by simp only [Rep] at h;subst h;cases r;exact ⟨_,.none⟩
  | .bool b,v,u,h,r=>by simp only [Rep] at h;subst h;cases r;exact ⟨_,.bool b⟩
  | .int i,v,u,h,r=>by simp only [Rep] at h;subst h;obtain ⟨t,rfl⟩:=r;exact ⟨_,.int i t⟩
  | .str x,v,u,h,r=>by simp only [Rep] at h;subst h;obtain ⟨t,rfl⟩:=r;exact ⟨_,.str x t⟩
  | .list ds,v,u,h,r=>by
    simp only [Rep] at h
    obtain ⟨a,vs,rfl,e,h⟩:=h
    cases r
    obtain ⟨its,rv,⟨o,n,e1,e2,e3,e4⟩,hz⟩:=I.list (SqL.of e)
    obtain ⟨as,q⟩:=Reps.reads I h rv
    exact ⟨_,reads_list_at e1 e2 e4 (by simpa using q)⟩
  | .tuple ds,v,u,h,r=>by
    simp only [Rep] at h
    obtain ⟨a,vs,rfl,e,h⟩:=h
    cases r
    obtain ⟨its,rv,⟨o,e1,e2,n,e4⟩,hz⟩:=I.tuple (SqT.of e)
    obtain ⟨as,q⟩:=Reps.reads I h rv
    exact ⟨_,reads_tuple_at e1 e2 e4 (by simpa using q)⟩
  | .dict _,v,u,h,r=>by simp only [Rep] at h
theorem Reps.reads (I:Inv X pins σ H s):∀ {ds:List PyData} {vs:List V} {us:List Value},Reps H vs ds->Vals vs us->∃ as,ReadsAll s.heap us ds as
  | [],[],us,h,r=>by cases r;exact ⟨_,.nil⟩
  | [],v::vs,us,h,r=>by simp only [Reps] at h
  | d::ds,[],us,h,r=>by simp only [Reps] at h
  | d::ds,v::vs,us,h,r=>by
    simp only [Reps] at h
    cases r with
    | cons r1 r2 =>
      obtain ⟨as,q⟩:=Rep.reads I h.1 r1
      obtain ⟨bs,q2⟩:=Reps.reads I h.2 r2
      exact ⟨_,.cons q q2⟩
end
end
def rEqD:R2:=fun x y H Q=>∃ d e,Rep H x d/\Rep H y e/\SeqAt.shaped d=true/\SeqAt.shaped e=true/\Q (.bl (PyData.eqv d e)) H
theorem op_eqD (hu:X.A.units+64 < cLine):OpR X (compareOp .Eq) rEqD:=by
  intro pins s σ H x y v u Q I rx ry h
  obtain ⟨d,e,hd,he,sd,se,q⟩:=h
  obtain ⟨as,r1⟩:=hd.reads I rx
  obtain ⟨bs,r2⟩:=he.reads I ry
  exact eq_dataH r1 r2 sd se hu ⟨.bl _,H,I,rfl,q⟩
def rNeD:R2:=fun x y H Q=>∃ d e,Rep H x d/\Rep H y e/\SeqAt.shaped d=true/\SeqAt.shaped e=true/\Q (.bl (!PyData.eqv d e)) H
theorem op_neD (hu:X.A.units+64 < cLine):OpR X (compareOp .NotEq) rNeD:=by
  intro pins s σ H x y v u Q I rx ry h
  obtain ⟨d,e,hd,he,sd,se,q⟩:=h
  obtain ⟨as,r1⟩:=hd.reads I rx
  obtain ⟨bs,r2⟩:=he.reads I ry
  exact ne_dataH r1 r2 sd se hu ⟨.bl _,H,I,rfl,q⟩
end
end L2
namespace L2
open PySem PySem.Spec PyProof.Rows
theorem j9:bootBuiltins "len"=some (.builtin "len"):=by decide +kernel
theorem bt_max:bootBuiltins "max"=some (.builtin "max"):=by decide +kernel
theorem kh:bootBuiltins "isinstance"=some (.builtin "isinstance"):=by decide +kernel
theorem jbm:bootBuiltins "all"=some (.builtin "all"):=by decide +kernel
theorem bt_sorted:bootBuiltins "sorted"=some (.builtin "sorted"):=by decide +kernel
theorem jar:bootBuiltins "int"=some (.type "int"):=by decide +kernel
theorem jbv:bootBuiltins "list"=some (.type "list"):=by decide +kernel
theorem ja1:bootBuiltins "tuple"=some (.type "tuple"):=by decide +kernel
theorem jbo:bootBuiltins "str"=some (.type "str"):=by decide +kernel
theorem bt_set:bootBuiltins "set"=some (.type "set"):=by decide +kernel
theorem jci:bootBuiltins "bool"=some (.type "bool"):=by decide +kernel
theorem bt_enumerate:bootBuiltins "enumerate"=some (.type "enumerate"):=by decide +kernel
theorem jcp:bootBuiltins "zip"=some (.type "zip"):=by decide +kernel
section
variable {X:Cx}
def isL (x:V) (H:Hp):Prop:=match x with
  | .ref p=>(lstOf (H p)).isSome=true
  | _=>False
def tBML (r:V->List V->Hp->VK->Prop) (to:TE) (t:TA):TE:=fun σ H Q=>to σ H fun x H1=>isL x H1/\t σ H1 fun xs H2=>r x xs H2 Q
theorem isL.ty {K:PySem.W.Frag} {x:V} {H:Hp} (h:isL x H):tyV K "list" x H:=by
  unfold isL at h
  split at h
  · rename_i p
    cases e:lstOf (H p) with
    | none=>rw [e] at h;cases h
    | some ys=>exact .inl ⟨rfl,ys,SqL.of (of_lstOf e)⟩
  · exact h.elim
variable {o e:Expr} {es:List Expr} {to:TE} {t:TA} {name:Str} {apos cpos:Pos} {id:String} {r:V->List V->Hp->VK->Prop}
theorem PE.imp {e:Expr} {t t':TE} (h:PE X e t) (hi:∀ σ H Q,t' σ H Q->t σ H Q):PE X e t':=fun pins s σ H Q I hw=>h pins s σ H Q I (hi σ H Q hw)
theorem pe_bmL (slot:Slot "list" name id) (hty:typeOf (.builtin id)=pure (.type "method_descriptor")) (hm:MtM X id r) (ho:PE X o to) (ha:PA X (e::es) t) (mono:∀ σ H Q Q',(∀ v H',Q v H'->Q' v H')->to σ H Q->to σ H Q')
    (hbase:attributeBase o name X.env (eval o X.env)=eval o X.env:=by rfl)
    (hfew:((backTo cpos (starEach (e::es) X.env)).all (fun x=>!x.1) && (backToKw cpos (keywordEach [] X.env)).all (fun x=>x.1.isSome)
      && decide ((e::es).length+([]:List Keyword).length+(if ([]:List Keyword).isEmpty then 0 else 1) < 30))=true:=by rfl)
    (hline:(apos.endLine == cpos.line)=true:=by rfl) (hs:starEach (e::es) X.env=(false,eval e X.env)::starEach es X.env:=by rfl) (hplain:(backTo cpos (starEach es X.env)).any (·.1)=false:=by rfl) :
    PE X (.Call (.Attribute o name apos) (e::es) [] cpos) (tBML r to t) :=
  (jcq PySem.F.plainAttrs_list slot hty hm ho ha hbase hfew hline hs hplain).imp fun σ H Q h=>mono σ H _ _ (fun v H' q=>⟨q.1.ty,q.2⟩) h
theorem mono_var {i:Nat}:∀ σ H Q Q',(∀ v H',Q v H'->Q' v H')->tVar i σ H Q->tVar i σ H Q':=fun _ _ _ _ h ⟨v,e,q⟩=>⟨v,e,h v _ q⟩
def rAppendU:V->List V->Hp->VK->Prop:=fun x vs H Q=>match x,vs with
  | .ref l,[y]=>∃ xs,lstOf (H l)=some xs/\xs.length < sizeLine/\Q .non (upd H l (.lst (xs++[y])))
  | _,_=>False
theorem yh:MtM X "list.append" rAppendU:=by
  intro pins s σ H x vs v us Q I rx rv h
  unfold rAppendU at h
  split at h
  · rename_i l y
    obtain ⟨xs,e,h⟩:=h
    exact jba pins s σ H _ _ v us Q I rx rv ⟨l,xs,y,rfl,rfl,of_lstOf e,h⟩
  · exact h.elim
def rEqU:R2:=fun x y H Q=>match x,y with
  | .int i,.int j=>Q (.bl (decide (i=j))) H
  | .bl i,.bl j=>Q (.bl (decide (i=j))) H
  | .str i,.str j=>Q (.bl (decide (i=j))) H
  | .ref a,.ref b=>rEqD (.ref a) (.ref b) H Q
  | x,y=>scal x y=true/\Q (.bl (decide (x=y))) H
def rNeU:R2:=fun x y H Q=>match x,y with
  | .int i,.int j=>Q (.bl (!decide (i=j))) H
  | .bl i,.bl j=>Q (.bl (!decide (i=j))) H
  | .str i,.str j=>Q (.bl (!decide (i=j))) H
  | .ref a,.ref b=>rNeD (.ref a) (.ref b) H Q
  | x,y=>scal x y=true/\Q (.bl (!decide (x=y))) H
theorem j8 (hu:X.A.units+64 < cLine):OpR X (compareOp .Eq) rEqU:=by
  intro pins s σ H x y v u Q I rx ry h
  unfold rEqU at h
  split at h
  · exact jb2 pins s σ H _ _ v u Q I rx ry ⟨rfl,by simpa using h⟩
  · exact jb2 pins s σ H _ _ v u Q I rx ry ⟨rfl,by simpa using h⟩
  · exact jb2 pins s σ H _ _ v u Q I rx ry ⟨rfl,by simpa using h⟩
  · exact op_eqD hu pins s σ H _ _ v u Q I rx ry h
  · exact jb2 pins s σ H _ _ v u Q I rx ry h
theorem jbp (hu:X.A.units+64 < cLine):OpR X (compareOp .NotEq) rNeU:=by
  intro pins s σ H x y v u Q I rx ry h
  unfold rNeU at h
  split at h
  · exact jb3 pins s σ H _ _ v u Q I rx ry ⟨rfl,by simpa using h⟩
  · exact jb3 pins s σ H _ _ v u Q I rx ry ⟨rfl,by simpa using h⟩
  · exact jb3 pins s σ H _ _ v u Q I rx ry ⟨rfl,by simpa using h⟩
  · exact op_neD hu pins s σ H _ _ v u Q I rx ry h
  · exact jb3 pins s σ H _ _ v u Q I rx ry h
theorem rLtU_int (H:Hp) (Q:VK) (i j:Int):rLtU (.int i) (.int j) H Q=(Q (.bl (decide (i < j))) H):=rfl
theorem rLtU_str (H:Hp) (Q:VK) (i j:Str):rLtU (.str i) (.str j) H Q=(Q (.bl (decide (i.cps.toList < j.cps.toList))) H):=rfl
theorem rLeU_int (H:Hp) (Q:VK) (i j:Int):rLeU (.int i) (.int j) H Q=(Q (.bl (decide (i<=j))) H):=rfl
theorem rLeU_str (H:Hp) (Q:VK) (i j:Str):rLeU (.str i) (.str j) H Q=(Q (.bl (!decide (j.cps.toList < i.cps.toList))) H):=rfl
theorem rIxU_str (H:Hp) (Q:VK) (z:Str) (i:Int):rIxU (.str z) (.int i) H Q=(z.length<=sizeLine/\∃ c,atI z.cps.toList i=some c/\Q (.str ⟨#[c]⟩) H):=rfl
theorem rIxU_ref (H:Hp) (Q:VK) (p:Addr) (i:Int):rIxU (.ref p) (.int i) H Q=(∃ xs,seqOf (H p)=some xs/\∃ v,atI xs i=some v/\Q v H):=rfl
theorem rLenU_str (H:Hp) (Q:VK) (z:Str):rLenU [.str z] H Q=(z.length<=sizeLine/\Q (.int z.length) H):=rfl
theorem rLenU_ref (H:Hp) (Q:VK) (p:Addr):rLenU [.ref p] H Q=(∃ ys,seqOf (H p)=some ys/\Q (.int ys.length) H):=rfl
theorem rIntU_int (H:Hp) (Q:VK) (i:Int):rIntU [.int i] H Q=(Q (.int i) H):=rfl
theorem rIntU_bl (H:Hp) (Q:VK) (k:Bool):rIntU [.bl k] H Q=(Q (.int (if k then 1 else 0)) H):=rfl
theorem rListU_str (H:Hp) (Q:VK) (z:Str):rListU [.str z] H Q=(z.length<=sizeLine/\∀ l,H l=none->Q (.ref l) (upd H l (.lst (sgn z)))):=rfl
theorem rListU_ref (H:Hp) (Q:VK) (p:Addr):rListU [.ref p] H Q=(∃ ys,seqOf (H p)=some ys/\∀ l,H l=none->Q (.ref l) (upd H l (.lst ys))):=rfl
theorem rPopU_ref (H:Hp) (Q:VK) (l:Addr) (i:Int):rPopU (.ref l) [.int i] H Q=(∃ xs,lstOf (H l)=some xs/\0<=i/\∃ y,xs[i.toNat]?=some y/\Q y (upd H l (.lst (xs.eraseIdx i.toNat)))):=rfl
theorem rAppendU_ref (H:Hp) (Q:VK) (l:Addr) (y:V):rAppendU (.ref l) [y] H Q=(∃ xs,lstOf (H l)=some xs/\xs.length < sizeLine/\Q .non (upd H l (.lst (xs++[y])))):=rfl
theorem rEqU_int (H:Hp) (Q:VK) (i j:Int):rEqU (.int i) (.int j) H Q=(Q (.bl (decide (i=j))) H):=rfl
theorem rEqU_bl (H:Hp) (Q:VK) (i j:Bool):rEqU (.bl i) (.bl j) H Q=(Q (.bl (decide (i=j))) H):=rfl
theorem rEqU_str (H:Hp) (Q:VK) (i j:Str):rEqU (.str i) (.str j) H Q=(Q (.bl (decide (i=j))) H):=rfl
theorem rEqU_ref (H:Hp) (Q:VK) (i j:Addr):rEqU (.ref i) (.ref j) H Q=(rEqD (.ref i) (.ref j) H Q):=rfl
theorem rNeU_int (H:Hp) (Q:VK) (i j:Int):rNeU (.int i) (.int j) H Q=(Q (.bl (!decide (i=j))) H):=rfl
theorem rNeU_bl (H:Hp) (Q:VK) (i j:Bool):rNeU (.bl i) (.bl j) H Q=(Q (.bl (!decide (i=j))) H):=rfl
theorem rNeU_str (H:Hp) (Q:VK) (i j:Str):rNeU (.str i) (.str j) H Q=(Q (.bl (!decide (i=j))) H):=rfl
theorem rNeU_ref (H:Hp) (Q:VK) (i j:Addr):rNeU (.ref i) (.ref j) H Q=(rNeD (.ref i) (.ref j) H Q):=rfl
theorem rIsU_ty (K:PySem.W.Frag) (x:V) (c:String) (H:Hp) (Q:VK):rIsU K [x,.ty c] H Q=(∃ t b,TyOf K H x t/\PySem.W.kitOne K t (.type c)=some b/\Q (.bl b) H):=rfl
theorem rSetU_ref (p:Addr) (k:Int) (v:V) (H:Hp) (Q:Hp->Prop):rSetU (.ref p) (.int k) v H Q=(∃ xs,lstOf (H p)=some xs/\∃ j,ixN xs.length k=some j/\Q (upd H p (.lst (xs.set j v)))):=rfl
theorem isL_ref (p:Addr) (H:Hp):isL (.ref p) H=((lstOf (H p)).isSome=true):=rfl
def LoopR (J:It) (g:TG) (tb:TS) (D:Ends) (σ:L2.St) (H1:Hp):Prop:=∃ W:Nat->Nat->L2.St->Hp->Prop,(∃ m,W 0 m σ H1)/\∀ i m σ H,W i m σ H ->
  (J.stop i H/\D.nx σ H)∨(J.go i H/\∃ N:L2.St->Hp->Prop,(∀ σ' H',N σ' H'->∃ m',m' < m/\W (i+1) m' σ' H')/\∀ x H',J.yld i H x H'->g x σ H' fun σ2 H2=>tb { D with nx:=N,ct:=N,bk:=D.nx } σ2 H2)
theorem tFor_eq (wi:TI) (g:TG) (tb:TS) (D:Ends) (σ:L2.St) (H:Hp):tFor wi g tb D σ H=wi σ H fun J H1=>LoopR J g tb D σ H1:=rfl
theorem loop_range {lo:Int} {n:Nat} {g:TG} {tb:TS} {D:Ends} {σ:L2.St} {H:Hp} (Pv:Nat->L2.St->Hp->Prop) (h0:Pv 0 σ H)
    (hs:∀ i σ H,i < n->Pv i σ H->g (.int (lo+i)) σ H fun σ2 H2=>tb { D with nx:=Pv (i+1),ct:=Pv (i+1),bk:=D.nx } σ2 H2) (hd:∀ σ H,Pv n σ H->D.nx σ H):LoopR (Itr lo n) g tb D σ H:=for_range Pv h0 hs hd
theorem loop_str {z:Str} {g:TG} {tb:TS} {D:Ends} {σ:L2.St} {H:Hp} (Pv:Nat->L2.St->Hp->Prop) (h0:Pv 0 σ H)
    (hs:∀ i c σ H,z.cps.toList[i]?=some c->Pv i σ H->g (.str ⟨#[c]⟩) σ H fun σ2 H2=>tb { D with nx:=Pv (i+1),ct:=Pv (i+1),bk:=D.nx } σ2 H2) (hd:∀ σ H,Pv z.length σ H->D.nx σ H):LoopR (ItS z) g tb D σ H:=for_str Pv h0 hs hd
theorem loop_list {K:PySem.W.Frag} {a:Addr} {xs:List V} {g:TG} {tb:TS} {D:Ends} {σ:L2.St} {H:Hp} (Pv:Nat->L2.St->Hp->Prop) (h0:Pv 0 σ H) (hl:∀ i σ H,i<=xs.length->Pv i σ H->H a=some (.lst xs))
    (hs:∀ i x σ H,xs[i]?=some x->Pv i σ H->g x σ H fun σ2 H2=>tb { D with nx:=Pv (i+1),ct:=Pv (i+1),bk:=D.nx } σ2 H2) (hd:∀ σ H,Pv xs.length σ H->D.nx σ H):LoopR (Itl K a) g tb D σ H :=
  for_list Pv h0 (fun i σ H h p=>SqL.of (hl i σ H h p)) hs hd
theorem loop_tup {K:PySem.W.Frag} {a:Addr} {xs:List V} {g:TG} {tb:TS} {D:Ends} {σ:L2.St} {H:Hp} (Pv:Nat->L2.St->Hp->Prop) (h0:Pv 0 σ H) (hl:∀ i σ H,i<=xs.length->Pv i σ H->H a=some (.tup xs))
    (hs:∀ i x σ H,xs[i]?=some x->Pv i σ H->g x σ H fun σ2 H2=>tb { D with nx:=Pv (i+1),ct:=Pv (i+1),bk:=D.nx } σ2 H2) (hd:∀ σ H,Pv xs.length σ H->D.nx σ H):LoopR (Itt K a) g tb D σ H :=
  for_tup Pv h0 (fun i σ H h p=>SqT.of (hl i σ H h p)) hs hd
end
end L2
namespace L2
open PySem PySem.Spec PyProof.Rows
def clOf (env:Env):List (Str × NameKind)->List (Str × Addr)->List (Str × Addr)
  | [],cs=>cs
  | (n,k)::r,cs=>clOf env r (if k == .free then (n,(env.cells.lookup n).getD 0)::cs else cs)
theorem closure_of {env:Env} {scope:Scope} (h:∀ y ∈ scope.names,y.2=.free->∃ c,env.cells.lookup y.1=some c):closureFor scope env=pure (clOf env scope.names []):=by
  have gen:∀ (l:List (Str × NameKind)) (cs:List (Str × Addr)),(∀ y ∈ l,y.2=.free->∃ c,env.cells.lookup y.1=some c) ->
      (forIn l cs fun x r=>(match x with | (name,kind)=>if (kind == NameKind.free)=true then do let c ← cellOf env name;pure (ForInStep.yield ((name,c)::r)) else pure (ForInStep.yield r)):Sem (List (Str × Addr)))=pure (clOf env l cs):=by
    intro l
    induction l with
    | nil=>intro cs _;rfl
    | cons y l ih =>
      intro cs hy
      obtain ⟨n,k⟩:=y
      rw [List.forIn_cons]
      have hr:=fun z hz=>hy z (List.mem_cons_of_mem _ hz)
      by_cases hk:k=.free
      · subst hk
        obtain ⟨c,hc⟩:=hy _ (List.mem_cons_self ..) rfl
        have hc':env.cells.lookup n=some c:=hc
        have e:cellOf env n=pure c:=by unfold cellOf;rw [hc']
        simp only [beq_self_eq_true,if_true,e,pure_bind]
        rw [ih _ hr]
        simp [clOf,hc']
      · have hb:(k == NameKind.free)=false:=by simpa using hk
        simp only [hb,Bool.false_eq_true,if_false,pure_bind]
        rw [ih _ hr]
        simp [clOf,hb]
  exact (congrArg (· >>= fun s=>pure s) (gen scope.names [] h)).trans (by rfl)
theorem clOf_sub {env:Env}:∀ (l:List (Str × NameKind)) (cs:List (Str × Addr)) (x:Str) (c:Addr),(∀ y ∈ l,y.2=.free->∃ c,env.cells.lookup y.1=some c)->(∀ x c,cs.lookup x=some c->env.cells.lookup x=some c) ->
    (clOf env l cs).lookup x=some c->env.cells.lookup x=some c
  | [],cs,x,c,_,hc,h=>hc x c h
  | (n,k)::r,cs,x,c,hl,hc,h=>by
    unfold clOf at h
    refine clOf_sub r _ x c (fun y hy=>hl y (List.mem_cons_of_mem _ hy)) (fun z d hz=>?_) h
    split at hz
    · rename_i hk
      rw [List.lookup_cons] at hz
      cases hzn:z == n with
      | true =>
        rw [hzn] at hz
        obtain ⟨c',hc'⟩:=hl _ (List.mem_cons_self ..) (by simpa using hk)
        have hc'':env.cells.lookup n=some c':=hc'
        have ez:z=n:=by simpa using hzn
        subst ez
        rw [hc''] at hz
        rw [hc'']
        exact hz
      | false=>rw [hzn] at hz;exact hc z d hz
    · exact hc z d hz
theorem clOf_keep {env:Env}:∀ (l:List (Str × NameKind)) (cs:List (Str × Addr)) (x:Str),(∃ c,cs.lookup x=some c)->∃ c,(clOf env l cs).lookup x=some c
  | [],cs,x,h=>h
  | (n,k)::r,cs,x,h=>by
    unfold clOf
    refine clOf_keep r _ x ?_
    split
    · rw [List.lookup_cons]
      cases x == n with
      | true=>exact ⟨_,rfl⟩
      | false=>exact h
    · exact h
theorem clOf_has {env:Env}:∀ (l:List (Str × NameKind)) (cs:List (Str × Addr)) (x:Str),(x,NameKind.free) ∈ l->∃ c,(clOf env l cs).lookup x=some c
  | (n,k)::r,cs,x,h=>by
    unfold clOf
    rcases List.mem_cons.mp h with h | h
    · cases h
      refine clOf_keep r _ _ ?_
      simp [List.lookup_cons]
    · exact clOf_has r _ x h
abbrev Cx.comp (X:Cx) (scope:Scope) (C:Addr) (Nc:List Str) (s3:Shared) (H3:Hp) (fp:List Addr):Cx :=
  { X with N:=Nc,s₀:=s3,H₀:=H3,env:=compEnvC scope (clOf X.env scope.names []) C X.env,outer:=X.stack,stack:=X.stack,ex:=fp,fn:=fun _=>false,pn:=[],xe:=fun _ _=>False }
def compSt (js:List (Option Nat)) (σ:L2.St):L2.St:=js.map fun o=>o.bind fun j=>(σ[j]?).getD none
def tEmit (D:Addr) (te:TE):TS:=fun E σ H=>te σ H fun v H1=>∃ ys,lstOf (H1 D)=some ys/\ys.length < sizeLine/\E.nx σ (upd H1 D (.lst (ys++[v])))
def tComp (wi:TI) (g:TG) (js:List (Option Nat)) (te:TE):TE:=fun σ H Q=>wi σ H fun J H1=>∀ D,H1 D=none ->
  LoopR J g (tEmit D te) { nx:=fun _ H'=>Q (.ref D) H',rt:=fun _ _=>False } (compSt js σ) (upd H1 D (.lst []))
structure CompOk (X:Cx) (scope:Scope) (Nc:List Str) (js:List (Option Nat)):Prop where
  kind:scope.kind=.function
  nocell:∀ y ∈ scope.names,y.2≠.cell
  loc:∀ y ∈ scope.names,y.2=.local->scope.names.lookup y.1=some .local
  free:∀ y ∈ scope.names,y.2=.free->X.env.kindOf y.1=some .cell∨X.env.kindOf y.1=some .free
  len:js.length=Nc.length
  nol:∀ x,(x,NameKind.free) ∈ scope.names->scope.names.lookup x≠some .local
  see:∀ (i j:Nat) (x:Str),js[i]?=some (some j)->Nc[i]?=some x->X.N[j]?=some x/\(x,NameKind.free) ∈ scope.names
section
variable {X:Cx} {pins:List (Addr × Obj)} {σ:L2.St} {H:Hp} {s:Shared} {scope:Scope} {Nc:List Str} {js:List (Option Nat)} {fp:List Addr}
theorem CompOk.has (c:CompOk X scope Nc js) (I:Inv X pins σ H s):∀ y ∈ scope.names,y.2=.free->∃ a,X.env.cells.lookup y.1=some a:=fun y hy hf=>I.ok.has _ (c.free y hy hf)
theorem relabel_kind {env:Env} {x:Str}:∀ {l:List (Str × NameKind)},(∀ y ∈ l,y.2≠.cell) ->
    ((l.map fun (n,k)=>if (k == NameKind.free && env.scope.kind == .function && env.kindOf n == some .cell) then (n,NameKind.cell) else (n,k)).lookup x=some .cell ∨
     (l.map fun (n,k)=>if (k == NameKind.free && env.scope.kind == .function && env.kindOf n == some .cell) then (n,NameKind.cell) else (n,k)).lookup x=some .free)->(x,NameKind.free) ∈ l
  | [],_,h=>by simp at h
  | (n,k)::r,hc,h=>by
    rw [List.map_cons] at h
    by_cases hx:x=n
    · subst hx
      have hk:k=.free:=by
        have hk':k≠.cell:=hc _ (List.mem_cons_self ..)
        by_cases hcond:(k == NameKind.free && env.scope.kind == .function && env.kindOf x == some .cell)=true
        · rw [Bool.and_eq_true,Bool.and_eq_true] at hcond
          simpa using hcond.1.1
        · simp only [hcond,Bool.false_eq_true,if_false,List.lookup_cons,beq_self_eq_true] at h
          rcases h with h | h
          · exact absurd (Option.some.inj h) hk'
          · exact Option.some.inj h
      subst hk
      exact List.mem_cons_self ..
    · refine List.mem_cons_of_mem _ (relabel_kind (env:=env) (fun y hy=>hc y (List.mem_cons_of_mem _ hy)) ?_)
      have hxn:(x == n)=false:=by simpa using hx
      by_cases hcond:(k == NameKind.free && env.scope.kind == .function && env.kindOf n == some .cell)=true
      · simpa only [hcond,if_true,List.lookup_cons,hxn] using h
      · simpa only [hcond,Bool.false_eq_true,if_false,List.lookup_cons,hxn] using h
theorem relabel_loc {env:Env} {x:Str}:∀ {l:List (Str × NameKind)},
    (l.map fun (n,k)=>if (k == NameKind.free && env.scope.kind == .function && env.kindOf n == some .cell) then (n,NameKind.cell) else (n,k)).lookup x=some .local->l.lookup x=some .local
  | [],h=>by simp at h
  | (n,k)::r,h=>by
    rw [List.map_cons] at h
    by_cases hx:x=n
    · subst hx
      by_cases hcond:(k == NameKind.free && env.scope.kind == .function && env.kindOf x == some .cell)=true
      · simp only [hcond,if_true,List.lookup_cons,beq_self_eq_true] at h
        cases h
      · simp only [hcond,Bool.false_eq_true,if_false,List.lookup_cons,beq_self_eq_true] at h
        simp only [List.lookup_cons,beq_self_eq_true]
        exact h
    · have hxn:(x == n)=false:=by simpa using hx
      rw [List.lookup_cons,hxn]
      refine relabel_loc (env:=env) ?_
      by_cases hcond:(k == NameKind.free && env.scope.kind == .function && env.kindOf n == some .cell)=true
      · simpa only [hcond,if_true,List.lookup_cons,hxn] using h
      · simpa only [hcond,Bool.false_eq_true,if_false,List.lookup_cons,hxn] using h
theorem comp_ok (c:CompOk X scope Nc js) (I:Inv X pins σ H s) (hf:∀ b ∈ fp,FpOk X pins H b) (ho:∀ b ∈ fp,∃ o,s.heap.get? b=some o):(X.comp scope s.heap.objs.size Nc s H fp).Ok:=by
  have hs:=c.has I
  have sub:∀ x a,(clOf X.env scope.names []).lookup x=some a->X.env.cells.lookup x=some a:=fun x a=>clOf_sub _ _ x a hs (fun _ _ z=>nomatch z)
  refine ⟨I.ok.mod,c.kind,I.ok.glob,I.ok.blt,Nat.le_refl _,fun x y a e1 e2=>I.ok.inj x y a (sub x a e1) (sub y a e2),fun x h=>clOf_has _ _ x (relabel_kind (env:=X.env) c.nocell h),(fun x a h=>nomatch h),I.ok.hd,I.ok.frames,.inl rfl,fun b hb=>⟨?_,fun x a e=>?_⟩,I.bs,
    Nat.le_trans I.ok.bsz I.sz,fun b o e hb=>?_,fun b hb hb'=>?_,I.stack,I.stkFree⟩
  · obtain ⟨o,e⟩:=ho b hb
    exact Nat.ne_of_lt (Heap.lt_size e)
  · exact (hf b hb).2.2.2.2.1 x a (sub x a e)
  · rcases (hf b hb).2.2.2.1 with z | z
    · exact I.ok.noex b o e z
    · exact absurd (Nat.lt_of_lt_of_le (Heap.lt_size (I.ok.bs b o e).1) z) (Nat.lt_irrefl _)
  · rcases List.mem_cons.mp (I.stkSub b hb') with z | z
    · exact (hf b hb).2.1 z
    · exact (hf b hb).2.2.1 z
theorem comp_inv (c:CompOk X scope Nc js) (I:Inv X pins σ H s) (hf:∀ b ∈ fp,FpOk X pins H b) (ho:∀ b ∈ fp,∃ o,s.heap.get? b=some o) {h':Heap} {m:Str->Option Value} {tk:Nat} (hn:h'.Ns s.heap.objs.size m)
    (hk:∀ b o,s.heap.get? b=some o->h'.get? b=some o):Inv (X.comp scope s.heap.objs.size Nc s H fp) [] (compSt js σ) H { s with heap:=h',toks:=tk }:=by
  have hs:=c.has I
  have sub:∀ x a,(clOf X.env scope.names []).lookup x=some a->X.env.cells.lookup x=some a:=fun x a=>clOf_sub _ _ x a hs (fun _ _ z=>nomatch z)
  refine ⟨comp_ok c I hf ho,rfl,I.bare,Un.kept hk,⟨m,hn,fun i x v e1 e2 e3=>?_⟩,fun x a e=>?_,I.hok.fresh (Nat.le_refl _),fun x a e=>I.freeC x a (sub x a e),(fun p hp=>nomatch hp),I.hok.kept hk,by simp only [compSt,List.length_map];exact c.len⟩
  · have e2':(compSt js σ)[i]?=some (some v):=e2
    unfold compSt at e2'
    rw [List.getElem?_map] at e2'
    cases ej:js[i]? with
    | none=>rw [ej] at e2';cases e2'
    | some o =>
      rw [ej] at e2'
      cases o with
      | none=>cases e2'
      | some j =>
        have e4:(σ[j]?).getD none=some v:=Option.some.inj e2'
        have e5:σ[j]?=some (some v):=by
          cases q:σ[j]? with
          | none=>rw [q] at e4;cases e4
          | some w=>rw [q] at e4;exact congrArg some e4
        obtain ⟨n1,n2⟩:=c.see i j x ej e1
        have hkd:=c.free _ n2 rfl
        obtain ⟨a,ha⟩:=clOf_has (env:=X.env) scope.names [] x n2
        obtain ⟨m0,_,hl⟩:=I.loc
        obtain ⟨u,r,l⟩:=hl j x v n1 e5 (by
          rcases hkd with z | z
          · exact .inr (.inl z)
          · exact .inr (.inr z))
        refine ⟨u,r,?_⟩
        rcases l with ⟨k,_⟩ | ⟨_,a',ha',hcell⟩
        · rcases hkd with z | z
          · rw [z] at k;cases k
          · rw [z] at k;cases k
        · have:a'=a:=Option.some.inj (ha'.symm.trans (sub x a ha))
          subst this
          refine .inr ⟨?_,a',ha,?_⟩
          · rcases e3 with z | z | z
            · exfalso
              have q:(relabel scope X.env).names.lookup x=some .local:=z
              exact c.nol x n2 (relabel_loc q)
            · exact .inl z
            · exact .inr z
          · obtain ⟨o,q,d⟩:=hcell
            exact ⟨o,hk _ o q,d⟩
  · obtain ⟨v,o,q,d⟩:=I.cell x a (sub x a e)
    exact ⟨v,o,hk _ o q,d⟩
theorem comp_after (I:Inv X pins σ H s) (hf:∀ b ∈ fp,FpOk X pins H b) {σ':L2.St} {H':Hp} {s':Shared} {h'':Heap} (J:Inv (X.comp scope s.heap.objs.size Nc s H fp) [] σ' H' s') (hs:Heap.SameBut s.heap.objs.size s'.heap h'') :
    Inv X pins σ H' { s' with heap:=h'' }:=by
  have ne:∀ b o,s.heap.get? b=some o->b≠s.heap.objs.size:=fun b o e=>Nat.ne_of_lt (Heap.lt_size e)
  have u:Un (frs X.stack) fp H H' s.heap s'.heap:=J.base
  refine I.call' (s':={ s' with heap:=h'' }) (ch:=fp) J.os ⟨fun b o e n hb hx=>?_,fun b o e n hb hx=>?_,u.free,fun b o e hx=>?_,u.tups,u.frzs,u.tbls⟩ (fun b o e=>?_) J.bare fun b hb=>?_
  · exact (hs.2 b (ne b o e)).trans (u.keep b o e n hb hx)
  · obtain ⟨sl,q⟩:=u.slot b o e n hb hx
    exact ⟨sl,(hs.2 b (ne b o e)).trans q⟩
  · obtain ⟨o',q⟩:=u.there b o e hx
    exact ⟨o',(hs.2 b (ne b o e)).trans q⟩
  · have hC:H' s.heap.objs.size=none:=J.free
    refine (J.hok b o e).stay (fun d v hd q=>(hs.2 d ?_).trans q) (fun _ q=>q) fun _ _ q=>q
    rintro rfl
    rcases hd with z | z
    · rw [← z,hC] at e;cases e
    · rw [hC] at z;cases z
  · obtain ⟨_,f1,_,f3,f4,f5⟩:=hf b hb
    exact ⟨f3,f1,f4,f5⟩
end
section
variable {X:Cx} {scope:Scope} {Nc:List Str} {js:List (Option Nat)} {elt tg iter:Expr} {pos:Pos} {wi:TI} {g:TG} {te:TE}
theorem comp_core (hc:X.calm=true) (c:CompOk X scope Nc js) (hi:PI X tg iter wi) (hg:∀ C s3 H3 fp,PG (X.comp scope C Nc s3 H3 fp) tg g) (he:∀ C s3 H3 fp,PE (X.comp scope C Nc s3 H3 fp) elt te)
    {pins:List (Addr × Obj)} {s:Shared} {σ:L2.St} {H:Hp} (I:Inv X pins σ H s) {RR:Value->Addr->Result->Shared->Prop} {NX:Addr->Hp->Prop}
    (h:wi σ H fun J H1=>∀ D,H1 D=none->LoopR J g (tEmit D te) { nx:=fun _ H'=>NX D H',rt:=fun _ _=>False } (compSt js σ) (upd H1 D (.lst [])))
    (fin:∀ D H3 s3 fp σ5 H5 s6,Inv X pins σ H3 s3->(∀ b ∈ fp,FpOk X pins H3 b)->Inv (X.comp scope s3.heap.objs.size Nc s3 H3 fp) [] σ5 H5 s6->NX D H5->RR (.ref D) s3.heap.objs.size (.ok .next) s6) :
    wpAny (model X.prog X.w) X.A (eval iter X.env) (fun x s₁=>wpAny (model X.prog X.w) X.A (pyIter x) (fun it s₂=>wpAny (model X.prog X.w) X.A (newList []) (fun acc s₃ =>
      wpAny (model X.prog X.w) X.A (newFunctionEnv scope X.env.globals (clOf X.env scope.names []) [] X.env.qual none .none (some X.env)) (fun cenv s₄ =>
        codeAny (model X.prog X.w) X.A (.compStart (.ListComp elt [⟨tg,iter,[],0⟩] scope pos) 0 it acc { cenv with scope:=relabel scope X.env }) (RR acc cenv.locals) s₄) X.xe s₃) X.xe s₂) X.xe s₁) X.xe s:=by
  refine thn (hi pins s σ H _ I h) fun v s1 h1=>thn h1 fun itv s2 h2=>?_
  obtain ⟨it,fp,tn,J,H2,rfl,I2,T,st2,f2,h2⟩:=h2
  refine wpAny_newObj_type ?_ (by show 0<=sizeLine;decide)
  have hD:H2 s2.heap.objs.size=none:=I2.hok.fresh (Nat.le_refl _)
  have I3:Inv X pins σ (upd H2 s2.heap.objs.size (.lst [])) { s2 with heap:=s2.heap.push { cls:=.type "list",data:=.seq ([]:List Value).toArray } } :=
    I2.laid (t':=s2.toks) (fun b u e=>Heap.get?_push_of_some _ e) (Nat.le_refl _) ⟨by show 0<=sizeLine;decide,[],0,.nil,Heap.get?_push_size _ rfl⟩
  have f3:∀ b ∈ fp,FpOk X pins (upd H2 s2.heap.objs.size (.lst [])) b:=fun b hb=>by
    obtain ⟨q0,q⟩:=f2 b hb
    obtain ⟨o,e,_⟩:=T.obj _ _ st2 b hb
    exact ⟨by rw [je (Nat.ne_of_lt (Heap.lt_size e))];exact q0,q⟩
  have o3:∀ b ∈ fp,∃ o,(s2.heap.push { cls:=.type "list",data:=.seq ([]:List Value).toArray }).get? b=some o:=fun b hb=>by
    obtain ⟨o,e,_⟩:=T.obj _ _ st2 b hb
    exact ⟨o,Heap.get?_push_of_some _ e⟩
  have st3:tn 0 (s2.heap.push { cls:=.type "list",data:=.seq ([]:List Value).toArray }):=T.keep _ _ _ st2 fun b _ o e=>Heap.get?_push_of_some _ e
  generalize hh3:s2.heap.push { cls:=.type "list",data:=.seq ([]:List Value).toArray }=h3 at I3 o3 st3 ⊢
  refine wpAny_newFunctionEnv c.nocell (by intro y hy;simp at hy) (fun h4 hn4 hs4=>?_) c.kind
  have k4:∀ b o,h3.get? b=some o->h4.get? b=some o:=fun b o e=>(hs4.2 b (Nat.ne_of_lt (Heap.lt_size e))).trans (Heap.get?_push_of_some _ e)
  have I4:=comp_inv (tk:=s2.toks+([]:List (Str × Value)).length) c I3 f3 o3 hn4 k4
  have st4:tn 0 h4:=T.keep _ _ _ st3 fun b _ o e=>k4 b o e
  obtain ⟨W,⟨m0,w0⟩,turn⟩:=h2 _ hD
  let s3:Shared:={ s2 with heap:=h3 }
  let Y:Cx:=X.comp scope h3.objs.size Nc s3 (upd H2 s2.heap.objs.size (.lst [])) fp
  have stat:∀ {H':Hp},(∀ b ∈ fp,H' b=none)->∀ b ∈ fp,FpOk Y [] H' b:=fun hn b hb=>⟨hn b hb,(I4.ok.exf b hb).1,I4.ok.exfs b hb,.inl hb,(I4.ok.exf b hb).2,(fun p hp=>nomatch hp)⟩
  have loop:codeAny (model X.prog X.w) X.A (.compLoop (.ListComp elt [⟨tg,iter,[],0⟩] scope pos) 0 (.ref it) (.ref s2.heap.objs.size) Y.env)
      (RR (.ref s2.heap.objs.size) h3.objs.size) { s2 with heap:=h4,toks:=s2.toks+([]:List (Str × Value)).length }:=by
    refine codeAny_loop rfl (fun n s'=>∃ i σ' H',Inv Y [] σ' H' s'/\tn i s'.heap/\(∀ b ∈ fp,H' b=none)/\W i n σ' H') (fun n s5 hI=>?_) m0 ⟨0,_,_,I4,st4,fun b hb=>(f3 b hb).1,w0⟩
    obtain ⟨i,σ5,H5,I5,st5,fr5,w5⟩:=hI
    show wpAny _ X.A ((compTurn (.ListComp elt [⟨tg,iter,[],0⟩] scope pos) 0 (.ref it) (.ref s2.heap.objs.size) Y.env).onRaise (fun x=>do noteFrame x Y.env;theTreesLotGoes x)) _ _ s5
    refine wpAny_noted (wpAny_mono (E:=fun _ _=>False) ?_ (fun _ _ q=>q) fun _ _ z=>z.elim)
    rw [compTurn_list1]
    refine wpAny_bind (wpAny_standAt (wpAny_bind ?_))
    rcases turn i n σ5 H5 w5 with ⟨stop,qn⟩ | ⟨go,N,hN,step⟩
    · refine thn (T.done Y rfl rfl rfl hc i [] s5 σ5 H5 _ I5 (stat fr5) st5 stop) fun r s6 ⟨hr,I6⟩=>?_
      subst hr
      refine wpAny_pure ?_
      exact fin _ _ s3 fp σ5 H5 s6 I3 f3 I6 qn
    · refine thn (T.item Y rfl rfl rfl hc i [] s5 σ5 H5 _ I5 (stat fr5) st5 go) fun r s6 ⟨u,hr,h6⟩=>?_
      subst hr
      refine wpAny_bind (thn h6 fun _ s7 ⟨x,H7,I7,r7,y7,st7,fr7⟩=>?_)
      have I7':=I7.pinned (stat fr7) (T.obj _ _ st7)
      refine wpAny_bind (thn (hg _ _ _ _ _ s7 σ5 H7 x u _ I7' r7 (step x H7 y7)) fun _ s8 ⟨σ8,H8,I8,q8⟩=>?_)
      refine wpAny_bind (wpAny_bind (thn (he _ _ _ _ _ s8 σ8 H8 _ I8 q8) fun v s9 ⟨y,H9,I9,r9,ys,e9,z9,n9⟩=>?_))
      refine wpAny_bind (thn (jba (X:=Y) _ s9 σ8 H9 (.ref s2.heap.objs.size) [y] (.ref s2.heap.objs.size) [v] (fun w H'=>N σ8 H') I9 rfl (.cons r9 .nil) ⟨_,ys,y,rfl,rfl,of_lstOf e9,z9,n9⟩) fun w s10 ⟨_,H10,I10,_,n10⟩=>?_)
      refine wpAny_pure (wpAny_pure ⟨rfl,?_⟩)
      obtain ⟨m',hm,w10⟩:=hN σ8 H10 n10
      refine ⟨m',hm,i+1,σ8,H10,I10.unpinned,T.keep _ _ _ st7 fun b hb o e=>(I10.pin (b,o) (List.mem_append_right _ (List.mem_append_right _ (mem_pinsAt hb e)))).1,fun b hb=>?_,w10⟩
      obtain ⟨o,e,d⟩:=T.obj _ _ st7 b hb
      exact (I10.pin (b,o) (List.mem_append_right _ (List.mem_append_right _ (mem_pinsAt hb e)))).2.1
  exact codeAny_compStart_list loop (T.self _ 0 _ _ _ st4 loop)
theorem pe_comp (hc:X.calm=true) (c:CompOk X scope Nc js) (hi:PI X tg iter wi) (hg:∀ C s3 H3 fp,PG (X.comp scope C Nc s3 H3 fp) tg g) (he:∀ C s3 H3 fp,PE (X.comp scope C Nc s3 H3 fp) elt te)
    (hs:∀ x,foldedSetIterable iter X.env x=pure x:=by intro _;rfl):PE X (.ListComp elt [⟨tg,iter,[],0⟩] scope pos) (tComp wi g js te):=by
  intro pins s σ H Q I h
  rw [eval_ListComp]
  refine wpAny_comprehension_free (use:=none) (g:=⟨tg,iter,[],0⟩) (gs:=[]) rfl hs (closure_of (c.has I)) c.kind c.loc
    (comp_core (RR:=fun acc C=>compPost (model X.prog X.w) X.A X.xe none (EP X pins σ Q) acc C) (NX:=fun D H'=>Q (.ref D) H') hc c hi hg he I h fun D H3 s3 fp σ5 H5 s6 I3 f3 I6 qn=>?_)
  obtain ⟨m,hn,_⟩:=I6.loc
  exact ⟨m,hn,fun h' hs'=>⟨.ref D,H5,comp_after I3 f3 I6 hs',rfl,qn⟩⟩
theorem ps_setc {i:Nat} {y:Str} {py spos:Pos} (hN:X.N.Nodup) (hiN:X.N[i]?=some y) (hy:Loc X.env.scope y) (hc:X.calm=true) (c:CompOk X scope Nc js) (hi:PI X tg iter wi) (hg:∀ C s3 H3 fp,PG (X.comp scope C Nc s3 H3 fp) tg g)
    (he:∀ C s3 H3 fp,PE (X.comp scope C Nc s3 H3 fp) elt te) (hsw:swapsWith (.ListComp elt [⟨tg,iter,[],0⟩] scope pos) (some (.Name y py)) spos.line X.env=pure true:=by rfl)
    (hs:∀ x,foldedSetIterable iter X.env x=pure x:=by intro _;rfl) (hf:X.fn y=true∨X.env.scope.names.lookup y=some .local:=by first | exact .inl rfl | exact .inr rfl | assumption) :
    PS X (.Assign [.Name y py] (.ListComp elt [⟨tg,iter,[],0⟩] scope pos) spos) (tAsg (tComp wi g js te) (gName i)):=by
  intro pins s σ H D I h
  rw [exec_Assign_Name_used _ _ _ _ hsw]
  refine wpAny_bind (wpAny_standAt (wpAny_bind ?_))
  show wpAny _ X.A (do let _ ← comprehension (.ListComp elt [⟨tg,iter,[],0⟩] scope pos) scope X.env _ (newList []) false (eval iter X.env) (some (assign (.Name y py) X.env))) _ _ s
  refine wpAny_bind (wpAny_mono (wpAny_comprehension_free (use:=some (assign (.Name y py) X.env)) (g:=⟨tg,iter,[],0⟩) (gs:=[]) (Q:=fun _ s'=>SP X pins D .next s') rfl hs (closure_of (c.has I)) c.kind c.loc
    (comp_core (RR:=fun acc C=>compPost (model X.prog X.w) X.A X.xe (some (assign (.Name y py) X.env)) (fun _ s'=>SP X pins D .next s') acc C) (NX:=fun Da H'=>D.nx (σ.set i (some (.ref Da))) H') hc c hi hg he I h fun Da H3 s3 fp σ5 H5 s6 I3 f3 I6 qn=>?_))
    (fun _ s' hq=>wpAny_pure (wpAny_pure hq)) fun _ _ e=>e)
  obtain ⟨m,hn,_⟩:=id I6.loc
  have I7:Inv X pins σ H5 s6:=comp_after I3 f3 I6 (.refl ..)
  have hC:H5 s3.heap.objs.size=none:=I6.free
  have nL:s3.heap.objs.size≠X.env.locals:=Nat.ne_of_gt I3.lt
  have nc:∀ x a,X.env.cells.lookup x=some a->a≠s3.heap.objs.size:=fun x a e=>by
    obtain ⟨v,q⟩:=I3.cell x a e
    exact Nat.ne_of_lt q.lt
  have np:∀ p ∈ X.pn++pins,p.1≠s3.heap.objs.size:=fun p hp=>Nat.ne_of_lt (Heap.lt_size (I3.pin p hp).1)
  show wpAny _ _ (assign (.Name y py) X.env (.ref Da)) _ _ _
  refine wpAny_assign_Name (store_ok2 (v:=.ref Da) I7 hN hiN hy rfl (fun s8 I8 hb=>?_) hf)
  obtain ⟨a,hs8,ha⟩:=hb
  have nCa:s3.heap.objs.size≠a:=by
    rcases ha with z | z
    · rw [z];exact nL
    · exact (nc y a z).symm
  refine ⟨m,hn.sameBut hs8 nCa,fun h9 hs9=>?_⟩
  exact ⟨_,H5,I8.turned (t':=s8.toks) (fun b o hb e=>(hs9.2 b hb).trans e) hC nL (.inr (Nat.le_trans I3.sz (Nat.le_refl _))) nc np,qn⟩
end
end L2
namespace L2
open PySem PySem.Spec PyProof.Rows
section
variable {X:Cx}
def rTupleU:List V->Hp->VK->Prop:=fun xs H Q=>match xs with
  | [.ref p]=>(∃ ys,lstOf (H p)=some ys/\∀ l,H l=none->Q (.ref l) (upd H l (.tup ys)))∨(∃ ys,tupOf (H p)=some ys/\Q (.ref p) H)
  | _=>False
theorem jaq:CallR X (.type "tuple") rTupleU:=by
  intro pins s σ H xs us Q I r h
  unfold rTupleU at h
  split at h
  · rename_i p
    rcases h with ⟨ys,e,h⟩ | ⟨ys,e,h⟩
    · exact ja9 pins s σ H _ us Q I r ⟨p,ys,rfl,.inl ⟨SqL.of (of_lstOf e),h⟩⟩
    · exact ja9 pins s σ H _ us Q I r ⟨p,ys,rfl,.inr ⟨SqT.of (of_tupOf e),h⟩⟩
  · exact h.elim
theorem rTupleU_lst {p:Addr} {H:Hp} {Q:VK} {ys:List V} (e:H p=some (.lst ys)) (h:∀ l,H l=none->Q (.ref l) (upd H l (.tup ys))):rTupleU [.ref p] H Q:=.inl ⟨ys,by rw [e];rfl,h⟩
def rMulW:R2:=fun x y H Q=>match x,y with
  | .int i,.int j=>CMul i j/\Q (.int (i * j)) H
  | .ref l,.int k=>∃ xs,lstOf (H l)=some xs/\0<=k/\k < 2 ^ 62/\xs.length * k.toNat<=sizeLine/\∀ p,H p=none->Q (.ref p) (upd H p (.lst (List.replicate k.toNat xs).flatten))
  | _,_=>False
theorem z8:OpR X (binaryOp .Mult) rMulW:=by
  intro pins s σ H x y v u Q I rx ry h
  cases x with
  | int i=>cases y with
    | int j=>exact op_mul pins s σ H _ _ v u Q I rx ry ⟨i,j,rfl,rfl,h⟩
    | _=>exact False.elim h
  | ref l=>cases y with
    | int k =>
      obtain ⟨xs,e,k0,k1,h⟩:=h
      exact op_rep pins s σ H _ _ v u Q I rx ry ⟨l,k,xs,rfl,rfl,of_lstOf e,by omega,by omega,h⟩
    | _=>exact False.elim h
  | _=>exact False.elim h
theorem rMulW_int (H:Hp) (Q:VK) (i j:Int):rMulW (.int i) (.int j) H Q=(CMul i j/\Q (.int (i * j)) H):=rfl
theorem rMulW_ref (H:Hp) (Q:VK) (l:Addr) (k:Int):rMulW (.ref l) (.int k) H Q=(∃ xs,lstOf (H l)=some xs/\0<=k/\k < 2 ^ 62/\xs.length * k.toNat<=sizeLine/\∀ p,H p=none->Q (.ref p) (upd H p (.lst (List.replicate k.toNat xs).flatten))):=rfl
def isS (x:V):Prop:=match x with
  | .str _=>True
  | _=>False
def tBMS (r:V->List V->Hp->VK->Prop) (to:TE) (t:TA):TE:=fun σ H Q=>to σ H fun x H1=>isS x/\t σ H1 fun xs H2=>r x xs H2 Q
theorem isS.ty {K:PySem.W.Frag} {x:V} {H:Hp} (h:isS x):tyV K "str" x H:=by
  unfold isS at h
  split at h
  · rfl
  · exact h.elim
theorem isS_str (z:Str):isS (.str z)=True:=rfl
theorem mono_c {v:V}:∀ σ H Q Q',(∀ v H',Q v H'->Q' v H')->tC v σ H Q->tC v σ H Q':=fun _ _ _ _ h q=>h _ _ q
variable {o e:Expr} {es:List Expr} {to:TE} {t:TA} {name:Str} {apos cpos:Pos} {id:String} {r:V->List V->Hp->VK->Prop}
theorem pe_bmS (slot:Slot "str" name id) (hty:typeOf (.builtin id)=pure (.type "method_descriptor")) (hm:MtM X id r) (ho:PE X o to) (ha:PA X (e::es) t) (mono:∀ σ H Q Q',(∀ v H',Q v H'->Q' v H')->to σ H Q->to σ H Q')
    (hbase:attributeBase o name X.env (eval o X.env)=eval o X.env:=by rfl)
    (hfew:((backTo cpos (starEach (e::es) X.env)).all (fun x=>!x.1) && (backToKw cpos (keywordEach [] X.env)).all (fun x=>x.1.isSome)
      && decide ((e::es).length+([]:List Keyword).length+(if ([]:List Keyword).isEmpty then 0 else 1) < 30))=true:=by rfl)
    (hline:(apos.endLine == cpos.line)=true:=by rfl) (hs:starEach (e::es) X.env=(false,eval e X.env)::starEach es X.env:=by rfl) (hplain:(backTo cpos (starEach es X.env)).any (·.1)=false:=by rfl) :
    PE X (.Call (.Attribute o name apos) (e::es) [] cpos) (tBMS r to t) :=
  (jcq PySem.F.plainAttrs_str slot hty hm ho ha hbase hfew hline hs hplain).imp fun σ H Q h=>mono σ H _ _ (fun v H' q=>⟨q.1.ty,q.2⟩) h
theorem strsAre_of:∀ {ys:List Str} {us:List Value},Vals (ys.map V.str) us->StrsAre us ys
  | [],us,r=>by rw [List.map_nil] at r;cases r;exact .nil
  | y::ys,us,r=>by
    rw [List.map_cons] at r
    cases r with
    | cons r1 r2 =>
      obtain ⟨t,rfl⟩:=r1
      exact .cons y t (strsAre_of r2)
def rJoinU:V->List V->Hp->VK->Prop:=fun x vs H Q=>match x,vs with
  | .str z,[.ref p]=>∃ ys:List Str,H p=some (.lst (ys.map V.str))/\(ys.map (·.length)).sum+ys.length * z.length<=16777216/\Q (.str (Txt.join z ys)) H
  | _,_=>False
theorem jca:MtM X "str.join" rJoinU:=by
  intro pins s σ H x vs v us Q I rx rv h
  unfold rJoinU at h
  split at h
  · rename_i z p
    obtain ⟨ys,e,hz,q⟩:=h
    obtain ⟨t,rfl⟩:=rx
    obtain ⟨u,rfl,ru⟩:=rv.one
    cases ru
    obtain ⟨its,rr,pl,_⟩:=I.list (SqL.of e)
    exact join_list pl.isList (by simpa using strsAre_of rr) hz fun t' k=>⟨.str _,H,I.tok k,⟨_,rfl⟩,q⟩
  · exact h.elim
def cutS (z:Str) (lo hi:Option Int):Str:=⟨((z.cps.toList.drop (HT.sIx z.length 0 lo)).take (HT.sIx z.length z.length hi - HT.sIx z.length 0 lo)).toArray⟩
theorem strIx_eq (lo hi:Option Int) (n:Nat):Builtin.Str.strSliceIndices lo hi 1 n=(List.range (HT.sIx n n hi - HT.sIx n 0 lo)).map (HT.sIx n 0 lo+·):=by
  rw [← sliceRange_one]
  unfold Builtin.Str.strSliceIndices
  have e1:(match lo with | none=>(if (1:Int) > 0 then (0:Int) else (n:Int) - 1) | some i=>let i:=if i < 0 then i+(n:Int) else i;if (1:Int) > 0 then max 0 (min i (n:Int)) else max (-1) (min i ((n:Int) - 1)))=((HT.sIx n 0 lo:Nat):Int):=by
    cases lo with
    | none=>simp [HT.sIx]
    | some v =>
      simp only [show (1:Int) > 0 by decide,if_true,HT.sIx]
      by_cases h:v < 0
      · simp only [h,if_true];omega
      · simp only [h,if_false];omega
  have e2:(match hi with | none=>(if (1:Int) > 0 then (n:Int) else -1) | some i=>let i:=if i < 0 then i+(n:Int) else i;if (1:Int) > 0 then max 0 (min i (n:Int)) else max (-1) (min i ((n:Int) - 1)))=((HT.sIx n n hi:Nat):Int):=by
    cases hi with
    | none=>simp [HT.sIx]
    | some v =>
      simp only [show (1:Int) > 0 by decide,if_true,HT.sIx]
      by_cases h:v < 0
      · simp only [h,if_true];omega
      · simp only [h,if_false];omega
  have key:∀ a b a' b':Int,a=a'->b=b'->sliceRange a b 1=sliceRange a' b' 1:=by
    intro a b a' b' h1 h2
    rw [h1,h2]
  exact key _ _ _ _ e1 e2
theorem cutS_eq (z:Str) (lo hi:Option Int):Txt.slice z lo hi=cutS z lo hi:=by
  have e:(Builtin.Str.strSliceIndices lo hi 1 z.length).filterMap (z.cps[·]?)=(z.cps.toList.drop (HT.sIx z.length 0 lo)).take (HT.sIx z.length z.length hi - HT.sIx z.length 0 lo):=by
    rw [strIx_eq,pick_run]
  unfold Txt.slice cutS
  split
  · rename_i h
    have h2:((Builtin.Str.strSliceIndices lo hi 1 z.length).length == z.length)=true:=by simpa using h
    have h3:(Builtin.Str.strSliceIndices lo hi 1 z.length).length=z.length:=eq_of_beq h2
    rw [strIx_eq,List.length_map,List.length_range] at h3
    have hl:z.cps.toList.length=z.length:=by simp [Str.length]
    have q:((z.cps.toList.drop (HT.sIx z.length 0 lo)).take (HT.sIx z.length z.length hi - HT.sIx z.length 0 lo))=z.cps.toList:=by
      have hb:HT.sIx z.length z.length hi<=z.length:=by
        cases hi with
        | none=>exact Nat.le_refl _
        | some v=>simp only [HT.sIx];split <;> omega
      by_cases h0:z.length=0
      · have:z.cps.toList=[]:=List.length_eq_zero_iff.mp (by omega)
        rw [this];simp
      · have ha:HT.sIx z.length 0 lo=0:=by omega
        rw [h3,ha,List.drop_zero]
        exact List.take_of_length_le (by omega)
    rw [q]
  · rw [e]
def rSlS:V->Option Int->Option Int->Hp->VK->Prop:=fun x lo hi H Q=>∃ z,x=.str z/\z.length<=sizeLine/\Q (.str (cutS z lo hi)) H
theorem sl_str:SlR X rSlS:=by
  intro pins s σ H x v vl vu lo hi sl Q I rx hs pl pu h
  obtain ⟨z,rfl,hz,q⟩:=h
  obtain ⟨t,rfl⟩:=rx
  have gen:∀ (l u:Option (Int × Tok)),vl=partValue l->vu=partValue u->lo=l.map (·.1)->hi=u.map (·.1) ->
      wpAny (model X.prog X.w) X.A (getItem (.str z t) (.ref sl)) (EP X pins σ Q) X.xe s:=by
    intro l u e1 e2 e3 e4
    subst e1 e2 e3 e4
    refine wpAny_getItem_str_slice (l:=l) (u:=u) (st:=none) hs (by rfl) ?_
    have e:(if ((((none:Option (Int × Tok)).map (·.1)).getD 1 == 1 && (slicePicked z l u none).length == z.length)=true) then z else ⟨((slicePicked z l u none).filterMap (z.cps[·]?)).toArray⟩)=cutS z (l.map (·.1)) (u.map (·.1)):=by
      rw [← cutS_eq];rfl
    refine post_val_or_str ⟨?_,fun t' c=>⟨.str (cutS z (l.map (·.1)) (u.map (·.1))),H,I.tok c,⟨t',congrArg (Value.str · t') e⟩,q⟩⟩
    rw [e,← cutS_eq]
    exact Nat.le_trans (Txt.slice_le _ _ _) hz
  refine ⟨"str",_,F.slot_str_getitem.lookup,typeIs_str _ _ _,?_⟩
  cases pl with
  | none=>cases pu with
    | none=>exact gen none none rfl rfl rfl rfl
    | int j tj=>exact gen none (some (j,tj)) rfl rfl rfl rfl
  | int i ti=>cases pu with
    | none=>exact gen (some (i,ti)) none rfl rfl rfl rfl
    | int j tj=>exact gen (some (i,ti)) (some (j,tj)) rfl rfl rfl rfl
def compChk (sc:Scope) (N:List Str) (scope:Scope) (Nc:List Str) (js:List (Option Nat)):Bool :=
  (scope.kind == .function) && scope.names.all (fun y=>!(y.2 == .cell)) && scope.names.all (fun y=>!(y.2 == .local) || scope.names.lookup y.1 == some .local) &&
  scope.names.all (fun y=>!(y.2 == .free) || ((sc.names.lookup y.1 == some .cell || sc.names.lookup y.1 == some .free) && !(scope.names.lookup y.1 == some .local))) && (js.length == Nc.length) &&
  (List.range js.length).all (fun i=>match js[i]? with
    | some (some j)=>(N[j]? == Nc[i]?) && (match Nc[i]? with | some x=>scope.names.any (fun y=>y.1 == x && y.2 == .free) | none=>true)
    | _=>true)
theorem compOk_of {sc scope:Scope} {N Nc:List Str} {js:List (Option Nat)} (hd:compChk sc N scope Nc js=true) (hsc:X.env.scope=sc:=by rfl) (hN:X.N=N:=by rfl):CompOk X scope Nc js:=by
  simp only [compChk,Bool.and_eq_true,List.all_eq_true,Bool.or_eq_true,Bool.not_eq_true',beq_iff_eq,List.mem_range] at hd
  obtain ⟨⟨⟨⟨⟨h1,h2⟩,h3⟩,h4⟩,h5⟩,h6⟩:=hd
  have kk:∀ x,X.env.kindOf x=sc.names.lookup x:=fun x=>by rw [← hsc];rfl
  refine ⟨h1,fun y hy e=>?_,fun y hy e=>?_,fun y hy e=>?_,h5,fun x hx=>?_,fun i j x e1 e2=>?_⟩
  · have:=h2 y hy
    rw [e] at this;cases this
  · rcases h3 y hy with q | q
    · rw [e] at q;cases q
    · exact q
  · rcases h4 y hy with q | q
    · rw [e] at q;cases q
    · rw [kk]
      exact q.1
  · rcases h4 _ hx with q | q
    · cases q
    · intro z
      have q2:=q.2
      rw [z] at q2
      cases q2
  · have hi:i < js.length:=(List.getElem?_eq_some_iff.mp e1).1
    have q:=h6 i hi
    rw [e1,e2] at q
    simp only [Bool.and_eq_true,beq_iff_eq,List.any_eq_true] at q
    refine ⟨by rw [hN];exact q.1,?_⟩
    obtain ⟨y,hy,hy1,hy2⟩:=q.2
    obtain ⟨a,b⟩:=y
    simp only at hy1 hy2
    subst hy1 hy2
    exact hy
end
end L2
namespace L2
open PySem PySem.Spec PyProof.Rows
theorem Inv.turnedNew {X:Cx} {pins:List (Addr × Obj)} {σ:L2.St} {H:Hp} {s:Shared} {h':Heap} {t':Nat} {fp wr:List Addr} {T:Addr} {xs:List V} {vs:List Value} (I:Inv X pins σ H s) (hf:∀ b ∈ wr,FpOk X pins H b)
    (k:∀ b o,b ∉ wr->s.heap.get? b=some o->h'.get? b=some o) (hT:s.heap.objs.size<=T) (tup:IsTup h' T vs.toArray) (r:Vals xs vs) (hz:xs.length<=sizeLine) (there:∀ b ∈ wr,∃ o,h'.get? b=some o) :
    Inv X pins σ (upd H T (.tup xs)) { s with heap:=h',toks:=t' }:=by
  have neT:∀ b u,H b=some u->b≠T:=fun b u e=>Nat.ne_of_lt (Nat.lt_of_lt_of_le (I.hok.lt e) hT)
  have nw:∀ b u,H b=some u->b ∉ wr:=fun b u e hb=>by rw [(hf b hb).1] at e;cases e
  refine I.step (g':=s.gens) (d':=s.drawn) (ch:=wr) (fun b hb=>?_) (fun b o _ _ hc e _=>k b o hc e) (fun b o _ _ hc e _=>⟨o.slots,k b o hc e⟩) (fun b o hc e n=>?_) (fun b o hc e=>⟨o,k b o hc e⟩)
    (fun b ys e=>by rw [je (neT b _ e)];exact e) (fun b o u e=>by rw [je (neT b _ e)];exact e) (fun b ps e=>⟨#[],by rw [je (neT b _ e),e];simp⟩) (fun m hm=>?_) (fun b u e=>?_) I.bare
  · obtain ⟨_,f1,_,f3,f4,f5⟩:=hf b hb
    exact ⟨f3,f1,f4,f5⟩
  · rw [je (Nat.ne_of_lt (Nat.lt_of_lt_of_le (Heap.lt_size e) hT))];exact n
  · obtain ⟨o,es,ep,ho,rr⟩:=hm
    exact ⟨o,es,ep,k _ o (fun z=>(hf _ z).2.1 rfl) ho,rr⟩
  · by_cases hb:b=T
    · subst hb
      rw [jc] at e
      cases e
      exact ⟨hz,vs,r,tup⟩
    · rw [je hb] at e
      refine (I.hok b u e).stay (fun d v hd q=>k d v ?_ q) (fun d q=>by rw [je (neT d _ q)];exact q) fun d ys q=>by rw [je (neT d _ q)];exact q
      rcases hd with rfl | hd
      · exact nw _ _ e
      · exact nw _ _ hd
section
variable {X:Cx}
end
end L2
namespace L2
open PySem PySem.Spec PyProof.Rows
section
variable {X:Cx}
def rAddW:R2:=fun x y H Q=>match x,y with
  | .int i,.int j=>Q (.int (i+j)) H
  | .str i,.str j=>i.length+j.length<=sizeLine/\Q (.str (i++j)) H
  | .ref l,.ref b=>(∃ xs zs,lstOf (H l)=some xs/\lstOf (H b)=some zs/\xs.length+zs.length<=sizeLine/\∀ p,H p=none->Q (.ref p) (upd H p (.lst (xs++zs)))) ∨
      (∃ xs zs,tupOf (H l)=some xs/\tupOf (H b)=some zs/\xs≠[]/\zs≠[]/\xs.length+zs.length<=sizeLine/\∀ p,H p=none->Q (.ref p) (upd H p (.tup (xs++zs))))
  | _,_=>False
theorem j6:OpR X (binaryOp .Add) rAddW:=by
  intro pins s σ H x y v u Q I rx ry h
  cases x with
  | int i=>cases y with
    | int j=>exact op_add pins s σ H _ _ v u Q I rx ry ⟨i,j,rfl,rfl,h⟩
    | _=>exact False.elim h
  | str i=>cases y with
    | str j=>exact op_add_str pins s σ H _ _ v u Q I rx ry ⟨i,j,rfl,rfl,h⟩
    | _=>exact False.elim h
  | ref l=>cases y with
    | ref b =>
      rcases h with ⟨xs,zs,e1,e2,h⟩ | ⟨xs,zs,e1,e2,n1,n2,hz,h⟩
      · exact op_cat pins s σ H _ _ v u Q I rx ry ⟨l,b,xs,zs,rfl,rfl,of_lstOf e1,of_lstOf e2,h⟩
      · exact jch pins s σ H _ _ v u Q I rx ry ⟨l,b,xs,zs,rfl,rfl,SqT.of (of_tupOf e1),SqT.of (of_tupOf e2),n1,hz,fun z=>absurd z n2,fun _=>h⟩
    | _=>exact False.elim h
  | _=>exact False.elim h
theorem rAddW_int (H:Hp) (Q:VK) (i j:Int):rAddW (.int i) (.int j) H Q=(Q (.int (i+j)) H):=rfl
theorem rAddW_str (H:Hp) (Q:VK) (i j:Str):rAddW (.str i) (.str j) H Q=(i.length+j.length<=sizeLine/\Q (.str (i++j)) H):=rfl
theorem rAddW.lst {H:Hp} {Q:VK} {l b:Addr} {xs zs:List V} (e1:H l=some (.lst xs)) (e2:H b=some (.lst zs)) (hz:xs.length+zs.length<=sizeLine)
    (h:∀ p,H p=none->Q (.ref p) (upd H p (.lst (xs++zs)))):rAddW (.ref l) (.ref b) H Q:=.inl ⟨xs,zs,by rw [e1];rfl,by rw [e2];rfl,hz,h⟩
end
end L2
namespace L2
open PySem PySem.Spec PyProof.Rows
section
variable {X:Cx} {pos:Pos} {k v:Expr} {tk tv:TE}
end
end L2
namespace L2
open PySem PySem.Spec PyProof.Rows
section
variable {X:Cx}
def rSlU (K:PySem.W.Frag):V->Option Int->Option Int->Hp->VK->Prop:=fun x lo hi H Q=>match x with
  | .str z=>z.length<=sizeLine/\Q (.str (cutS z lo hi)) H
  | .ref a=>(∃ xs,SqL K H a xs/\∀ p,H p=none->Q (.ref p) (upd H p (.lst (cutV xs lo hi)))) ∨
      ∃ xs,SqT K H a xs/\¬ (HT.sIx xs.length 0 lo=0/\HT.sIx xs.length xs.length hi=xs.length)/\∀ p,H p=none->Q (.ref p) (upd H p (.tup (cutV xs lo hi)))
  | _=>False
theorem sl_U:SlR X (rSlU X.K):=by
  intro pins s σ H x v vl vu lo hi sl Q I rx hs pl pu h
  unfold rSlU at h
  split at h
  · rename_i z
    exact sl_str pins s σ H (.str z) v vl vu lo hi sl Q I rx hs pl pu ⟨z,rfl,h⟩
  · rename_i a
    rcases h with ⟨xs,hx,q⟩ | ⟨xs,hx,nw,q⟩
    · exact sl_list pins s σ H (.ref a) v vl vu lo hi sl Q I rx hs pl pu ⟨a,xs,rfl,hx,q⟩
    · exact sl_tup pins s σ H (.ref a) v vl vu lo hi sl Q I rx hs pl pu ⟨a,xs,rfl,hx,nw,q⟩
  · exact h.elim
theorem rSlU_str (K:PySem.W.Frag) (H:Hp) (Q:VK) (z:Str) (lo hi:Option Int):rSlU K (.str z) lo hi H Q=(z.length<=sizeLine/\Q (.str (cutS z lo hi)) H):=rfl
theorem rSlU.lst {K:PySem.W.Frag} {H:Hp} {Q:VK} {a:Addr} {xs:List V} {lo hi:Option Int} (e:H a=some (.lst xs)) (h:∀ p,H p=none->Q (.ref p) (upd H p (.lst (cutV xs lo hi)))):rSlU K (.ref a) lo hi H Q:=.inl ⟨xs,SqL.of e,h⟩
theorem rSlU.tup {K:PySem.W.Frag} {H:Hp} {Q:VK} {a:Addr} {xs:List V} {lo hi:Option Int} (e:H a=some (.tup xs)) (nw:¬ (HT.sIx xs.length 0 lo=0/\HT.sIx xs.length xs.length hi=xs.length)) (h:∀ p,H p=none->Q (.ref p) (upd H p (.tup (cutV xs lo hi)))):rSlU K (.ref a) lo hi H Q:=.inr ⟨xs,SqT.of e,nw,h⟩
end
end L2
namespace L2
open PySem PySem.Spec PyProof.Rows
section
variable {X:Cx}
def hasS (z y:Str):Bool:=!(Builtin.Str.occurrences z y 0 z.length 1).isEmpty
def rInU (K:PySem.W.Frag) (neg:Bool):R2:=fun x y H Q=>match x,y with
  | .str i,.str j=>Q (.bl (if neg then !hasS j i else hasS j i)) H
  | x,.ref p=>∃ xs,(SqL K H p xs∨SqT K H p xs)/\flatV x=true/\xs.all flatV=true/\Q (.bl (if neg then !inV x xs else inV x xs)) H
  | _,_=>False
theorem rInU_str (K:PySem.W.Frag) (neg:Bool) (H:Hp) (Q:VK) (i j:Str):rInU K neg (.str i) (.str j) H Q=Q (.bl (if neg then !hasS j i else hasS j i)) H:=rfl
theorem jam {K:PySem.W.Frag} (hK:X.K=K):OpR X (compareOp .In) (rInU K false):=by
  subst hK
  intro pins s σ H x y v u Q I rx ry h
  unfold rInU at h
  split at h
  · rename_i i j
    exact op_in_str pins s σ H _ _ v u Q I rx ry ⟨i,j,rfl,rfl,h⟩
  · rename_i p
    obtain ⟨xs,h⟩:=h
    exact op_in_seq pins s σ H _ _ v u Q I rx ry ⟨p,xs,rfl,h⟩
  · exact h.elim
theorem jb0 {K:PySem.W.Frag} (hK:X.K=K):OpR X (compareOp .NotIn) (rInU K true):=by
  subst hK
  intro pins s σ H x y v u Q I rx ry h
  unfold rInU at h
  split at h
  · rename_i i j
    exact op_notIn_str pins s σ H _ _ v u Q I rx ry ⟨i,j,rfl,rfl,h⟩
  · rename_i p
    obtain ⟨xs,h⟩:=h
    exact op_notIn_seq pins s σ H _ _ v u Q I rx ry ⟨p,xs,rfl,h⟩
  · exact h.elim
theorem hasS_one (z:Str) (c:Nat):hasS z ⟨#[c]⟩=decide (c ∈ z.cps.toList):=PySem.StrLaws.found_one z c
theorem rInU.lst {K:PySem.W.Frag} {neg:Bool} {H:Hp} {Q:VK} {x:V} {p:Addr} {xs:List V} (e:H p=some (.lst xs)) (fx:flatV x=true) (fs:xs.all flatV=true) (q:Q (.bl (if neg then !inV x xs else inV x xs)) H):rInU K neg x (.ref p) H Q:=by
  cases x <;> exact ⟨xs,.inl (SqL.of e),fx,fs,q⟩
theorem rInU.tupS {K:PySem.W.Frag} {neg:Bool} {H:Hp} {Q:VK} {x:V} {p:Addr} {xs:List V} (e:SqT K H p xs) (fx:flatV x=true) (fs:xs.all flatV=true) (q:Q (.bl (if neg then !inV x xs else inV x xs)) H):rInU K neg x (.ref p) H Q:=by
  cases x <;> exact ⟨xs,.inr e,fx,fs,q⟩
theorem lt1 (a b:Nat):([a] < [b])=(a < b):=by simp [List.cons_lt_cons_iff]
theorem range_pick (bs:List Bool) (d:Bool):(List.range bs.length).map (fun i=>(bs[i]?).getD d)=bs:=by
  apply List.ext_getElem?
  intro i
  by_cases h:i < bs.length
  · simp [h]
  · rw [List.getElem?_eq_none_iff.mpr (by simp;omega),List.getElem?_eq_none_iff.mpr (by omega)]
theorem vals_bools:∀ {bs:List Bool} {us:List Value},Vals (bs.map V.bl) us->∀ (i:Nat) (v:Value),us[i]?=some v->∃ b,bs[i]?=some b/\v=.bool b
  | [],us,r,i,v,e=>by rw [List.map_nil] at r;cases r;simp at e
  | b::bs,us,r,i,v,e=>by
    rw [List.map_cons] at r
    cases r with
    | cons r1 r2 =>
      cases i with
      | zero=>cases r1;simp at e;exact ⟨b,rfl,e.symm⟩
      | succ i=>simp at e;obtain ⟨b',e1,e2⟩:=vals_bools r2 i v e;exact ⟨b',by simpa using e1,e2⟩
def rAllU:List V->Hp->VK->Prop:=fun xs H Q=>match xs with
  | [.ref p]=>∃ bs:List Bool,H p=some (.lst (bs.map V.bl))/\Q (.bl (bs.all id)) H
  | _=>False
theorem kept_it {s:Shared} {h':Heap} {o:Obj} (hk:∀ b x,b ∉ [s.heap.objs.size]->(s.heap.push o).get? b=some x->h'.get? b=some x):∀ b x,s.heap.get? b=some x->h'.get? b=some x :=
  fun b x e=>hk b x (fun hm=>by rw [List.mem_singleton.mp hm] at e;exact Nat.lt_irrefl _ (Heap.lt_size e)) (Heap.get?_push_of_some _ e)
theorem ja4 (hc:X.calm=true):CallR X (.builtin "all") rAllU:=by
  intro pins s σ H xs us Q I r h
  unfold rAllU at h
  split at h
  · rename_i p
    obtain ⟨bs,e,q⟩:=h
    obtain ⟨u,rfl,ru⟩:=vals1 r
    cases ru
    obtain ⟨its,rr,pl,_⟩:=I.list (SqL.of e)
    have isl:=pl.isList
    have plt:p < s.heap.objs.size:=by obtain ⟨_,e,_⟩:=isl;exact Heap.lt_size e
    refine call_all_walk (wpAny_pyIter_list isl ?_)
    refine ⟨s.heap.objs.size,[s.heap.objs.size,p],[s.heap.objs.size],its.toArray.size,_,_,fun i=>(bs[i]?).getD true,rfl,Walks.list (A:=X.A.in1) (I.ok.hd hc) _ p (Nat.ne_of_lt plt) its.toArray,
      ⟨⟨_,Heap.get?_push_size _ rfl,rfl,rfl⟩,isl.push _⟩,fun i v s' Q' E' hp hq=>?_,fun h' tk hk=>?_⟩
    · obtain ⟨b,e,rfl⟩:=vals_bools rr i v (by simpa using hp)
      simp only [Option.getD_some,e] at hq
      exact wpAny_truthy_bool hq
    · have e:((List.range its.toArray.size).all fun i=>(bs[i]?).getD true)=bs.all id:=by
        have hlen:its.length=bs.length:=by have:=rr.length;simpa using this.symm
        rw [List.size_toArray,hlen]
        conv=>rhs;rw [← range_pick bs true,List.all_map]
        rfl
      rw [e]
      exact ⟨.bl _,H,I.kept (kept_it hk),rfl,q⟩
  · exact h.elim
theorem rAllU_ref (p:Addr) (H:Hp) (Q:VK):rAllU [.ref p] H Q=(∃ bs:List Bool,H p=some (.lst (bs.map V.bl))/\Q (.bl (bs.all id)) H):=rfl
end
end L2
namespace L2
open PySem PySem.Spec PyProof.Rows
theorem upd_D {H:Hp} {D:Addr} {a b:HO}:upd (upd H D a) D b=upd H D b:=upd_upd
section
variable {D:Addr} {te:TE} {E:Ends} {r:L2.St} {H:Hp}
theorem comp_str {z:Str} (f:Nat->V) (hz:z.length<=sizeLine) (he:∀ c ∈ z.cps.toList,∀ l Q,Q (f c) (upd H D (.lst l))->te (some (.str ⟨#[c]⟩)::r) (upd H D (.lst l)) Q)
    (hn:∀ v,E.nx (v::r) (upd H D (.lst (z.cps.toList.map f)))):LoopR (ItS z) (gName 0) (tEmit D te) E (none::r) (upd H D (.lst [])):=by
  have hzl:z.cps.toList.length=z.length:=by simp [Str.length]
  refine loop_str (fun i σ H'=>∃ v:Option V,σ=v::r/\H'=upd H D (.lst ((z.cps.toList.take i).map f))) ⟨none,rfl,rfl⟩ ?_ ?_
  · rintro i c σ H' hc ⟨v,rfl,rfl⟩
    have hl:i < z.cps.toList.length:=(List.getElem?_eq_some_iff.mp hc).1
    refine he c (List.mem_of_getElem? hc) _ _ ⟨_,by rw [jc];rfl,by simp;omega,some (.str ⟨#[c]⟩),rfl,?_⟩
    rw [upd_D,List.take_succ,hc]
    simp
  · rintro σ H' ⟨v,rfl,rfl⟩
    rw [List.take_of_length_le (by omega)]
    exact hn v
theorem comp_tup {K:PySem.W.Frag} {a:Addr} {xs:List V} (f:V->V) (ha:H a=some (.tup xs)) (hD:H D=none) (hz:xs.length<=sizeLine) (he:∀ x ∈ xs,∀ l Q,Q (f x) (upd H D (.lst l))->te (some x::r) (upd H D (.lst l)) Q)
    (hn:∀ v,E.nx (v::r) (upd H D (.lst (xs.map f)))):LoopR (Itt K a) (gName 0) (tEmit D te) E (none::r) (upd H D (.lst [])):=by
  have ne:a≠D:=jh ha hD
  refine loop_tup (xs:=xs) (fun i σ H'=>∃ v:Option V,σ=v::r/\H'=upd H D (.lst ((xs.take i).map f))) ⟨none,rfl,rfl⟩ ?_ ?_ ?_
  · rintro i σ H' _ ⟨v,_,rfl⟩
    rw [je ne];exact ha
  · rintro i x σ H' hx ⟨v,rfl,rfl⟩
    have hl:i < xs.length:=(List.getElem?_eq_some_iff.mp hx).1
    refine he x (List.mem_of_getElem? hx) _ _ ⟨_,by rw [jc];rfl,by simp;omega,some x,rfl,?_⟩
    rw [upd_D,List.take_succ,hx]
    simp
  · rintro σ H' ⟨v,rfl,rfl⟩
    rw [List.take_of_length_le (Nat.le_refl _)]
    exact hn v
end
end L2
set_option autoImplicit true
set_option relaxedAutoImplicit true
namespace L2
open PySem PySem.Spec PyProof.Rows
structure QE (X:Cx) (e:Expr) (t:TE):Prop where
  h:PE X e t
structure QT (X:Cx) (e:Expr) (t:TT):Prop where
  h:PT X e t
structure QW (X:Cx) (e:Expr) (t:TT):Prop where
  h:PW X e t
structure QA (X:Cx) (es:List Expr) (t:TA):Prop where
  h:PA X es t
structure QS (X:Cx) (st:Stmt) (t:TS):Prop where
  h:PS X st t
structure QSs (X:Cx) (st:List Stmt) (t:TS):Prop where
  h:PSs X st t
structure QG (X:Cx) (e:Expr) (t:TG):Prop where
  h:PG X e t
structure QGs (X:Cx) (es:List Expr) (t:TGs):Prop where
  h:PGs X es t
structure QI (X:Cx) (tg iter:Expr) (wi:TI):Prop where
  h:PI X tg iter wi
structure QO (X:Cx) (e:Option Expr) (t:TO):Prop where
  h:PO X e t
structure QC (X:Cx) (op:CmpOp) (a b:Expr) (t:TE):Prop where
  h:PC X op a b t
theorem ju:QSs X [] tNext:=⟨pss_nil⟩
theorem ji (h1:QS X stm t):QSs X [stm] t:=⟨pss_one h1.h⟩
theorem jf (h1:QS X stm t) (h2:QSs X rst u):QSs X (stm::rst) (tSeq t u):=⟨pss_cons h1.h h2.h⟩
theorem qpv (i:Nat) {x:Str} {pos:Pos} (hN:X.N[i]?=some x:=by rfl) (hv:Vis X.env.scope x:=by first | exact Or.inl rfl | exact Or.inr (Or.inl rfl) | exact Or.inr (Or.inr rfl))
    (hd:(x == ("__debug__":Str))=false:=by decide) (hcd:(x == ("__classdict__":Str))=false:=by decide):QE X (.Name x pos) (tVar i):=⟨pv i hN hv hd hcd⟩
theorem jd:QE X (.Constant (.int i) j pos) (tC (.int i)):=⟨pe_int⟩
theorem jal:QE X (.Constant (.bool b) j pos) (tC (.bl b)):=⟨pe_bl⟩
theorem jbf:QE X (.Constant .none j pos) (tC .non):=⟨pe_non⟩
theorem jg:QE X (.Constant (.str x) j pos) (tC (.str x)):=⟨pe_str⟩
theorem z0 {x:Str} {v:V} {u:Value} {pos:Pos} (hg:Gl X x) (hm:X.mg x=some u) (r:RelV v u) (hd:(x == ("__debug__":Str))=false:=by decide):QE X (.Name x pos) (tC v):=⟨pe_glob hg hm r hd⟩
theorem yu {x:Str} {v:V} {u:Value} {pos:Pos} (hg:Gl X x) (hm:X.mg x=none) (hv:bootBuiltins x=some u) (r:RelV v u) (hn:x≠"__name__":=by decide) (hd:(x == ("__debug__":Str))=false:=by decide) :
    QE X (.Name x pos) (tC v):=⟨pe_bltn hg hm hv r hn hd⟩
theorem jp (ho:OpR X (binaryOp op) r) (ha:QE X a ta) (hb:QE X b tb):QE X (.BinOp a op b pos) (tOp r ta tb):=⟨pe_op ho ha.h hb.h⟩
theorem jck (ha:QE X a ta):QE X (.UnaryOp .Not a pos) (tNotV ta):=⟨pe_not ha.h⟩
theorem jbn (ho:UnR X (unaryOp op) r) (ha:QE X a ta):QE X (.UnaryOp op a pos) (tUn r ta):=⟨pe_un ho ha.h⟩
theorem zp (ho:OpR X (compareOp op) r) (ha:QE X a ta) (hb:QE X b tb) (hm:behindInMarks op b=false):QE X (.Compare a [op] [b] pos) (tOp r ta tb):=⟨pe_cmpR ho ha.h hb.h hm⟩
theorem jo (ho:OpR X (compareOp op) r) (ha:QE X a ta) (hb:QE X b tb) (hm:behindInMarks op b=false):QT X (.Compare a [op] [b] pos) (tTest (tOp r ta tb)):=⟨pt_cmpR ho ha.h hb.h hm⟩
theorem jbe (ho:OpR X (compareOp op) r) (ho':OpR X (compareOp op') r') (ha:QE X a ta) (hb:QE X b tb) (hc:QE X c tc) (hm:lastMarks [op,op'] [b,c]=false:=by with_unfolding_all rfl) :
    QE X (.Compare a [op,op'] [b,c] pos) (tChain r r' ta tb tc):=⟨pe_chain ho ho' ha.h hb.h hc.h hm⟩
theorem jce (h:QC X op a b t) (h1:behindInMarks op b=false:=by first | exact nobehind _ (by decide) (by decide) | rfl):QT X (.Compare a [op] [b] pos) (tB t):=⟨pt_cmp h.h h1⟩
theorem qpc_dnotin (hu:X.A.units+1 < cLine) (hi:QE X i ty) (ho:QE X o td):QC X .NotIn i o (tDNotIn ty td):=⟨pc_dnotin hu hi.h ho.h⟩
theorem ja5 (ha:QT X a tA):QT X (.UnaryOp .Not a pos) (tNot tA):=⟨pt_not ha.h⟩
theorem QW.pt (h:QW X e t):QT X e t:=⟨PW.pt h.h⟩
theorem jax (ha:QT X a tA) (hb:QW X (.BoolOp .And (b::rst) pos) tB'):QW X (.BoolOp .And (a::b::rst) pos) (tAnd tA tB'):=⟨pw_and ha.h hb.h⟩
theorem z7 (ha:QT X a tA) (hb:QW X (.BoolOp .Or (b::rst) pos) tB'):QW X (.BoolOp .Or (a::b::rst) pos) (tOr tA tB'):=⟨pw_or ha.h hb.h⟩
theorem ja8 (ha:QT X a tA):QW X (.BoolOp .And [a] pos) tA:=⟨pw_and1 ha.h⟩
theorem jaa (ha:QT X a tA):QW X (.BoolOp .Or [a] pos) tA:=⟨pw_or1 ha.h⟩
theorem z5 {e:Expr} (h:QE X e t) (he:∀ whole,isTrue e X.env whole=(do let v ← whole;standAt e.pos;holding [v] (truthy v)):=by intro _;rfl):QT X e (tB t):=⟨pt_val h.h he⟩
theorem jap (h:QE X a t):QE X (.BoolOp op [a] pos) t:=⟨pe_one h.h⟩
theorem z4 (ha:QE X a ta) (hb:QE X (.BoolOp .And (b::rst) pos) tb):QE X (.BoolOp .And (a::b::rst) pos) (tAndV ta tb):=⟨pe_and ha.h hb.h⟩
theorem j7 (h:QA X es t):QE X (.List es pos) (tLst t):=⟨pe_lst h.h⟩
theorem kc (h:QA X es t):QE X (.Tuple es x1 pos) (tTup t):=⟨pe_tup h.h⟩
theorem ku (hr:SlR X r) (he:QE X e te) (hl:QO X lw tl) (hu:QO X hi th):QE X (.Subscript e (.Slice lw hi none p2) pos) (tSl r te tl th):=⟨pe_slice hr he.h hl.h hu.h⟩
theorem kz:QO X none tNoPart:=⟨po_none⟩
theorem ya (h:QE X e te):QO X (some e) (tPart te):=⟨po_some h.h⟩
theorem jq (hr:IxR X r) (ha:QE X a ta) (hb:QE X b tb) (hs:PlainIx b):QE X (.Subscript a b pos) (tOp r ta tb):=⟨pe_ix hr ha.h hb.h hs⟩
theorem ja0 (hc:X.calm=true) (c:CompOk X scope Nc js) (hi:QI X tg iter wi) (hg:∀ C s3 H3 fp,QG (X.comp scope C Nc s3 H3 fp) tg g) (he:∀ C s3 H3 fp,QE (X.comp scope C Nc s3 H3 fp) elt te)
    (hs:∀ x,foldedSetIterable iter X.env x=pure x:=by intro _;rfl):QE X (.ListComp elt [⟨tg,iter,[],0⟩] scope pos) (tComp wi g js te):=⟨pe_comp hc c hi.h (fun C s H f=>(hg C s H f).h) (fun C s H f=>(he C s H f).h) hs⟩
theorem qps_setc {i:Nat} {y:Str} {py spos:Pos} (hN:X.N.Nodup) (hiN:X.N[i]?=some y) (hy:Loc X.env.scope y) (hc:X.calm=true) (c:CompOk X scope Nc js) (hi:QI X tg iter wi) (hg:∀ C s3 H3 fp,QG (X.comp scope C Nc s3 H3 fp) tg g)
    (he:∀ C s3 H3 fp,QE (X.comp scope C Nc s3 H3 fp) elt te) (hsw:swapsWith (.ListComp elt [⟨tg,iter,[],0⟩] scope pos) (some (.Name y py)) spos.line X.env=pure true:=by rfl)
    (hs:∀ x,foldedSetIterable iter X.env x=pure x:=by intro _;rfl) (hf:X.fn y=true∨X.env.scope.names.lookup y=some .local:=by first | exact .inl rfl | exact .inr rfl | assumption) :
    QS X (.Assign [.Name y py] (.ListComp elt [⟨tg,iter,[],0⟩] scope pos) spos) (tAsg (tComp wi g js te) (gName i)):=⟨ps_setc hN hiN hy hc c hi.h (fun C s H f=>(hg C s H f).h) (fun C s H f=>(he C s H f).h) hsw hs hf⟩
theorem jl (F:FnOk X.prog X.w X.K X.mg X.base CX k f fd ps sp) (hr:Room k X.A) (hg:Gl X x) (hm:X.mg x=some (.ref f)) (hk:PySem.W.keepIn X.K (.ref f)=true) (hb:Binds X.K fd ps ds) (hd:Vals dvs ds) (hx:Passes CX X E)
    (ha:QA X (e::es) t) (hdb:(x == ("__debug__":Str))=false:=by decide) (he:starEach (e::es) X.env=(false,eval e X.env)::starEach es X.env:=by rfl) (hpl:(backTo pos (starEach es X.env)).any (·.1)=false:=by rfl) :
    QE X (.Call (.Name x p) (e::es) [] pos) (tCall sp dvs E t):=⟨pe_call F hr hg hm hk hb hd hx ha.h hdb he hpl⟩
theorem y4 (hc:CallR X (.type T) r) (hg:Gl X x) (hm:X.mg x=none) (hv:bootBuiltins x=some (.type T)) (ha:QA X (e::es) t) (hn:x≠"__name__":=by decide) (hdb:(x == ("__debug__":Str))=false:=by decide)
    (he:starEach (e::es) X.env=(false,eval e X.env)::starEach es X.env:=by rfl) (hpl:(backTo pos (starEach es X.env)).any (·.1)=false:=by rfl):QE X (.Call (.Name x p) (e::es) [] pos) (tCB r t):=⟨pe_callTy hc hg hm hv ha.h hn hdb he hpl⟩
theorem jn (hc:CallR X (.builtin idn) r) (hg:Gl X x) (hm:X.mg x=none) (hv:bootBuiltins x=some (.builtin idn)) (ha:QA X (e::es) t) (hn:x≠"__name__":=by decide) (hdb:(x == ("__debug__":Str))=false:=by decide)
    (he:starEach (e::es) X.env=(false,eval e X.env)::starEach es X.env:=by rfl) (hpl:(backTo pos (starEach es X.env)).any (·.1)=false:=by rfl):QE X (.Call (.Name x p) (e::es) [] pos) (tCB r t):=⟨pe_callB hc hg hm hv ha.h hn hdb he hpl⟩
theorem yx (slot:Slot "list" name idn) (hty:typeOf (.builtin idn)=pure (.type "method_descriptor")) (hm:MtM X idn r) (ho:QE X o to) (ha:QA X (e::es) t) (mono:∀ σ H Q Q',(∀ v H',Q v H'->Q' v H')->to σ H Q->to σ H Q')
    (hbase:attributeBase o name X.env (eval o X.env)=eval o X.env:=by rfl)
    (hfew:((backTo cpos (starEach (e::es) X.env)).all (fun x=>!x.1) && (backToKw cpos (keywordEach [] X.env)).all (fun x=>x.1.isSome)
      && decide ((e::es).length+([]:List Keyword).length+(if ([]:List Keyword).isEmpty then 0 else 1) < 30))=true:=by rfl)
    (hline:(apos.endLine == cpos.line)=true:=by rfl) (hs:starEach (e::es) X.env=(false,eval e X.env)::starEach es X.env:=by rfl) (hplain:(backTo cpos (starEach es X.env)).any (·.1)=false:=by rfl) :
    QE X (.Call (.Attribute o name apos) (e::es) [] cpos) (tBML r to t):=⟨pe_bmL slot hty hm ho.h ha.h mono hbase hfew hline hs hplain⟩
theorem jcd (slot:Slot "str" name idn) (hty:typeOf (.builtin idn)=pure (.type "method_descriptor")) (hm:MtM X idn r) (ho:QE X o to) (ha:QA X (e::es) t) (mono:∀ σ H Q Q',(∀ v H',Q v H'->Q' v H')->to σ H Q->to σ H Q')
    (hbase:attributeBase o name X.env (eval o X.env)=eval o X.env:=by rfl)
    (hfew:((backTo cpos (starEach (e::es) X.env)).all (fun x=>!x.1) && (backToKw cpos (keywordEach [] X.env)).all (fun x=>x.1.isSome)
      && decide ((e::es).length+([]:List Keyword).length+(if ([]:List Keyword).isEmpty then 0 else 1) < 30))=true:=by rfl)
    (hline:(apos.endLine == cpos.line)=true:=by rfl) (hs:starEach (e::es) X.env=(false,eval e X.env)::starEach es X.env:=by rfl) (hplain:(backTo cpos (starEach es X.env)).any (·.1)=false:=by rfl) :
    QE X (.Call (.Attribute o name apos) (e::es) [] cpos) (tBMS r to t):=⟨pe_bmS slot hty hm ho.h ha.h mono hbase hfew hline hs hplain⟩
theorem jb:QA X [] tNil:=⟨jcn⟩
theorem ja (ha:QE X e te) (hr:QA X es t) (hs:starEach (e::es) X.env=(false,eval e X.env)::starEach es X.env:=by rfl):QA X (e::es) (tCons te t):=⟨jcf ha.h hr.h hs⟩
theorem kj {i:Nat} {x:Str} (hN:X.N.Nodup) (hi:X.N[i]?=some x) (hx:Loc X.env.scope x) (hf:X.fn x=true∨X.env.scope.names.lookup x=some .local:=by first | exact .inl rfl | exact .inr rfl | assumption):QG X (.Name x pos) (gName i):=⟨pg_name hN hi hx hf⟩
theorem jbr {es:List Expr} {t:TGs} {n:Nat} {K:PySem.W.Frag} (hc:X.calm=true) (h:QGs X es t) (hK:X.K=K) (hn:(assignEach es X.env).length=n:=by rfl) (hst:(assignEach es X.env).findIdx? (·.1)=none:=by rfl) :
    QG X (.Tuple es k pos) (gTup K n t):=by subst hK;exact ⟨pg_tup hc h.h hn hst⟩
theorem jbg:QGs X [] gNil:=⟨pgs_nil⟩
theorem jak {e:Expr} {es:List Expr} (h1:QG X e t) (h2:QGs X es u) (hs:(assignEach (e::es) X.env).map (·.2)=assign e X.env::(assignEach es X.env).map (·.2):=by rfl):QGs X (e::es) (gCons t u):=⟨pgs_cons h1.h h2.h hs⟩
theorem jbu {o i:Expr} (ho:QE X o to) (hi:QE X i ti) (hs:PSet X t)
    (ha:∀ v,assign (.Subscript o i pos) X.env v=(do
      let ov ← holding [v] (eval o X.env)
      let iv ← holding [v,ov] (eval i X.env)
      standAt pos
      holding [v,ov,iv] (setItem ov iv v)
      release [v,ov,iv] []):=by intro _;rfl):QG X (.Subscript o i pos) (gSub to ti t):=⟨pg_sub ho.h hi.h hs ha⟩
theorem jm {i:Nat} {x:Str} {e:Expr} {te:TE} {pos':Pos} (hN:X.N.Nodup) (hi:X.N[i]?=some x) (hx:Loc X.env.scope x) (he:QE X e te) (hs:swapsWith e (some (.Name x pos')) pos.line X.env=pure false:=by rfl)
    (hf:X.fn x=true∨X.env.scope.names.lookup x=some .local:=by first | exact .inl rfl | exact .inr rfl | assumption):QS X (.Assign [.Name x pos'] e pos) (tAsg te (gName i)):=⟨ps_set hN hi hx he.h hs hf⟩
theorem jbs {tg e:Expr} (he:QE X e te) (hg:QG X tg g) (hs:swapsWithSole [tg] e pos.line X.env=pure false:=by rfl) (hw:swappedStores [tg] e X.env=pure none:=by rfl)
    (h1:(assignEach [tg] X.env).map (·.2)=[assign tg X.env]:=by rfl):QS X (.Assign [tg] e pos) (tAsg te g):=⟨ps_asg he.h hg.h hs hw h1⟩
theorem jr (he:QE X e te):QS X (.Return (some e) pos) (tRet te):=⟨ps_ret he.h⟩
theorem yi (he:QE X e te) (hs:swapsWith e none pos.line X.env=pure false:=by rfl):QS X (.Expr e pos) (tDrop te):=⟨ps_expr he.h hs⟩
theorem jw (hc:QT X c tc) (ha:QSs X a t) (hb:QSs X b u):QS X (.If c a b pos) (tIfS tc t u):=⟨ps_if hc.h ha.h hb.h⟩
theorem zt {iter:Expr} (hp:PassesOwn (model X.prog X.w) X.A X.env X.xe) (hc:X.calm=true) (hi:QI X tg iter wi) (hg:QG X tg g) (hb:QSs X body tb) (hs:∀ x,foldedSetIterable iter X.env x=pure x:=by intro _;rfl) :
    QS X (.For tg iter body [] pos) (tFor wi g tb):=⟨ps_for hp hc hi.h hg.h hb.h hs⟩
theorem qps_while (hp:PassesOwn (model X.prog X.w) X.A X.env X.xe) (hc:QT X c tc) (hb:QSs X body tb):QS X (.While c body [] pos) (tWhile tc tb):=⟨ps_while hp hc.h hb.h⟩
theorem jac {a:Expr} {ta:TA} {p pos:Pos} (hg:Gl X "range") (hm:X.mg "range"=none) (ha:QA X [a] ta) (hs:starEach [a] X.env=[(false,eval a X.env)]:=by rfl):QI X tg (.Call (.Name "range" p) [a] [] pos) (iRng1 ta):=⟨pi_range1 hg hm ha.h hs⟩
theorem zu {K:PySem.W.Frag} (hl:QE X l tl) (hK:X.K=K):QI X tg l (iAny K tl):=by subst hK;exact ⟨pi_any hl.h⟩
end L2
namespace L2
open PySem PySem.Spec PyProof.Rows
def tEmitIf (D:Addr) (tt:TT) (te:TE):TS:=fun E σ H=>tt σ H fun b H1=>if b=true then tEmit D te E σ H1 else E.nx σ H1
def tCompIf (wi:TI) (g:TG) (js:List (Option Nat)) (tt:TT) (te:TE):TE:=fun σ H Q=>wi σ H fun J H1=>∀ D,H1 D=none ->
  LoopR J g (tEmitIf D tt te) { nx:=fun _ H'=>Q (.ref D) H',rt:=fun _ _=>False } (compSt js σ) (upd H1 D (.lst []))
theorem compTurn_if1 (elt target iter cd:Expr) (scope:Scope) (pos:Pos) (it acc:Value) (env:Env) :
    compTurn (.ListComp elt [⟨target,iter,[cd],0⟩] scope pos) 0 it acc env=(standAt iter.pos >>= fun _=>pyNext it >>= fun r=>match r with
      | none=>pure (.done .next)
      | some v=>letOwnedTupleGo target it v >>= fun _=>assign target env v >>= fun _ =>
        (forIn [cd] true fun c ok=>if ok=true then (isTrue c env (eval c env) >>= fun b=>pure (ForInStep.yield b)) else pure (ForInStep.yield ok)) >>= fun ok =>
        if ok=true then ((eval elt env >>= fun x=>call (.builtin "list.append") [acc,x] >>= fun _=>pure ()) >>= fun _=>again (.compLoop (.ListComp elt [⟨target,iter,[cd],0⟩] scope pos) 0 it acc env))
        else again (.compLoop (.ListComp elt [⟨target,iter,[cd],0⟩] scope pos) 0 it acc env)):=by rfl
section
variable {X:Cx} {scope:Scope} {Nc:List Str} {js:List (Option Nat)} {elt tg iter cd:Expr} {pos:Pos} {wi:TI} {g:TG} {te:TE} {tt:TT}
theorem comp_coreIf (hc:X.calm=true) (c:CompOk X scope Nc js) (hi:PI X tg iter wi) (hg:∀ C s3 H3 fp,PG (X.comp scope C Nc s3 H3 fp) tg g) (ht:∀ C s3 H3 fp,PT (X.comp scope C Nc s3 H3 fp) cd tt) (he:∀ C s3 H3 fp,PE (X.comp scope C Nc s3 H3 fp) elt te)
    {pins:List (Addr × Obj)} {s:Shared} {σ:L2.St} {H:Hp} (I:Inv X pins σ H s) {RR:Value->Addr->Result->Shared->Prop} {NX:Addr->Hp->Prop}
    (h:wi σ H fun J H1=>∀ D,H1 D=none->LoopR J g (tEmitIf D tt te) { nx:=fun _ H'=>NX D H',rt:=fun _ _=>False } (compSt js σ) (upd H1 D (.lst [])))
    (fin:∀ D H3 s3 fp σ5 H5 s6,Inv X pins σ H3 s3->(∀ b ∈ fp,FpOk X pins H3 b)->Inv (X.comp scope s3.heap.objs.size Nc s3 H3 fp) [] σ5 H5 s6->NX D H5->RR (.ref D) s3.heap.objs.size (.ok .next) s6) :
    wpAny (model X.prog X.w) X.A (eval iter X.env) (fun x s₁=>wpAny (model X.prog X.w) X.A (pyIter x) (fun it s₂=>wpAny (model X.prog X.w) X.A (newList []) (fun acc s₃ =>
      wpAny (model X.prog X.w) X.A (newFunctionEnv scope X.env.globals (clOf X.env scope.names []) [] X.env.qual none .none (some X.env)) (fun cenv s₄ =>
        codeAny (model X.prog X.w) X.A (.compStart (.ListComp elt [⟨tg,iter,[cd],0⟩] scope pos) 0 it acc { cenv with scope:=relabel scope X.env }) (RR acc cenv.locals) s₄) X.xe s₃) X.xe s₂) X.xe s₁) X.xe s:=by
  refine thn (hi pins s σ H _ I h) fun v s1 h1=>thn h1 fun itv s2 h2=>?_
  obtain ⟨it,fp,tn,J,H2,rfl,I2,T,st2,f2,h2⟩:=h2
  refine wpAny_newObj_type ?_ (by show 0<=sizeLine;decide)
  have hD:H2 s2.heap.objs.size=none:=I2.hok.fresh (Nat.le_refl _)
  have I3:Inv X pins σ (upd H2 s2.heap.objs.size (.lst [])) { s2 with heap:=s2.heap.push { cls:=.type "list",data:=.seq ([]:List Value).toArray } } :=
    I2.laid (t':=s2.toks) (fun b u e=>Heap.get?_push_of_some _ e) (Nat.le_refl _) ⟨by show 0<=sizeLine;decide,[],0,.nil,Heap.get?_push_size _ rfl⟩
  have f3:∀ b ∈ fp,FpOk X pins (upd H2 s2.heap.objs.size (.lst [])) b:=fun b hb=>by
    obtain ⟨q0,q⟩:=f2 b hb
    obtain ⟨o,e,_⟩:=T.obj _ _ st2 b hb
    exact ⟨by rw [je (Nat.ne_of_lt (Heap.lt_size e))];exact q0,q⟩
  have o3:∀ b ∈ fp,∃ o,(s2.heap.push { cls:=.type "list",data:=.seq ([]:List Value).toArray }).get? b=some o:=fun b hb=>by
    obtain ⟨o,e,_⟩:=T.obj _ _ st2 b hb
    exact ⟨o,Heap.get?_push_of_some _ e⟩
  have st3:tn 0 (s2.heap.push { cls:=.type "list",data:=.seq ([]:List Value).toArray }):=T.keep _ _ _ st2 fun b _ o e=>Heap.get?_push_of_some _ e
  generalize hh3:s2.heap.push { cls:=.type "list",data:=.seq ([]:List Value).toArray }=h3 at I3 o3 st3 ⊢
  refine wpAny_newFunctionEnv c.nocell (by intro y hy;simp at hy) (fun h4 hn4 hs4=>?_) c.kind
  have k4:∀ b o,h3.get? b=some o->h4.get? b=some o:=fun b o e=>(hs4.2 b (Nat.ne_of_lt (Heap.lt_size e))).trans (Heap.get?_push_of_some _ e)
  have I4:=comp_inv (tk:=s2.toks+([]:List (Str × Value)).length) c I3 f3 o3 hn4 k4
  have st4:tn 0 h4:=T.keep _ _ _ st3 fun b _ o e=>k4 b o e
  obtain ⟨W,⟨m0,w0⟩,turn⟩:=h2 _ hD
  let s3:Shared:={ s2 with heap:=h3 }
  let Y:Cx:=X.comp scope h3.objs.size Nc s3 (upd H2 s2.heap.objs.size (.lst [])) fp
  have stat:∀ {H':Hp},(∀ b ∈ fp,H' b=none)->∀ b ∈ fp,FpOk Y [] H' b:=fun hn b hb=>⟨hn b hb,(I4.ok.exf b hb).1,I4.ok.exfs b hb,.inl hb,(I4.ok.exf b hb).2,(fun p hp=>nomatch hp)⟩
  have loop:codeAny (model X.prog X.w) X.A (.compLoop (.ListComp elt [⟨tg,iter,[cd],0⟩] scope pos) 0 (.ref it) (.ref s2.heap.objs.size) Y.env)
      (RR (.ref s2.heap.objs.size) h3.objs.size) { s2 with heap:=h4,toks:=s2.toks+([]:List (Str × Value)).length }:=by
    refine codeAny_loop rfl (fun n s'=>∃ i σ' H',Inv Y [] σ' H' s'/\tn i s'.heap/\(∀ b ∈ fp,H' b=none)/\W i n σ' H') (fun n s5 hI=>?_) m0 ⟨0,_,_,I4,st4,fun b hb=>(f3 b hb).1,w0⟩
    obtain ⟨i,σ5,H5,I5,st5,fr5,w5⟩:=hI
    show wpAny _ X.A ((compTurn (.ListComp elt [⟨tg,iter,[cd],0⟩] scope pos) 0 (.ref it) (.ref s2.heap.objs.size) Y.env).onRaise (fun x=>do noteFrame x Y.env;theTreesLotGoes x)) _ _ s5
    refine wpAny_noted (wpAny_mono (E:=fun _ _=>False) ?_ (fun _ _ q=>q) fun _ _ z=>z.elim)
    rw [compTurn_if1]
    refine wpAny_bind (wpAny_standAt (wpAny_bind ?_))
    rcases turn i n σ5 H5 w5 with ⟨stop,qn⟩ | ⟨go,N,hN,step⟩
    · refine thn (T.done Y rfl rfl rfl hc i [] s5 σ5 H5 _ I5 (stat fr5) st5 stop) fun r s6 ⟨hr,I6⟩=>?_
      subst hr
      refine wpAny_pure ?_
      exact fin _ _ s3 fp σ5 H5 s6 I3 f3 I6 qn
    · refine thn (T.item Y rfl rfl rfl hc i [] s5 σ5 H5 _ I5 (stat fr5) st5 go) fun r s6 ⟨u,hr,h6⟩=>?_
      subst hr
      refine wpAny_bind (thn h6 fun _ s7 ⟨x,H7,I7,r7,y7,st7,fr7⟩=>?_)
      have I7':=I7.pinned (stat fr7) (T.obj _ _ st7)
      refine wpAny_bind (thn (hg _ _ _ _ _ s7 σ5 H7 x u _ I7' r7 (step x H7 y7)) fun _ s8 ⟨σ8,H8,I8,q8⟩=>?_)
      have fin2:∀ {H':Hp} {s':Shared},Inv Y ([]++pinsAt fp s7.heap) σ8 H' s'->N σ8 H'->∃ m,m < n/\∃ i σ1 H1,Inv Y [] σ1 H1 s'/\tn i s'.heap/\(∀ b ∈ fp,H1 b=none)/\W i m σ1 H1:=fun {H'} {s'} I10 n10=>by
        obtain ⟨m',hm,w10⟩:=hN σ8 H' n10
        refine ⟨m',hm,i+1,σ8,H',I10.unpinned,T.keep _ _ _ st7 fun b hb o e=>(I10.pin (b,o) (List.mem_append_right _ (List.mem_append_right _ (mem_pinsAt hb e)))).1,fun b hb=>?_,w10⟩
        obtain ⟨o,e,d⟩:=T.obj _ _ st7 b hb
        exact (I10.pin (b,o) (List.mem_append_right _ (List.mem_append_right _ (mem_pinsAt hb e)))).2.1
      rw [List.forIn_cons,if_pos rfl]
      refine wpAny_bind (wpAny_bind (wpAny_bind (thn (ht _ _ _ _ _ s8 σ8 H8 _ I8 q8) fun ok s9 ⟨H9,I9,q9⟩=>wpAny_pure ?_)))
      simp only [List.forIn_nil]
      refine wpAny_pure ?_
      cases ok with
      | false =>
        simp only [Bool.false_eq_true,if_false] at q9 ⊢
        exact wpAny_pure ⟨rfl,fin2 I9 q9⟩
      | true =>
        simp only [if_true] at q9 ⊢
        refine wpAny_bind (wpAny_bind (thn (he _ _ _ _ _ s9 σ8 H9 _ I9 q9) fun v s10 ⟨y,H10,I10,r10,ys,e10,z10,n10⟩=>?_))
        refine wpAny_bind (thn (jba (X:=Y) _ s10 σ8 H10 (.ref s2.heap.objs.size) [y] (.ref s2.heap.objs.size) [v] (fun w H'=>N σ8 H') I10 rfl (.cons r10 .nil) ⟨_,ys,y,rfl,rfl,of_lstOf e10,z10,n10⟩) fun w s11 ⟨_,H11,I11,_,n11⟩=>?_)
        exact wpAny_pure (wpAny_pure ⟨rfl,fin2 I11 n11⟩)
  exact codeAny_compStart_list loop (T.self _ 0 _ _ _ st4 loop)
theorem pe_compIf (hc:X.calm=true) (c:CompOk X scope Nc js) (hi:PI X tg iter wi) (hg:∀ C s3 H3 fp,PG (X.comp scope C Nc s3 H3 fp) tg g) (ht:∀ C s3 H3 fp,PT (X.comp scope C Nc s3 H3 fp) cd tt) (he:∀ C s3 H3 fp,PE (X.comp scope C Nc s3 H3 fp) elt te)
    (hs:∀ x,foldedSetIterable iter X.env x=pure x:=by intro _;rfl):PE X (.ListComp elt [⟨tg,iter,[cd],0⟩] scope pos) (tCompIf wi g js tt te):=by
  intro pins s σ H Q I h
  rw [eval_ListComp]
  refine wpAny_comprehension_free (use:=none) (g:=⟨tg,iter,[cd],0⟩) (gs:=[]) rfl hs (closure_of (c.has I)) c.kind c.loc
    (comp_coreIf (RR:=fun acc C=>compPost (model X.prog X.w) X.A X.xe none (EP X pins σ Q) acc C) (NX:=fun D H'=>Q (.ref D) H') hc c hi hg ht he I h fun D H3 s3 fp σ5 H5 s6 I3 f3 I6 qn=>?_)
  obtain ⟨m,hn,_⟩:=I6.loc
  exact ⟨m,hn,fun h' hs'=>⟨.ref D,H5,comp_after I3 f3 I6 hs',rfl,qn⟩⟩
theorem ps_setcIf {i:Nat} {y:Str} {py spos:Pos} (hN:X.N.Nodup) (hiN:X.N[i]?=some y) (hy:Loc X.env.scope y) (hc:X.calm=true) (c:CompOk X scope Nc js) (hi:PI X tg iter wi) (hg:∀ C s3 H3 fp,PG (X.comp scope C Nc s3 H3 fp) tg g)
    (ht:∀ C s3 H3 fp,PT (X.comp scope C Nc s3 H3 fp) cd tt) (he:∀ C s3 H3 fp,PE (X.comp scope C Nc s3 H3 fp) elt te) (hsw:swapsWith (.ListComp elt [⟨tg,iter,[cd],0⟩] scope pos) (some (.Name y py)) spos.line X.env=pure true:=by rfl)
    (hs:∀ x,foldedSetIterable iter X.env x=pure x:=by intro _;rfl) (hf:X.fn y=true∨X.env.scope.names.lookup y=some .local:=by first | exact .inl rfl | exact .inr rfl | assumption) :
    PS X (.Assign [.Name y py] (.ListComp elt [⟨tg,iter,[cd],0⟩] scope pos) spos) (tAsg (tCompIf wi g js tt te) (gName i)):=by
  intro pins s σ H D I h
  rw [exec_Assign_Name_used _ _ _ _ hsw]
  refine wpAny_bind (wpAny_standAt (wpAny_bind ?_))
  show wpAny _ X.A (do let _ ← comprehension (.ListComp elt [⟨tg,iter,[cd],0⟩] scope pos) scope X.env _ (newList []) false (eval iter X.env) (some (assign (.Name y py) X.env))) _ _ s
  refine wpAny_bind (wpAny_mono (wpAny_comprehension_free (use:=some (assign (.Name y py) X.env)) (g:=⟨tg,iter,[cd],0⟩) (gs:=[]) (Q:=fun _ s'=>SP X pins D .next s') rfl hs (closure_of (c.has I)) c.kind c.loc
    (comp_coreIf (RR:=fun acc C=>compPost (model X.prog X.w) X.A X.xe (some (assign (.Name y py) X.env)) (fun _ s'=>SP X pins D .next s') acc C) (NX:=fun Da H'=>D.nx (σ.set i (some (.ref Da))) H') hc c hi hg ht he I h fun Da H3 s3 fp σ5 H5 s6 I3 f3 I6 qn=>?_))
    (fun _ s' hq=>wpAny_pure (wpAny_pure hq)) fun _ _ e=>e)
  obtain ⟨m,hn,_⟩:=id I6.loc
  have I7:Inv X pins σ H5 s6:=comp_after I3 f3 I6 (.refl ..)
  have hC:H5 s3.heap.objs.size=none:=I6.free
  have nL:s3.heap.objs.size≠X.env.locals:=Nat.ne_of_gt I3.lt
  have nc:∀ x a,X.env.cells.lookup x=some a->a≠s3.heap.objs.size:=fun x a e=>by
    obtain ⟨v,q⟩:=I3.cell x a e
    exact Nat.ne_of_lt q.lt
  have np:∀ p ∈ X.pn++pins,p.1≠s3.heap.objs.size:=fun p hp=>Nat.ne_of_lt (Heap.lt_size (I3.pin p hp).1)
  show wpAny _ _ (assign (.Name y py) X.env (.ref Da)) _ _ _
  refine wpAny_assign_Name (store_ok2 (v:=.ref Da) I7 hN hiN hy rfl (fun s8 I8 hb=>?_) hf)
  obtain ⟨a,hs8,ha⟩:=hb
  have nCa:s3.heap.objs.size≠a:=by
    rcases ha with z | z
    · rw [z];exact nL
    · exact (nc y a z).symm
  refine ⟨m,hn.sameBut hs8 nCa,fun h9 hs9=>?_⟩
  exact ⟨_,H5,I8.turned (t':=s8.toks) (fun b o hb e=>(hs9.2 b hb).trans e) hC nL (.inr (Nat.le_trans I3.sz (Nat.le_refl _))) nc np,qn⟩
end
section
variable {X:Cx} {scope:Scope} {Nc:List Str} {js:List (Option Nat)} {elt tg iter cd:Expr} {pos:Pos} {wi:TI} {g:TG} {te:TE} {tt:TT}
theorem qpe_compIf (hc:X.calm=true) (c:CompOk X scope Nc js) (hi:QI X tg iter wi) (hg:∀ C s3 H3 fp,QG (X.comp scope C Nc s3 H3 fp) tg g) (ht:∀ C s3 H3 fp,QT (X.comp scope C Nc s3 H3 fp) cd tt) (he:∀ C s3 H3 fp,QE (X.comp scope C Nc s3 H3 fp) elt te)
    (hs:∀ x,foldedSetIterable iter X.env x=pure x:=by intro _;rfl):QE X (.ListComp elt [⟨tg,iter,[cd],0⟩] scope pos) (tCompIf wi g js tt te) :=
  ⟨pe_compIf hc c hi.h (fun C s H f=>(hg C s H f).h) (fun C s H f=>(ht C s H f).h) (fun C s H f=>(he C s H f).h) hs⟩
theorem jbl {i:Nat} {y:Str} {py spos:Pos} (hN:X.N.Nodup) (hiN:X.N[i]?=some y) (hy:Loc X.env.scope y) (hc:X.calm=true) (c:CompOk X scope Nc js) (hi:QI X tg iter wi) (hg:∀ C s3 H3 fp,QG (X.comp scope C Nc s3 H3 fp) tg g)
    (ht:∀ C s3 H3 fp,QT (X.comp scope C Nc s3 H3 fp) cd tt) (he:∀ C s3 H3 fp,QE (X.comp scope C Nc s3 H3 fp) elt te) (hsw:swapsWith (.ListComp elt [⟨tg,iter,[cd],0⟩] scope pos) (some (.Name y py)) spos.line X.env=pure true:=by rfl)
    (hs:∀ x,foldedSetIterable iter X.env x=pure x:=by intro _;rfl) (hf:X.fn y=true∨X.env.scope.names.lookup y=some .local:=by first | exact .inl rfl | exact .inr rfl | assumption) :
    QS X (.Assign [.Name y py] (.ListComp elt [⟨tg,iter,[cd],0⟩] scope pos) spos) (tAsg (tCompIf wi g js tt te) (gName i)) :=
  ⟨ps_setcIf hN hiN hy hc c hi.h (fun C s H f=>(hg C s H f).h) (fun C s H f=>(ht C s H f).h) (fun C s H f=>(he C s H f).h) hsw hs hf⟩
end
section
variable {D:Addr} {te:TE} {tt:TT} {E:Ends} {r:L2.St} {H:Hp}
theorem filt_step {α:Type} (p:α->Bool) (f:α->V) (xs:List α) (i:Nat) (x:α) (h:xs[i]?=some x):((xs.take (i+1)).filter p).map f=((xs.take i).filter p).map f++(if p x=true then [f x] else []):=by
  rw [List.take_succ,h]
  simp only [Option.toList_some,List.filter_append,List.map_append]
  congr 1
  by_cases q:p x=true
  · simp [q]
  · simp [q]
theorem compIf_list {K:PySem.W.Frag} {a:Addr} {xs:List V} (p:V->Bool) (f:V->V) (ha:H a=some (.lst xs)) (hD:H D=none) (hz:xs.length<=sizeLine)
    (ht:∀ x ∈ xs,∀ l Q,Q (p x) (upd H D (.lst l))->tt (some x::r) (upd H D (.lst l)) Q) (he:∀ x ∈ xs,p x=true->∀ l Q,Q (f x) (upd H D (.lst l))->te (some x::r) (upd H D (.lst l)) Q)
    (hn:∀ v,E.nx (v::r) (upd H D (.lst ((xs.filter p).map f)))):LoopR (Itl K a) (gName 0) (tEmitIf D tt te) E (none::r) (upd H D (.lst [])):=by
  have ne:a≠D:=jh ha hD
  refine loop_list (xs:=xs) (fun i σ H'=>∃ v:Option V,σ=v::r/\H'=upd H D (.lst (((xs.take i).filter p).map f))) ⟨none,rfl,rfl⟩ ?_ ?_ ?_
  · rintro i σ H' _ ⟨v,_,rfl⟩
    rw [je ne];exact ha
  · rintro i x σ H' hx ⟨v,rfl,rfl⟩
    have hl:i < xs.length:=(List.getElem?_eq_some_iff.mp hx).1
    have hm:=List.mem_of_getElem? hx
    have hf:(((xs.take i).filter p).map f).length<=i:=by
      rw [List.length_map]
      exact Nat.le_trans (List.length_filter_le _ _) (by rw [List.length_take];omega)
    refine ht x hm _ _ ?_
    by_cases q:p x=true
    · rw [q,if_pos rfl]
      refine he x hm q _ _ ⟨_,by rw [jc];rfl,by omega,some x,rfl,?_⟩
      rw [upd_D,filt_step p f xs i x hx,if_pos q]
    · rw [if_neg q]
      refine ⟨some x,rfl,?_⟩
      rw [filt_step p f xs i x hx,if_neg q,List.append_nil]
  · rintro σ H' ⟨v,rfl,rfl⟩
    rw [List.take_of_length_le (Nat.le_refl _)]
    exact hn v
theorem compIf_tup {K:PySem.W.Frag} {a:Addr} {xs:List V} (p:V->Bool) (f:V->V) (ha:H a=some (.tup xs)) (hD:H D=none) (hz:xs.length<=sizeLine)
    (ht:∀ x ∈ xs,∀ l Q,Q (p x) (upd H D (.lst l))->tt (some x::r) (upd H D (.lst l)) Q) (he:∀ x ∈ xs,p x=true->∀ l Q,Q (f x) (upd H D (.lst l))->te (some x::r) (upd H D (.lst l)) Q)
    (hn:∀ v,E.nx (v::r) (upd H D (.lst ((xs.filter p).map f)))):LoopR (Itt K a) (gName 0) (tEmitIf D tt te) E (none::r) (upd H D (.lst [])):=by
  have ne:a≠D:=jh ha hD
  refine loop_tup (xs:=xs) (fun i σ H'=>∃ v:Option V,σ=v::r/\H'=upd H D (.lst (((xs.take i).filter p).map f))) ⟨none,rfl,rfl⟩ ?_ ?_ ?_
  · rintro i σ H' _ ⟨v,_,rfl⟩
    rw [je ne];exact ha
  · rintro i x σ H' hx ⟨v,rfl,rfl⟩
    have hl:i < xs.length:=(List.getElem?_eq_some_iff.mp hx).1
    have hm:=List.mem_of_getElem? hx
    have hf:(((xs.take i).filter p).map f).length<=i:=by
      rw [List.length_map]
      exact Nat.le_trans (List.length_filter_le _ _) (by rw [List.length_take];omega)
    refine ht x hm _ _ ?_
    by_cases q:p x=true
    · rw [q,if_pos rfl]
      refine he x hm q _ _ ⟨_,by rw [jc];rfl,by omega,some x,rfl,?_⟩
      rw [upd_D,filt_step p f xs i x hx,if_pos q]
    · rw [if_neg q]
      refine ⟨some x,rfl,?_⟩
      rw [filt_step p f xs i x hx,if_neg q,List.append_nil]
  · rintro σ H' ⟨v,rfl,rfl⟩
    rw [List.take_of_length_le (Nat.le_refl _)]
    exact hn v
end
end L2
namespace L2
open PySem PySem.Spec PyProof.Rows
section
variable {X:Cx}
end
end L2
namespace L2
open PySem PySem.Spec PyProof.Rows
section
variable {P:Program} {w:World} {A:Around} {E:Value->Shared->Prop} {s:Shared}
end
section
variable {X:Cx}
end
end L2
namespace L2
open PySem PySem.Spec PyProof.Rows
section
variable {X:Cx}
def rStrK (x:V) (k:Str->Prop):Prop:=match x with
  | .str y=>k y
  | _=>False
theorem rStrK_str (y:Str) (k:Str->Prop):rStrK (.str y) k=k y:=rfl
abbrev TJ:=L2.St->Hp->Str->VK->Prop
def PJ (X:Cx) (es:List Expr) (t:TJ):Prop:=∀ (pins:List (Addr × Obj)) (s:Shared) (σ:L2.St) (H:Hp) (out:Str) (Q:VK),Inv X pins σ H s->t σ H out Q->wpAny (model X.prog X.w) X.A (joinParts out (evalEach es X.env)) (EP X pins σ Q) X.xe s
def tJnil:TJ:=fun _ H out Q=>out.length<=sizeLine/\Q (.str out) H
def tJcons (te:TE) (t:TJ):TJ:=fun σ H out Q=>te σ H fun x H1=>rStrK x fun y=>(out++y).length<=sizeLine/\t σ H1 (out++y) Q
theorem pj_nil:PJ X [] tJnil:=fun pins s σ H out Q I h=>joinParts_nil ⟨.str out,H,I.tok _,⟨_,rfl⟩,h.2⟩ h.1
theorem pj_cons {a:Expr} {es:List Expr} {te:TE} {t:TJ} (ha:PE X a te) (hr:PJ X es t):PJ X (a::es) (tJcons te t):=by
  intro pins s σ H out Q I h
  show wpAny _ _ (joinParts out (eval a X.env::evalEach es X.env)) _ _ s
  refine joinParts_cons (thn (ha pins s σ H _ I h) fun v s1 ⟨x,H1,I1,r1,q1⟩=>?_)
  replace q1:rStrK x fun y=>(out++y).length<=sizeLine/\t σ H1 (out++y) Q:=q1
  cases x with
  | str y=>obtain ⟨u,rfl⟩:=r1;exact ⟨q1.1,hr pins s1 σ H1 _ Q I1 q1.2⟩
  | _=>exact q1.elim
def tJoin (t:TJ):TE:=fun σ H Q=>t σ H Str.empty Q
theorem pe_joined {a b:Expr} {es:List Expr} {t:TJ} {pos:Pos} (h:PJ X (a::b::es) t):PE X (.JoinedStr (a::b::es) pos) (tJoin t):=fun pins s σ H Q I hw=>JoinedStr_many (h pins s σ H _ Q I hw)
end
def tMid (t u:TS):TS:=fun D σ H=>∃ J:L2.St->Hp->Prop,t { D with nx:=J } σ H/\∀ σ H,J σ H->u D σ H
theorem pss_mid {X:Cx} {st:Stmt} {rest:List Stmt} {t u:TS} (h1:PS X st t) (h2:PSs X rest u):PSs X (st::rest) (tMid t u):=by
  intro pins s σ H D I h
  obtain ⟨J,h,hJ⟩:=h
  refine wpAny_execs_cons (thn (h1 pins s σ H { D with nx:=J } I h) fun f s1 q=>?_)
  cases f with
  | next =>
    obtain ⟨σ1,H1,I1,q1⟩:=q
    exact h2 pins s1 σ1 H1 D I1 (hJ _ _ q1)
  | ret v=>exact q
  | brk=>exact q
  | cont=>exact q
theorem yd {X:Cx} {st:Stmt} {rest:List Stmt} {t u:TS} (h1:QS X st t) (h2:QSs X rest u):QSs X (st::rest) (tMid t u):=⟨pss_mid h1.h h2.h⟩
structure QJ (X:Cx) (es:List Expr) (t:TJ):Prop where
  h:PJ X es t
section
variable {X:Cx}
theorem qpj_nil:QJ X [] tJnil:=⟨pj_nil⟩
theorem jb6 {a:Expr} {es:List Expr} {te:TE} {t:TJ} (ha:QE X a te) (hr:QJ X es t):QJ X (a::es) (tJcons te t):=⟨pj_cons ha.h hr.h⟩
theorem qpe_joined {a b:Expr} {es:List Expr} {t:TJ} {pos:Pos} (h:QJ X (a::b::es) t):QE X (.JoinedStr (a::b::es) pos) (tJoin t):=⟨pe_joined h.h⟩
theorem ke {K:PySem.W.Frag} (hK:X.K=K):CallR X (.builtin "isinstance") (rIsU K):=by
  subst hK
  exact call_isinstanceU
end
end L2
namespace L2
open PySem PySem.Spec PyProof.Rows
section
variable {P:Program} {w:World} {A:Around} {R:Result->Shared->Prop} {I:Addr} {fp wr:List Addr} {n:Nat} {Pv:Nat->Value->Prop} {St:Nat->Heap->Prop}
end
section
variable {X:Cx}
end
end L2
namespace L2
open PySem PySem.Spec PyProof.Rows
section
variable {P:Program} {w:World} {A:Around} {E:Value->Shared->Prop} {s:Shared} {d it:Addr} {o:Obj} {es:Array DictEntry} {ep i:Nat}
end
section
variable {X:Cx} {tg:Expr}
end
end L2
namespace L2
open PySem PySem.Spec PyProof.Rows
section
variable {D:Addr} {te:TE} {tt:TT} {E:Ends} {r:L2.St} {H:Hp}
end
theorem ja3 {X:Cx} {K:PySem.W.Frag} (hK:X.K=K):SlR X (rSlU K):=by
  subst hK
  exact sl_U
end L2
namespace L2
open PySem PySem.Spec PyProof.Rows
section
variable {prog:Program} {w:World} {A:Around} {E:Value->Shared->Prop} {s:Shared}
theorem tup_whole {t sl:Addr} {items:Array Value} {vl vu:Value} {lo hi:Option Int} {Q:Value->Shared->Prop} (ht:IsTup s.heap t items) (hs:s.heap.IsSliceOf sl vl vu .none) (pl:IsPart vl lo) (pu:IsPart vu hi)
    (hw:HT.sIx items.size 0 lo=0/\HT.sIx items.size items.size hi=items.size) (h:Q (.ref t) s):wpAny (model prog w) A (getItem (.ref t) (.ref sl)) Q E s:=by
  obtain ⟨os,hos,hcs,hds⟩:=id hs
  have hTs:s.TypeIs (.ref sl) "slice":=⟨os,hos,hcs⟩
  unfold getItem
  try with_reducible refine wpAny_holding ?_
  first | refine wpAny_bind (wpAny_pure ?_) | skip
  refine wpAny_bind (wpAny_sequenceKey ht.typeIs (by decide) ?_)
  refine wpAny_bind (wpAny_callSpecial?_slot (name:=Str.ofString "__getitem__") ht.typeIs PyProof.Rows.slot_tuple_getitem
    (wpAny_call_entry PyProof.Rows.slot_tuple_getitem ht.typeIs PyProof.Rows.entry_tuple_getitem ?_ (PyProof.Rows.args_tuple_getitem _ _)))
  show wpAny _ _ (Builtin.Tuple.tupleItemsOf (.ref t) >>= _) _ _ s
  refine wpAny_bind (tupleItemsOf_ ht ?_)
  refine wpAny_bind (wpAny_typeOf hTs ?_)
  rw [if_pos (by decide)]
  refine wpAny_bind (HT.sliceApplied_gen hs pl pu ?_)
  show wpAny _ _ (if (((HT.sIx items.size 0 lo:Nat):Int) == 0 && (1:Int) == 1 && (HT.sIx items.size items.size hi - HT.sIx items.size 0 lo) == items.size)=true then _ else _) _ _ s
  rw [if_pos (by rw [hw.1,hw.2];simp)]
  unfold Builtin.Tuple.tupleIsExact
  exact wpAny_bind (wpAny_bind (wpAny_typeOf ht.typeIs (wpAny_pure (by rw [if_pos (by decide)];exact wpAny_bind (wpAny_rule (wpAny_pure ⟨_,rfl,wpAny_pure h⟩))))))
end
section
variable {X:Cx}
def rSlW (K:PySem.W.Frag):V->Option Int->Option Int->Hp->VK->Prop:=fun x lo hi H Q=>∃ a xs,x=.ref a/\SqT K H a xs/\(HT.sIx xs.length 0 lo=0/\HT.sIx xs.length xs.length hi=xs.length)/\Q (.ref a) H
theorem sl_tupW:SlR X (rSlW X.K):=by
  intro pins s σ H x v vl vu lo hi sl Q I rx hs pl pu h
  obtain ⟨a,xs,rfl,hx,hw,q⟩:=h
  cases rx
  obtain ⟨its,r,ht,hz⟩:=I.tuple hx
  have hlen:its.toArray.size=xs.length:=by rw [List.size_toArray];exact r.length.symm
  refine ⟨"tuple",_,PyProof.Rows.slot_tuple_getitem.lookup,ht.typeIs,?_⟩
  exact tup_whole ht hs pl pu (by rw [hlen];exact hw) ⟨.ref a,H,I,rfl,q⟩
def rSlV (K:PySem.W.Frag):V->Option Int->Option Int->Hp->VK->Prop:=fun x lo hi H Q=>rSlU K x lo hi H Q∨rSlW K x lo hi H Q
theorem jaw {K:PySem.W.Frag} (hK:X.K=K):SlR X (rSlV K):=by
  subst hK
  exact SlR.or sl_U sl_tupW
theorem rSlV.tup {K:PySem.W.Frag} {H:Hp} {Q:VK} {a:Addr} {xs:List V} {lo hi:Option Int} (e:H a=some (.tup xs)) (h:∀ p H',H' p=some (.tup (cutV xs lo hi))->Kp [] H H'->Q (.ref p) H'):rSlV K (.ref a) lo hi H Q:=by
  by_cases w:HT.sIx xs.length 0 lo=0/\HT.sIx xs.length xs.length hi=xs.length
  · refine .inr ⟨a,xs,rfl,SqT.of e,w,h a H ?_ (Kp.refl [] H)⟩
    have:cutV xs lo hi=xs:=by
      unfold cutV
      rw [w.1,w.2,List.drop_zero]
      exact List.take_of_length_le (by omega)
    rw [this];exact e
  · exact .inl (rSlU.tup e w fun p hp=>h p _ jc ((Kp.refl [] H).new hp))
end
end L2
namespace L2
open PySem PySem.Spec PyProof.Rows
structure ZA (z TI TO i1 i2:Addr) (f1 f2:List Addr):Prop where
  TIz:TI≠z
  TOz:TO≠z
  i1z:i1≠z
  i2z:i2≠z
  TITO:TI≠TO
  TIi1:TI≠i1
  TIi2:TI≠i2
  TOi1:TO≠i1
  TOi2:TO≠i2
  i12:i1≠i2
  zf1:z ∉ f1
  zf2:z ∉ f2
  Tf1:TO ∉ f1
  Tf2:TO ∉ f2
  jf2:i1 ∉ f2
  jf1:i2 ∉ f1
section
variable {prog:Program} {w:World} {A:Around} {E:Value->Shared->Prop} {s:Shared} {i1 i2:Addr} {f1 f2:List Addr} {n1 n2:Nat} {P1 P2:Nat->Value->Prop} {S1 S2:Nat->Heap->Prop}
theorem dr_but {it:Addr} {fp:List Addr} {n:Nat} {P:Nat->Value->Prop} {St:Nat->Heap->Prop} (D:Draws prog w A it fp n P St) {i:Nat} {h h':Heap} {c:Addr} (st:St i h) (hs:Heap.SameBut c h h') (hc:c ∉ fp):St i h' :=
  D.frame i h h' st fun b hb o e=>hs.extBut b o (fun x=>hc (x ▸ hb)) e
theorem zipD_item {z TI TO:Addr} {k:Nat} {a b:Value} {Q:Value->Shared->Prop} (D1:Draws prog w A i1 f1 n1 P1 S1) (D2:Draws prog w A i2 f2 n2 P2 S2) (D:ZA z TI TO i1 i2 f1 f2)
    (hz:IsZip s.heap z TI TO .none) (hTI:IsPair s.heap TI (.ref i1) (.ref i2)) (hTO:IsPair s.heap TO a b) (h1:S1 k s.heap) (h2:S2 k s.heap) (l1:k < n1) (l2:k < n2)
    (hQ:∀ x y h' tk,P1 k x->P2 k y->IsZip h' z TI TO (rawInt s.heap.objs.size)->IsPair h' TO x y->S1 (k+1) h'->S2 (k+1) h'->IsPair h' s.heap.objs.size x y->h'.objs.size=s.heap.objs.size+1 ->
      (∀ c o,c≠z->c≠TO->c≠i1->c≠i2->s.heap.get? c=some o->h'.get? c=some o)->Q (.ref s.heap.objs.size) { s with heap:=h',toks:=tk }) :
    wpAny (model prog w) A (Builtin.«zip.__next__» ⟨[.ref z],[]⟩) (fun fin s'=>∃ v,fin=.done (.ret v)/\Q v s') E s:=by
  show wpAny _ _ (field (.ref z) 2 >>= _) _ _ _
  refine wpAny_bind (wpAny_field hz rfl (x:=.bool false) rfl ?_)
  show wpAny _ _ (field (.ref z) 3 >>= _) _ _ _
  refine wpAny_bind (wpAny_field hz rfl (x:=.ref TI) rfl ?_)
  refine wpAny_bind (wpAny_seqItems hTI rfl ?_)
  show wpAny _ _ (Builtin.SmallTypes.ownedTupleIsFree (.ref z) >>= _) _ _ _
  refine wpAny_bind ?_
  unfold Builtin.SmallTypes.ownedTupleIsFree
  refine wpAny_bind (wpAny_field hz rfl (x:=.none) rfl (wpAny_pure ?_))
  simp only [if_true]
  refine wpAny_bind (wpAny_rule ?_)
  refine wpAny_bind (wpAny_field hz rfl (x:=.ref TO) rfl ?_)
  refine wpAny_bind (wpAny_setField_rec hz (by simp) fun h₁ hz₁ hs₁=>?_)
  replace hz₁:IsZip h₁ z TI TO .ellipsis:=hz₁
  refine wpAny_bind ?_
  simp only [List.zipIdx_cons,List.zipIdx_nil,List.forIn_cons,List.forIn_nil]
  refine wpAny_bind (wpAny_bind (wpAny_onRaise ?_))
  show wpAny _ _ (Builtin.SmallTypes.nextOf (.ref i1) >>= _) _ _ _
  refine wpAny_bind (D1.item k _ _ _ l1 (dr_but D1 h1 hs₁ D.zf1) fun x h₂ tk₂ p1 h1₂ hs₂=>wpAny_pure ?_)
  have hTO₂:IsPair h₂ TO a b:=hs₂.extBut _ _ D.TOi1 (hs₁.extBut _ _ D.TOz hTO)
  refine wpAny_bind (wpAny_seqItems hTO₂ rfl ?_)
  refine wpAny_bind (wpAny_updateSeq_pair hTO₂ fun h₃ hTO₃ hs₃=>?_)
  replace hTO₃:IsPair h₃ TO x b:=hTO₃
  refine wpAny_bind (wpAny_letGo (wpAny_pure ?_))
  refine wpAny_bind (wpAny_bind (wpAny_onRaise ?_))
  show wpAny _ _ (Builtin.SmallTypes.nextOf (.ref i2) >>= _) _ _ _
  refine wpAny_bind (D2.item k _ _ _ l2 (dr_but D2 (dr_but D2 (dr_but D2 h2 hs₁ D.zf2) hs₂ D.jf2) hs₃ D.Tf2) fun y h₄ tk₄ p2 h2₄ hs₄=>wpAny_pure ?_)
  have hTO₄:IsPair h₄ TO x b:=hs₄.extBut _ _ D.TOi2 hTO₃
  refine wpAny_bind (wpAny_seqItems hTO₄ rfl ?_)
  refine wpAny_bind (wpAny_updateSeq_pair hTO₄ fun h₅ hTO₅ hs₅=>?_)
  replace hTO₅:IsPair h₅ TO x y:=hTO₅
  refine wpAny_bind (wpAny_letGo (wpAny_pure (wpAny_pure ?_)))
  refine wpAny_bind (wpAny_seqItems hTO₅ rfl ?_)
  refine wpAny_bind (wpAny_newTuple ?_)
  have hsz:h₅.objs.size=s.heap.objs.size:=by rw [hs₅.1,hs₄.1,hs₃.1,hs₂.1,hs₁.1]
  have hz₅:IsZip h₅ z TI TO .ellipsis:=hs₅.extBut _ _ D.TOz.symm (hs₄.extBut _ _ D.i2z.symm (hs₃.extBut _ _ D.TOz.symm (hs₂.extBut _ _ D.i1z.symm hz₁)))
  have hk₅:∀ c o,c≠z->c≠TO->c≠i1->c≠i2->s.heap.get? c=some o->h₅.get? c=some o:=fun c o c1 c2 c3 c4 e =>
    hs₅.extBut _ _ c2 (hs₄.extBut _ _ c4 (hs₃.extBut _ _ c2 (hs₂.extBut _ _ c3 (hs₁.extBut _ _ c1 e))))
  have h1₅:S1 (k+1) h₅:=dr_but D1 (dr_but D1 (dr_but D1 h1₂ hs₃ D.Tf1) hs₄ D.jf1) hs₅ D.Tf1
  have h2₅:S2 (k+1) h₅:=dr_but D2 h2₄ hs₅ D.Tf2
  have hzlt:z < h₅.objs.size:=Heap.lt_size hz₅
  show wpAny _ _ (Builtin.SmallTypes.ownedTupleHandOut (.ref z) (.ref h₅.objs.size) >>= _) _ _ _
  refine wpAny_bind ?_
  unfold Builtin.SmallTypes.ownedTupleHandOut
  have hz₆:IsZip (h₅.push { cls:=.type "tuple",data:=.seq #[x,y] }) z TI TO .ellipsis:=Heap.get?_push_of_some _ hz₅
  refine wpAny_bind (wpAny_setField_rec hz₆ (by simp) fun h₇ hz₇ hs₇=>?_)
  replace hz₇:IsZip h₇ z TI TO (rawInt h₅.objs.size):=hz₇
  refine wpAny_setField_rec hz₇ (by simp) fun h₈ hz₈ hs₈=>?_
  replace hz₈:IsZip h₈ z TI TO (rawInt h₅.objs.size):=hz₈
  have up:∀ c o,c≠z->h₅.get? c=some o->h₈.get? c=some o:=fun c o c1 e=>hs₈.extBut _ _ c1 (hs₇.extBut _ _ c1 (Heap.get?_push_of_some _ e))
  have hT₈:IsPair h₈ h₅.objs.size x y:=hs₈.extBut _ _ (Nat.ne_of_gt hzlt) (hs₇.extBut _ _ (Nat.ne_of_gt hzlt) (Heap.get?_push_size _ rfl))
  have hz8:h₈.objs.size=h₅.objs.size+1:=by rw [hs₈.1,hs₇.1,Heap.size_push]
  have h1₈:S1 (k+1) h₈:=D1.frame _ _ _ h1₅ fun c hc o e=>up c o (fun q=>D.zf1 (q ▸ hc)) e
  have h2₈:S2 (k+1) h₈:=D2.frame _ _ _ h2₅ fun c hc o e=>up c o (fun q=>D.zf2 (q ▸ hc)) e
  have hk₈:∀ c o,c≠z->c≠TO->c≠i1->c≠i2->s.heap.get? c=some o->h₈.get? c=some o:=fun c o c1 c2 c3 c4 e=>up c o c1 (hk₅ c o c1 c2 c3 c4 e)
  rw [hsz] at hz₈ hT₈ hz8
  refine wpAny_pure ⟨_,rfl,?_⟩
  show Q (.ref h₅.objs.size) _
  rw [hsz]
  exact hQ x y h₈ _ p1 p2 hz₈ (up _ _ D.TOz hTO₅) h1₈ h2₈ hT₈ hz8 hk₈
theorem zipD_end {z TI TO:Addr} {k:Nat} {a b:Value} {Q:Fin->Shared->Prop} (D1:Draws prog w A i1 f1 n1 P1 S1) (D2:Draws prog w A i2 f2 n2 P2 S2) (D:ZA z TI TO i1 i2 f1 f2)
    (hz:IsZip s.heap z TI TO .none) (hTI:IsPair s.heap TI (.ref i1) (.ref i2)) (hTO:IsPair s.heap TO a b) (h1:S1 k s.heap) (h2:S2 k s.heap) (hend:k=n1∨k < n1/\k=n2)
    (hE:∀ h' tk e,(∀ c o,c≠z->c≠TO->c≠i1->c≠i2->s.heap.get? c=some o->h'.get? c=some o)->(∃ o,h'.get? e=some o/\o.cls=.type "StopIteration")->E (.ref e) { s with heap:=h',toks:=tk }) :
    wpAny (model prog w) A (Builtin.«zip.__next__» ⟨[.ref z],[]⟩) Q E s:=by
  show wpAny _ _ (field (.ref z) 2 >>= _) _ _ _
  refine wpAny_bind (wpAny_field hz rfl (x:=.bool false) rfl ?_)
  show wpAny _ _ (field (.ref z) 3 >>= _) _ _ _
  refine wpAny_bind (wpAny_field hz rfl (x:=.ref TI) rfl ?_)
  refine wpAny_bind (wpAny_seqItems hTI rfl ?_)
  show wpAny _ _ (Builtin.SmallTypes.ownedTupleIsFree (.ref z) >>= _) _ _ _
  refine wpAny_bind ?_
  unfold Builtin.SmallTypes.ownedTupleIsFree
  refine wpAny_bind (wpAny_field hz rfl (x:=.none) rfl (wpAny_pure ?_))
  simp only [if_true]
  refine wpAny_bind (wpAny_rule ?_)
  refine wpAny_bind (wpAny_field hz rfl (x:=.ref TO) rfl ?_)
  refine wpAny_bind (wpAny_setField_rec hz (by simp) fun h₁ hz₁ hs₁=>?_)
  replace hz₁:IsZip h₁ z TI TO .ellipsis:=hz₁
  refine wpAny_bind ?_
  simp only [List.zipIdx_cons,List.zipIdx_nil,List.forIn_cons,List.forIn_nil]
  refine wpAny_bind (wpAny_bind (wpAny_onRaise ?_))
  show wpAny _ _ (Builtin.SmallTypes.nextOf (.ref i1) >>= _) _ _ _
  rcases hend with e | ⟨lt,e⟩
  · subst e
    refine wpAny_bind (D1.done _ _ _ (dr_but D1 h1 hs₁ D.zf1) fun h₂ e hs₂ he=>?_)
    obtain ⟨oe,hoe,hce⟩:=he
    have hz₂:IsZip h₂ z TI TO .ellipsis:=hs₂ _ _ D.i1z.symm hz₁
    have hez:e≠z:=fun x=>by subst x;rw [hz₂] at hoe;cases hoe;simp at hce
    refine wpAny_setField_rec hz₂ (by simp) fun h₃ _ hs₃=>hE h₃ _ e (fun c o c1 _ c3 _ x=>hs₃.extBut _ _ c1 (hs₂ _ _ c3 (hs₁.extBut _ _ c1 x))) ⟨oe,hs₃.extBut _ _ hez hoe,hce⟩
  · subst e
    refine wpAny_bind (D1.item k _ _ _ lt (dr_but D1 h1 hs₁ D.zf1) fun x h₂ tk₂ p1 h1₂ hs₂=>wpAny_pure ?_)
    have hTO₂:IsPair h₂ TO a b:=hs₂.extBut _ _ D.TOi1 (hs₁.extBut _ _ D.TOz hTO)
    refine wpAny_bind (wpAny_seqItems hTO₂ rfl ?_)
    refine wpAny_bind (wpAny_updateSeq_pair hTO₂ fun h₃ hTO₃ hs₃=>?_)
    refine wpAny_bind (wpAny_letGo (wpAny_pure ?_))
    refine wpAny_bind (wpAny_bind (wpAny_onRaise ?_))
    show wpAny _ _ (Builtin.SmallTypes.nextOf (.ref i2) >>= _) _ _ _
    refine wpAny_bind (D2.done _ _ _ (dr_but D2 (dr_but D2 (dr_but D2 h2 hs₁ D.zf2) hs₂ D.jf2) hs₃ D.Tf2) fun h₄ e hs₄ he=>?_)
    obtain ⟨oe,hoe,hce⟩:=he
    have hz₄:IsZip h₄ z TI TO .ellipsis:=hs₄ _ _ D.i2z.symm (hs₃.extBut _ _ D.TOz.symm (hs₂.extBut _ _ D.i1z.symm hz₁))
    have hez:e≠z:=fun x=>by subst x;rw [hz₄] at hoe;cases hoe;simp at hce
    refine wpAny_setField_rec hz₄ (by simp) fun h₅ _ hs₅=>hE h₅ _ e (fun c o c1 c2 c3 c4 x=>hs₅.extBut _ _ c1 (hs₄ _ _ c4 (hs₃.extBut _ _ c2 (hs₂.extBut _ _ c3 (hs₁.extBut _ _ c1 x))))) ⟨oe,hs₅.extBut _ _ hez hoe,hce⟩
theorem next_zipD_item {z TI TO:Addr} {k:Nat} {a b:Value} {Q:Option Value->Shared->Prop} (D1:Draws prog w A.in1 i1 f1 n1 P1 S1) (D2:Draws prog w A.in1 i2 f2 n2 P2 S2) (D:ZA z TI TO i1 i2 f1 f2)
    (hz:IsZip s.heap z TI TO .none) (hTI:IsPair s.heap TI (.ref i1) (.ref i2)) (hTO:IsPair s.heap TO a b) (h1:S1 k s.heap) (h2:S2 k s.heap) (l1:k < n1) (l2:k < n2)
    (hQ:∀ x y h' tk,P1 k x->P2 k y->IsZip h' z TI TO (rawInt s.heap.objs.size)->IsPair h' TO x y->S1 (k+1) h'->S2 (k+1) h'->IsPair h' s.heap.objs.size x y->h'.objs.size=s.heap.objs.size+1 ->
      (∀ c o,c≠z->c≠TO->c≠i1->c≠i2->s.heap.get? c=some o->h'.get? c=some o)->Q (some (.ref s.heap.objs.size)) { s with heap:=h',toks:=tk }) :
    wpAny (model prog w) A (pyNext (.ref z)) Q E s:=by
  have hT:s.TypeIs (.ref z) "zip":=⟨_,hz,rfl⟩
  unfold pyNext
  exact wpAny_bind (wpAny_attempt (wpAny_callSpecial?_slot (name:=Str.ofString "__next__") hT PySem.F.slot_zip_next
    (wpAny_call_entry PySem.F.slot_zip_next hT PySem.F.entry_zip_next
      (zipD_item D1 D2 D hz hTI hTO h1 h2 l1 l2 fun x y h' tk p1 p2 a1 a2 a3 a4 a5 a6 a7=>wpAny_pure (hQ x y h' tk p1 p2 a1 a2 a3 a4 a5 a6 a7)) (PySem.F.args_zip_next_1 _))))
theorem next_zipD_end {z TI TO:Addr} {k:Nat} {a b:Value} {Q:Option Value->Shared->Prop} (D1:Draws prog w A.in1 i1 f1 n1 P1 S1) (D2:Draws prog w A.in1 i2 f2 n2 P2 S2) (D:ZA z TI TO i1 i2 f1 f2)
    (hz:IsZip s.heap z TI TO .none) (hTI:IsPair s.heap TI (.ref i1) (.ref i2)) (hTO:IsPair s.heap TO a b) (h1:S1 k s.heap) (h2:S2 k s.heap) (hend:k=n1∨k < n1/\k=n2)
    (hQ:∀ h' tk,(∀ c o,c≠z->c≠TO->c≠i1->c≠i2->s.heap.get? c=some o->h'.get? c=some o)->Q none { s with heap:=h',toks:=tk }):wpAny (model prog w) A (pyNext (.ref z)) Q E s:=by
  have hT:s.TypeIs (.ref z) "zip":=⟨_,hz,rfl⟩
  unfold pyNext
  refine wpAny_bind (wpAny_attempt (wpAny_callSpecial?_slot (name:=Str.ofString "__next__") hT PySem.F.slot_zip_next
    (wpAny_call_entry PySem.F.slot_zip_next hT PySem.F.entry_zip_next (zipD_end D1 D2 D hz hTI hTO h1 h2 hend fun h' tk e hk he=>?_) (PySem.F.args_zip_next_1 _))))
  obtain ⟨o,ho,hc⟩:=he
  refine wpAny_bind (wpAny_isInstance (T:="StopIteration") (b:=true) ⟨o,ho,hc⟩ isSubtype_stop ?_)
  exact wpAny_pure (hQ _ _ hk)
theorem walks_zipD {z TI TO:Addr} (D1:Draws prog w A.in1 i1 f1 n1 P1 S1) (D2:Draws prog w A.in1 i2 f2 n2 P2 S2) (D:ZA z TI TO i1 i2 f1 f2) :
    WalksT prog w A z ([z,TI,TO,i1,i2]++f1++f2) [z,TO,i1,i2] (min n1 n2) (fun i vals=>∃ x y,P1 i x/\P2 i y/\vals=#[x,y])
      (fun i h=>IsZip h z TI TO .none/\IsPair h TI (.ref i1) (.ref i2)/\(∃ a b,IsPair h TO a b)/\S1 i h/\S2 i h)
      (fun i T h=>IsZip h z TI TO (rawInt T)/\IsPair h TI (.ref i1) (.ref i2)/\(∃ a b,IsPair h TO a b)/\S1 (i+1) h/\S2 (i+1) h/\T≠z/\T≠TO/\T≠i1/\T≠i2) where
  sub:=fun c hc=>by simp at hc ⊢;rcases hc with rfl | rfl | rfl | rfl <;> simp
  frame:=fun i h h' hst hk=>by
    obtain ⟨hz,hTI,⟨a,b,hTO⟩,h1,h2⟩:=hst
    exact ⟨hk z (by simp) _ hz,hk TI (by simp) _ hTI,⟨a,b,hk TO (by simp) _ hTO⟩,D1.frame _ _ _ h1 fun b hb o e=>hk b (by simp [hb]) o e,D2.frame _ _ _ h2 fun b hb o e=>hk b (by simp [hb]) o e⟩
  item:=fun i s Q E hi hst hQ=>by
    obtain ⟨hz,hTI,⟨a,b,hTO⟩,h1,h2⟩:=hst
    refine next_zipD_item D1 D2 D hz hTI hTO h1 h2 (Nat.lt_of_lt_of_le hi (Nat.min_le_left ..)) (Nat.lt_of_lt_of_le hi (Nat.min_le_right ..)) fun x y h' tk p1 p2 a1 a2 a3 a4 a5 a6 hk=>?_
    have lt:∀ {c o},s.heap.get? c=some o->s.heap.objs.size≠c:=fun e=>Nat.ne_of_gt (Heap.lt_size e)
    obtain ⟨o1,e1⟩:=D1.live _ _ h1
    obtain ⟨o2,e2⟩:=D2.live _ _ h2
    exact hQ s.heap.objs.size #[x,y] h' tk ⟨x,y,p1,p2,rfl⟩ (Nat.le_refl _) ⟨_,a5,rfl,_,rfl⟩
      ⟨a1,hk _ _ D.TIz D.TITO D.TIi1 D.TIi2 hTI,⟨_,_,a2⟩,a3,a4,lt hz,lt hTO,lt e1,lt e2⟩
      fun c o hc e=>hk c o (fun x=>hc (by simp [x])) (fun x=>hc (by simp [x])) (fun x=>hc (by simp [x])) (fun x=>hc (by simp [x])) e
  go:=fun elts k pos i T s Q E hm hQ=>by
    obtain ⟨hz,hTI,⟨a,b,hTO⟩,h1,h2,_⟩:=hm
    refine wpAny_letOwnedTupleGo_zip hz fun h' hz' hs'=>hQ h' ⟨hz',hs'.extBut _ _ D.TIz hTI,⟨a,b,hs'.extBut _ _ D.TOz hTO⟩,dr_but D1 h1 hs' D.zf1,dr_but D2 h2 hs' D.zf2⟩ fun c o hc e=>hs'.extBut _ _ (fun x=>hc (by simp [x])) e
  apart:=fun i T h hm hT=>by
    obtain ⟨_,_,_,_,_,t1,t2,t3,t4⟩:=hm
    simp at hT
    rcases hT with rfl | rfl | rfl | rfl
    · exact t1 rfl
    · exact t2 rfl
    · exact t3 rfl
    · exact t4 rfl
  done:=fun s Q E hst hQ=>by
    obtain ⟨hz,hTI,⟨a,b,hTO⟩,h1,h2⟩:=hst
    exact next_zipD_end D1 D2 D hz hTI hTO h1 h2 (by omega) fun h' tk hk=>hQ h' tk fun c o hc e =>
      hk c o (fun x=>hc (by simp [x])) (fun x=>hc (by simp [x])) (fun x=>hc (by simp [x])) (fun x=>hc (by simp [x])) e
  self:=fun i s Q E hst hQ=>wpAny_pyIter_zip hst.1 hQ
end
abbrev zsO (x:Str) (t:Tok):Obj:={ cls:=.type (strIterType x),data:=.fields #[.str x t,.int 0 0] }
section
variable {X:Cx}
theorem drS {P:Program} {w:World} {A:Around} (hA:A.handled=none) (it:Addr) (z:Str) (t:Tok):Draws P w A.in1 it [it] z.cps.size (fun i v=>∃ c u,z.cps[i]?=some c/\v=.str ⟨#[c]⟩ u) (fun i h=>h.IsStrIter it (strIterType z) z t i):=by
  unfold strIterType
  split
  · exact Draws.strAscii (A:=A.in1) (show A.in1.handled=none from hA) it z t
  · exact Draws.strWide (A:=A.in1) (show A.in1.handled=none from hA) it z t
end
end L2
namespace L2
open PySem PySem.Spec PyProof.Rows
section
variable {X:Cx}
end
end L2
namespace HT
open PySem PyProof.Rows
section
open PySem.SeqAt
open PySem.AutoSeq1 (wpAny_loadPart')
open PySem.MeetsSeq PySem.MeetsSeq2 PySem.MeetsSeq3
end
section
variable {prog:Program} {w:World} {A:Around} {E:Value->Shared->Prop} {s:Shared}
end
end HT
namespace L2
open PySem PySem.Spec PyProof.Rows
section
variable {X:Cx}
end
end L2
namespace L2
open PySem PySem.Spec PyProof.Rows
def stpS (σ:List Str) (v:Str):List Str:=if σ.any (· == v) then σ else σ++[v]
def fmS (val:Nat->Str) (i:Nat):List Str:=((List.range i).map val).foldl stpS []
theorem fmS_succ (val:Nat->Str) (i:Nat):fmS val (i+1)=stpS (fmS val i) (val i):=by
  unfold fmS;rw [List.range_succ,List.map_append,List.foldl_append];rfl
theorem fmS_mem (val:Nat->Str):∀ (i:Nat) (k:Str),k ∈ fmS val i↔∃ j,j < i/\val j=k
  | 0,k=>by simp [fmS]
  | i+1,k=>by
    rw [fmS_succ]
    unfold stpS
    have ih:=fmS_mem val i
    split
    · rename_i h
      rw [List.any_eq_true] at h
      obtain ⟨y,hy,e⟩:=h
      have e:y=val i:=by simpa using e
      subst e
      rw [ih]
      constructor
      · rintro ⟨j,hj,e⟩
        exact ⟨j,by omega,e⟩
      · rintro ⟨j,hj,e'⟩
        by_cases hji:j=i
        · rw [hji] at e'
          rw [← e']
          exact (ih _).mp hy
        · exact ⟨j,by omega,e'⟩
    · rw [List.mem_append,ih,List.mem_singleton]
      constructor
      · rintro (⟨j,hj,e⟩ | e)
        · exact ⟨j,by omega,e⟩
        · exact ⟨i,by omega,e.symm⟩
      · rintro ⟨j,hj,e⟩
        by_cases hji:j=i
        · subst hji
          exact .inr e.symm
        · exact .inl ⟨j,by omega,e⟩
theorem fmS_le (val:Nat->Str):∀ i,(fmS val i).length<=i
  | 0=>by simp [fmS]
  | i+1=>by
    rw [fmS_succ]
    unfold stpS
    have:=fmS_le val i
    split
    · omega
    · simp;omega
section
variable {prog:Program} {w:World} {A:Around} {R:Result->Shared->Prop} {I:Addr} {fp wr:List Addr} {G:Array GenState->Array GenState->Prop} {n:Nat} {P:Nat->Value->Prop} {St:Nat->Shared->Prop}
theorem isStr_is (x:Str) (t:Tok):(strKind prog w).is x (.str x t)=true:=by
  show Value.isStrOf x (.str x t)=true
  simp [Value.isStrOf]
end
section
variable {prog:Program} {w:World} {A:Around} {E:Value->Shared->Prop} {s:Shared}
end
section
variable {X:Cx}
end
end L2
namespace L2
open PySem PySem.Spec PyProof.Rows
section
variable {prog:Program} {w:World} {A:Around} {E:Value->Shared->Prop} {h:Heap} {g:Array GenState} {d:Drawn} {t:Nat} {os:OsState}
variable {nm q:Str} {C N:Addr} {bs bm bmB:List Value} {hdct:Bool} {sn:List Str} {sub:List Value} {ab:Bool} {col:Option Bool} {dd:Option Addr} {k0 k1 k2 k3 k5:Option Value} {B newId initId:String}
theorem exc_initT (F:ExcBaseFacts B newId initId bmB) (T:OwnTail h bmB bm) {mN:Str->Option Value} {rest:List Value} {fI:Addr} {oI:Obj} {Q:Fin->Shared->Prop}
    (hC:h.get? C=some (excClassObj nm q C N bs bm hdct sn sub ab col dd k0 k1 k2 k3 k5 newId)) (hn:h.Ns N mN) (hi:mN "__init__"=some (.ref fI)) (hfI:h.get? fI=some oI) (hfc:oI.cls=.type "function")
    (hq:wpAny (model prog w) A (call (.ref fI) (.ref (h.objs.size+1)::rest)) (fun r s'=>r=.none/\Q (.done (.ret (.ref (h.objs.size+1)))) s') E
      ⟨(h.push { cls:=.type "tuple",data:=.seq rest.toArray }).push { cls:=.ref C,data:=.fields #[.ref h.objs.size,.none,.none,.none,.bool false,.none] },g,d,t,os⟩) (hrest:rest.length<=sizeLine) :
    wpAny (model prog w) A (Builtin.«type.__call__» ⟨.ref C::rest,[]⟩) Q E ⟨h,g,d,t,os⟩:=by
  repeat (first | with_reducible refine wpAny_loadPart_at hC ?_ | with_reducible refine wpAny_madeBy_exc hC ?_ | wp_step)
  refine codeAny_call_builtin_code (Code.quiet_builtin _ F.quiet) (wpAny_check_new_subT F T hC ?_)
  refine codeAny_exc_new_subT F T hC ?_ hrest
  show wpAny _ _ _ _ _ _
  have kp:∀ b o,h.get? b=some o->((h.push { cls:=.type "tuple",data:=.seq rest.toArray }).push { cls:=.ref C,data:=.fields #[.ref h.objs.size,.none,.none,.none,.bool false,.none] }).get? b=some o:=fun b o e=>Heap.get?_push_of_some _ (Heap.get?_push_of_some _ e)
  have hget:((h.push { cls:=.type "tuple",data:=.seq rest.toArray }).push
      { cls:=.ref C,data:=.fields #[.ref h.objs.size,.none,.none,.none,.bool false,.none] }).get? (h.objs.size+1)=some
      { cls:=.ref C,data:=.fields #[.ref h.objs.size,.none,.none,.none,.bool false,.none] }:=by heap_get
  have hcC:(Value.ref C::bm).contains (.ref C)=true:=by simp
  unfold isInstance
  repeat (first | with_reducible refine wpAny_loadPart_at hget ?_ | (with_reducible refine wpAny_isSubtype_exc (kp _ _ hC) ?_;rw [hcC]) | wp_step)
  show wpAny _ _ (typeLookup (.ref C) _) _ _ _
  refine wpAny_typeLookup_tail (kp _ _ hC) (hn.keeps kp) (T.keeps kp) F.mroIs F.init.lookup ?_
  rw [hi]
  refine wpAny_holding (wpAny_bind ?_)
  unfold bindSpecial
  refine wpAny_bind (wpAny_typeOf (T:="function") ⟨_,kp _ _ hfI,hfc⟩ ?_)
  rw [if_pos (by decide)]
  refine wpAny_pure (wpAny_bind (wpAny_mono hq (fun r s' hr=>?_) fun _ _ x=>x))
  obtain ⟨rfl,hQ⟩:=hr
  wp_walk
  exact hQ
theorem call_exc_initT (F:ExcBaseFacts B newId initId bmB) (T:OwnTail h bmB bm) {mN:Str->Option Value} {rest:List Value} {fI:Addr} {oI:Obj} {Q:Value->Shared->Prop}
    (hC:h.get? C=some (excClassObj nm q C N bs bm hdct sn sub ab col dd k0 k1 k2 k3 k5 newId)) (hn:h.Ns N mN) (hi:mN "__init__"=some (.ref fI)) (hfI:h.get? fI=some oI) (hfc:oI.cls=.type "function")
    (hq:wpAny (model prog w) (A.under (.builtin "type.__call__" ⟨.ref C::rest,[]⟩)) (call (.ref fI) (.ref (h.objs.size+1)::rest)) (fun r s'=>r=.none/\Q (.ref (h.objs.size+1)) s') E
      ⟨(h.push { cls:=.type "tuple",data:=.seq rest.toArray }).push { cls:=.ref C,data:=.fields #[.ref h.objs.size,.none,.none,.none,.bool false,.none] },g,d,t,os⟩) (hrest:rest.length<=sizeLine) :
    wpAny (model prog w) A (call (.ref C) rest) Q E ⟨h,g,d,t,os⟩:=by
  have f1:=tc_lookup
  have f2:=tc_bind (.ref C)
  have hT:(⟨h,g,d,t,os⟩:Shared).TypeIs (.ref C) "type":=⟨_,hC,rfl⟩
  refine wpAny_call (codeAny_of_tree ?_)
  show wpAny _ _ (callAny (.ref C) _) _ _ _
  repeat (any_goals (first | assumption | with_reducible refine wpAny_loadPart_at hC ?_ | wp_step))
  refine ⟨rfl,?_⟩
  exact codeAny_call_builtin_at (Code.quiet_builtin _ (by decide +kernel)) entry_typeCall (wpAny_check_type_call_sub hC (exc_initT F T hC hn hi hfI hfc hq hrest))
end
end L2
namespace L2
open PySem PySem.Spec PyProof.Rows
open Builtin Builtin.ObjectAttr
section
variable {prog:Program} {w:World} {A:Around} {E:Value->Shared->Prop} {h:Heap} {g:Array GenState} {d:Drawn} {t:Nat} {os:OsState}
variable {nm q:Str} {C D N x:Addr} {bs bmB:List Value} {sn:List Str} {sub:List Value} {ab:Bool} {col:Option Bool} {dd:Option Addr} {k0 k1 k2 k3 k5:Option Value} {newId name:Str} {nid sa owner B:String} {v:Value}
def Finds (M:Model) (h:Heap) (C:Addr) (name:Str) (r:Option Value):Prop:=∀ (A:Around) (E:Value->Shared->Prop) (g:Array GenState) (d:Drawn) (t:Nat) (os:OsState) (Q:Option Value->Shared->Prop),Q r ⟨h,g,d,t,os⟩->wpAny M A (typeLookup (.ref C) name) Q E ⟨h,g,d,t,os⟩
theorem Finds.go {M:Model} {r:Option Value} {Q:Option Value->Shared->Prop} (f:Finds M h C name r) (q:Q r ⟨h,g,d,t,os⟩):wpAny M A (typeLookup (.ref C) name) Q E ⟨h,g,d,t,os⟩:=f _ _ _ _ _ _ _ q
theorem Finds.of {M:Model} {K:PySem.W.Frag} {r:Option Value} (X:K.In h) (e:PySem.W.findIn K (.ref C) name=some r):Finds M h C name r:=fun A E g d t os Q q=>(PySem.W.looks_findIn X e).at q
theorem exc_store {tk:Tok} {o:Obj} {Q:Fin->Shared->Prop} (SF:StoreFacts B bmB sa owner) (hC:h.get? C=some (excClassObj nm q C N bs (.ref D::bmB) true sn sub ab col dd k0 k1 k2 k3 k5 nid))
    (hl:Finds (model prog w) h C name none) (hx:h.get? x=some o) (hc:o.cls=.ref C) (hnc:∀ c,o.data≠.cls c) (hdn:o.dict=none)
    (hq:∀ h' tk',h'.get? x=some { o with dict:=some h.objs.size }->h'.Ns1 h.objs.size (fun y=>if y=name then some v else none)->(∀ b u,b≠x->h.get? b=some u->h'.get? b=some u)->Q (.done (.ret .none)) ⟨h',g,d,tk',os⟩) :
    wpAny (model prog w) A (Builtin.«object.__setattr__» ⟨[.ref x,.str name tk,v],[]⟩) Q E ⟨h,g,d,t,os⟩:=by
  have hpass:=SF.passes (.ref x)
  unfold Builtin.«object.__setattr__»
  repeat (first | rw [refuse_eq] | (rw [refuseLoop_ref,refuseLoop_ref,hpass]) | (with_reducible refine wpAny_loadPart_at hx ?_;rw [hc]) | with_reducible refine wpAny_mroOf_exc hC ?_ | (with_reducible refine Finds.go hl ?_) | wp_step)
  rw [hdn,if_neg (by simp [typeHasDict])]
  split
  · rename_i hcd
    cases hcd
  split
  · rename_i c hcd
    exact absurd hcd (hnc c)
  · have hx₁:(h.push { cls:=.type "dict",data:=.dict #[] }).get? x=some o:=Heap.get?_push_of_some _ hx
    have hxs:x≠h.objs.size:=Nat.ne_of_lt (Heap.lt_size hx)
    refine wpAny_bind (wpAny_alloc' ?_)
    refine wpAny_bind (wpAny_update' hx₁ ?_)
    refine wpAny_pure ?_
    have hgd:((h.push { cls:=.type "dict",data:=.dict #[] }).update x fun o=>{ cls:=o.cls,dict:=some h.objs.size,data:=o.data,slots:=o.slots }).get? h.objs.size
        = some { cls:=.type "dict",data:=.dict #[] } :=
      (Heap.get?_update_ne _ _ _ _ hxs.symm).trans (Heap.get?_push_at rfl rfl)
    have hnd:((h.push { cls:=.type "dict",data:=.dict #[] }).update x fun o=>{ cls:=o.cls,dict:=some h.objs.size,data:=o.data,slots:=o.slots }).Ns h.objs.size (fun _=>none) :=
      ⟨_,#[],_,hgd,rfl,fun e he=>absurd he (by simp),fun _=>rfl⟩
    show wpAny _ _ (storeInDict h.objs.size (.str name tk) name v) _ _ _
    unfold storeInDict newKeyGuard
    refine wpAny_bind (wpAny_pure (wpAny_bind (wpAny_nsSet1 (Heap.Ns1.of_empty hnd) fun h' hn' hs=>?_)))
    obtain ⟨oD,esD,epD,hoD,hdD,hcD⟩:=hn'.count (Within.cons name v Within.nil)
    refine wpAny_bind (wpAny_lookBehind hoD (by rw [hdD];exact pastItsLine_dict (Nat.le_trans hcD (by rw [List.length_cons,List.length_nil,sizeLine_eq];omega))) ?_)
    wp_walk
    refine hq h' _ ?_ hn' fun b ob hbx hb=>?_
    · refine (hs.2 x hxs).trans (Heap.get?_update_self _ hx₁ ?_)
      have hfr:=(Heap.get?_some_iff.mp hx).2
      obtain ⟨oc,od,odt,osl⟩:=o
      cases odt <;> first | rfl | exact hfr
    · exact (hs.2 b (Nat.ne_of_lt (Heap.lt_size hb))).trans ((Heap.get?_update_ne _ _ _ _ hbx).trans (Heap.get?_push_of_some _ hb))
theorem exc_check_sa {M:Model} {o:Obj} {nameV:Value} {Q:Unit->Shared->Prop} (SF:StoreFacts B bmB sa owner)
    (hC:h.get? C=some (excClassObj nm q C N bs (.ref D::bmB) true sn sub ab col dd k0 k1 k2 k3 k5 nid)) (hx:h.get? x=some o) (hc:o.cls=.ref C) (hq:Q () ⟨h,g,d,t,os⟩) :
    wpAny M A (checkBuiltinCall sa ⟨[.ref x,nameV,v],[]⟩) Q E ⟨h,g,d,t,os⟩:=by
  have hcB:(Value.ref C::.ref D::bmB).contains (.type owner)=true:=by rw [List.contains_cons,List.contains_cons,SF.hasOwner,Bool.or_true,Bool.or_true]
  have ha:=SF.args (.ref x) nameV v
  simp only [checkBuiltinCall,SF.kind,SF.split]
  refine wpAny_bind ?_
  · unfold isInstance
    repeat (first | (with_reducible refine wpAny_loadPart_at hx ?_;rw [hc]) | (with_reducible refine wpAny_isSubtype_exc hC ?_;rw [hcB]) | wp_step)
    cases hsig:Manifest.signature? sa with
    | none=>exact wpAny_pure hq
    | some sig =>
      simp only [argsOk,hsig] at ha
      have h2:Bind.checkArgs sa sig ⟨[.ref x,nameV,v],[]⟩=pure ():=ha
      show wpAny M A (Bind.checkArgs sa sig ⟨[.ref x,nameV,v],[]⟩) Q E _
      rw [h2];exact wpAny_pure hq
theorem exc_setAttr {o:Obj} {Q:Unit->Shared->Prop} (SF:StoreFacts B bmB sa owner) (hC:h.get? C=some (excClassObj nm q C N bs (.ref D::bmB) true sn sub ab col dd k0 k1 k2 k3 k5 nid))
    (hs:Finds (model prog w) h C "__setattr__" (some (.builtin sa))) (hl:Finds (model prog w) h C name none) (hx:h.get? x=some o) (hc:o.cls=.ref C) (hnc:∀ c,o.data≠.cls c) (hdn:o.dict=none)
    (hq:∀ h' tk',h'.get? x=some { o with dict:=some h.objs.size }->h'.Ns1 h.objs.size (fun y=>if y=name then some v else none)->(∀ b u,b≠x->h.get? b=some u->h'.get? b=some u)->Q () ⟨h',g,d,tk',os⟩) :
    wpAny (model prog w) A (setAttr (.ref x) name v) Q E ⟨h,g,d,t,os⟩:=by
  have f3:=SF.slot.bind (.ref x)
  unfold setAttr callSpecial? specialOf
  repeat (any_goals (first | assumption | (with_reducible refine wpAny_loadPart_at hx ?_;rw [hc]) | (with_reducible refine Finds.go hs ?_) | wp_step))
  refine codeAny_call_builtin SF.slot.plain SF.entry (exc_check_sa SF hC hx hc (exc_store SF hC hl hx hc hnc hdn fun h' tk' a1 a2 a3=>?_))
  repeat (any_goals (first | assumption | wp_step))
  exact hq h' tk' a1 a2 a3
end
end L2
namespace L2
open PySem PySem.Spec PyProof.Rows
open Builtin Builtin.ObjectAttr
section
variable {prog:Program} {w:World} {A:Around} {E:Value->Shared->Prop} {h:Heap} {g:Array GenState} {d:Drawn} {t:Nat} {os:OsState}
variable {nm q:Str} {C D N x dx:Addr} {bs bmB:List Value} {sn:List Str} {sub:List Value} {ab:Bool} {col:Option Bool} {dd:Option Addr} {k0 k1 k2 k3 k5:Option Value} {name:Str} {nid B:String} {v:Value} {mA:Str->Option Value}
theorem exc_load_entry {tk:Tok} {o:Obj} {Q:Fin->Shared->Prop} (hC:h.get? C=some (excClassObj nm q C N bs (.ref D::bmB) true sn sub ab col dd k0 k1 k2 k3 k5 nid))
    (hl:Finds (model prog w) h C name none) (hx:h.get? x=some o) (hc:o.cls=.ref C) (hnc:∀ c,o.data≠.cls c) (hdx:o.dict=some dx) (hns:h.Ns1 dx mA) (hv:mA name=some v) (hq:Q (.done (.ret v)) ⟨h,g,d,t,os⟩) :
    wpAny (model prog w) A (Builtin.«object.__getattribute__» ⟨[.ref x,.str name tk],[]⟩) Q E ⟨h,g,d,t,os⟩:=by
  unfold Builtin.«object.__getattribute__»
  repeat (first | (with_reducible refine wpAny_loadPart_at hx ?_;rw [hc]) | (with_reducible refine Finds.go hl ?_) | wp_step)
  split
  · rename_i c hcd
    exact absurd hcd (hnc c)
  unfold instanceDict
  repeat (first | (with_reducible refine wpAny_loadPart_at hx ?_;rw [hc]) | with_reducible refine wpAny_loadPart_at hC ?_ | wp_step)
  rw [hdx]
  repeat (first | (with_reducible refine wpAny_nsGet hns.ns ?_;rw [hv]) | wp_step)
  exact hq
theorem exc_check_ga {M:Model} {o:Obj} {nameV:Value} {Q:Unit->Shared->Prop} (hB:bmB.contains (.type "BaseException")=true) (hC:h.get? C=some (excClassObj nm q C N bs (.ref D::bmB) true sn sub ab col dd k0 k1 k2 k3 k5 nid))
    (hx:h.get? x=some o) (hc:o.cls=.ref C) (hq:Q () ⟨h,g,d,t,os⟩):wpAny M A (checkBuiltinCall "BaseException.__getattribute__" ⟨[.ref x,nameV],[]⟩) Q E ⟨h,g,d,t,os⟩:=by
  have hk:builtinKind "BaseException.__getattribute__"=some .slot:=by decide +kernel
  have hsplit:splitId "BaseException.__getattribute__"=some ("BaseException","__getattribute__"):=by decide +kernel
  have hcB:(Value.ref C::.ref D::bmB).contains (.type "BaseException")=true:=by rw [List.contains_cons,List.contains_cons,hB,Bool.or_true,Bool.or_true]
  have ha:=PySem.F.args_bexc_ga (.ref x) nameV
  simp only [checkBuiltinCall,hk,hsplit]
  refine wpAny_bind ?_
  · unfold isInstance
    repeat (first | (with_reducible refine wpAny_loadPart_at hx ?_;rw [hc]) | (with_reducible refine wpAny_isSubtype_exc hC ?_;rw [hcB]) | wp_step)
    exact hq
theorem exc_getAttr {o:Obj} {expr:Bool} {Q:Value->Shared->Prop} (hB:bmB.contains (.type "BaseException")=true) (hC:h.get? C=some (excClassObj nm q C N bs (.ref D::bmB) true sn sub ab col dd k0 k1 k2 k3 k5 nid))
    (hg:Finds (model prog w) h C "__getattribute__" (some (.builtin "BaseException.__getattribute__"))) (hh:Finds (model prog w) h C "__getattr__" none)
    (hl:Finds (model prog w) h C name none) (hx:h.get? x=some o) (hc:o.cls=.ref C) (hnc:∀ c,o.data≠.cls c) (hdx:o.dict=some dx) (hns:h.Ns1 dx mA) (hv:mA name=some v) (ho:handedOut v=pure v)
    (hq:∀ tk,Q v ⟨h,g,d,tk,os⟩):wpAny (model prog w) A (getAttr (.ref x) name expr) Q E ⟨h,g,d,t,os⟩:=by
  have f3:=PySem.F.attrBase_ValueError.ga.bind (.ref x)
  have hx0:(expr && onTheHeap (Value.builtin "BaseException.__getattribute__"))=false:=by cases expr <;> rfl
  have hx2:(Value.builtin "BaseException.__getattribute__" == Value.builtin "object.__getattribute__")=false:=by decide +kernel
  have hx1:(onTheHeap (Value.ref C) && Value.builtin "BaseException.__getattribute__" == Value.builtin "object.__getattribute__")=false:=by rw [hx2];rfl
  unfold getAttr getAttrBy
  repeat (any_goals (first | assumption | (with_reducible refine wpAny_loadPart_at hx ?_;rw [hc]) | (with_reducible refine Finds.go hg ?_) | (with_reducible refine Finds.go hh ?_) | wp_step))
  refine codeAny_call_builtin PySem.F.attrBase_ValueError.ga.plain PySem.F.entry_bexc_ga (exc_check_ga hB hC hx hc (exc_load_entry hC hl hx hc hnc hdx hns hv ?_))
  show wpAny _ _ (handedOut v) _ _ _
  rw [ho]
  exact wpAny_pure (hq _)
end
end L2
namespace L2
open PySem PySem.Spec PyProof.Rows
section
variable {prog:Program} {w:World} {A:Around} {E:Value->Shared->Prop} {h:Heap} {g:Array GenState} {d:Drawn} {t:Nat} {os:OsState}
variable {nm q:Str} {C N:Addr} {bs bm bmB:List Value} {hdct:Bool} {sn:List Str} {sub:List Value} {ab:Bool} {col:Option Bool} {dd:Option Addr} {k0 k1 k2 k3 k5:Option Value} {B newId initId:String}
theorem call_exc_init (F:ExcBaseFacts B newId initId bmB) (T:OwnTail h bmB bm) {rest:List Value} {e:Addr} {oe:Obj} {vs:Array Value} {Q:Value->Shared->Prop}
    (hC:h.get? C=some (excClassObj nm q C N bs bm hdct sn sub ab col dd k0 k1 k2 k3 k5 newId)) (he:h.get? e=some oe) (hcls:oe.cls=.ref C) (hd:oe.data=.fields vs) (hs:0 < vs.size)
    (hq:∀ h',(∀ b o,b≠e->h.get? b=some o->h'.get? b=some o)->h'.get? e=some { oe with data:=.fields (vs.setIfInBounds 0 (.ref h.objs.size)) }->Q .none ⟨h',g,d,t,os⟩) (hrest:rest.length<=sizeLine) :
    wpAny (model prog w) A (call (.builtin initId) (.ref e::rest)) Q E ⟨h,g,d,t,os⟩:=by
  refine wpAny_call (codeAny_call_builtin F.init.plain F.initEntry (wpAny_check_init_subT F T hC he hcls ?_))
  have h0:vs[0]?=some vs[0]:=by simp [hs]
  have he1:(h.push { cls:=.type "tuple",data:=.seq rest.toArray }).get? e=some oe:=Heap.get?_push_of_some _ he
  show wpAny _ _ (newTuple rest >>= fun v=>Builtin.BaseException.bexcPut (.ref e) 0 v >>= fun _=>ret .none) _ _ _
  refine wpAny_bind (wpAny_newTuple ?_)
  show wpAny _ _ (Builtin.BaseException.bexcPut (.ref e) 0 (.ref h.objs.size) >>= fun _=>ret .none) _ _ _
  refine wpAny_bind ?_
  unfold Builtin.BaseException.bexcPut
  refine wpAny_bind (wpAny_field he1 hd h0 (wpAny_bind (wpAny_setField he1 hd hs ?_)))
  have hd3:=Obj.data_mapFields hd (·.setIfInBounds 0 (Value.ref h.objs.size))
  have he3:=Heap.get?_update_self (Obj.mapFields (·.setIfInBounds 0 (Value.ref h.objs.size))) he1 (Obj.isFreed_of_fields hd3)
  have fin:wpAny (model prog w) A.in1 (ret Value.none) (fun fin s'=>match fin with
      | .done f=>(match (Except.ok f:Result) with | .ok (.ret v)=>Q v s' | .ok a=>False | .error e=>E e s')
      | .again c'=>c'.quiet=true/\codeAny (model prog w) A c' (fun r s'=>match r with | .ok (.ret v)=>Q v s' | .ok a=>False | .error e=>E e s') s') (fun e s'=>E e s')
      { heap:=(h.push { cls:=.type "tuple",data:=.seq rest.toArray }).update e (Obj.mapFields (·.setIfInBounds 0 (Value.ref h.objs.size))),gens:=g,drawn:=d,toks:=t,os:=os }:=by
    refine wpAny_pure (hq _ (fun b o hb ho=>?_) ?_)
    · rw [Heap.get?_update_other _ _ (Ne.symm hb)]
      exact Heap.get?_push_of_some _ ho
    · rw [he3]
      obtain ⟨oc,od,odt,osl⟩:=oe
      dsimp only at hd
      subst hd
      rfl
  split
  · exact wpAny_letGo fin
  · exact wpAny_pure fin
end
end L2
namespace L2
open PySem PySem.Spec PyProof.Rows
abbrev bmVE:List Value:=[.type "ValueError",.type "Exception",.type "BaseException",.type "object"]
def excφ (a C:Addr) (dx:Option Addr) (h:Heap):Prop:=∃ t,h.get? a=some { cls:=.ref C,dict:=dx,data:=.fields #[.ref t,.none,.none,.none,.bool false,.none] }
def ExO (a C:Addr) (dx:Option Addr):HO:=.ext (excφ a C dx)
theorem exO_ok {P:Program} {w:World} {H:Hp} {h:Heap} {a C:Addr} {dx:Option Addr} {t:Addr} (e:h.get? a=some { cls:=.ref C,dict:=dx,data:=.fields #[.ref t,.none,.none,.none,.bool false,.none] }):ObjOk P w H h a (ExO a C dx) :=
  ⟨⟨t,e⟩,⟨_,e⟩,fun h1 h2 ⟨t',e1⟩ k=>⟨t',k _ e1⟩⟩
structure XC (K:PySem.W.Frag) (C D N:Addr):Prop where
  sh:∃ nm q bs sn sub ab col dd k0 k1 k2 k3 k5,K.lookup C=some (excClassObj nm q C N bs (.ref D::bmVE) true sn sub ab col dd k0 k1 k2 k3 k5 "ValueError.__new__")
  tl:PySem.W.tailIn K bmVE (.ref D::bmVE)=true
  ns:PySem.W.nsOkIn K N=true
  sa:PySem.W.findIn K (.ref C) "__setattr__"=some (some (.builtin "object.__setattr__"))
  ga:PySem.W.findIn K (.ref C) "__getattribute__"=some (some (.builtin "BaseException.__getattribute__"))
  gx:PySem.W.findIn K (.ref C) "__getattr__"=some none
  kp:PySem.W.keepIn K (.ref C)=true
theorem ns_some {K:PySem.W.Frag} {h:Heap} {N:Addr} {mg:Str->Option Value} {n:Str} {v:Value} (X:K.In h) (G:h.Ns N mg) (e:PySem.W.nsIn K N n=some (some v)):mg n=some v:=by
  obtain ⟨o,es,ep,ho,hd,_,hf⟩:=G
  unfold PySem.W.nsIn at e
  split at e
  · rename_i c d es' n' sl q
    have:=X _ _ q
    rw [ho] at this
    cases this
    cases hd
    split at e
    · rename_i en he
      rw [← hf]
      unfold nsFind findBy
      rw [← Array.find?_toList,he]
      simpa using e
    · split at e <;> cases e
  · cases e
section
variable {X:Cx} {pins:List (Addr × Obj)} {σ:St} {H:Hp} {s:Shared} {C D N:Addr}
theorem Inv.rewrite {a:Addr} {o:HO} (e:H a=some o):upd H a o=H:=by
  funext b
  by_cases h:b=a
  · subst h;rw [jc,e]
  · rw [je h]
def tExcI (C:Addr) (sp:Sp) (t:TA):TE:=fun σ H Q=>t σ H fun vs H1=>∀ e,H1 e=none->sp (.ref e::vs) (upd H1 e (ExO e C none)) (fun v H2=>v=.non/\Q (.ref e) H2) E0
theorem pe_excI {x:Str} {p pos:Pos} {k:Nat} {f:Addr} {fd:FuncData} {ps:List Str} {sp:Sp} {e:Expr} {es:List Expr} {t:TA} (c:XC X.K C D N) (hi:PySem.W.nsIn X.K N "__init__"=some (some (.ref f))) (hf:∃ o,X.K.lookup f=some o/\o.cls=.type "function")
    (F:FnOk X.prog X.w X.K X.mg X.base CX0 k f fd ps sp) (hr:Room (k+1) X.A) (hb:Binds X.K fd ps []) (hg:Gl X x) (hm:X.mg x=some (.ref C)) (ha:PA X (e::es) t) (hps:ps.length<=sizeLine:=by decide)
    (hdb:(x == ("__debug__":Str))=false:=by decide) (he:starEach (e::es) X.env=(false,eval e X.env)::starEach es X.env:=by rfl) (hpl:(backTo pos (starEach es X.env)).any (·.1)=false:=by rfl) :
    PE X (.Call (.Name x p) (e::es) [] pos) (tExcI C sp t):=by
  intro pins s σ H Q I h
  refine wpAny_Call_Name_kw (ld_glob I hg hm ?_ hdb)
  refine PySem.W.callWith_K (h₀:=X.base) I.ok.mod.kin c.kp (thn (ha pos pins s σ H _ I h) fun us s1 ⟨vs,H1,I1,r,q1⟩=>⟨I1.kIn,?_⟩) he hpl
  obtain ⟨nm,q,bs,sn,sub,ab,col,dd,k0,k1,k2,k3,k5,lk⟩:=c.sh
  obtain ⟨oI,lkf,hfc⟩:=hf
  have hC:=I1.kIn _ _ lk
  have hn:=Heap.Ns.of_isNs (PySem.W.isNs_of_in I1.kIn c.ns)
  have hin:=ns_some I1.kIn hn hi
  have T:=PySem.W.tail_of_in I1.kIn c.tl
  have hz:s1.heap.objs.size<=s1.heap.objs.size+1:=Nat.le_succ _
  have q2:=q1 (s1.heap.objs.size+1) (I1.hok.fresh hz)
  have r2:Vals (V.ref (s1.heap.objs.size+1)::vs) (Value.ref (s1.heap.objs.size+1)::us):=.cons rfl r
  have hl:(Value.ref (s1.heap.objs.size+1)::us++[]).length=ps.length:=by
    have e:=r2.length
    rw [F.len _ _ _ _ q2] at e
    rw [List.append_nil]
    exact e.symm
  obtain ⟨hh,g,d,tk,os⟩:=s1
  have hrest:us.length<=sizeLine:=by
    simp only [List.append_nil,List.length_cons] at hl
    omega
  refine call_exc_initT PySem.F.excBase_ValueError T hC hn hin (I1.kIn _ _ lkf) hfc ?_ hrest
  have I2:Inv X pins σ (upd H1 (hh.objs.size+1) (ExO (hh.objs.size+1) C none)) ⟨(hh.push { cls:=.type "tuple",data:=.seq us.toArray }).push { cls:=.ref C,data:=.fields #[.ref hh.objs.size,.none,.none,.none,.bool false,.none] },g,d,tk,os⟩ :=
    I1.laid (t':=tk) (fun b o e=>Heap.get?_push_of_some _ (Heap.get?_push_of_some _ e)) hz (exO_ok (t:=hh.objs.size) (by heap_get))
  refine wpAny_call (codeAny_mono (F.run _ X.stack _ _ ⟨Value.ref (hh.objs.size+1)::us,[]⟩ (Value.ref (hh.objs.size+1)::us) _ _ E0 (hr.make C us []) (I2.env0.make C us []) (by
    have:=hb _ (Value.ref (hh.objs.size+1)::us) I2.kIn hl
    rwa [List.append_nil] at this) r2 q2) fun r s' hq'=>?_)
  cases r with
  | error e=>exact False.elim hq'
  | ok fl =>
    cases fl with
    | ret u =>
      obtain ⟨v,H',I3,rv,ev,q3⟩:=I2.after hq'
      subst ev
      exact ⟨rv,⟨V.ref (hh.objs.size+1),H',I3,rfl,q3⟩⟩
    | next=>exact False.elim hq'
    | brk=>exact False.elim hq'
    | cont=>exact False.elim hq'
structure XD (K:PySem.W.Frag) (D:Addr):Prop where
  sp:PySem.W.specialIn K (.ref D) "__getattribute__"=some (some (.builtin "type.__getattribute__"))
  rd:PySem.W.readsIn K D (.type "type")=true
  fc:PySem.W.findCls K (.ref D) (.type "type") "__init__"=some (.val (.builtin "ValueError.__init__"))
def tExcInit (K:PySem.W.Frag) (t:TA):TE:=fun σ H Q=>t σ H fun vs H1=>∃ e y C D N,vs=[.ref e,y]/\H1 e=some (ExO e C none)/\XC K C D N/\Q .non H1
theorem pe_excInit {x:Str} {p pos apos:Pos} {e:Expr} {es:List Expr} {t:TA} (xd:XD X.K D) (hg:Gl X x) (hm:X.mg x=some (.ref D)) (ha:PA X (e::es) t) (hdb:(x == ("__debug__":Str))=false:=by decide)
    (he:starEach (e::es) X.env=(false,eval e X.env)::starEach es X.env:=by rfl) (hpl:(backTo pos (starEach es X.env)).any (·.1)=false:=by rfl) {pl:Sem Bool}
    (ht:eval (.Call (.Attribute (.Name x p) "__init__" apos) (e::es) [] pos) X.env=(do
      let ov ← eval (.Name x p) X.env
      standAt apos.atName
      let (f,first) ← holding [ov] (getMethod ov "__init__" pl)
      callWith pos f first (backTo pos (starEach (e::es) X.env)) (backToKw pos (keywordEach [] X.env))):=by rfl) :
    PE X (.Call (.Attribute (.Name x p) "__init__" apos) (e::es) [] pos) (tExcInit X.K t):=by
  intro pins s σ H Q I h
  refine PySem.W.methodCall_KW (pl:=pl) (ld_glob I hg hm ?_ hdb) ht
  refine PySem.W.method_cls I.kIn xd.sp (PySem.W.cls_value I.kIn xd.rd xd.fc rfl ?_)
  have I':Inv X pins σ H { s with toks:=s.toks+1 }:=I.tok _
  refine PyProof.Rows.callWith_builtin1 (thn (ha pos pins _ σ H _ I' h) fun us s1 ⟨vs,H1,I1,r1,a,y,C,D',N,ev,ea,c,q1⟩=>?_) he hpl
  subst ev
  obtain ⟨u1,u2,rfl,ru1,ru2⟩:=vals2 r1
  cases ru1
  obtain ⟨nm,q,bs,sn,sub,ab,col,dd,k0,k1,k2,k3,k5,lk⟩:=c.sh
  have hC:=I1.kIn _ _ lk
  have T:=PySem.W.tail_of_in I1.kIn c.tl
  obtain ⟨⟨t0,eo⟩,_,_⟩:=(show ObjOk X.prog X.w H1 s1.heap a (ExO a C none) from I1.hok a _ ea)
  obtain ⟨hh,g,d,tk,os⟩:=s1
  refine call_exc_init PySem.F.excBase_ValueError T hC eo rfl rfl (by simp) (fun h' k e'=>?_) (by show 1<=sizeLine;decide)
  have I3:=I1.write (t':=tk) (x:=a) (e:=a) (o:=ExO a C none) (h':=h') (by rw [ea];exact True.intro) (.inl rfl) k ⟨_,e'⟩ (exO_ok (t:=hh.objs.size) (by simpa using e'))
  rw [Inv.rewrite ea] at I3
  exact ⟨.non,H1,I3,rfl,q1⟩
def sExcSet (K:PySem.W.Frag) (ta tv:TE) (f:Str):TS:=fun D σ H=>tv σ H fun y H1=>ta σ H1 fun x H2=>∃ a C D' N,x=.ref a/\H2 a=some (ExO a C none)/\XC K C D' N/\PySem.W.findIn K (.ref C) f=some none /\
  ∀ dx,H2 dx=none->D.nx σ (upd (upd H2 dx (.xd [(f,y)])) a (ExO a C (some dx)))
theorem ps_excSet {o value:Expr} {f:Str} {pos pos':Pos} {ta tv:TE} (ha:PE X o ta) (hv:PE X value tv) (hs:swapsWith value (some (.Attribute o f pos')) pos.line X.env=pure false):PS X (.Assign [.Attribute o f pos'] value pos) (sExcSet X.K ta tv f):=by
  intro pins s σ H En I h
  refine plainObj_wpAny_Assign_Attribute (thn (hv pins s σ H _ I h) fun u s1 ⟨y,H1,I1,ry,q⟩=>thn (ha pins s1 σ H1 _ I1 q) fun ov s2 ⟨x,H2,I2,rx,a,C,D',N,ex,ea,c,nf,q2⟩=>?_) hs
  subst ex
  obtain rfl:ov=Value.ref a:=rx
  obtain ⟨nm,qn,bs,sn,sub,ab,col,dd,k0,k1,k2,k3,k5,lk⟩:=c.sh
  have hC:=I2.kIn _ _ lk
  obtain ⟨⟨t0,eo⟩,_,_⟩:=(show ObjOk X.prog X.w H2 s2.heap a (ExO a C none) from I2.hok a _ ea)
  have F1:=Finds.of (M:=model X.prog X.w) I2.kIn c.sa
  have F2:=Finds.of (M:=model X.prog X.w) I2.kIn nf
  obtain ⟨hh,g,d,tk,os⟩:=s2
  refine exc_setAttr PySem.F.store_ValueError hC F1 F2 eo rfl (fun c e=>by cases e) rfl fun h' tk' a1 a2 a3=>?_
  have hdx:H2 hh.objs.size=none:=I2.hok.fresh (Nat.le_refl _)
  have lta:a < hh.objs.size:=Heap.lt_size eo
  have nda:hh.objs.size≠a:=Nat.ne_of_gt lta
  have hok:HOk X.prog X.w (upd (upd H2 hh.objs.size (.xd [(f,y)])) a (ExO a C (some hh.objs.size))) h':=by
    intro b u e
    by_cases hb:b=a
    · subst hb
      rw [jc] at e
      cases e
      exact exO_ok a1
    · rw [je hb] at e
      by_cases hb2:b=hh.objs.size
      · subst hb2
        rw [jc] at e
        cases e
        refine ⟨_,a2,fun f'=>?_⟩
        by_cases hf:f'=f
        · subst hf
          simpa [List.lookup,RelO] using ry
        · have:(f' == f)=false:=by simpa using hf
          simp [List.lookup,this,hf,RelO]
      · rw [je hb2] at e
        refine (I2.hok b u e).stay (fun d' v' hd q'=>a3 d' v' ?_ q') (fun d' q'=>?_) fun d' ys q'=>?_
        · rcases hd with rfl | hd
          · exact hb
          · exact fun z=>by subst z;rw [ea] at hd;cases hd
        · rw [je (fun z=>by subst z;rw [ea] at q';cases q'),je (fun z=>by subst z;rw [hdx] at q';cases q')];exact q'
        · rw [je (fun z=>by subst z;rw [ea] at q';cases q'),je (fun z=>by subst z;rw [hdx] at q';cases q')];exact q'
  have ne:∀ b v',H2 b=v'->v'≠some (ExO a C none)->b≠a:=fun b v' e1 e2 z=>by subst z;rw [ea] at e1;exact e2 e1.symm
  have un:Un X.fs [] H2 (upd (upd H2 hh.objs.size (.xd [(f,y)])) a (ExO a C (some hh.objs.size))) hh h':=by
    refine ⟨fun b o e n _ _=>a3 b o (ne b _ n (by simp)) e,fun b o e n _ _=>⟨o.slots,a3 b o (ne b _ n (by simp)) e⟩,fun b o e n _=>?_,fun b o e _=>?_,fun b xs e=>?_,fun b o u e=>?_,fun b ps e=>⟨#[],?_⟩⟩
    · rw [je (ne b _ n (by simp)),je (Nat.ne_of_lt (Heap.lt_size e))];exact n
    · by_cases hb:b=a
      · subst hb;exact ⟨_,a1⟩
      · exact ⟨_,a3 b o hb e⟩
    · rw [je (ne b _ e (by simp [ExO])),je (jh e hdx)];exact e
    · rw [je (ne b _ e (by simp [ExO])),je (jh e hdx)];exact e
    · rw [je (ne b _ e (by simp [ExO])),je (jh e hdx),e];simp
  exact ⟨σ,_,I2.un (t':=tk') un hok,q2 _ hdx⟩
end
end L2
namespace L2
open PySem PySem.Spec PyProof.Rows
open Builtin Builtin.ObjectAttr
section
variable {prog:Program} {w:World} {A:Around} {E:Value->Shared->Prop} {h:Heap} {g:Array GenState} {d:Drawn} {t:Nat} {os:OsState}
variable {nm q:Str} {C D N x:Addr} {bs bmB:List Value} {sn:List Str} {sub:List Value} {ab:Bool} {col:Option Bool} {dd:Option Addr} {k0 k1 k2 k3 k5:Option Value} {nid:String} {K:PySem.W.Frag}
theorem exc_class_entry {tk:Tok} {o:Obj} {od:Option Obj} {Q:Fin->Shared->Prop} (X:K.In h) (hC:h.get? C=some (excClassObj nm q C N bs (.ref D::bmB) true sn sub ab col dd k0 k1 k2 k3 k5 nid))
    (hl:Finds (model prog w) h C "__class__" (some (.builtin "object.__class__"))) (I:PySem.W.InstAt h x o C od) (hm:PySem.W.mroIn K C (.type "object")=some true) (hq:Q (.done (.ret (.ref C))) ⟨h,g,d,t,os⟩) :
    wpAny (model prog w) A (Builtin.«object.__getattribute__» ⟨[.ref x,.str "__class__" tk],[]⟩) Q E ⟨h,g,d,t,os⟩:=by
  have hx:=I.at_
  have hc:o.cls=.ref C:=I.cls
  have f5:=PySem.F.typeOf_object_class
  have f6:=PySem.F.slot_gs_get.lookup
  have f7:=PySem.F.slot_gs_set.lookup
  have hT5:(⟨h,g,d,t,os⟩:Shared).TypeIs (.builtin "object.__class__") "getset_descriptor":=f5
  unfold Builtin.«object.__getattribute__»
  repeat (any_goals (first | assumption | (with_reducible refine wpAny_loadPart_at hx ?_;rw [hc]) | (with_reducible refine Finds.go hl ?_) | wp_step))
  refine PySem.W.class_get (K:=K) (s:=⟨h,g,d,t,os⟩) X I hm ?_
  repeat (any_goals (first | assumption | wp_step))
theorem exc_class_attr {o:Obj} {od:Option Obj} {Q:Option Value->Shared->Prop} (X:K.In h) (hB:bmB.contains (.type "BaseException")=true) (hC:h.get? C=some (excClassObj nm q C N bs (.ref D::bmB) true sn sub ab col dd k0 k1 k2 k3 k5 nid))
    (hg:Finds (model prog w) h C "__getattribute__" (some (.builtin "BaseException.__getattribute__"))) (hh:Finds (model prog w) h C "__getattr__" none)
    (hl:Finds (model prog w) h C "__class__" (some (.builtin "object.__class__"))) (I:PySem.W.InstAt h x o C od) (hm:PySem.W.mroIn K C (.type "object")=some true)
    (hq:Q (some (.ref C)) ⟨h,g,d,t+1,os⟩):wpAny (model prog w) A (getAttr? (.ref x) "__class__") Q E ⟨h,g,d,t,os⟩:=by
  have hx:=I.at_
  have hc:o.cls=.ref C:=I.cls
  have f3:=PySem.F.attrBase_ValueError.ga.bind (.ref x)
  have hx2:(Value.builtin "BaseException.__getattribute__" == Value.builtin "object.__getattribute__")=false:=by decide +kernel
  have hx1:(onTheHeap (Value.ref C) && Value.builtin "BaseException.__getattribute__" == Value.builtin "object.__getattribute__")=false:=by rw [hx2];rfl
  unfold getAttr? getAttrBy? getAttrBy
  repeat (any_goals (first | assumption | (with_reducible refine wpAny_loadPart_at hx ?_;rw [hc]) | (with_reducible refine Finds.go hg ?_) | (with_reducible refine Finds.go hh ?_) | wp_step))
  refine codeAny_call_builtin PySem.F.attrBase_ValueError.ga.plain PySem.F.entry_bexc_ga (exc_check_ga hB hC hx hc (exc_class_entry X hC hl I hm ?_))
  show wpAny _ _ (handedOut (.ref C)) _ _ _
  rw [PySem.W.handedOut_of rfl]
  exact wpAny_pure (wpAny_pure hq)
end
end L2
namespace L2
open PySem PySem.Spec PyProof.Rows
structure XI (K:PySem.W.Frag) (C:Addr):Prop where
  cl:PySem.W.findIn K (.ref C) "__class__"=some (some (.builtin "object.__class__"))
  ob:PySem.W.mroIn K C (.type "object")=some true
theorem kitx_exc {K:PySem.W.Frag} {C D N x:Addr} (c:XC K C D N) (xi:XI K C):PySem.W.KitX K (.ref x) (.ref C) (fun h=>∃ o od,PySem.W.InstAt h x o C od) where
  ty:=fun M h X ⟨o,od,I⟩=>I.type
  it:=fun M h X _=>by
    obtain ⟨nm,q,bs,sn,sub,ab,col,dd,k0,k1,k2,k3,k5,lk⟩:=c.sh
    intro A' Q' E' s' k q
    unfold isType loadHead
    exact wpAny_bind (wpAny_loadPart (k _ _ (X _ _ lk)) (wpAny_pure q))
  ne:=fun h tp dd its n sl X htp=>by
    obtain ⟨nm,q,bs,sn,sub,ab,col,dd,k0,k1,k2,k3,k5,lk⟩:=c.sh
    refine Bool.eq_false_iff.mpr fun q=>?_
    have e:C=tp:=Value.ref.inj (beq_iff_eq.mp q)
    subst e
    have z:=(X _ _ lk).symm.trans htp
    simp at z
  ca:=fun {prog w A E Q s} X ⟨o,od,I⟩ k=>by
    obtain ⟨nm,q,bs,sn,sub,ab,col,dd,k0,k1,k2,k3,k5,lk⟩:=c.sh
    obtain ⟨hh,g,d,tk,os⟩:=s
    exact exc_class_attr X (by decide) (X _ _ lk) (Finds.of X c.ga) (Finds.of X c.gx) (Finds.of X xi.cl) I xi.ob k
section
variable {X:Cx}
end
end L2
namespace L2
open PySem PySem.Spec PyProof.Rows
section
variable {X:Cx}
def tFmtI (te:TE):TE:=fun σ H Q=>te σ H fun x H1=>∃ i:Int,x=.int i/\i.natAbs < 10 ^ 20/\∀ z:Str,z.length<=21->Q (.str z) H1
theorem pe_fmtI {a:Expr} {te:TE} {pos:Pos} (ha:PE X a te):PE X (.FormattedValue a (-1) none pos) (tFmtI te):=by
  intro pins s σ H Q I h
  refine FormattedValue_plain (thn (ha pins s σ H _ I h) fun v s1 ⟨x,H1,I1,r1,i,ex,hi,q1⟩=>?_)
  subst ex
  obtain ⟨t,rfl⟩:=r1
  have hl:i.natAbs.log2 < 1920:=by
    by_cases h0:i.natAbs=0
    · rw [h0];decide
    · have h1:(10:Nat) ^ 20 < 2 ^ 70:=by decide
      have:=(Nat.log2_lt h0).mpr (Nat.lt_trans hi h1)
      omega
  have hz:(Str.ofString (toString i)).length<=21:=by
    have e:=int_text_length_le10 (a:=i) (k:=20) (by decide) hi
    rw [PySem.ofString_length]
    omega
  exact formatField_int_small hl ⟨.str _,H1,I1.tok _,⟨_,rfl⟩,q1 _ hz⟩
end
end L2
set_option autoImplicit true
set_option relaxedAutoImplicit true
namespace L2
open PySem PySem.Spec PyProof.Rows
section
variable {X:Cx} {K:PySem.W.Frag}
theorem bt_ValueError:bootBuiltins "ValueError"=some (.type "ValueError"):=by decide +kernel
theorem jbh {x:Str} {p pos:Pos} {k:Nat} {f C D N:Addr} {fd:FuncData} {ps:List Str} {sp:Sp} {e:Expr} {es:List Expr} {t:TA} (hK:X.K=K) (c:XC K C D N) (hi:PySem.W.nsIn K N "__init__"=some (some (.ref f))) (hf:∃ o,K.lookup f=some o/\o.cls=.type "function")
    (F:FnOk X.prog X.w K X.mg X.base CX0 k f fd ps sp) (hr:Room (k+1) X.A) (hb:Binds K fd ps []) (hg:Gl X x) (hm:X.mg x=some (.ref C)) (ha:QA X (e::es) t) (hps:ps.length<=sizeLine:=by decide)
    (hdb:(x == ("__debug__":Str))=false:=by decide) (he:starEach (e::es) X.env=(false,eval e X.env)::starEach es X.env:=by rfl) (hpl:(backTo pos (starEach es X.env)).any (·.1)=false:=by rfl) :
    QE X (.Call (.Name x p) (e::es) [] pos) (tExcI C sp t):=by subst hK;exact ⟨pe_excI c hi hf F hr hb hg hm ha.h hps hdb he hpl⟩
theorem qpe_excInit {x:Str} {p pos apos:Pos} {e:Expr} {es:List Expr} {t:TA} {D:Addr} (hK:X.K=K) (xd:XD K D) (hg:Gl X x) (hm:X.mg x=some (.ref D)) (ha:QA X (e::es) t) (hdb:(x == ("__debug__":Str))=false:=by decide)
    (he:starEach (e::es) X.env=(false,eval e X.env)::starEach es X.env:=by rfl) (hpl:(backTo pos (starEach es X.env)).any (·.1)=false:=by rfl) {pl:Sem Bool}
    (ht:eval (.Call (.Attribute (.Name x p) "__init__" apos) (e::es) [] pos) X.env=(do
      let ov ← eval (.Name x p) X.env
      standAt apos.atName
      let (f,first) ← holding [ov] (getMethod ov "__init__" pl)
      callWith pos f first (backTo pos (starEach (e::es) X.env)) (backToKw pos (keywordEach [] X.env))):=by rfl) :
    QE X (.Call (.Attribute (.Name x p) "__init__" apos) (e::es) [] pos) (tExcInit K t):=by subst hK;exact ⟨pe_excInit xd hg hm ha.h hdb he hpl ht⟩
theorem qps_excSet {o value:Expr} {f:Str} {pos pos':Pos} {ta tv:TE} (hK:X.K=K) (ha:QE X o ta) (hv:QE X value tv) (hs:swapsWith value (some (.Attribute o f pos')) pos.line X.env=pure false):QS X (.Assign [.Attribute o f pos'] value pos) (sExcSet K ta tv f):=by
  subst hK;exact ⟨ps_excSet ha.h hv.h hs⟩
theorem qpe_fmtI {a:Expr} {te:TE} {pos:Pos} (ha:QE X a te):QE X (.FormattedValue a (-1) none pos) (tFmtI te):=⟨pe_fmtI ha.h⟩
end
end L2
namespace HT
open PySem PyProof.Rows
section
open PySem.AutoSeq1 (wpAny_loadPart')
open PySem.MeetsSeq PySem.MeetsSeq2 PySem.MeetsSeq3
theorem tuple_add0 (l b:Addr) (items2:Array Value) (n n2:Nat) (dd dd2:Option Addr) (sl sl2:Array (Option Value)) :
    Meets (Builtin.«tuple.__add__» ⟨[.ref l,.ref b],[]⟩)
      (fun _ R s=>s.heap.get? l=some { cls:=.type "tuple",dict:=dd,data:=.seq #[] n,slots:=sl }/\s.heap.get? b=some { cls:=.type "tuple",dict:=dd2,data:=.seq items2 n2,slots:=sl2 }/\R (.ok (.ret (.ref b))) s) :=
  .of_wp fun prog w A R s h=>by
    obtain ⟨hp,g,d,tk,os⟩:=s;obtain ⟨hl,hb,h⟩:=h
    have f2:=AutoSeq1.sub_tuple_tuple
    wp_walk using wpAny_loadPart' hl,wpAny_loadPart' hb
    exact ⟨_,rfl,h⟩
end
end HT
namespace L2
open PySem PySem.Spec PyProof.Rows
section
variable {X:Cx}
end
end L2
set_option autoImplicit true
set_option relaxedAutoImplicit true
namespace L2
open PySem PySem.Spec PyProof.Rows
theorem ns_ok {K:PySem.W.Frag} {N:Addr} {no:Value} {nd:Option Addr} {es:Array DictEntry} {en:Nat} {nl:Array (Option Value)} (l:K.lookup N=some ⟨no,nd,.dict es en,nl⟩) (e:(es.all fun e=>match e.key with | .str _ _=>true | _=>false)=true):PySem.W.nsOkIn K N=true:=by
  unfold PySem.W.nsOkIn
  rw [l]
  exact e
section
variable {K:PySem.W.Frag} {C C' D N N':Addr} {nm q nm' q':Str} {bs bm bs' bm':List Value} {sn sn':List Str} {sub sub':List Value} {ab ab' hd hd':Bool} {col col':Option Bool} {dd dd':Option Addr} {k0 k1 k2 k3 k5 j0 j1 j2 j3 j5:Option Value} {nid nid':String}
theorem tail_ok (l:K.lookup D=some (excClassObj nm q D N bs bm hd sn sub ab col dd k0 k1 k2 k3 k5 nid)) (ns:PySem.W.nsOkIn K N=true) (i:PySem.W.nsIn K N "__init__"=some none):PySem.W.tailIn K bmVE (.ref D::bmVE)=true:=by
  unfold PySem.W.tailIn
  dsimp only
  rw [l]
  dsimp only
  rw [ns,i]
  have:PySem.W.tailIn K bmVE bmVE=true:=by
    unfold PySem.W.tailIn
    simp
  rw [this]
  simp
theorem kit_sub {c:Value} (l:K.lookup C=some (excClassObj nm q C N bs bm hd sn sub ab col dd k0 k1 k2 k3 k5 nid)):PySem.W.subIn K (.ref C) c=some ((Value.ref C::bm).contains c):=by
  unfold PySem.W.subIn PySem.W.mroIn PySem.W.clsIn
  dsimp only
  rw [l]
  rfl
theorem kit_ne (l:K.lookup C=some (excClassObj nm q C N bs (.ref D::bmVE) hd sn sub ab col dd k0 k1 k2 k3 k5 nid)) (l':K.lookup C'=some (excClassObj nm' q' C' N' bs' bm' hd' sn' sub' ab' col' dd' j0 j1 j2 j3 j5 nid')) (ty:PySem.W.typeIn K (.ref C')=some (.type "type")) (n:C≠C') (nD:C'≠D) :
    PySem.W.kitOne K (.ref C) (.ref C')=some false:=by
  unfold PySem.W.kitOne
  rw [if_neg (by simpa using n)]
  unfold PySem.W.kitCls
  have:((PySem.W.clsIn K C').isSome && PySem.W.typeIn K (.ref C') == some (.type "type"))=true:=by
    rw [ty]
    unfold PySem.W.clsIn
    rw [l']
    rfl
  dsimp only
  rw [if_pos this,kit_sub l]
  simp [Ne.symm n,nD]
theorem kit_V (l:K.lookup C=some (excClassObj nm q C N bs (.ref D::bmVE) hd sn sub ab col dd k0 k1 k2 k3 k5 nid)):PySem.W.kitOne K (.ref C) (.type "ValueError")=some true:=by
  unfold PySem.W.kitOne
  rw [if_neg (by simp)]
  unfold PySem.W.kitCls
  dsimp only
  rw [if_pos (by decide +kernel),kit_sub l]
  simp
end
end L2
namespace L2
open PySem PySem.Spec PyProof.Rows
section
variable {M:Model} {A:Around} {E:Value->Shared->Prop} {s:Shared}
theorem jb1 {base:Heap} {env:Env} {outer:List Env} {L e:Addr} {c:Value} {dx:Option Addr} {sl:Array (Option Value)} {vs:Array Value} {head:Value} {hn:Bool} {Q:Unit->Shared->Prop}
    (fr:A.frames=some (env::outer)) (ff:s.heap.FunFrames base (env::outer)) (ef:env.frame=some L) (he:s.heap.get? e=some ⟨c,dx,.fields vs,sl⟩) (ne:e ∉ frs (env::outer)) (hsz:1 < vs.size)
    (q:∀ h' T oT ts,(∀ b o,b≠e->b ∉ frs (env::outer)->s.heap.get? b=some o->h'.get? b=some o)->(∀ b o,b≠e->s.heap.get? b=some o->∃ sl',h'.get? b=some { o with slots:=sl' }) ->
      h'.get? e=some ⟨c,dx,.fields (vs.setIfInBounds 1 (.ref T)),sl⟩->s.heap.objs.size<=T->T≠e->h'.get? T=some oT->oT.data=.fields ts->ts[3]?=some (rawInt L)->Q () { s with heap:=h' }) :
    wpAny M A (do let a ← frameOf env;let pl ← entryPlaceOf L hn;let b ← EntryCells.newEntry head a .none (rawInt L) .none pl;setField (.ref e) 1 b) Q E s:=by
  refine wpAny_bind (wpAny_frameOf_fun fr ff ef fun h1 so=>?_)
  refine wpAny_bind (wpAny_entryPlaceOf fun pl ip=>?_)
  unfold EntryCells.newEntry newFields
  refine wpAny_bind (wpAny_newObj_type ?_ (ip.sizeOk5 _ _ _ _ _))
  have e1:h1.get? e=some ⟨c,dx,.fields vs,sl⟩:=(so.2.1 e ne).trans he
  have e2:=Heap.get?_push_of_some (h:=h1) (⟨.type "traceback",none,.fields ([head,.ref L,.none,rawInt L,.none]++(if pl.isEmpty then List.replicate 6 Value.none else pl)).toArray,#[]⟩:Obj) e1
  refine wpAny_setField e2 rfl hsz ?_
  have nT:h1.objs.size≠e:=Nat.ne_of_gt (Heap.lt_size e1)
  have kp:∀ b o,b≠e->h1.get? b=some o->((h1.push (⟨.type "traceback",none,.fields ([head,.ref L,.none,rawInt L,.none]++(if pl.isEmpty then List.replicate 6 Value.none else pl)).toArray,#[]⟩:Obj)).update e (Obj.mapFields (·.setIfInBounds 1 (Value.ref h1.objs.size)))).get? b=some o:=fun b o hb ho=>by
    rw [Heap.get?_update_other _ _ (Ne.symm hb)]
    exact Heap.get?_push_of_some _ ho
  refine q _ h1.objs.size _ _ (fun b o hb hf ho=>kp b o hb ((so.2.1 b hf).trans ho)) (fun b o hb ho=>?_) ?_ (Nat.le_of_eq so.1.symm) nT ((Heap.get?_update_other _ _ (Ne.symm nT)).trans (Heap.get?_push_size h1 rfl)) rfl ?_
  · obtain ⟨sl',e3⟩:=so.2.2 b o ho
    exact ⟨sl',kp b _ hb e3⟩
  · rw [Heap.get?_update_self _ e2 rfl]
    rfl
  · first
      | (simp;done)
      | (rcases ip with rfl | ⟨_,_,_,_,_,_,_,rfl⟩ <;> simp)
end
end L2
namespace L2
open PySem PySem.Spec PyProof.Rows
section
variable {X:Cx} {pins:List (Addr × Obj)} {σ:St} {H H':Hp} {s:Shared} {a C T:Addr} {dx:Option Addr} {fl:Option Value}
structure Own (X:Cx) (pins:List (Addr × Obj)) (H:Hp) (b:Addr):Prop where
  new:X.s₀.heap.get? b=none
  free:H b=none
  loc:b≠X.env.locals
  cell:∀ x c,X.env.cells.lookup x=some c->c≠b
  pin:∀ p ∈ X.pn++pins,p.1≠b
  fr:b ∉ frs X.stack
theorem Inv.frThere (I:Inv X pins σ H s) {b:Addr} (hb:b ∈ frs X.stack):∃ o,s.heap.get? b=some o:=by
  obtain ⟨_,o,ho,_⟩:=I.stack.mem hb
  exact ⟨o,ho⟩
theorem Inv.own (I:Inv X pins σ H s) (hx:X.ex=[]) {b:Addr} (n:s.heap.get? b=none) (hf:H' b=none):Own X pins H' b:=by
  refine ⟨?_,hf,?_,fun x c e z=>?_,fun p hp z=>?_,fun hb=>?_⟩
  · cases e:X.s₀.heap.get? b with
    | none=>rfl
    | some o =>
      obtain ⟨o',e'⟩:=I.base.there b o e (by rw [hx];simp)
      rw [n] at e';cases e'
  · rintro rfl
    obtain ⟨m,⟨o,_,_,ho,_⟩,_⟩:=I.loc
    rw [n] at ho;cases ho
  · subst z
    obtain ⟨v,o,ho,_⟩:=I.cell x c e
    rw [n] at ho;cases ho
  · have:=(I.pin p hp).1
    rw [z,n] at this;cases this
  · obtain ⟨o,ho⟩:=I.frThere hb
    rw [n] at ho;cases ho
theorem Inv.fly {h':Heap} {t':Nat} {φ:Addr->Prop} (I:Inv X pins σ H s) (hφ:∀ b,φ b->Own X pins H b)
    (k:∀ b o,¬ φ b->b ∉ frs X.stack->s.heap.get? b=some o->h'.get? b=some o) (ks:∀ b o,¬ φ b->s.heap.get? b=some o->∃ sl,h'.get? b=some { o with slots:=sl }):Inv X pins σ H { s with heap:=h',toks:=t' }:=by
  have old:∀ b o,X.s₀.heap.get? b=some o->¬ φ b:=fun b o e z=>by rw [(hφ b z).new] at e;cases e
  have trd:∀ b u,H b=some u->¬ φ b/\b ∉ frs X.stack:=fun b u e=>⟨fun z=>(by rw [(hφ b z).free] at e;cases e),fun z=>(by rw [I.stkFree b z] at e;cases e)⟩
  have cel:∀ x c,X.env.cells.lookup x=some c->∀ v,s.heap.IsCell c v->h'.IsCell c v:=fun x c e v ⟨o,ho,hd⟩=>by
    obtain ⟨sl,q⟩:=ks c o (fun z=>(hφ c z).cell x c e rfl) ho
    exact ⟨_,q,hd⟩
  refine ⟨I.ok,I.os,I.bare,⟨fun b o e n hb hx=>?_,fun b o e n hb hx=>?_,I.base.free,fun b o e hx=>?_,I.base.tups,I.base.frzs,I.base.tbls⟩,?_,fun x c e=>?_,I.free,I.freeC,fun p hp=>?_,fun b u e=>?_,I.len⟩
  · refine k b o (old b o e) (fun z=>?_) (I.base.keep b o e n hb hx)
    rcases List.mem_cons.mp (I.stkSub b z) with r | r
    · exact absurd (r ▸ Heap.lt_size e) (Nat.not_lt.mpr I.ok.above)
    · exact hb r
  · obtain ⟨sl,e1⟩:=I.base.slot b o e n hb hx
    obtain ⟨sl',e2⟩:=ks b _ (old b o e) e1
    exact ⟨sl',e2⟩
  · obtain ⟨o',e1⟩:=I.base.there b o e hx
    obtain ⟨sl,e2⟩:=ks b o' (old b o e) e1
    exact ⟨_,e2⟩
  · obtain ⟨m,⟨o,es,ep,ho,r⟩,hl⟩:=I.loc
    obtain ⟨sl,e2⟩:=ks _ o (fun z=>(hφ _ z).loc rfl) ho
    refine ⟨m,⟨_,es,ep,e2,r⟩,fun i x v e1 e3 e4=>?_⟩
    obtain ⟨u,ru,l⟩:=hl i x v e1 e3 e4
    refine ⟨u,ru,?_⟩
    rcases l with l | ⟨kk,c,e,z⟩
    · exact .inl l
    · exact .inr ⟨kk,c,e,cel x c e _ z⟩
  · obtain ⟨v,z⟩:=I.cell x c e
    exact ⟨v,cel x c e v z⟩
  · obtain ⟨e,n,ne,nf,d⟩:=I.pin p hp
    refine ⟨k p.1 p.2 (fun z=>(hφ _ z).pin p hp rfl) (fun z=>?_) e,n,ne,nf,d⟩
    rcases List.mem_cons.mp (I.stkSub _ z) with r | r
    · exact ne r
    · exact nf r
  · refine (I.hok b u e).stay (fun c v hc q=>?_) (fun _ q=>q) fun _ _ q=>q
    rcases hc with rfl | hc
    · exact k c v (trd c u e).1 (trd c u e).2 q
    · exact k c v (trd c _ hc).1 (trd c _ hc).2 q
structure FlS (X:Cx) (pins:List (Addr × Obj)) (H:Hp) (h:Heap) (a C:Addr) (dx:Option Addr) (fl:Option Value):Prop where
  own:Own X pins H a
  ex:∃ vs sl,h.get? a=some ⟨.ref C,dx,.fields vs,sl⟩/\match fl with
    | none=>vs[1]?=some .none
    | some f=>∃ T oT ts,vs[1]?=some (.ref T)/\Own X pins H T/\T≠a/\h.get? T=some oT/\oT.data=.fields ts/\ts[3]?=some f
theorem station {M:Model} {A:Around} {E:Value->Shared->Prop} {Q:Unit->Shared->Prop} (I:Inv X pins σ H s) (hA:A.frames=X.A.frames) (hs:X.stack=X.env::X.outer/\X.env.frame=some X.env.locals) (hx:X.ex=[]) (f:FlS X pins H s.heap a C dx fl) (hfl:fl=none∨fl=some .none)
    (q:∀ s',Inv X pins σ H s'->FlS X pins H s'.heap a C dx (some (rawInt X.env.locals))->Q () s'):wpAny M A (noteFrame (.ref a) X.env) Q E s:=by
  obtain ⟨own,vs,sl,ea,r⟩:=f
  have fr:A.frames=some (X.env::X.outer):=by rw [hA,I.ok.frames,hs.1]
  have ff:=I.stack
  rw [hs.1] at ff
  have nf:a ∉ frs (X.env::X.outer):=by rw [← hs.1];exact own.fr
  unfold noteFrame
  simp only [hs.2]
  rcases hfl with rfl | rfl
  · have hsz:1 < vs.size:=(Array.getElem?_eq_some_iff.mp r).1
    refine wpAny_bind (wpAny_field ea rfl r ?_)
    rw [if_neg (by decide)]
    refine jb1 fr ff hs.2 ea nf hsz fun h' T oT ts k ks e1 zT nT eT dT fT=>q _ (I.fly (t':=s.toks) (φ:=fun b=>b=a) (fun b e=>e ▸ own) (fun b o e hb ho=>k b o e (by rw [← hs.1];exact hb) ho) fun b o e ho=>ks b o e ho) ?_
    exact ⟨own,_,sl,e1,T,oT,ts,by simp [hsz],I.own hx (Heap.get?_none_of_le zT) (I.hok.fresh zT),nT,eT,dT,fT⟩
  · obtain ⟨T0,o0,t0,v1,ow0,n0,e0,d0,f0⟩:=r
    have hsz:1 < vs.size:=(Array.getElem?_eq_some_iff.mp v1).1
    refine wpAny_bind (wpAny_field ea rfl v1 ?_)
    rw [if_pos (show (Value.ref T0 != Value.none)=true from by simp)]
    refine wpAny_bind (wpAny_field e0 d0 f0 ?_)
    rw [if_neg (show ¬ ((Value.none == rawInt X.env.locals)=true) from by simp [rawInt])]
    refine wpAny_bind (wpAny_setField e0 d0 (Array.getElem?_eq_some_iff.mp f0).1 ?_)
    have oth:∀ b,b≠T0->(s.heap.update T0 (Obj.mapFields (·.setIfInBounds 3 Value.none))).get? b=s.heap.get? b:=fun b hb=>Heap.get?_update_other _ _ (Ne.symm hb)
    have I1:Inv X pins σ H { s with heap:=s.heap.update T0 (Obj.mapFields (·.setIfInBounds 3 Value.none)) } :=
      I.fly (t':=s.toks) (φ:=fun b=>b=T0) (fun b e=>e ▸ ow0) (fun b o e _ ho=>(oth b e).trans ho) fun b o e ho=>⟨o.slots,(oth b e).trans ho⟩
    have ff1:=I1.stack
    rw [hs.1] at ff1
    refine jb1 (s:={ s with heap:=s.heap.update T0 (Obj.mapFields (·.setIfInBounds 3 Value.none)) }) fr ff1 hs.2 ((oth a (Ne.symm n0)).trans ea) nf hsz fun h' T oT ts k ks e1 zT nT eT dT fT=>q _ (I1.fly (t':=s.toks) (φ:=fun b=>b=a) (fun b e=>e ▸ own) (fun b o e hb ho=>k b o e (by rw [← hs.1];exact hb) ho) fun b o e ho=>ks b o e ho) ?_
    exact ⟨own,_,sl,e1,T,oT,ts,by simp [hsz],I1.own hx (Heap.get?_none_of_le zT) (I1.hok.fresh zT),nT,eT,dT,fT⟩
theorem land {M:Model} {A:Around} {E:Value->Shared->Prop} {Q:Unit->Shared->Prop} {fv:Value} (I:Inv X pins σ H s) (f:FlS X pins H s.heap a C dx (some fv))
    (q:∀ s',Inv X pins σ H s'->FlS X pins H s'.heap a C dx (some .none)->Q () s'):wpAny M A (setFlight (.ref a) none) Q E s:=by
  obtain ⟨own,vs,sl,ea,T0,o0,t0,v1,ow0,n0,e0,d0,f0⟩:=f
  have h3:3 < t0.size:=(Array.getElem?_eq_some_iff.mp f0).1
  have oth:∀ b,b≠T0->(s.heap.update T0 (Obj.mapFields (·.setIfInBounds 3 ((none:Option Addr).elim Value.none fun f=>rawInt f)))).get? b=s.heap.get? b:=fun b hb=>Heap.get?_update_other _ _ (Ne.symm hb)
  unfold setFlight
  refine wpAny_bind (wpAny_field ea rfl v1 ?_)
  rw [if_pos (show (Value.ref T0 != Value.none)=true from by simp)]
  refine wpAny_setField e0 d0 h3 (q _ (I.fly (t':=s.toks) (φ:=fun b=>b=T0) (fun b e=>e ▸ ow0) (fun b o e _ ho=>(oth b e).trans ho) fun b o e ho=>⟨o.slots,(oth b e).trans ho⟩) ?_)
  exact ⟨own,vs,sl,(oth a (Ne.symm n0)).trans ea,T0,_,_,v1,ow0,n0,Heap.get?_update_self _ e0 (Obj.isFreed_of_fields (Obj.data_mapFields d0 _)),Obj.data_mapFields d0 _,by simp [h3]⟩
end
def CXE (P:Program) (w:World):CXT:=fun outer H s E e s'=>∃ a C dx H',e=.ref a/\s'.os=s.os/\AllBare s'.gens/\Un (frs outer) [] H H' s.heap s'.heap/\HOk P w H' s'.heap/\(s.heap.get? a=none/\H' a=none) /\
  (∃ vs sl T oT ts,s'.heap.get? a=some ⟨.ref C,dx,.fields vs,sl⟩/\vs[1]?=some (.ref T)/\(s.heap.get? T=none/\H' T=none)/\T≠a/\s'.heap.get? T=some oT/\oT.data=.fields ts/\ts[3]?=some .none)/\E (.ref C) dx H'
def Leaves (X:Cx) (E:XK):Prop:=∀ (pins:List (Addr × Obj)) (σ:St) (H:Hp) (s:Shared) (a C:Addr) (dx:Option Addr) (fl:Option Value),Inv X pins σ H s->FlS X pins H s.heap a C dx fl->(fl=none∨fl=some .none)->E (.ref C) dx H->X.xe (.ref a) s
section
variable {X:Cx} {E:XK}
theorem cx_at {pins:List (Addr × Obj)} {σ:St} {H H1:Hp} {s s':Shared} {P:Program} {w:World} (I:Inv X pins σ H s) (hP:X.prog=P) (hw:X.w=w) (hx:X.ex=[]) {e:Value} (h:CXE P w X.stack H s E e s') :
    ∃ a C dx H',e=.ref a/\Inv X pins σ H' s'/\FlS X pins H' s'.heap a C dx (some .none)/\E (.ref C) dx H':=by
  subst hP hw
  obtain ⟨a,C,dx,H',rfl,os,bare,un,hok,⟨na,fa⟩,⟨vs,sl,T,oT,ts,ea,v1,⟨nT,fT⟩,nTa,eT,dT,f3⟩,hE⟩:=h
  have I':Inv X pins σ H' s':=I.call' os un hok bare (fun b z=>absurd z (by simp))
  exact ⟨a,C,dx,H',rfl,I',⟨I.own hx na fa,vs,sl,ea,T,oT,ts,v1,I.own hx nT fT,nTa,eT,dT,f3⟩,hE⟩
theorem leaves_of {P:Program} {w:World} {K:PySem.W.Frag} {mg:Str->Option Value} {base:Heap} {N:List Str} {qual:Str} {scope:Scope} {f:Addr} {cd:Value} {A:Around} {outer:List Env} {s:Shared} {H:Hp} :
    Leaves (cxOf (CXE P w) P w K mg base N qual scope f cd A outer s H E) E:=by
  intro pins σ H1 s1 a C dx fl I fS hfl hE
  show wpAny _ _ (leaving _ _) _ _ _
  unfold leaving
  refine wpAny_bind (station I rfl ⟨rfl,rfl⟩ rfl fS hfl fun s2 I2 f2=>land I2 f2 fun s3 I3 f3=>?_)
  obtain ⟨own,vs,sl,ea,T,oT,ts,v1,ow,nT,eT,dT,f3⟩:=f3
  exact ⟨a,C,dx,H1,rfl,I3.os,I3.bare,I3.base,I3.hok,⟨own.new,own.free⟩,⟨vs,sl,T,oT,ts,ea,v1,⟨ow.new,ow.free⟩,nT,eT,dT,f3⟩,hE⟩
theorem passOwn_of {P:Program} {w:World} {K:PySem.W.Frag} {mg:Str->Option Value} {base:Heap} {N:List Str} {qual:Str} {scope:Scope} {f:Addr} {cd:Value} {A:Around} {outer:List Env} {s:Shared} {H:Hp} {CX:CXT} :
    PassesOwn (model P w) (cxOf CX P w K mg base N qual scope f cd A outer s H E).A (cxOf CX P w K mg base N qual scope f cd A outer s H E).env (cxOf CX P w K mg base N qual scope f cd A outer s H E).xe:=PassesOwn.leaving
end
end L2
namespace L2
open PySem PySem.Spec PyProof.Rows
section
variable {M:Model} {A:Around} {E:Value->Shared->Prop} {s:Shared} {env:Env}
variable {nm q:Str} {C N:Addr} {bs bm:List Value} {hdct:Bool} {sn:List Str} {sub:List Value} {ab:Bool} {col:Option Bool} {dd:Option Addr} {k0 k1 k2 k3 k5:Option Value} {newId:String}
theorem matches_sub {h:Heap} {g:Array GenState} {d:Drawn} {t:Nat} {os:OsState} {e D N':Addr} {oe:Obj} {nm' q':Str} {bs' bm':List Value} {hd':Bool} {sn':List Str} {sub':List Value} {ab':Bool} {col':Option Bool} {dd':Option Addr} {j0 j1 j2 j3 j5:Option Value} {nid':String} {Q:Bool->Shared->Prop}
    (hC:h.get? C=some (excClassObj nm q C N bs bm hdct sn sub ab col dd k0 k1 k2 k3 k5 newId)) (hD:h.get? D=some (excClassObj nm' q' D N' bs' bm' hd' sn' sub' ab' col' dd' j0 j1 j2 j3 j5 nid')) (ee:h.get? e=some oe) (ec:oe.cls=.ref C) (hb:(Value.ref D::bm').contains (.type "BaseException")=true)
    (hi:(Value.ref C::bm).contains (.ref D)=true) (hq:Q true ⟨h,g,d,t,os⟩):wpAny M A (excMatches (.ref e) (.ref D)) Q E ⟨h,g,d,t,os⟩:=by
  have f:=tc_notTuple
  unfold excMatches
  repeat (first | (with_reducible refine wpAny_loadPart_at ee ?_;rw [ec]) | with_reducible refine wpAny_loadPart_at hD ?_ | with_reducible refine wpAny_loadPart_at hC ?_ | (with_reducible refine wpAny_isSubtype_exc hD ?_;rw [hb]) | (with_reducible refine wpAny_isSubtype_exc hC ?_;rw [hi]) | wp_step)
  exact hq
end
section
variable {X:Cx} {pins:List (Addr × Obj)} {σ:St} {H H':Hp} {s:Shared} {a C D N:Addr} {dx:Option Addr}
def dropH (H:Hp) (a:Addr):Hp:=fun b=>if b=a then none else H b
theorem dropH_same {H:Hp} {a:Addr}:dropH H a a=none:=if_pos rfl
theorem dropH_ne {H:Hp} {a b:Addr} (h:b≠a):dropH H a b=H b:=if_neg h
theorem Inv.dropX (I:Inv X pins σ H s) {φ:Heap->Prop} (e:H a=some (.ext φ)):Inv X pins σ (dropH H a) s:=by
  have nn:∀ b,H b=none->dropH H a b=none:=fun b n=>by unfold dropH;split <;> first | rfl | exact n
  have ne:∀ b u,H b=some u->(∀ φ,u≠.ext φ)->b≠a:=fun b u q n z=>by subst z;rw [e] at q;cases q;exact n _ rfl
  refine ⟨I.ok,I.os,I.bare,⟨I.base.keep,I.base.slot,fun b o q n hx=>nn b (I.base.free b o q n hx),I.base.there,fun b xs q=>?_,fun b o u q=>?_,fun b ps q=>?_⟩,I.loc,I.cell,nn _ I.free,fun x c q=>nn c (I.freeC x c q),fun p hp=>?_,fun b u q=>?_,I.len⟩
  · have:=I.base.tups b xs q
    rw [dropH_ne (ne b _ this fun _ z=>by cases z)];exact this
  · have:=I.base.frzs b o u q
    rw [dropH_ne (ne b _ this fun _ z=>by cases z)];exact this
  · obtain ⟨more,e1⟩:=I.base.tbls b ps q
    exact ⟨more,by rw [dropH_ne (ne b _ e1 fun _ z=>by cases z)];exact e1⟩
  · obtain ⟨e1,n,r⟩:=I.pin p hp
    exact ⟨e1,nn _ n,r⟩
  · have hb:b≠a:=fun z=>by rw [z,dropH_same] at q;cases q
    rw [dropH_ne hb] at q
    exact (I.hok b u q).stay (fun _ _ _ z=>z) (fun c z=>by rw [dropH_ne (ne c _ z fun _ r=>by cases r)];exact z) fun c xs z=>by rw [dropH_ne (ne c _ z fun _ r=>by cases r)];exact z
def tRaise (K:PySem.W.Frag) (H₀:Hp) (E:XK) (te:TE):TS:=fun D σ H=>te σ H fun v H1=>∃ a C D' N dx,v=.ref a/\H1 a=some (ExO a C dx)/\XC K C D' N/\H₀ a=none/\E (.ref C) dx (dropH H1 a)
theorem ps_raise {e:Expr} {te:TE} {pos:Pos} {E:XK} (hc:X.calm=true) (hx:X.ex=[]) (l:Leaves X E) (he:PE X e te):PS X (.Raise (some e) none pos) (tRaise X.K X.H₀ E te):=by
  intro pins s σ H En I h
  rw [arm_exec_Raise]
  refine wpAny_bind (wpAny_standAt ?_)
  show wpAny _ _ (raiseStmt X.env (some (do let v ← eval e X.env;standAt pos;pure v)) none) _ _ s
  unfold raiseStmt
  refine wpAny_bind (wpAny_bind (thn (he pins s σ H _ I h) fun v s1 ⟨x,H1,I1,rx,a,C,D',N,dx,ex,ea,c,n0,q⟩=>wpAny_bind (wpAny_standAt (wpAny_pure ?_))))
  subst ex
  obtain rfl:v=Value.ref a:=rx
  obtain ⟨nm,qn,bs,sn,sub,ab,col,dd,k0,k1,k2,k3,k5,lk⟩:=c.sh
  have hC:=I1.kIn _ _ lk
  obtain ⟨⟨t0,eo⟩,_,_⟩:=(show ObjOk X.prog X.w H1 s1.heap a (ExO a C dx) from I1.hok a _ ea)
  have hh:=I1.ok.hd hc
  have I2:=I1.dropX ea
  have nloc:∀ b,H1 b=none->b≠a:=fun b n z=>by subst z;rw [ea] at n;cases n
  have own:Own X pins (dropH H1 a) a:=by
    refine ⟨?_,dropH_same,Ne.symm (nloc _ I1.free),fun x c e=>nloc c (I1.freeC x c e),fun p hp=>nloc _ (I1.pin p hp).2.1,fun hb=>nloc a (I1.stkFree a hb) rfl⟩
    cases e1:X.s₀.heap.get? a with
    | none=>rfl
    | some o =>
      have:=I1.base.free a o e1 n0 (by rw [hx];simp)
      rw [ea] at this;cases this
  have hE:X.xe (.ref a) s1:=l pins σ (dropH H1 a) s1 a C dx none I2 ⟨own,_,_,eo,rfl⟩ (.inl rfl) q
  have inB:(Value.ref C::.ref D'::bmVE).contains (.type "BaseException")=true:=by simp
  obtain ⟨hp,g,d,tk,os⟩:=s1
  repeat (first | with_reducible refine wpAny_loadPart_at eo ?_ | with_reducible refine wpAny_loadPart_at hC ?_ | (with_reducible refine wpAny_isSubtype_exc hC ?_;rw [inB]) | wp_step)
  exact wpAny_raiseNew_none hh hE
end
end L2
namespace L2
open PySem PySem.Spec PyProof.Rows
def excW (a C:Addr) (dx:Option Addr) (h:Heap):Prop:=∃ vs sl,h.get? a=some ⟨.ref C,dx,.fields vs,sl⟩
def ExW (a C:Addr) (dx:Option Addr):HO:=.ext (excW a C dx)
theorem exW_ok {P:Program} {w:World} {H:Hp} {h:Heap} {a C:Addr} {dx:Option Addr} {vs:Array Value} {sl:Array (Option Value)} (e:h.get? a=some ⟨.ref C,dx,.fields vs,sl⟩):ObjOk P w H h a (ExW a C dx) :=
  ⟨⟨vs,sl,e⟩,⟨_,e⟩,fun h1 h2 ⟨v,l,e1⟩ k=>⟨v,l,k _ e1⟩⟩
section
variable {X:Cx} {pins:List (Addr × Obj)} {σ:St} {H H':Hp} {s:Shared} {a C D N:Addr} {dx:Option Addr} {A':Around}
theorem Inv.track (I:Inv X pins σ H s) (o:Own X pins H a) {vs:Array Value} {sl:Array (Option Value)} (e:s.heap.get? a=some ⟨.ref C,dx,.fields vs,sl⟩):Inv X pins σ (upd H a (ExW a C dx)) s:=by
  have nn:∀ b,b≠a->H b=none->upd H a (ExW a C dx) b=none:=fun b h n=>by rw [je h];exact n
  have tr:∀ b u,H b=some u->upd H a (ExW a C dx) b=some u:=fun b u q=>by rw [je (jh q o.free)];exact q
  refine ⟨I.ok,I.os,I.bare,⟨I.base.keep,I.base.slot,fun b ob q n hx=>nn b (fun z=>by subst z;rw [o.new] at q;cases q) (I.base.free b ob q n hx),I.base.there,fun b xs q=>tr _ _ (I.base.tups b xs q),fun b ob u q=>tr _ _ (I.base.frzs b ob u q),fun b ps q=>?_⟩,I.loc,I.cell,nn _ (Ne.symm o.loc) I.free,fun x c q=>nn c (o.cell x c q) (I.freeC x c q),fun p hp=>?_,fun b u q=>?_,I.len⟩
  · obtain ⟨more,e1⟩:=I.base.tbls b ps q
    exact ⟨more,tr _ _ e1⟩
  · obtain ⟨e1,n,r⟩:=I.pin p hp
    exact ⟨e1,nn _ (o.pin p hp) n,r⟩
  · by_cases hb:b=a
    · subst hb
      rw [jc] at q
      cases q
      exact exW_ok e
    · rw [je hb] at q
      exact (I.hok b u q).stay (fun _ _ _ z=>z) (fun c z=>tr _ _ z) fun c xs z=>tr _ _ z
abbrev Cx.late (X:Cx) (A':Around):Cx:={ X with A:=A',calm:=false }
theorem Cx.Ok.late (ok:X.Ok) (hA:A'.frames=X.A.frames):(X.late A').Ok :=
  ⟨ok.mod,ok.kind,ok.glob,ok.blt,ok.above,ok.inj,ok.has,ok.cab,fun z=>(nomatch z),hA.trans ok.frames,ok.stk,ok.exf,ok.bs,ok.bsz,ok.noex,ok.exfs,ok.funs,ok.frf⟩
theorem Inv.late (I:Inv X pins σ H s) (hA:A'.frames=X.A.frames):Inv (X.late A') pins σ H s:=⟨I.ok.late hA,I.os,I.bare,I.base,I.loc,I.cell,I.free,I.freeC,I.pin,I.hok,I.len⟩
theorem Inv.unlate (ok:X.Ok) (I:Inv (X.late A') pins σ H s):Inv X pins σ H s:=⟨ok,I.os,I.bare,I.base,I.loc,I.cell,I.free,I.freeC,I.pin,I.hok,I.len⟩
def XT (K:PySem.W.Frag) (T:Addr):Prop:=∃ nm q N bs bm hd sn sub ab col dd k0 k1 k2 k3 k5 nid,K.lookup T=some (excClassObj nm q T N bs bm hd sn sub ab col dd k0 k1 k2 k3 k5 nid)/\bm.contains (.type "BaseException")=true
def hdl (K:PySem.W.Frag) (T:Addr) (j:Nat) (ts:TS) (En:Ends) (σ:St):XK:=fun c dx H=>∃ C D N,c=.ref C/\XC K C D N/\(T=D∨T=C) /\
  ∀ a,H a=none->ts { nx:=fun σ' H'=>En.nx (σ'.set j none) H',rt:=En.rt } (σ.set j (some (.ref a))) (upd H a (ExW a C dx))
theorem Inv.goes {E:Value->Shared->Prop} {M:Model} {A:Around} {j:Nat} {n:Str} {pos:Pos} {Q:Unit->Shared->Prop} (I:Inv X pins σ H s) (hN:X.N.Nodup) (hj:X.N[j]?=some n) (hl:X.env.scope.names.lookup n=some .local)
    (q:∀ s',Inv X pins (σ.set j none) H s'->Q () s'):wpAny M A (do bindName X.env n .none;unbindBehindTheSuite X.env n pos) Q E s:=by
  obtain ⟨m,hn,hlk⟩:=I.loc
  refine wpAny_nameGoes_keeps hl hn (by rw [I.ok.kind];rfl) fun h' v hn' hs=>q _ ?_
  have oth:∀ b,b≠X.env.locals->h'.get? b=s.heap.get? b:=fun b hb=>hs.2 b hb
  have old:∀ b o,X.s₀.heap.get? b=some o->b≠X.env.locals:=fun b o e=>Nat.ne_of_lt (Nat.lt_of_lt_of_le (Heap.lt_size e) I.ok.above)
  refine ⟨I.ok,I.os,I.bare,⟨fun b o e n' hb hx=>(oth b (old b o e)).trans (I.base.keep b o e n' hb hx),fun b o e n' hb hx=>?_,I.base.free,fun b o e hx=>?_,I.base.tups,I.base.frzs,I.base.tbls⟩,⟨_,hn',fun i x u e1 e2 e3=>?_⟩,fun x c e=>?_,I.free,I.freeC,fun p hp=>?_,fun b u e=>?_,by simpa using I.len⟩
  · obtain ⟨sl,z⟩:=I.base.slot b o e n' hb hx
    exact ⟨sl,(oth b (old b o e)).trans z⟩
  · obtain ⟨o',z⟩:=I.base.there b o e hx
    exact ⟨o',(oth b (old b o e)).trans z⟩
  · have hij:i≠j:=fun z=>by
      subst z
      rw [List.getElem?_set] at e2
      simp at e2
    rw [List.getElem?_set_ne (Ne.symm hij)] at e2
    obtain ⟨u',r,l⟩:=hlk i x u e1 e2 e3
    refine ⟨u',r,?_⟩
    rcases l with ⟨k,z⟩ | ⟨k,c,e,z⟩
    · refine .inl ⟨k,?_⟩
      have:x≠n:=fun z=>hij (nodup_ix hN e1 (z ▸ hj))
      simp [this,z]
    · exact .inr ⟨k,c,e,z.sameBut hs (I.cne x c e)⟩
  · obtain ⟨w',z⟩:=I.cell x c e
    exact ⟨w',z.sameBut hs (I.cne x c e)⟩
  · obtain ⟨e,n',ne,nf,d⟩:=I.pin p hp
    exact ⟨(oth p.1 ne).trans e,n',ne,nf,d⟩
  · refine (I.hok b u e).stay (fun c v hc z=>(oth c ?_).trans z) (fun _ z=>z) fun _ _ z=>z
    rintro rfl
    rcases hc with rfl | hc
    · rw [I.free] at e;cases e
    · rw [I.free] at hc;cases hc
theorem try_core {T:Addr} {j:Nat} {n tn:Str} {p5 p6 p7:Pos} {body suite:List Stmt} {b₀:Stmt} {ts:TS} {En:Ends} {σ₀:St} (hs:X.stack=X.env::X.outer/\X.env.frame=some X.env.locals) (hx:X.ex=[]) (hxe:∀ e s,¬ X.xe e s) (hN:X.N.Nodup) (hj:X.N[j]?=some n) (hl:X.env.scope.names.lookup n=some .local)
    (xt:XT X.K T) (hg:Gl X tn) (hm:X.mg tn=some (.ref T)) (hd:(tn == ("__debug__":Str))=false) (hst:∀ A',A'.frames=X.A.frames->A'.depth=X.A.depth->A'.units=X.A.units->A'.guards=X.A.guards->PSs (X.late A') (b₀::suite) ts) (I:Inv X pins σ₀ H s)
    (hb:wpAny (model X.prog X.w) X.A (execs body X.env) (SP X pins En) (fun e s'=>∃ a C dx H' σ,e=.ref a/\Inv X pins σ H' s'/\FlS X pins H' s'.heap a C dx (some .none)/\hdl X.K T j ts En σ (.ref C) dx H') s) :
    wpAny (model X.prog X.w) X.A (exec (.Try body [.ExceptHandler (some (.Name tn p5)) (some n) (b₀::suite) p6] [] [] p7) X.env) (SP X pins En) X.xe s:=by
  refine wpAny_Try_except (wpAny_mono hb (fun f s1 q=>?_) fun e s1 ⟨a,C,dx,H1,σ,ee,I1,f1,C',D,N,ec,c,ht,q⟩=>?_)
  · cases f with
    | next=>exact wpAny_execs_nil q
    | ret v=>exact q
    | brk=>exact q
    | cont=>exact q
  subst ee
  cases ec
  refine station I1 rfl hs hx f1 (.inr rfl) fun s2 I2 f2=>land I2 f2 fun s3 I3 f3=>?_
  have fr:∀ h:Option Value,(X.A.mark h).frames=X.A.frames:=fun h=>rfl
  have I3':=I3.late (A':=X.A.mark (some (.ref a))) (fr _)
  refine wpAny_handleBy_cons (codeAny_handlers_test (ld_glob (X:=X.late (X.A.mark (some (.ref a)))) I3' hg hm ?_ hd)) (by intro z;cases z)
  obtain ⟨nm,qn,bs,sn,sub,ab,col,dd,k0,k1,k2,k3,k5,lk⟩:=c.sh
  obtain ⟨nm',q',N',bs',bm',hd',sn',sub',ab',col',dd',j0,j1,j2,j3,j5,nid',lkT,hbT⟩:=xt
  obtain ⟨own,vs,sl,ea,r3⟩:=f3
  have hC:=I3.kIn _ _ lk
  have hT:=I3.kIn _ _ lkT
  have hin:(Value.ref C::.ref D::bmVE).contains (.ref T)=true:=by rcases ht with rfl | rfl <;> simp
  obtain ⟨hh,g,d,tk,os⟩:=s3
  refine matches_sub hC hT ea rfl (by rw [List.contains_cons,hbT,Bool.or_true]) hin (codeAny_handlers_suite_as ?_)
  refine land I3 ⟨own,vs,sl,ea,r3⟩ fun s4 I4 f4=>?_
  obtain ⟨own4,vs4,sl4,ea4,r4⟩:=f4
  have I5:=(I4.track own4 ea4).late (A':=X.A.mark (some (.ref a))) (fr _)
  refine store_ok (X:=X.late (X.A.mark (some (.ref a)))) I5 hN hj (.inl hl) (v:=.ref a) rfl (fun s5 I6=>?_) (.inr hl)
  refine wpAny_mono (hst _ (fr _) rfl rfl rfl pins s5 _ _ _ I6 (q a own4.free)) (fun f s6 z=>?_) fun e s6 z=>absurd z (hxe e s6)
  show wpAny _ _ (do bindName X.env n .none;unbindBehindTheSuite X.env n p6) _ _ _
  cases f with
  | next =>
    obtain ⟨σ',H',I7,q7⟩:=z
    exact (I7.unlate I.ok).goes hN hj hl fun s7 I8=>⟨_,_,I8,q7⟩
  | ret v =>
    obtain ⟨v',σ',H',I7,rv,q7⟩:=z
    exact (I7.unlate I.ok).goes hN hj hl fun s7 I8=>⟨v',_,_,I8,rv,q7⟩
  | brk =>
    obtain ⟨σ',H',I7,q7⟩:=z
    exact q7.elim
  | cont =>
    obtain ⟨σ',H',I7,q7⟩:=z
    exact q7.elim
theorem call_at {k:Nat} {f:Addr} {fd:FuncData} {ps:List Str} {sp:Sp} {dvs:List V} {ds:List Value} {EK:XK} {x:Str} {p pos:Pos} {e:Expr} {es:List Expr} {t:TA} {Q:VK} {E':Value->Shared->Prop} (F:FnOk X.prog X.w X.K X.mg X.base (CXE X.prog X.w) k f fd ps sp) (hr:Room k X.A) (hg:Gl X x) (hm:X.mg x=some (.ref f)) (hk:PySem.W.keepIn X.K (.ref f)=true) (hb:Binds X.K fd ps ds) (hd:Vals dvs ds)
    (ha:PA X (e::es) t) (hx:X.ex=[]) (hxe:∀ e s,¬ X.xe e s) (I:Inv X pins σ H s) (h:t σ H fun vs H1=>sp (vs++dvs) H1 Q EK)
    (hE:∀ a C dx H' s',Inv X pins σ H' s'->FlS X pins H' s'.heap a C dx (some .none)->EK (.ref C) dx H'->E' (.ref a) s')
    (hdb:(x == ("__debug__":Str))=false:=by decide) (he:starEach (e::es) X.env=(false,eval e X.env)::starEach es X.env:=by rfl) (hpl:(backTo pos (starEach es X.env)).any (·.1)=false:=by rfl) :
    wpAny (model X.prog X.w) X.A (eval (.Call (.Name x p) (e::es) [] pos) X.env) (EP X pins σ Q) E' s:=by
  refine wpAny_Call_Name_kw (ld_glob I hg hm ?_ hdb)
  refine PySem.W.callWith_K (h₀:=X.base) I.ok.mod.kin hk (wpAny_mono (ha pos pins s σ H _ I h) (fun us s1 ⟨vs,H1,I1,r,q⟩=>⟨I1.kIn,?_⟩) fun e s z=>absurd z (hxe e s)) he hpl
  have r2:Vals (vs++dvs) (us++ds):=r.append hd
  have hl:(us++ds).length=ps.length:=by rw [← r2.length];exact F.len _ _ _ _ q
  refine wpAny_call (codeAny_mono (F.run X.A X.stack s1 H1 ⟨us,[]⟩ (us++ds) (vs++dvs) Q EK hr I1.env0 (hb s1 us I1.kIn hl) r2 q) fun r s' hq=>?_)
  cases r with
  | error e =>
    obtain ⟨a,C,dx,H',rfl,I',f',hE'⟩:=cx_at (H1:=H1) I1 rfl rfl hx hq
    exact hE a C dx H' s' I' f' hE'
  | ok fl =>
    cases fl with
    | ret u=>exact I1.after hq
    | next=>exact False.elim hq
    | brk=>exact False.elim hq
    | cont=>exact False.elim hq
def tTryA (K:PySem.W.Frag) (T:Addr) (i j:Nat) (sp:Sp) (dvs:List V) (t:TA) (ts:TS):TS:=fun En σ H=>t σ H fun vs H1=>sp (vs++dvs) H1 (fun v H2=>En.nx (σ.set i (some v)) H2) (hdl K T j ts En σ)
theorem ps_tryA {T:Addr} {i j:Nat} {y n tn:Str} {p1 p4 p5 p6 p7:Pos} {suite:List Stmt} {b₀:Stmt} {ts:TS} {k:Nat} {f:Addr} {fd:FuncData} {ps:List Str} {sp:Sp} {dvs:List V} {ds:List Value} {x:Str} {p pos:Pos} {e:Expr} {es:List Expr} {t:TA}
    (F:FnOk X.prog X.w X.K X.mg X.base (CXE X.prog X.w) k f fd ps sp) (hr:Room k X.A) (hg:Gl X x) (hm:X.mg x=some (.ref f)) (hk:PySem.W.keepIn X.K (.ref f)=true) (hb:Binds X.K fd ps ds) (hd:Vals dvs ds) (ha:PA X (e::es) t)
    (xt:XT X.K T) (hgT:Gl X tn) (hmT:X.mg tn=some (.ref T)) (hst:∀ A',A'.frames=X.A.frames->A'.depth=X.A.depth->A'.units=X.A.units->A'.guards=X.A.guards->PSs (X.late A') (b₀::suite) ts)
    (hs:X.stack=X.env::X.outer/\X.env.frame=some X.env.locals) (hx:X.ex=[]) (hxe:∀ e s,¬ X.xe e s) (hN:X.N.Nodup) (hi:X.N[i]?=some y) (hy:X.env.scope.names.lookup y=some .local) (hj:X.N[j]?=some n) (hl:X.env.scope.names.lookup n=some .local)
    (hdT:(tn == ("__debug__":Str))=false:=by decide) (hdb:(x == ("__debug__":Str))=false:=by decide) (he:starEach (e::es) X.env=(false,eval e X.env)::starEach es X.env:=by rfl) (hpl:(backTo pos (starEach es X.env)).any (·.1)=false:=by rfl)
    (hsw:swapsWith (.Call (.Name x p) (e::es) [] pos) (some (.Name y p1)) p4.line X.env=pure false:=by rfl) :
    PS X (.Try [.Assign [.Name y p1] (.Call (.Name x p) (e::es) [] pos) p4] [.ExceptHandler (some (.Name tn p5)) (some n) (b₀::suite) p6] [] [] p7) (tTryA X.K T i j sp dvs t ts):=by
  intro pins s σ H En I h
  refine try_core hs hx hxe hN hj hl xt hgT hmT hdT hst I ?_
  refine wpAny_execs_cons (wpAny_Assign_Name (wpAny_mono (call_at (σ:=σ) F hr hg hm hk hb hd ha hx hxe I h (fun a C dx H' s' I' f' q=>⟨a,C,dx,H',σ,rfl,I',f',q⟩) hdb he hpl) (fun v s1 ⟨z,H1,I1,r1,q1⟩=>?_) fun _ _ z=>z) hsw)
  exact store_ok I1 hN hi (.inl hy) r1 (fun s2 I2=>wpAny_execs_nil ⟨_,H1,I2,q1⟩) (.inr hy)
end
end L2
namespace L2
open PySem PySem.Spec PyProof.Rows
section
variable {X:Cx}
end
section
variable {P:Program} {w:World} {K:PySem.W.Frag} {mg:Str->Option Value} {base:Heap}
theorem Fun.okE {x qual:Str} {st:Stmt} {f:Addr} {fd:FuncData} {N ps:List Str} {k:Nat} {sp:Sp} (F:Fun K x qual st f fd) (S:FnScope N ps (jj st)) (len:∀ vs H Q E,sp vs H Q E->vs.length=ps.length)
    (hbody:∀ (cdv:Value) (A:Around) (outer:List Env) (s:Shared) (H:Hp) (vs:List V) (Q:VK) (E:XK),Room k (A.deeper (envOfC qual (jj st) s.heap.objs.size f cdv))->sp vs H Q E ->
      ∃ t,PSs (cxOf (CXE P w) P w K mg base N qual (jj st) f cdv A outer s H E) (jx st) t/\t { nx:=fun _ H'=>Q .non H',rt:=Q } (start N vs) H):FnOk P w K mg base (CXE P w) (k+1) f fd ps sp:=by
  obtain ⟨oc,od,kV,doc,pm,an,cdv,ct,osl,rfl,lk,hcd⟩:=F.ex
  exact fn_of lk hcd S len fun A outer s H vs Q E hr hsp=>hbody cdv A outer s H vs Q E hr hsp
end
section
variable {X:Cx}
def ExAtW (H:Hp) (a C:Addr):Prop:=∃ dx,H a=some (ExW a C dx)/\∀ d,dx=some d->∃ fs,H d=some (.xd fs)
theorem ExAtW.inst {pins:List (Addr × Obj)} {σ:St} {H:Hp} {s:Shared} {a C:Addr} (I:Inv X pins σ H s) (e:ExAtW H a C):∃ o od,PySem.W.InstAt s.heap a o C od:=by
  obtain ⟨dx,ea,ed⟩:=e
  obtain ⟨⟨vs,sl,eo⟩,_,_⟩:=(show ObjOk X.prog X.w H s.heap a (ExW a C dx) from I.hok a _ ea)
  cases dx with
  | none=>exact ⟨_,none,eo,rfl,rfl,True.intro⟩
  | some d =>
    obtain ⟨fs,e⟩:=ed d rfl
    obtain ⟨mA,⟨od,es,ep,h1,_⟩,_⟩:=(show ObjOk X.prog X.w H s.heap d (.xd fs) from I.hok d _ e)
    exact ⟨_,some od,eo,rfl,rfl,h1⟩
def tupRefs (H:Hp) (c:Addr) (cs:List Addr):Prop:=H c=some (.tup (cs.map V.ref))
def rIsW (K:PySem.W.Frag):List V->Hp->VK->Prop:=fun xs H Q=>match xs with
  | [.ref a,.ty n]=>∃ C D N b,ExAtW H a C/\XC K C D N/\XI K C/\PySem.W.kitOne K (.ref C) (.type n)=some b/\Q (.bl b) H
  | [.ref a,.ref c]=>∃ C D N b,ExAtW H a C/\XC K C D N/\XI K C/\(PySem.W.kitOne K (.ref C) (.ref c)=some b∨∃ cs,tupRefs H c cs/\PySem.W.kitAny K (.ref C) (cs.map Value.ref)=some b)/\Q (.bl b) H
  | _=>False
theorem rIsW_ty (K:PySem.W.Frag) (a:Addr) (n:String) (H:Hp) (Q:VK):rIsW K [.ref a,.ty n] H Q=(∃ C D N b,ExAtW H a C/\XC K C D N/\XI K C/\PySem.W.kitOne K (.ref C) (.type n)=some b/\Q (.bl b) H):=rfl
theorem rIsW_ref (K:PySem.W.Frag) (a c:Addr) (H:Hp) (Q:VK):rIsW K [.ref a,.ref c] H Q=(∃ C D N b,ExAtW H a C/\XC K C D N/\XI K C/\(PySem.W.kitOne K (.ref C) (.ref c)=some b∨∃ cs,tupRefs H c cs/\PySem.W.kitAny K (.ref C) (cs.map Value.ref)=some b)/\Q (.bl b) H):=rfl
theorem vals_refs:∀ {cs:List Addr} {us:List Value},Vals (cs.map V.ref) us->us=cs.map Value.ref
  | [],_,.nil=>rfl
  | c::cs,_,.cons r t=>by
    cases r
    rw [vals_refs t]
    rfl
theorem jbi {K:PySem.W.Frag} (hK:X.K=K):CallR X (.builtin "isinstance") (rIsW K):=by
  subst hK
  intro pins s σ H xs us Q I r h
  unfold rIsW at h
  split at h
  · rename_i a n
    obtain ⟨C,D,N,b,ea,c,xi,e,q⟩:=h
    obtain ⟨u,w',rfl,rx,rc⟩:=vals2 r
    cases rx
    cases rc
    exact PySem.W.kia_one (kitx_exc c xi) I.kIn (ea.inst I) e (fun z=>nomatch z) fun tk=>⟨.bl b,H,I.tok tk,rfl,q⟩
  · rename_i a n
    obtain ⟨C,D,N,b,ea,c,xi,e,q⟩:=h
    obtain ⟨u,w',rfl,rx,rc⟩:=vals2 r
    cases rx
    cases rc
    rcases e with e | ⟨cs,et,e⟩
    · exact PySem.W.kia_one (kitx_exc c xi) I.kIn (ea.inst I) e (fun z=>nomatch z) fun tk=>⟨.bl b,H,I.tok tk,rfl,q⟩
    · obtain ⟨its,r1,p1,_⟩:=I.tuple (SqT.of et)
      obtain ⟨⟨cl,dd,data,sl⟩,ho,hc,n',hd⟩:=id p1
      simp only at hc hd
      subst hc hd
      rw [vals_refs r1] at ho
      exact PySem.W.kia_tup (kitx_exc c xi) I.kIn (ea.inst I) ho e (fun z=>nomatch z) fun tk=>⟨.bl b,H,I.tok tk,rfl,q⟩
  · exact h.elim
def tExcFldW (K:PySem.W.Frag) (ta:TE) (f:Str):TE:=fun σ H Q=>ta σ H fun x H1=>∃ a C D N dx fs v,x=.ref a/\H1 a=some (ExW a C (some dx))/\H1 dx=some (.xd fs)/\XC K C D N/\PySem.W.findIn K (.ref C) f=some none/\fs.lookup f=some v/\Q v H1
theorem pe_excFldW {e:Expr} {f:Str} {pos:Pos} {ta:TE} (he:PE X e ta) (hb:attributeBase e f X.env (eval e X.env)=eval e X.env):PE X (.Attribute e f pos) (tExcFldW X.K ta f):=by
  intro pins s σ H Q I h
  refine attr_of hb (thn (he pins s σ H _ I h) fun u s1 ⟨x,H1,I1,rx,a,C,D,N,dx,fs,v,ex,ea,ed,c,nf,l,q⟩=>?_)
  subst ex
  obtain rfl:u=Value.ref a:=rx
  obtain ⟨nm,qn,bs,sn,sub,ab,col,dd,k0,k1,k2,k3,k5,lk⟩:=c.sh
  have hC:=I1.kIn _ _ lk
  obtain ⟨⟨vs,sl,eo⟩,_,_⟩:=(show ObjOk X.prog X.w H1 s1.heap a (ExW a C (some dx)) from I1.hok a _ ea)
  obtain ⟨mA,hns,hr⟩:=(show ObjOk X.prog X.w H1 s1.heap dx (.xd fs) from I1.hok dx _ ed)
  obtain ⟨u',hu,ru⟩:=RelO.some_of (v:=v) (o:=mA f) (by rw [← l];exact hr f)
  have F1:=Finds.of (M:=model X.prog X.w) I1.kIn c.ga
  have F2:=Finds.of (M:=model X.prog X.w) I1.kIn c.gx
  have F3:=Finds.of (M:=model X.prog X.w) I1.kIn nf
  have ho:=PySem.W.handedOut_of (handed_of ru)
  obtain ⟨hh,g,d,tk,os⟩:=s1
  exact exc_getAttr (by decide) hC F1 F2 F3 eo rfl (fun c e=>by cases e) rfl hns hu ho fun tk'=>⟨v,H1,I1.tok _,ru,q⟩
end
end L2
namespace L2
open PySem PySem.Spec PyProof.Rows
section
variable {X:Cx}
def rUp:V->List V->Hp->VK->Prop:=fun x vs H Q=>match x,vs with
  | .str z,[]=>Builtin.Str.tooLong (Txt.upper z).length=false/\Q (.str (Txt.upper z)) H
  | _,_=>False
theorem rUp_str (z:Str) (H:Hp) (Q:VK):rUp (.str z) [] H Q=(Builtin.Str.tooLong (Txt.upper z).length=false/\Q (.str (Txt.upper z)) H):=rfl
theorem mt_up:MtM X "str.upper" rUp:=by
  intro pins s σ H x vs v us Q I rx rv h
  unfold rUp at h
  split at h
  · rename_i z
    obtain ⟨hf,q⟩:=h
    obtain ⟨t,rfl⟩:=rx
    cases rv
    exact call_gives PySem.F.slot_str_upper (typeIs_str s z t) PySem.F.entry_str_upper (PySem.F.args_str_upper_1 _) (gives_str_upper z t hf) ⟨fit_le hf,⟨.str _,H,I.tok _,⟨_,rfl⟩,q⟩⟩
  · exact h.elim
theorem tyV_str (K:PySem.W.Frag) (z:Str) (H:Hp):tyV K "str" (.str z) H=True:=by simp [tyV]
theorem qpe_up {o:Expr} {to:TE} {apos cpos:Pos} (ho:QE X o to) (hbase:attributeBase o "upper" X.env (eval o X.env)=eval o X.env:=by rfl) (hline:(apos.endLine == cpos.line)=true:=by rfl) :
    QE X (.Call (.Attribute o "upper" apos) [] [] cpos) (tBM0 X.K "str" rUp to):=⟨pe_bm0 PySem.F.plainAttrs_str PySem.F.slot_str_upper PySem.F.type_str_upper mt_up ho.h hbase hline⟩
theorem jbd {e:Expr} {te:TE} {pos:Pos} {E:XK} {K:PySem.W.Frag} (hK:X.K=K) (hc:X.calm=true) (hx:X.ex=[]) (l:Leaves X E) (he:QE X e te):QS X (.Raise (some e) none pos) (tRaise K X.H₀ E te):=by subst hK;exact ⟨ps_raise hc hx l he.h⟩
theorem qpe_excFldW {e:Expr} {f:Str} {pos:Pos} {ta:TE} {K:PySem.W.Frag} (hK:X.K=K) (he:QE X e ta) (hb:attributeBase e f X.env (eval e X.env)=eval e X.env):QE X (.Attribute e f pos) (tExcFldW K ta f):=by subst hK;exact ⟨pe_excFldW he.h hb⟩
theorem qps_tryA {K:PySem.W.Frag} {T:Addr} {i j:Nat} {y n tn:Str} {p1 p4 p5 p6 p7:Pos} {suite:List Stmt} {b₀:Stmt} {ts:TS} {k:Nat} {f:Addr} {fd:FuncData} {ps:List Str} {sp:Sp} {x:Str} {p pos:Pos} {e:Expr} {es:List Expr} {t:TA}
    (hK:X.K=K) (F:FnOk X.prog X.w K X.mg X.base (CXE X.prog X.w) k f fd ps sp) (hr:Room k X.A) (hg:Gl X x) (hm:X.mg x=some (.ref f)) (hk:PySem.W.keepIn K (.ref f)=true) (hb:Binds K fd ps []) (ha:QA X (e::es) t)
    (xt:XT K T) (hgT:Gl X tn) (hmT:X.mg tn=some (.ref T)) (hst:∀ A',A'.frames=X.A.frames->A'.depth=X.A.depth->A'.units=X.A.units->A'.guards=X.A.guards->QSs (X.late A') (b₀::suite) ts)
    (hs:X.stack=X.env::X.outer/\X.env.frame=some X.env.locals) (hx:X.ex=[]) (hxe:∀ e s,¬ X.xe e s) (hN:X.N.Nodup) (hi:X.N[i]?=some y) (hy:X.env.scope.names.lookup y=some .local) (hj:X.N[j]?=some n) (hl:X.env.scope.names.lookup n=some .local)
    (hdT:(tn == ("__debug__":Str))=false:=by decide) (hdb:(x == ("__debug__":Str))=false:=by decide) (he:starEach (e::es) X.env=(false,eval e X.env)::starEach es X.env:=by rfl) (hpl:(backTo pos (starEach es X.env)).any (·.1)=false:=by rfl)
    (hsw:swapsWith (.Call (.Name x p) (e::es) [] pos) (some (.Name y p1)) p4.line X.env=pure false:=by rfl) :
    QS X (.Try [.Assign [.Name y p1] (.Call (.Name x p) (e::es) [] pos) p4] [.ExceptHandler (some (.Name tn p5)) (some n) (b₀::suite) p6] [] [] p7) (tTryA K T i j sp [] t ts):=by
  subst hK
  exact ⟨ps_tryA F hr hg hm hk hb .nil ha.h xt hgT hmT (fun A' h1 h2 h3 h4=>(hst A' h1 h2 h3 h4).h) hs hx hxe hN hi hy hj hl hdT hdb he hpl hsw⟩
end
end L2
namespace L2
open PySem PySem.Spec PyProof.Rows
section
variable {prog:Program} {w:World} {A:Around} {E:Value->Shared->Prop} {s:Shared}
theorem tupNext_item {h:Heap} {g:Array GenState} {d:Drawn} {t:Nat} {os:OsState} {it a:Addr} {i:Nat} {vs:Array Value} {u:Value} {Q:Value->Shared->Prop} (hi:h.IsTupleIter it a i) (ha:h.IsTuple a vs) (hu:vs[i]?=some u)
    (q:∀ h',h'.IsTupleIter it a (i+1)->Heap.SameBut it h h'->Q u ⟨h',g,d,t,os⟩):wpAny (model prog w) A (Builtin.SmallTypes.nextOf (.ref it)) Q E ⟨h,g,d,t,os⟩:=by
  obtain ⟨⟨ci,di,dti,si⟩,e1,c1,d1⟩:=id hi
  obtain ⟨⟨ca,da,dta,sa⟩,e2,c2,n2,d2⟩:=ha
  dsimp only at c1 d1 c2 d2
  subst c1 d1 c2 d2
  have sl:=PySem.F.slot_tuple_iterator_next
  have hT:(⟨h,g,d,t,os⟩:Shared).TypeIs (.ref it) "tuple_iterator":=hi.typeIs
  have fin:=q _ ⟨_,Heap.get?_update_self (Obj.mapFields (·.setIfInBounds 1 (rawInt (i+1)))) e1 rfl,rfl,by simp [Obj.mapFields,rawInt]⟩ (.update ..)
  refine wpAny_bind (wpAny_callSpecial?_slot hT sl (wpAny_call_entry sl hT PySem.F.entry_tuple_iterator_next ?_ (PySem.F.args_tuple_iterator_next_1 _)))
  unfold Builtin.«tuple_iterator.__next__»
  repeat (any_goals (first | assumption | with_reducible refine wpAny_loadPart_at e1 ?_ | with_reducible refine wpAny_loadPart_at e2 ?_ | wp_step))
  have e3:vs[((i:Nat):Int).toNat]?=some u:=hu
  rw [e3]
  exact wpAny_bind (wpAny_setField e1 rfl (by simp) (wpAny_pure ⟨u,rfl,wpAny_pure fin⟩))
theorem tupNext_end {h:Heap} {g:Array GenState} {d:Drawn} {t:Nat} {os:OsState} {it a:Addr} {i:Nat} {vs:Array Value} {Q:Value->Shared->Prop} (hh:A.handled=none) (hi:h.IsTupleIter it a i) (ha:h.IsTuple a vs) (hu:vs[i]?=none)
    (q:∀ h' e,Heap.ExtBut it h h'->(∃ o,h'.get? e=some o/\o.cls=.type "StopIteration")->E (.ref e) ⟨h',g,d,t,os⟩):wpAny (model prog w) A (Builtin.SmallTypes.nextOf (.ref it)) Q E ⟨h,g,d,t,os⟩:=by
  obtain ⟨⟨ci,di,dti,si⟩,e1,c1,d1⟩:=id hi
  obtain ⟨⟨ca,da,dta,sa⟩,e2,c2,n2,d2⟩:=ha
  dsimp only at c1 d1 c2 d2
  subst c1 d1 c2 d2
  have sl:=PySem.F.slot_tuple_iterator_next
  have hT:(⟨h,g,d,t,os⟩:Shared).TypeIs (.ref it) "tuple_iterator":=hi.typeIs
  have h1:A.in1.handled=none:=hh
  refine wpAny_bind (wpAny_callSpecial?_slot hT sl (wpAny_call_entry sl hT PySem.F.entry_tuple_iterator_next ?_ (PySem.F.args_tuple_iterator_next_1 _)))
  unfold Builtin.«tuple_iterator.__next__»
  repeat (any_goals (first | assumption | with_reducible refine wpAny_loadPart_at e1 ?_ | with_reducible refine wpAny_loadPart_at e2 ?_ | wp_step))
  have e3:vs[((i:Nat):Int).toNat]?=none:=hu
  rw [e3]
  refine wpAny_bind (wpAny_rule (wpAny_bind (wpAny_setField e1 rfl (by simp) ?_)))
  unfold Builtin.SmallTypes.stopIteration
  have fm:firstArgMember (.type "StopIteration") []=pure .none:=rfl
  unfold newExc
  repeat (any_goals (first | assumption | rw [fm] | wp_step))
  exact wpAny_raiseNew_none h1 (q _ _ (((Heap.SameBut.update ..).extBut.push _).push _) ⟨_,Heap.get?_push_size _ rfl,rfl⟩)
theorem dr_tup (hh:A.handled=none) (it a:Addr) (ne:a≠it) (vs:Array Value):Draws prog w A it [it,a] vs.size (fun i v=>vs[i]?=some v) (fun i h=>h.IsTupleIter it a i/\h.IsTuple a vs) where
  live:=fun _ _ st=>let ⟨o,ho,_⟩:=st.1;⟨o,ho⟩
  frame:=fun _ _ _ st hk=>by
    obtain ⟨⟨o,ho,r⟩,⟨o2,ho2,r2⟩⟩:=st
    exact ⟨⟨o,hk it (by simp) o ho,r⟩,⟨o2,hk a (by simp) o2 ho2,r2⟩⟩
  item:=fun i s Q E hi st hQ=>by
    obtain ⟨hp,g,d,t,os⟩:=s
    obtain ⟨o2,ho2,r2⟩:=st.2
    exact tupNext_item st.1 st.2 (u:=vs[i]) (by simp [hi]) fun h' hit' hs'=>hQ _ h' t (by simp [hi]) ⟨hit',⟨o2,(hs'.2 a ne).trans ho2,r2⟩⟩ hs'
  done:=fun s Q E st hE=>by
    obtain ⟨hp,g,d,t,os⟩:=s
    exact tupNext_end hh st.1 st.2 (by simp) hE
open AutoSeq1 (wpAny_loadPart') in
theorem enumT_new (a:Addr) (vs:Array Value) (n:Nat) (dct:Option Addr) (sl:Array (Option Value)) :
    Meets (Builtin.«enumerate.__new__» ⟨[.type "enumerate",.ref a],[]⟩) (fun _ R s=>s.heap.get? a=some ⟨.type "tuple",dct,.seq vs n,sl⟩ /\
      R (.ok (.ret (.ref (s.heap.push { cls:=.type "tuple_iterator",data:=.fields #[.ref a,.int 0 0] }).objs.size)))
        { s with heap:=(s.heap.push { cls:=.type "tuple_iterator",data:=.fields #[.ref a,.int 0 0] }).push { cls:=.type "enumerate",data:=.fields #[.none,.bool false,.ref s.heap.objs.size,rawInt 0,.none,.none] } }) :=
  .of_wp fun prog w A R s h=>by
    obtain ⟨hp,g,d,tk,os⟩:=s;obtain ⟨ha,h⟩:=h
    have hsb:=sub_enumerate
    have hT:Heap.IsTuple (Shared.heap ⟨hp,g,d,tk,os⟩) a vs:=⟨_,ha,rfl,n,rfl⟩
    wp_walk using wpAny_loadPart' ha
    refine wpAny_stack_any fun k=>wpAny_pure ?_
    split <;> (try (rename_i c _ _ _ _ _;generalize (c == Value.type "enumerate")=b;cases b)) <;> (wp_walk using wpAny_loadPart' ha,wpAny_pyIter_tuple hT) <;> exact ⟨_,rfl,h⟩
theorem call_enumT {a:Addr} {vs:Array Value} {Q:Value->Shared->Prop} (ht:s.heap.IsTuple a vs)
    (q:∀ h',IsEnum h' (s.heap.objs.size+1) s.heap.objs.size 0 .none->h'.IsTupleIter s.heap.objs.size a 0->(∀ b o,s.heap.get? b=some o->h'.get? b=some o)->Q (.ref (s.heap.objs.size+1)) { s with heap:=h' }) :
    wpAny (model prog w) A (call (.type "enumerate") [.ref a]) Q E s:=by
  obtain ⟨⟨c,dct,dt,sl⟩,ha,hc,n,hd⟩:=ht
  dsimp only at hc hd
  subst hc hd
  refine callType_new PySem.F.called_enumerate (by decide) (PySem.F.typeCall_enumerate_1 _) (PySem.F.newCall_enumerate_1 _) (fun obj=>PySem.F.args_object_init_2 obj _) PySem.F.entry_enumerate_new (enumT_new a vs n dct sl) ⟨ha,?_⟩
  have hz:(s.heap.push { cls:=.type "tuple_iterator",data:=.fields #[.ref a,.int 0 0] }).objs.size=s.heap.objs.size+1:=Heap.size_push ..
  have he:IsEnum ((s.heap.push { cls:=.type "tuple_iterator",data:=.fields #[.ref a,.int 0 0] }).push { cls:=.type "enumerate",data:=.fields #[.none,.bool false,.ref s.heap.objs.size,rawInt 0,.none,.none] }) (s.heap.objs.size+1) s.heap.objs.size 0 .none:=by
    have e:=Heap.get?_push_size (s.heap.push { cls:=.type "tuple_iterator",data:=.fields #[.ref a,.int 0 0] }) (o:={ cls:=.type "enumerate",data:=.fields #[.none,.bool false,.ref s.heap.objs.size,rawInt 0,.none,.none] }) rfl
    rw [hz] at e;exact e
  show _/\_
  rw [hz]
  exact ⟨⟨_,he,rfl⟩,q _ he ⟨_,Heap.get?_push_of_some _ (Heap.get?_push_size _ rfl),rfl,rfl⟩ fun b o x=>Heap.get?_push_of_some _ (Heap.get?_push_of_some _ x)⟩
end
def ItE (K:PySem.W.Frag) (a:Addr):It:=⟨fun i H=>∃ xs x,SqT K H a xs/\xs[i]?=some x,fun i H x H'=>∃ T y,H T=none/\x=.ref T/\(∀ xs,SqT K H a xs->xs[i]?=some y)/\H'=upd H T (.tup [.int (i:Int),y]),fun i H=>∃ xs,SqT K H a xs/\xs.length=i⟩
theorem turn_enumT {P:Program} {w:World} {K:PySem.W.Frag} {elts:List Expr} {kk:Nat} {pos:Pos} (a e it:Addr) (ne:e≠it):Turn P w K (.Tuple elts kk pos) (ItE K a) [e,it] e (fun i h=>(∃ old,IsEnum h e it i old)/\h.IsTupleIter it a i) where
  mem:=by simp
  obj:=fun i h st b hb=>by
    obtain ⟨⟨old,he⟩,⟨o,ho,hc,hd⟩⟩:=st
    rcases List.mem_cons.mp hb with rfl | hb
    · exact ⟨_,he,fun v z=>by cases z⟩
    · rw [List.mem_singleton.mp hb]
      exact ⟨o,ho,fun v z=>by rw [hd] at z;cases z⟩
  keep:=fun i h h' st k=>by
    obtain ⟨⟨old,he⟩,⟨o,ho,r⟩⟩:=st
    exact ⟨⟨old,k e (by simp) _ he⟩,⟨o,k it (by simp) o ho,r⟩⟩
  item:=by
    intro X hP hw hK hc i pins s σ H E I hf st hg
    subst hP hw hK
    obtain ⟨xs,x,hq,hx⟩:=hg
    obtain ⟨its,rv,p,hz⟩:=I.tuple hq
    obtain ⟨u,hu,ru⟩:=rv.get hx
    have fr:∀ b ∈ [e,it],b≠a:=fun b hb z=>by
      subst z
      obtain ⟨o,eo,hcl⟩:∃ o,s.heap.get? b=some o/\o.cls≠.type "tuple":=by
        obtain ⟨⟨old,he⟩,⟨o,ho,hc',hd⟩⟩:=st
        rcases List.mem_cons.mp hb with rfl | hb
        · exact ⟨_,he,by simp⟩
        · rw [List.mem_singleton.mp hb]
          exact ⟨o,ho,by rw [hc'];simp⟩
      obtain ⟨o2,ho2,hc2,_⟩:=p
      rw [eo] at ho2
      cases ho2
      exact hcl hc2
    have WA:=WalksT.enumerateD (dr_tup (prog:=X.prog) (w:=X.w) (A:=X.A.in1) (show X.A.in1.handled=none from I.ok.hd hc) it a (fr it (by simp)).symm its.toArray) e ne (by simp [ne,fr e (by simp)]) (by simp)
    have hlt:i < its.toArray.size:=by
      rw [List.size_toArray]
      exact (List.getElem?_eq_some_iff.mp hu).1
    refine WA.item i s _ _ hlt ⟨st.1,st.2,p⟩ fun T vs h' tk hp hT htup mid kk'=>⟨_,rfl,?_⟩
    have nTw:=WA.apart _ _ _ mid
    refine WA.go _ _ _ i T { s with heap:=h',toks:=tk } _ _ mid fun h'' st'' k''=>?_
    have tup':IsTup h'' T vs:=by
      obtain ⟨o,eo,r⟩:=htup
      exact ⟨o,k'' T o nTw eo,r⟩
    have hv:Vals [V.int (i:Int),x] vs.toList:=by
      obtain ⟨t',u',hu',rfl⟩:=hp
      rw [show its.toArray[i]?=some u from by simpa using hu] at hu'
      cases hu'
      exact .cons ⟨t',rfl⟩ (.cons ru .nil)
    refine ⟨.ref T,upd H T (.tup [.int (i:Int),x]),?_,rfl,⟨T,x,I.hok.fresh hT,rfl,fun ys hy=>by rw [I.tuple_inj hy hq];exact hx,rfl⟩,⟨st''.1,st''.2.1⟩,fun b hb=>?_⟩
    · refine I.turnedNew (fp:=[e,it]) (wr:=[e,it]) hf (fun b o hb eo=>k'' b o hb (kk' b o hb eo)) hT (by simpa using tup') hv (by show 2<=sizeLine;decide) fun b hb=>?_
      obtain ⟨⟨old,he⟩,⟨⟨o,ho,_⟩,_⟩⟩:=st''
      rcases List.mem_cons.mp hb with rfl | hb
      · exact ⟨_,he⟩
      · rw [List.mem_singleton.mp hb];exact ⟨o,ho⟩
    · have hlt:b < s.heap.objs.size:=by
        obtain ⟨⟨old,he⟩,⟨o,ho,_⟩⟩:=st
        rcases List.mem_cons.mp hb with rfl | hb
        · exact Heap.lt_size he
        · rw [List.mem_singleton.mp hb];exact Heap.lt_size ho
      rw [je (Nat.ne_of_lt (Nat.lt_of_lt_of_le hlt hT))]
      exact (hf b hb).1
  done:=by
    intro X hP hw hK hc i pins s σ H E I hf st hg
    subst hP hw hK
    obtain ⟨xs,hq,hi⟩:=hg
    obtain ⟨its,rv,p,hz⟩:=I.tuple hq
    have fr:∀ b ∈ [e,it],b≠a:=fun b hb z=>by
      subst z
      obtain ⟨o,eo,hcl⟩:∃ o,s.heap.get? b=some o/\o.cls≠.type "tuple":=by
        obtain ⟨⟨old,he⟩,⟨o,ho,hc',hd⟩⟩:=st
        rcases List.mem_cons.mp hb with rfl | hb
        · exact ⟨_,he,by simp⟩
        · rw [List.mem_singleton.mp hb]
          exact ⟨o,ho,by rw [hc'];simp⟩
      obtain ⟨o2,ho2,hc2,_⟩:=p
      rw [eo] at ho2
      cases ho2
      exact hcl hc2
    have WA:=WalksT.enumerateD (dr_tup (prog:=X.prog) (w:=X.w) (A:=X.A.in1) (show X.A.in1.handled=none from I.ok.hd hc) it a (fr it (by simp)).symm its.toArray) e ne (by simp [ne,fr e (by simp)]) (by simp)
    have hn:its.toArray.size=i:=by rw [List.size_toArray,← rv.length];exact hi
    refine WA.done s _ _ (by rw [hn];exact ⟨st.1,st.2,p⟩) fun h' tk kk'=>⟨rfl,?_⟩
    have nw:∀ b u,H b=some u->b ∉ [e,it]:=fun b u eo hb=>by rw [(hf b hb).1] at eo;cases eo
    refine I.step (g':=s.gens) (d':=s.drawn) (ch:=[e,it]) (fun b hb=>?_) (fun b o _ _ hc e _=>kk' b o hc e) (fun b o _ _ hc e _=>⟨o.slots,kk' b o hc e⟩) (fun b o hc e n=>n) (fun b o hc e=>⟨o,kk' b o hc e⟩)
      (fun _ _ e=>e) (fun _ _ _ e=>e) (fun b ps e=>⟨#[],by rw [e];simp⟩) (fun m hm=>?_) (fun b u e=>?_) I.bare
    · obtain ⟨_,f1,_,f3,f4,f5⟩:=hf b hb
      exact ⟨f3,f1,f4,f5⟩
    · obtain ⟨o,es,ep,ho,rr⟩:=hm
      exact ⟨o,es,ep,kk' _ o (fun z=>(hf _ z).2.1 rfl) ho,rr⟩
    · refine (I.hok b u e).stay (fun d v hd q=>kk' d v ?_ q) (fun _ q=>q) fun _ _ q=>q
      rcases hd with rfl | hd
      · exact nw _ _ e
      · exact nw _ _ hd
  self:=fun A i s Q E st q=>by
    obtain ⟨⟨old,he⟩,_⟩:=st
    exact wpAny_pyIter_enum he q
theorem loop_ET {K:PySem.W.Frag} {a:Addr} {xs:List V} {g:TG} {tb:TS} {D:Ends} {σ:L2.St} {H:Hp} (Pv:Nat->L2.St->Hp->Prop) (h0:Pv 0 σ H) (hl:∀ i σ H,i<=xs.length->Pv i σ H->H a=some (.tup xs))
    (hs:∀ i x σ H T,xs[i]?=some x->Pv i σ H->H T=none->g (.ref T) σ (upd H T (.tup [.int (i:Int),x])) fun σ2 H2=>tb { D with nx:=Pv (i+1),ct:=Pv (i+1),bk:=D.nx } σ2 H2) (hd:∀ σ H,Pv xs.length σ H->D.nx σ H):LoopR (ItE K a) g tb D σ H:=by
  refine ⟨fun i m σ H=>m=xs.length - i/\i<=xs.length/\Pv i σ H,⟨xs.length,by simp,Nat.zero_le _,h0⟩,?_⟩
  rintro i m σ H ⟨rfl,hi,p⟩
  have q:SqT K H a xs:=SqT.of (hl i σ H hi p)
  by_cases hlt:i < xs.length
  · refine .inr ⟨⟨xs,xs[i],q,by simp [hlt]⟩,Pv (i+1),fun σ' H' p'=>⟨xs.length - (i+1),by omega,rfl,hlt,p'⟩,fun x H' y=>?_⟩
    obtain ⟨T,y',hT,e1,hy,e2⟩:=y
    subst e1 e2
    exact hs i y' σ H T (hy xs q) p hT
  · have e:i=xs.length:=by omega
    subst e
    exact .inl ⟨⟨xs,q,rfl⟩,hd σ H p⟩
section
variable {X:Cx}
def iEnumT (K:PySem.W.Frag) (ta:TA):TI:=fun σ H R=>ta σ H fun vs H1=>∃ a,vs=[.ref a]/\(∃ xs,SqT K H1 a xs)/\R (ItE K a) H1
theorem pi_enumT {K:PySem.W.Frag} {a:Expr} {ta:TA} {p pos tpos:Pos} {elts:List Expr} {kk:Nat} (hK:X.K=K) (hg:Gl X "enumerate") (hm:X.mg "enumerate"=none) (ha:PA X [a] ta) (hs:starEach [a] X.env=[(false,eval a X.env)]:=by rfl) :
    PI X (.Tuple elts kk tpos) (.Call (.Name "enumerate" p) [a] [] pos) (iEnumT K ta):=by
  subst hK
  intro pins s σ H R I h
  refine Call_ (ld_blt I hg hm bt_enumerate (PyProof.Rows.callWith_type1 (thn (ha pos pins s σ H _ I h) fun us s1 ⟨vs,H1,I1,r1,q1⟩=>?_) hs rfl))
  obtain ⟨ad,e,⟨xs,hx⟩,q⟩:=q1
  subst e
  obtain ⟨u,rfl,ru⟩:=vals1 r1
  cases ru
  obtain ⟨its,rv,pt,hz⟩:=I1.tuple hx
  refine call_enumT (vs:=its.toArray) pt fun h' he hi hk=>?_
  have I2:Inv X pins σ H1 { s1 with heap:=h' }:=I1.kept (t':=s1.toks) hk
  refine wpAny_pyIter_enum he ⟨s1.heap.objs.size+1,[s1.heap.objs.size+1,s1.heap.objs.size],_,_,H1,rfl,I2,turn_enumT ad (s1.heap.objs.size+1) s1.heap.objs.size (Nat.succ_ne_self _),⟨⟨.none,he⟩,hi⟩,fun b hb=>?_,q⟩
  have hb':s1.heap.objs.size<=b:=by
    rcases List.mem_cons.mp hb with rfl | hb
    · omega
    · rw [List.mem_singleton.mp hb];exact Nat.le_refl _
  exact I1.fpOk (H':=H1) hb' (I1.hok.fresh hb')
theorem qpi_enumT {K:PySem.W.Frag} {a:Expr} {ta:TA} {p pos tpos:Pos} {elts:List Expr} {kk:Nat} (hK:X.K=K) (hg:Gl X "enumerate") (hm:X.mg "enumerate"=none) (ha:QA X [a] ta) (hs:starEach [a] X.env=[(false,eval a X.env)]:=by rfl) :
    QI X (.Tuple elts kk tpos) (.Call (.Name "enumerate" p) [a] [] pos) (iEnumT K ta):=⟨pi_enumT hK hg hm ha.h hs⟩
end
end L2
namespace L2
open PySem PySem.Spec PyProof.Rows
section
variable {X:Cx}
def rAddX:R2:=fun x y H Q=>∃ a b xs ys,x=.ref a/\y=.ref b/\H a=some (.tup xs)/\H b=some (.tup ys)/\xs.length+ys.length<=sizeLine/\∀ p H',Kp [] H H'->H' p=some (.tup (xs++ys))->Q (.ref p) H'
theorem jab:OpR X (binaryOp .Add) rAddX:=by
  intro pins s σ H x y v u Q I rx ry h
  obtain ⟨a,b,xs,ys,rfl,rfl,ha,hb,hz,q⟩:=h
  by_cases hx:xs=[]
  · subst hx
    cases rx
    cases ry
    obtain ⟨its,r1,p1,_⟩:=I.tuple (SqT.of ha)
    obtain ⟨its2,r2,p2,_⟩:=I.tuple (SqT.of hb)
    cases r1
    obtain ⟨⟨cls,dd,data,sl⟩,ho,hc,n,hd⟩:=id p1
    obtain ⟨⟨cls2,dd2,data2,sl2⟩,ho2,hc2,n2,hd2⟩:=id p2
    simp only at hc hd hc2 hd2
    subst hc hd hc2 hd2
    exact concat_meets ⟨_,ho,rfl⟩ ⟨_,ho2,rfl⟩ noFill_tuple_add seq_tuple_add PySem.F.slot_tuple_add PySem.F.entry_tuple_add (PySem.F.args_tuple_add_2 _ _)
      (HT.tuple_add0 a b its2.toArray n n2 dd dd2 sl sl2) ⟨ho,ho2,.ref b,H,I,rfl,q b H (Kp.refl _ _) (by simpa using hb)⟩
  · exact jch pins s σ H _ _ v u Q I rx ry ⟨a,b,xs,ys,rfl,rfl,SqT.of ha,SqT.of hb,hx,hz,fun e=>q a H (Kp.refl _ _) (by rw [e,List.append_nil];exact ha),fun e p hp=>q p _ ((Kp.refl [] H).new hp) jc⟩
end
end L2
namespace L2
open PySem PySem.Spec PyProof.Rows
section
variable {prog:Program} {w:World} {A:Around} {E:Value->Shared->Prop} {s:Shared} {i1 i2:Addr} {f1 f2:List Addr} {n1 n2:Nat} {P1 P2:Nat->Value->Prop} {S1 S2:Nat->Heap->Prop}
abbrev ZO (f0 f1:Value) (TI TO:Addr):Obj:={ cls:=.type "zip",dict:=none,data:=.fields #[f0,f1,.bool false,.ref TI,.ref TO],slots:=#[] }
end
theorem Inv.walked {X:Cx} {pins:List (Addr × Obj)} {σ:L2.St} {H:Hp} {s:Shared} {h':Heap} {t':Nat} {wr:List Addr} (I:Inv X pins σ H s) (hf:∀ b ∈ wr,FpOk X pins H b) (k:∀ b o,b ∉ wr->s.heap.get? b=some o->h'.get? b=some o) :
    Inv X pins σ H { s with heap:=h',toks:=t' }:=by
  have nw:∀ b u,H b=some u->b ∉ wr:=fun b u e hb=>by rw [(hf b hb).1] at e;cases e
  refine I.step (g':=s.gens) (d':=s.drawn) (ch:=wr) (fun b hb=>?_) (fun b o _ _ hc e _=>k b o hc e) (fun b o _ _ hc e _=>⟨o.slots,k b o hc e⟩) (fun b o hc e n=>n) (fun b o hc e=>⟨o,k b o hc e⟩)
    (fun _ _ e=>e) (fun _ _ _ e=>e) (fun b ps e=>⟨#[],by rw [e];simp⟩) (fun m hm=>?_) (fun b u e=>?_) I.bare
  · obtain ⟨_,f1,_,f3,f4,f5⟩:=hf b hb
    exact ⟨f3,f1,f4,f5⟩
  · obtain ⟨o,es,ep,ho,rr⟩:=hm
    exact ⟨o,es,ep,k _ o (fun z=>(hf _ z).2.1 rfl) ho,rr⟩
  · refine (I.hok b u e).stay (fun d v hd q=>k d v ?_ q) (fun _ q=>q) fun _ _ q=>q
    rcases hd with rfl | hd
    · exact nw _ _ e
    · exact nw _ _ hd
section
abbrev ztO (a:Addr):Obj:={ cls:=.type "tuple_iterator",data:=.fields #[.ref a,.int 0 0] }
structure ZM (h h':Heap) (a b:Addr):Prop where
  z:h'.get? (h.objs.size+4)=some (ZO .none (.bool false) (h.objs.size+2) (h.objs.size+3))
  ti:IsPair h' (h.objs.size+2) (.ref h.objs.size) (.ref (h.objs.size+1))
  to:IsPair h' (h.objs.size+3) .none .none
  i1:h'.IsTupleIter h.objs.size a 0
  i2:h'.IsTupleIter (h.objs.size+1) b 0
  old:∀ c o,h.get? c=some o->h'.get? c=some o
def zmH (h:Heap) (a b:Addr):Heap:=((((h.push (ztO a)).push (ztO b)).push { cls:=.type "tuple",data:=.seq #[.ref h.objs.size,.ref (h.objs.size+1)] }).push { cls:=.type "tuple",data:=.seq #[.none,.none] }).push (ZO .none (.bool false) (h.objs.size+2) (h.objs.size+3))
theorem zm_of (h:Heap) (a b:Addr):ZM h (zmH h a b) a b:=by
  have P:∀ (k:Heap) (o:Obj) {c:Addr} {u:Obj},k.get? c=some u->(k.push o).get? c=some u:=fun k o {c u} e=>Heap.get?_push_of_some o e
  have t1:(h.push (ztO a)).objs.size=h.objs.size+1:=by rw [Heap.size_push]
  have t2:((h.push (ztO a)).push (ztO b)).objs.size=h.objs.size+2:=by rw [Heap.size_push,t1]
  have t3:(((h.push (ztO a)).push (ztO b)).push { cls:=.type "tuple",data:=.seq #[.ref h.objs.size,.ref (h.objs.size+1)] }).objs.size=h.objs.size+3:=by rw [Heap.size_push,t2]
  have t4:((((h.push (ztO a)).push (ztO b)).push { cls:=.type "tuple",data:=.seq #[.ref h.objs.size,.ref (h.objs.size+1)] }).push { cls:=.type "tuple",data:=.seq #[.none,.none] }).objs.size=h.objs.size+4:=by rw [Heap.size_push,t3]
  unfold zmH
  refine ⟨?_,?_,?_,⟨_,P _ _ (P _ _ (P _ _ (P _ _ (Heap.get?_push_size _ rfl)))),rfl,rfl⟩,⟨ztO b,?_,rfl,rfl⟩,fun c o e=>P _ _ (P _ _ (P _ _ (P _ _ (P _ _ e))))⟩
  · rw [← t4];exact Heap.get?_push_size _ rfl
  · rw [← t2];exact P _ _ (P _ _ (Heap.get?_push_size _ rfl))
  · rw [← t3];exact P _ _ (Heap.get?_push_size _ rfl)
  · rw [← t1];exact P _ _ (P _ _ (P _ _ (Heap.get?_push_size _ rfl)))
theorem meets_zipTT (a b:Addr) (va vb:Array Value) :
    Meets (Builtin.«zip.__new__» ⟨[.type "zip",.ref a,.ref b],[]⟩) (fun _ R s=>s.heap.IsTuple a va/\s.heap.IsTuple b vb/\R (.ok (.ret (.ref (s.heap.objs.size+4)))) { s with heap:=zmH s.heap a b }) :=
  .of_wp fun prog w A R s h=>by
    obtain ⟨hp,g,d,tk,os⟩:=s
    obtain ⟨ha,hb,h⟩:=h
    have hsub:=sub_zip
    have hb':(Heap.push hp (ztO a)).IsTuple b vb:=hb.push _
    have t1:(hp.push (ztO a)).objs.size=hp.objs.size+1:=by rw [Heap.size_push]
    have t2:((hp.push (ztO a)).push (ztO b)).objs.size=hp.objs.size+2:=by rw [Heap.size_push,t1]
    wp_walk using wpAny_pyIter_tuple ha,wpAny_pyIter_tuple hb'
    refine ⟨_,rfl,?_⟩
    have e:∀ n:Nat,n+1+1+1+1=n+4:=fun _=>rfl
    simp only [Heap.size_push]
    exact h
theorem call_zipTT {prog:Program} {w:World} {A:Around} {E:Value->Shared->Prop} {s:Shared} {a b:Addr} {va vb:Array Value} {Q:Value->Shared->Prop} (ha:s.heap.IsTuple a va) (hb:s.heap.IsTuple b vb)
    (q:∀ h',ZM s.heap h' a b->Q (.ref (s.heap.objs.size+4)) { s with heap:=h' }):wpAny (model prog w) A (call (.type "zip") [.ref a,.ref b]) Q E s:=by
  refine callType_new PySem.F.called_zip (by decide) (PySem.F.typeCall_zip_2 _ _) (PySem.F.newCall_zip_2 _ _) (fun obj=>PySem.F.args_object_init_3 obj _ _) PySem.F.entry_zip_new (meets_zipTT a b va vb) ⟨ha,hb,?_⟩
  have m:=zm_of s.heap a b
  exact ⟨⟨_,m.z,rfl⟩,q _ m⟩
end
section
variable {P:Program} {w:World} {K:PySem.W.Frag}
end
section
variable {X:Cx}
end
end L2
namespace L2
open PySem PySem.Spec PyProof.Rows
section
variable {X:Cx}
def nmS (i:Int):Str:=Str.ofString (toString i)
def rStrI:List V->Hp->VK->Prop:=fun xs H Q=>match xs with
  | [.int i]=>0<=i/\i < 1000000/\Q (.str (nmS i)) H
  | _=>False
theorem rStrI_int (i:Int) (H:Hp) (Q:VK):rStrI [.int i] H Q=(0<=i/\i < 1000000/\Q (.str (nmS i)) H):=rfl
theorem log_small {i:Int} (h0:0<=i) (h:i < 1000000):i.natAbs.log2 < 1920:=by
  by_cases z:i.natAbs=0
  · rw [z];decide
  · have b:(1000000:Nat) < 2 ^ 20:=by decide
    have hb:i.natAbs < 2 ^ 20:=by omega
    have:=(Nat.log2_lt (k:=20) z).mpr hb
    omega
theorem call_strI:CallR X (.type "str") rStrI:=by
  intro pins s σ H xs us Q I r h
  unfold rStrI at h
  split at h
  · rename_i i
    obtain ⟨h0,h1,q⟩:=h
    obtain ⟨u,rfl,t,rfl⟩:=vals1 r
    exact PySem.P.str_of_int (log_small h0 h1) ⟨.str _,H,I.tok _,⟨_,rfl⟩,q⟩
  · exact h.elim
end
end L2
namespace L2
open PySem PySem.Spec PyProof.Rows
section
variable {X:Cx}
end
end L2
namespace L2
open PySem PySem.Spec PyProof.Rows
section
variable {P:Program} {w:World} {A:Around} {R:Result->Shared->Prop} {I:Addr} {fp wr:List Addr} {n:Nat} {Pv:Nat->Value->Prop} {St:Nat->Heap->Prop}
end
section
variable {X:Cx}
theorem vals_of_strs:∀ {ss:List Str} {its:List Value},StrsAre its ss->Vals (ss.map V.str) its
  | _,_,.nil=>.nil
  | _,_,.cons x t r=>.cons ⟨t,rfl⟩ (vals_of_strs r)
end
end L2
namespace L2
open PySem PySem.Spec PyProof.Rows
section
end
section
variable {P:Program} {w:World} {K:PySem.W.Frag}
theorem za_more {z TI TO i1 i2 a b:Addr} (D:ZA z TI TO i1 i2 [i1] [i2]) (na:∀ d ∈ [z,TI,TO,i1,i2],d≠a) (nb:∀ d ∈ [z,TI,TO,i1,i2],d≠b):ZA z TI TO i1 i2 [i1,a] [i2,b] :=
  ⟨D.TIz,D.TOz,D.i1z,D.i2z,D.TITO,D.TIi1,D.TIi2,D.TOi1,D.TOi2,D.i12,by simpa using ⟨D.i1z.symm,na z (by simp)⟩,by simpa using ⟨D.i2z.symm,nb z (by simp)⟩,
    by simpa using ⟨D.TOi1,na TO (by simp)⟩,by simpa using ⟨D.TOi2,nb TO (by simp)⟩,by simpa using ⟨D.i12,nb i1 (by simp)⟩,by simpa using ⟨D.i12.symm,na i2 (by simp)⟩⟩
end
section
variable {X:Cx}
theorem jb7 {o i:Expr} {td ty:TE} {pos:Pos} (hu:X.A.units+1 < cLine) (ho:QE X o td) (hi:QE X i ty) (hs:NoSl i):QE X (.Subscript o i pos) (tDGet td ty):=⟨pe_dget hu ho.h hi.h hs⟩
end
end L2
namespace L2
open PySem PySem.Spec PyProof.Rows
end L2
namespace L2
open PySem PySem.Spec PyProof.Rows
section
variable {X:Cx} {pins:List (Addr × Obj)} {σ:L2.St} {H:Hp} {s:Shared} {scope:Scope} {Nc:List Str} {js:List (Option Nat)} {fp:List Addr}
end
section
variable {X:Cx} {scope:Scope} {Nc:List Str} {js:List (Option Nat)} {elt tg iter:Expr} {pos:Pos} {wi:TI} {g:TG} {te:TE}
end
end L2
namespace L2
open PySem PySem.Spec PyProof.Rows
section
variable {X:Cx} {scope:Scope} {Nc:List Str} {js:List (Option Nat)} {elt tg iter:Expr} {pos:Pos} {wi:TI} {g:TG} {te:TE}
end
end L2
namespace L2
open PySem PySem.Spec PyProof.Rows
theorem layNew_led (t:SetTable) (es:Array (Int × Value)) (h:Int) (x:Value):(layNew t es h x).2.1.led=t.led:=by
  unfold layNew
  cases t.freeSlot h with
  | none=>rfl
  | some p =>
    show ((t.put p.1).1.orStandIn _).led=t.led
    unfold SetTable.orStandIn
    split <;> rfl
theorem layNew_pl (t:SetTable) (es:Array (Int × Value)) (h:Int) (x:Value) (hp:t.plain=false):(layNew t es h x).2.1.plain=false:=by
  unfold layNew
  cases t.freeSlot h with
  | none=>rfl
  | some p =>
    show ((t.put p.1).1.orStandIn _).plain=false
    unfold SetTable.orStandIn
    split
    · exact hp
    · rfl
theorem laid_led {m f mv:Nat} {L p:Bool} {hs:Array Int} {r:SetTable × Array Nat} (e:SetTable.laid m f mv L p hs=some r):r.1.led=L/\r.1.plain=p:=by
  unfold SetTable.laid at e
  cases h:SetTable.layClean m hs with
  | none=>rw [h] at e;cases e
  | some o=>rw [h] at e;cases e;exact ⟨rfl,rfl⟩
theorem relay_led (t:SetTable) (es:Array (Int × Value)) (k:Nat):(relayAll t es k).2.1.led=t.led:=by
  unfold relayAll
  cases h:t.relaid (es.map (·.1)) k with
  | none=>rfl
  | some r =>
    dsimp only
    split
    · exact (laid_led h).1
    · rfl
theorem relay_pl (t:SetTable) (es:Array (Int × Value)) (k:Nat) (hp:t.plain=false):(relayAll t es k).2.1.plain=false:=by
  unfold relayAll
  cases h:t.relaid (es.map (·.1)) k with
  | none=>rfl
  | some r =>
    dsimp only
    split
    · rw [(laid_led h).2];exact hp
    · rfl
def keyE (e:Int × Value):Str:=match e.2 with
  | .str k _=>k
  | _=>⟨#[]⟩
section
variable {prog:Program} {w:World} {A:Around} {E:Value->Shared->Prop} {s:Shared}
structure SX (prog:Program) (w:World) (h:Heap) (a:Addr) (L:Bool) (ks:List Str) (o:Obj) (es:Array (Int × Value)) (ep:Nat) (t:SetTable):Prop where
  at_:h.get? a=some o
  ex:o.ExactSet
  dt:o.data=.set es ep t
  el:ElemsOf (strKind prog w) es.toList
  key:(es.toList.map keyE).Perm ks
  nd:ks.Nodup
  sz:es.size < scanBound
  fits:t.fits es.size=true
  led:t.led=L
  pl:es.size=0∨t.plain=false
def SXO (prog:Program) (w:World) (h:Heap) (a:Addr) (L:Bool) (ks:List Str):Prop:=∃ o es ep t,SX prog w h a L ks o es ep t
theorem SX.to {h h':Heap} {a:Addr} {L:Bool} {ks:List Str} {o:Obj} {es:Array (Int × Value)} {ep:Nat} {t:SetTable} (x:SX prog w h a L ks o es ep t) (e:h'.get? a=some o):SX prog w h' a L ks o es ep t :=
  ⟨e,x.ex,x.dt,x.el,x.key,x.nd,x.sz,x.fits,x.led,x.pl⟩
theorem keyE_of {e:Int × Value} {k:Str} (h:Value.isStrOf k e.2=true):keyE e=k:=by
  obtain ⟨t,e2⟩:=Value.isStrOf_shape h
  unfold keyE
  rw [e2]
theorem SX.mem {h:Heap} {a:Addr} {L:Bool} {ks:List Str} {o:Obj} {es:Array (Int × Value)} {ep:Nat} {t:SetTable} (x:SX prog w h a L ks o es ep t) (k:Str):k ∈ ks↔∃ e ∈ es.toList,Value.isStrOf k e.2=true:=by
  rw [← x.key.mem_iff,List.mem_map]
  constructor
  · rintro ⟨e,he,rfl⟩
    obtain ⟨⟨k',hk,_⟩,_⟩:=x.el e he
    have hk':Value.isStrOf k' e.2=true:=hk
    exact ⟨e,he,by rw [keyE_of hk'];exact hk'⟩
  · rintro ⟨e,he,hk⟩
    exact ⟨e,he,keyE_of hk⟩
theorem SX.len {h:Heap} {a:Addr} {L:Bool} {ks:List Str} {o:Obj} {es:Array (Int × Value)} {ep:Nat} {t:SetTable} (x:SX prog w h a L ks o es ep t):es.size=ks.length:=by
  rw [← x.key.length_eq,List.length_map,Array.length_toList]
theorem SX.store {h:Heap} {a:Addr} {L:Bool} {ks ks':List Str} {o:Obj} {es es':Array (Int × Value)} {ep:Nat} {t t':SetTable} (x:SX prog w h a L ks o es ep t) (el:ElemsOf (strKind prog w) es'.toList)
    (key:(es'.toList.map keyE).Perm ks') (nd:ks'.Nodup) (sz:es'.size < scanBound) (fits:t'.fits es'.size=true) (led:t'.led=L) (pl:t'.plain=false) :
    SX prog w (h.update a (Obj.putSet es' t')) a L ks' { o with data:=.set es' (ep+1) t' } es' (ep+1) t':=by
  refine ⟨?_,x.ex,rfl,el,key,nd,sz,fits,led,.inr pl⟩
  have e:=Heap.get?_update_self (Obj.putSet es' t') x.at_ (by rw [putSet_of es' t' x.dt];rfl)
  rwa [putSet_of es' t' x.dt] at e
theorem jb9 {g:Bool->Sem Unit} (hg:∀ (b:Bool) (s1:Shared) (Q1:Unit->Shared->Prop),Q1 () s1->wpAny (model prog w) A (g b) Q1 E s1) {a:Addr} {L:Bool} {ks ks':List Str} {o:Obj} {es es1:Array (Int × Value)} {ep:Nat} {t t2:SetTable}
    (x:SX prog w s.heap a L ks o es ep t) (el:ElemsOf (strKind prog w) es1.toList) (key:(es1.toList.map keyE).Perm ks') (nd:ks'.Nodup) (sz:es1.size < scanBound) (fits:t2.fits es1.size=true) (led:t2.led=L) (pl:t2.plain=false)
    {wd:Bool} {R:Option Bool->Shared->Prop} (h:∀ h',Heap.SameBut a s.heap h'->SXO prog w h' a L ks'->R (some true) { s with heap:=h' }) :
    wpAny (model prog w) A (do
      storeSet a es1 t2
      if (!wd && t2.tooFull)=true then do
          g (relayAll t2 es1 (SetTable.grown es1.size)).2.2
          storeSet a (relayAll t2 es1 (SetTable.grown es1.size)).1 (relayAll t2 es1 (SetTable.grown es1.size)).2.1
          pure (some true)
        else pure (some true)) R E s:=by
  have x1:=x.store el key nd sz fits led pl
  have b1:=Heap.SameBut.update s.heap a (Obj.putSet es1 t2)
  refine wpAny_bind (wpAny_storeSet_of x.at_ x.dt ?_ (fits_of_scanBound sz))
  by_cases hc:(!wd && t2.tooFull)=true
  · rw [if_pos hc]
    have rp:=relayAll_perm t2 es1 (SetTable.grown es1.size)
    have rf:=relayAll_fits t2 es1 (SetTable.grown es1.size)
    have rl:=relay_led t2 es1 (SetTable.grown es1.size)
    have rq:=relay_pl t2 es1 (SetTable.grown es1.size) pl
    generalize relayAll t2 es1 (SetTable.grown es1.size)=W at rp rf rl rq
    obtain ⟨es2,t3,gv⟩:=W
    dsimp only at rp rf rl rq ⊢
    have z2:es2.size=es1.size:=by rw [← Array.length_toList,rp.length_eq,Array.length_toList]
    have x2:=x1.store (el.perm rp) ((rp.map keyE).trans key) nd (by rw [z2];exact sz) rf (rl.trans led) rq
    refine wpAny_bind (hg _ _ _ (wpAny_bind (wpAny_storeSet_of x1.at_ x1.dt ?_ (fits_of_scanBound (by rw [z2];exact sz)))))
    exact wpAny_pure (h _ (b1.trans (Heap.SameBut.update _ a _)) ⟨_,_,_,_,x2⟩)
  · rw [if_neg hc]
    exact wpAny_pure (h _ b1 ⟨_,_,_,_,x1⟩)
theorem add_text {a:Addr} {L:Bool} {ks:List Str} {k:Str} {tk:Tok} {Q:Bool->Shared->Prop} (hS:SXO prog w s.heap a L ks) (hr:ks.length+1 < scanBound)
    (h:∀ h',Heap.SameBut a s.heap h'->SXO prog w h' a L (stpS ks k)->∀ b,Q b { s with heap:=h' }) :
    wpAny (model prog w) A (setAddHashed a (.str k tk) ((strKind prog w).hash k)) Q E s:=by
  obtain ⟨o,es,ep,t,x⟩:=hS
  have hk:=isStr_is (prog:=prog) (w:=w) k tk
  have hsc:(Value.str k tk).scannable=true:=rfl
  have hl:=x.len
  unfold setAddHashed setAddHashedIn
  refine wpAny_holding (wpAny_bind (wpAny_setState_of x.at_ x.dt x.fits ?_))
  dsimp only
  rw [byScan_of hsc x.sz x.el,if_pos rfl]
  unfold setAddByScan
  refine wpAny_bind (wpAny_bind (wpAny_rule (wpAny_bind (wpAny_setScan_of hk x.at_ x.dt x.fits x.el ?_))))
  by_cases hin:k ∈ ks
  · obtain ⟨e,he,hke⟩:=(x.mem k).mp hin
    have hst:stpS ks k=ks:=by unfold stpS;rw [if_pos (List.any_eq_true.mpr ⟨k,hin,by simp⟩)]
    cases hf:es.toList.findIdx? (fun e=>(strKind prog w).is k e.2) with
    | none=>exact absurd hke (by rw [show Value.isStrOf k e.2=(strKind prog w).is k e.2 from rfl,List.findIdx?_eq_none_iff.mp hf e he];decide)
    | some j =>
      dsimp only
      have q:=h s.heap (Heap.SameBut.refl a s.heap) (by rw [hst];exact ⟨o,es,ep,t,x⟩)
      exact wpAny_pure (wpAny_pure (q _))
  · have hst:stpS ks k=ks++[k]:=by
      unfold stpS
      rw [if_neg]
      intro q
      obtain ⟨y,hy,e⟩:=List.any_eq_true.mp q
      exact hin (by rw [← show y=k by simpa using e];exact hy)
    cases hf:es.toList.findIdx? (fun e=>(strKind prog w).is k e.2) with
    | some j =>
      obtain ⟨hj,hpj,_⟩:=List.findIdx?_eq_some_iff_getElem.mp hf
      exact absurd ((x.mem k).mpr ⟨_,List.getElem_mem hj,hpj⟩) hin
    | none =>
      dsimp only
      have lp:=layNew_perm t es ((strKind prog w).hash k) (.str k tk)
      have lf:=layNew_fits t es ((strKind prog w).hash k) (.str k tk)
      have ll:=layNew_led t es ((strKind prog w).hash k) (.str k tk)
      have lq:=layNew_pl t es ((strKind prog w).hash k) (.str k tk)
      generalize layNew t es ((strKind prog w).hash k) (.str k tk)=W at lp lf ll lq
      obtain ⟨es1,t1,wd,gv⟩:=W
      dsimp only at lp lf ll lq ⊢
      rw [Array.toList_push] at lp
      have el1:ElemsOf (strKind prog w) es1.toList:=(x.el.push hk hsc).perm lp
      have key1:(es1.toList.map keyE).Perm (ks++[k]):=by
        refine (lp.map keyE).trans ?_
        rw [List.map_append]
        exact x.key.append_right [k]
      have nd1:(ks++[k]).Nodup:=by
        rw [List.nodup_append]
        exact ⟨x.nd,by simp,fun u hu v hv e=>hin (by rw [← List.mem_singleton.mp hv,← e];exact hu)⟩
      have sz1:es1.size < scanBound:=by
        rw [← Array.length_toList,lp.length_eq,List.length_append,Array.length_toList,hl]
        exact hr
      have gv_ok:∀ (b:Bool) (s1:Shared) (Q1:Unit->Shared->Prop),Q1 () s1->wpAny (model prog w) A (match b with | true=>rule "set.scan.the-table-gave-way" | false=>pure ()) Q1 E s1:=fun b s1 Q1 q=>by
        cases b
        · exact wpAny_pure q
        · exact wpAny_rule q
      refine wpAny_bind (gv_ok gv _ _ ?_)
      have done:∀ h',Heap.SameBut a s.heap h'->SXO prog w h' a L (ks++[k])->∀ b,Q b { s with heap:=h' }:=fun h' b1 b2=>h h' b1 (by rw [hst];exact b2)
      by_cases hp:t1.plain=true
      · rw [if_pos hp]
        refine wpAny_bind ?_
        rw [hashByValue_scannable 8 hsc]
        refine wpAny_pure ?_
        refine jb9 gv_ok x el1 key1 nd1 sz1 ?_ ?_ ?_ fun h' b1 b2=>wpAny_pure (done h' b1 b2 _)
        · exact SetTable.fits_plain_off lf
        · exact ll.trans x.led
        · rfl
      · rw [if_neg hp]
        refine wpAny_bind (wpAny_pure ?_)
        rw [if_pos rfl]
        exact jb9 gv_ok x el1 key1 nd1 sz1 lf (ll.trans x.led) (by simpa using hp) fun h' b1 b2=>wpAny_pure (done h' b1 b2 _)
end
end L2
namespace L2
open PySem PySem.Spec PyProof.Rows
section
variable {prog:Program} {w:World} {A:Around} {R:Result->Shared->Prop} {I:Addr} {fp wr:List Addr} {G:Array GenState->Array GenState->Prop} {n:Nat} {P:Nat->Value->Prop} {St:Nat->Shared->Prop}
theorem set_loopX (W:WalksS prog w A.in1 I fp wr G n P St) (S:Addr) (hSf:S ∉ fp)
    {L:Bool} (val:Nat->Str) (hval:∀ i v,P i v->∃ t,v=.str (val i) t) (hb:n+1 < scanBound) :
    ∀ (k i:Nat) (s:Shared),n - i=k->i<=n->St i s ->
      SXO prog w s.heap S L (fmS val i) ->
      (∀ s',Moved (S::wr) G s s'->SXO prog w s'.heap S L (fmS val n)->R (.ok (.ret .none)) s') ->
      codeAny (model prog w) A (.builtin "set.update.loop" ⟨[.ref S,.ref I],[]⟩) R s:=by
  have hSw:S ∉ wr:=fun h=>hSf (W.sub _ h)
  have hsub:∀ b ∈ wr,b ∈ S::wr:=fun b hb=>List.mem_cons_of_mem _ hb
  intro k
  induction k with
  | zero =>
    intro i s hk hi hst hS hR
    have hin:i=n:=by omega
    subst hin
    refine codeAny_builtin PyProof.Rows.F.entry_set_update_loop ?_
    rw [Around.under_plainId PyProof.Rows.F.plain_set_update_loop _]
    show wpAny _ A.in1 (pyNext (.ref I) >>= _) _ _ s
    refine wpAny_bind (W.done s _ _ hst fun s' hm=>?_)
    show wpAny _ A.in1 (ret Value.none) _ _ s'
    exact wpAny_pure (hR s' (hm.mono hsub) (by
      obtain ⟨o,es,ep,t,x⟩:=hS
      exact ⟨o,es,ep,t,x.to (hm.heap S _ hSw x.at_)⟩))
  | succ k ih =>
    intro i s hk hi hst hS hR
    have hlt:i < n:=by omega
    refine codeAny_builtin PyProof.Rows.F.entry_set_update_loop ?_
    rw [Around.under_plainId PyProof.Rows.F.plain_set_update_loop _]
    show wpAny _ A.in1 (pyNext (.ref I) >>= _) _ _ s
    refine wpAny_bind (W.item i s _ _ hlt hst fun v s' hP hst' hm=>?_)
    obtain ⟨t,rfl⟩:=hval i v hP
    have hS':SXO prog w s'.heap S L (fmS val i):=by
      obtain ⟨o,es,ep,tb,x⟩:=hS
      exact ⟨o,es,ep,tb,x.to (hm.heap S _ hSw x.at_)⟩
    show wpAny _ A.in1 (holding [Value.str (val i) t] (setAdd S (.str (val i) t)) >>= _) _ _ s'
    refine wpAny_bind (wpAny_holding ?_)
    unfold setAdd
    refine wpAny_holding ?_
    refine wpAny_bind ((strKind prog w).pyHash (k:=val i) (isStr_is _ _) ?_)
    have hroom:(fmS val i).length+1 < scanBound:=by have:=fmS_le val i;omega
    refine add_text (s:={ s' with toks:=s'.toks+1 }) hS' hroom fun h' hsb hS2 _=>?_
    have hSi:SXO prog w h' S L (fmS val (i+1)):=by rw [fmS_succ];exact hS2
    refine wpAny_pure ⟨plainId_quiet PyProof.Rows.F.plain_set_update_loop _,ih (i+1) _ (by omega) hlt (W.frame _ s' _ _ hst' (Nat.le_succ _) fun b hb o e=>?_) hSi fun s'' hm'' hS''=>?_⟩
    · rw [hsb.2 b (fun h:b=S=>hSf (by rw [← h];exact hb))];exact e
    · refine hR s'' (Moved.trans W.gtrans ((hm.mono hsub).then_heap (Nat.le_succ _) fun b o hb e=>?_) hm'') hS''
      rw [hsb.2 b (fun h:b=S=>hb (by rw [h];exact List.mem_cons_self))];exact e
end
def setO (L:Bool):Obj:={ cls:=.type "set",dict:=none,data:=.set #[] 0 (.fresh 0 0 L) }
section
variable {prog:Program} {w:World} {A:Around} {E:Value->Shared->Prop} {s:Shared}
theorem set_newL (a:Value) {Q₁:Value->Shared->Prop} (h:Q₁ (.ref s.heap.objs.size) { s with heap:=s.heap.push (setO (!w.params.followText "set-order")) }) :
    codeAny (model prog w) A (.call (.builtin "set.__new__") ⟨[.type "set",a],[]⟩) (wants Q₁ E) s:=by
  have hsub:=sub_set_self
  refine codeAny_of_tree (show wpAny _ A.in1 (do checkBuiltinCall "set.__new__" ⟨[.type "set",a],[]⟩;again (.builtin "set.__new__" ⟨[.type "set",a],[]⟩)) _ _ s from ?_)
  refine wpAny_bind (wpAny_of_eq (PySem.F.newCall_set_1 a) (wpAny_pure ⟨plainId_quiet PySem.F.plain_set_new _,codeAny_builtin PySem.F.entry_set_new ?_⟩))
  rw [Around.under_plainId PySem.F.plain_set_new _,Builtin.«set.__new__»,Builtin.Frozenset.newClass]
  obtain ⟨hp,g,d,tk,os⟩:=s
  dsimp only
  wp_walk
  refine wpAny_askSetting (wpAny_pure ?_)
  show wpAny _ _ (newObj (.type "set") (.set #[] 0 (.fresh 0 0 (!w.params.followText "set-order")))) _ _ _
  unfold newObj
  exact wpAny_bind (wpAny_alloc (wpAny_pure (wpAny_pure h)))
theorem jbw {T IT:String} {l:Addr} {ol:Obj} {items:Array Value} {ss:List Str} {St:Addr->Nat->Heap->Prop} {Q:Value->Shared->Prop} (hh:A.handled=none) (hol:s.heap.get? l=some ol) (hcl:ol.cls=.type T)
    (hsls:isSubtype (.type T) (.type "set")=pure false) (hslf:isSubtype (.type T) (.type "frozenset")=pure false) (hne:(Value.type T == Value.type "dict")=false)
    (hit:∀ (A':Around) (E':Value->Shared->Prop) (s':Shared) (Q':Value->Shared->Prop),s'.heap.get? l=some ol->Q' (.ref s'.heap.objs.size) { s' with heap:=s'.heap.push { cls:=.type IT,data:=.fields #[.ref l,.int 0 0] } }->wpAny (model prog w) A' (pyIter (.ref l)) Q' E' s')
    (hw:∀ (A':Around) (I:Addr),A'.handled=none->l≠I->Walks prog w A' I [I,l] [I] items.size (fun i v=>items[i]?=some v) (St I))
    (hs0:∀ (I:Addr) (h:Heap),h.get? l=some ol->h.get? I=some { cls:=.type IT,data:=.fields #[.ref l,.int 0 0] }->St I 0 h)
    (hs:∀ (i:Nat) (v:Value),items[i]?=some v->∃ t,v=.str (ss.getD i ⟨#[]⟩) t) (hb:items.size+1 < scanBound)
    (h:∀ (h':Heap) (tk:Nat),SXO prog w h' s.heap.objs.size (!w.params.followText "set-order") (fmS (fun i=>ss.getD i ⟨#[]⟩) items.size) ->
      (∀ b o,b < s.heap.objs.size->s.heap.get? b=some o->h'.get? b=some o)->Q (.ref s.heap.objs.size) { s with heap:=h',toks:=tk }) :
    wpAny (model prog w) A (call (.type "set") [.ref l]) Q E s:=by
  obtain ⟨c,tl,hmro⟩:=PySem.F.called_set.mro
  have hmade:=PySem.F.called_set.made
  have hsub:=PySem.F.called_set.sub
  refine wpAny_call (codeAny_of_tree ?_)
  show wpAny _ _ (callAny (.type "set") _) _ _ _
  refine wpAny_pure ⟨Code.quiet_builtin _ (by decide +kernel),codeAny_builtin PySem.F.entry_type_call ?_⟩
  rw [Around.under_plain (weight_type_call_type "set" [.ref l] []) rfl]
  have h1:=PySem.F.called_set.notType
  have h2:=PySem.F.called_set.canCreate
  have hct:=PySem.F.typeCall_set_1 (.ref l)
  repeat (any_goals (first | assumption | wp_step))
  refine codeAny_mono (set_newL (.ref l) (E:=E) (Q₁:=fun obj s₁=>obj=.ref s.heap.objs.size/\s₁={ s with heap:=s.heap.push (setO (!w.params.followText "set-order")) }) ⟨rfl,rfl⟩) fun r s₁ hr=>?_
  cases r with
  | error e=>exact hr
  | ok fl =>
    cases fl with
    | ret obj =>
      obtain ⟨rfl,rfl⟩:=hr
      have hS:(s.heap.push (setO (!w.params.followText "set-order"))).get? s.heap.objs.size=some (setO (!w.params.followText "set-order")):=Heap.get?_push_size _ rfl
      have hT:Shared.TypeIs { s with heap:=s.heap.push (setO (!w.params.followText "set-order")) } (.ref s.heap.objs.size) "set":=⟨_,hS,rfl⟩
      have hli:=PySem.F.called_set.init.lookup
      have hbi:=PySem.F.called_set.init.bind (.ref s.heap.objs.size)
      repeat (any_goals (first | assumption | wp_step))
      refine codeAny_mono (codeAny_call_builtin (R:=wants (fun r s₂=>r=.none/\∃ h' tk,s₂={ s with heap:=h',toks:=tk } /\
          SXO prog w h' s.heap.objs.size (!w.params.followText "set-order") (fmS (fun i=>ss.getD i ⟨#[]⟩) items.size) /\
          (∀ b o,b < s.heap.objs.size->s.heap.get? b=some o->h'.get? b=some o)) E) PySem.F.called_set.init.plain PySem.F.entry_set_init (check_set_init_1 hT ?_)) fun r₂ s₂ hr₂=>?_
      · have hol':(s.heap.push (setO (!w.params.followText "set-order"))).get? l=some ol:=Heap.get?_push_of_some _ hol
        have hTl:Shared.TypeIs { s with heap:=s.heap.push (setO (!w.params.followText "set-order")) } (.ref l) T:=⟨_,hol',hcl⟩
        unfold Builtin.«set.__init__» noKeywords Builtin.Frozenset.updateFrom
        generalize hPI:pyIter=PI
        wp_walk
        subst hPI
        refine hit _ _ _ _ hol' ?_
        refine wpAny_bind (wpAny_runValue ?_)
        have hlS:l < s.heap.objs.size:=Heap.lt_size hol
        have hh3:A.in1.in1.in1.handled=none:=by simp [hh]
        have hneI:l≠(s.heap.push (setO (!w.params.followText "set-order"))).objs.size:=by
          rw [Heap.size_push]
          exact Nat.ne_of_lt (Nat.lt_succ_of_lt hlS)
        have hSf:s.heap.objs.size ∉ [(s.heap.push (setO (!w.params.followText "set-order"))).objs.size,l]:=by
          rw [Heap.size_push,List.mem_cons,List.mem_singleton]
          rintro (q | q)
          · exact absurd q (Nat.ne_of_lt (Nat.lt_succ_self _))
          · exact absurd q (Nat.ne_of_gt hlS)
        refine set_loopX ((hw _ _ hh3 hneI).toS) s.heap.objs.size hSf (L:=!w.params.followText "set-order") (fun i=>ss.getD i ⟨#[]⟩) hs hb (items.size - 0) 0 _ rfl (Nat.zero_le _)
          (hs0 _ _ (Heap.get?_push_of_some _ hol') (Heap.get?_push_size _ rfl)) ?hS0 ?hR
        case hS0 =>
          exact ⟨_,#[],0,_,Heap.get?_push_of_some _ hS,⟨rfl,rfl,rfl⟩,rfl,fun e he=>by simp at he,.nil,.nil,by decide,rfl,rfl,.inl rfl⟩
        case hR =>
          intro s' hm hS'
          obtain ⟨h',g',d',tk',os'⟩:=s'
          have eg:g'=s.gens:=hm.gens
          have ed:d'=s.drawn:=hm.drawn
          have eo:os'=s.os:=hm.os
          subst eg;subst ed;subst eo
          show wpAny _ _ _ _ _ _
          refine wpAny_pure ?_
          show wpAny _ _ (ret Value.none) _ _ _
          refine wpAny_pure ⟨rfl,h',tk',rfl,hS',fun b o hb e=>?_⟩
          have hb1:b≠s.heap.objs.size:=Nat.ne_of_lt hb
          have hb2:b≠(s.heap.push (setO (!w.params.followText "set-order"))).objs.size:=by
            rw [Heap.size_push];exact Nat.ne_of_lt (Nat.lt_succ_of_lt hb)
          exact hm.heap b o (by simp only [List.mem_cons,List.mem_singleton,List.not_mem_nil,or_false,not_or];exact ⟨hb1,hb2⟩) (Heap.get?_push_of_some _ (Heap.get?_push_of_some _ e))
      · cases r₂ with
        | error e=>exact hr₂
        | ok fl₂ =>
          cases fl₂ with
          | ret r =>
            obtain ⟨rfl,h',tk,rfl,hS',hk'⟩:=hr₂
            repeat (any_goals (first | assumption | wp_step))
            exact h _ _ hS' hk'
          | _=>exact hr₂.elim
    | _=>exact hr.elim
end
end L2
namespace L2
open PySem PySem.Spec PyProof.Rows
theorem sit_next:Slot "set_iterator" "__next__" "set_iterator.__next__":=.of (owner:="set_iterator") (n:="__next__") (by rw [typeLookup_type,builtinLookup_eq_fast];kernel_rfl) (by decide +kernel) (by decide +kernel) (by decide +kernel) (.inl (by decide +kernel)) (by rw [isSubtype_type];kernel_rfl)
theorem sit_iter:Slot "set_iterator" "__iter__" "set_iterator.__iter__":=.of (owner:="set_iterator") (n:="__iter__") (by rw [typeLookup_type,builtinLookup_eq_fast];kernel_rfl) (by decide +kernel) (by decide +kernel) (by decide +kernel) (.inl (by decide +kernel)) (by rw [isSubtype_type];kernel_rfl)
theorem sit_entry:entryFor table "set_iterator.__next__"=some Builtin.«set_iterator.__next__»:=entryFor_of_tree (by kernel_rfl)
theorem sit_args (a:Value):argsOk "set_iterator.__next__" ⟨[a],[]⟩:=by unfold argsOk;kernel_rfl
theorem sit_argsI (a:Value):argsOk "set_iterator.__iter__" ⟨[a],[]⟩:=by unfold argsOk;kernel_rfl
theorem set_iter_entry:entryFor table "set.__iter__"=some Builtin.«frozenset.__iter__»:=entryFor_alias (id':="frozenset.__iter__") (by kernel_rfl) rfl (by decide +kernel) (by kernel_rfl)
theorem sit_entryI:entryFor table "set_iterator.__iter__"=some Builtin.«dict_keyiterator.__iter__»:=entryFor_alias (id':="dict_keyiterator.__iter__") (by kernel_rfl) rfl (by decide +kernel) (by kernel_rfl)
def SIt (h:Heap) (I:Addr) (f:Value) (i:Nat) (a:Addr) (n ep:Nat):Prop:=∃ o,h.get? I=some o/\o.cls=.type "set_iterator"/\o.data=.fields #[f,.int i 0,.ref a,.int n 0,.int ep 0]
theorem SIt.ty {s:Shared} {I:Addr} {f:Value} {i:Nat} {a:Addr} {n ep:Nat} (x:SIt s.heap I f i a n ep):s.TypeIs (.ref I) "set_iterator":=let ⟨o,h,c,_⟩:=x;⟨o,h,c⟩
section
variable {prog:Program} {w:World} {A:Around} {E:Value->Shared->Prop} {s:Shared}
theorem sit_self {I:Addr} {f:Value} {i:Nat} {a:Addr} {n ep:Nat} {Q:Value->Shared->Prop} (x:SIt s.heap I f i a n ep) (h:Q (.ref I) s):wpAny (model prog w) A (pyIter (.ref I)) Q E s:=by
  refine wpAny_pyIter_slot x.ty sit_iter (wpAny_call_entry sit_iter x.ty sit_entryI ?_ (sit_argsI _))
  exact wpAny_pure ⟨_,rfl,"set_iterator",_,x.ty,sit_next.lookup,h⟩
theorem SIt.upd {h:Heap} {I:Addr} {f:Value} {i:Nat} {a:Addr} {n ep:Nat} {o:Obj} (g:h.get? I=some o) (c:o.cls=.type "set_iterator") (d:o.data=.fields #[f,.int i 0,.ref a,.int n 0,.int ep 0]) (k:Nat) (v:Value) :
    ∃ o',(h.update I (Obj.mapFields (·.setIfInBounds k v))).get? I=some o'/\o'.cls=.type "set_iterator"/\o'.data=.fields ((#[f,.int i 0,.ref a,.int n 0,.int ep 0]:Array Value).setIfInBounds k v) :=
  ⟨_,Heap.get?_update_self _ g (Obj.isFreed_of_fields (Obj.data_mapFields d _)),(Obj.cls_mapFields ..).trans c,by rw [Obj.data_mapFields d]⟩
theorem stop_met {B:Around} (hh:B.handled=none) {Q:Option Value->Shared->Prop} {R:Fin->Shared->Prop} (h:∀ h',(∀ b o,s.heap.get? b=some o->h'.get? b=some o)->Q none { s with heap:=h' }) :
    wpAny (model prog w) B.in1 (newExc (.type "StopIteration") [] >>= fun e=>(raiseNew e:Sem Fin)) R
      (fun e s'=>wpAny (model prog w) B (do if (← isInstance e (.type "StopIteration"))=true then pure none else throw e) Q E s') s:=by
  refine wpAny_bind ?_
  simp only [newExc,newTuple]
  refine wpAny_bind (wpAny_newObj_type ?_ (by size_fits))
  refine wpAny_bind (m:=firstArgMember _ _) (wpAny_of_eq (a:=Value.none) (by first | rfl | (simp only [firstArgMember];rfl)) (wpAny_newObj_type ?_ (by size_fits)))
  simp only [raiseNew]
  refine wpAny_bind (wpAny_handled ?_)
  rw [show B.in1.handled=none from hh]
  refine wpAny_bind (wpAny_pure (wpAny_throw ?_))
  refine wpAny_bind (wpAny_isInstance (T:="StopIteration") (b:=true) ⟨_,Heap.get?_push_size _ rfl,rfl⟩ isSubtype_stop (wpAny_pure ?_))
  exact (h _ fun b o e=>Heap.get?_push_of_some _ (Heap.get?_push_of_some _ e))
theorem sit_open {I a:Addr} {f:Value} {i n ep:Nat} {L:Bool} {ks:List Str} {o:Obj} {es:Array (Int × Value)} {t:SetTable} {Q:Option Value->Shared->Prop} (x:SIt s.heap I f i a n ep) (y:SX prog w s.heap a L ks o es ep t) (hn:es.size=n)
    (h:wpAny (model prog w) A.in1 (match f with
        | .int slot _=>do
          match ← setNext a slot.toNat i ep with
          | some (x,next) =>
            setField (.ref I) 0 (rawInt next)
            setField (.ref I) 1 (rawInt (i+1))
            ret x
          | none=>setField (.ref I) 2 .none;raiseNew (← newExc (.type "StopIteration") [])
        | _=>do
          let some places ← seqItems? f | unsupported "internal:set_iterator"
          match places[i]? with
          | some (.int place _) =>
            let x ← setNextDrawn a place.toNat ep
            setField (.ref I) 1 (rawInt (i+1))
            ret x
          | some _=>unsupported "internal:set_iterator"
          | none=>setField (.ref I) 0 (rawInt 0);setField (.ref I) 2 .none;raiseNew (← newExc (.type "StopIteration") []))
      (fun fin s'=>∃ v,fin=Fin.done (Flow.ret v)/\Q (some v) s') (fun e s'=>wpAny (model prog w) A (do if (← isInstance e (.type "StopIteration"))=true then pure none else throw e) Q E s') s) :
    wpAny (model prog w) A (pyNext (.ref I)) Q E s:=by
  obtain ⟨oi,hi,ci,di⟩:=id x
  unfold pyNext
  refine wpAny_bind (wpAny_attempt (wpAny_callSpecial?_slot (name:=Str.ofString "__next__") x.ty sit_next (wpAny_call_entry sit_next x.ty sit_entry ?_ (sit_args _))))
  unfold Builtin.«set_iterator.__next__»
  refine wpAny_bind (wpAny_pure ?_)
  refine wpAny_bind (wpAny_fieldsOf hi di ?_)
  dsimp only
  refine wpAny_bind (wpAny_setEntries_of y.at_ y.dt y.fits ?_)
  rw [if_neg (by rw [hn];simp)]
  refine wpAny_mono ?_ (Q:=fun fin s'=>∃ v,fin=Fin.done (Flow.ret v)/\Q (some v) s') (fun fin s' ⟨v,e,q⟩=>⟨v,e,wpAny_pure q⟩) fun _ _ q=>q
  simp only [Int.toNat_natCast]
  cases f <;> exact h
theorem sit_int {I a:Addr} {sl i n ep nx:Nat} {L:Bool} {ks:List Str} {o:Obj} {es:Array (Int × Value)} {t:SetTable} {v:Value} {Q:Option Value->Shared->Prop} (x:SIt s.heap I (.int sl 0) i a n ep) (y:SX prog w s.heap a L ks o es ep t) (hn:es.size=n)
    (hx:∀ (A':Around) (E':Value->Shared->Prop) (Q':Option (Value × Nat)->Shared->Prop),Q' (some (v,nx)) s->wpAny (model prog w) A' (setNext a sl i ep) Q' E' s)
    (hQ:∀ h',SIt h' I (.int nx 0) (i+1) a n ep->Heap.SameBut I s.heap h'->Q (some v) { s with heap:=h' }):wpAny (model prog w) A (pyNext (.ref I)) Q E s:=by
  refine sit_open x y hn ?_
  obtain ⟨oi,hi,ci,di⟩:=id x
  dsimp only
  rw [Int.toNat_natCast]
  refine wpAny_bind (hx _ _ _ ?_)
  dsimp only
  refine wpAny_bind (wpAny_setField hi di (by simp) ?_)
  obtain ⟨o1,g1,c1,d1⟩:=SIt.upd hi ci di 0 (rawInt nx)
  refine wpAny_bind (wpAny_setField g1 d1 (by simp) ?_)
  refine wpAny_pure ⟨v,rfl,hQ _ ?_ ((Heap.SameBut.update ..).trans (Heap.SameBut.update ..))⟩
  exact ⟨_,Heap.get?_update_self _ g1 (Obj.isFreed_of_fields (Obj.data_mapFields d1 _)),(Obj.cls_mapFields ..).trans c1,by rw [Obj.data_mapFields d1];simp [rawInt]⟩
theorem sit_intE {I a:Addr} {sl i n ep:Nat} {L:Bool} {ks:List Str} {o:Obj} {es:Array (Int × Value)} {t:SetTable} {Q:Option Value->Shared->Prop} (hh:A.handled=none) (x:SIt s.heap I (.int sl 0) i a n ep) (y:SX prog w s.heap a L ks o es ep t) (hn:es.size=n)
    (hx:∀ (A':Around) (E':Value->Shared->Prop) (Q':Option (Value × Nat)->Shared->Prop),Q' none s->wpAny (model prog w) A' (setNext a sl i ep) Q' E' s)
    (hQ:∀ h',(∀ b o,b≠I->s.heap.get? b=some o->h'.get? b=some o)->Q none { s with heap:=h' }):wpAny (model prog w) A (pyNext (.ref I)) Q E s:=by
  refine sit_open x y hn ?_
  obtain ⟨oi,hi,ci,di⟩:=id x
  dsimp only
  rw [Int.toNat_natCast]
  refine wpAny_bind (hx _ _ _ ?_)
  dsimp only
  refine wpAny_bind (wpAny_setField hi di (by simp) ?_)
  exact stop_met hh fun h' k=>hQ h' fun b o hb e=>k b o ((Heap.get?_update_other _ _ (Ne.symm hb)).trans e)
theorem sit_ref {I a tp:Addr} {i n ep pl c:Nat} {L:Bool} {ks:List Str} {o:Obj} {es:Array (Int × Value)} {t:SetTable} {hv:Int} {v:Value} {ps:Array Value} {Q:Option Value->Shared->Prop} (x:SIt s.heap I (.ref tp) i a n ep) (y:SX prog w s.heap a L ks o es ep t) (hn:es.size=n)
    {ot:Obj} (ht:s.heap.get? tp=some ot) (hd:ot.data=.seq ps c) (hp:ps[i]?=some (rawInt pl)) (he:es[pl]?=some (hv,v))
    (hQ:∀ h',SIt h' I (.ref tp) (i+1) a n ep->Heap.SameBut I s.heap h'->Q (some v) { s with heap:=h' }):wpAny (model prog w) A (pyNext (.ref I)) Q E s:=by
  refine sit_open x y hn ?_
  obtain ⟨oi,hi,ci,di⟩:=id x
  dsimp only
  refine wpAny_bind (wpAny_seqItems ht hd ?_)
  dsimp only
  rw [hp]
  dsimp only [rawInt]
  unfold setNextDrawn
  refine wpAny_bind (wpAny_bind (wpAny_setState_of y.at_ y.dt y.fits ?_))
  dsimp only
  rw [if_neg (by simp),Int.toNat_natCast,he]
  refine wpAny_pure ?_
  refine wpAny_bind (wpAny_setField hi di (by simp) ?_)
  refine wpAny_pure ⟨v,rfl,hQ _ ?_ (Heap.SameBut.update ..)⟩
  exact ⟨_,Heap.get?_update_self _ hi (Obj.isFreed_of_fields (Obj.data_mapFields di _)),(Obj.cls_mapFields ..).trans ci,by rw [Obj.data_mapFields di];simp⟩
theorem sit_refE {I a tp:Addr} {i n ep c:Nat} {L:Bool} {ks:List Str} {o:Obj} {es:Array (Int × Value)} {t:SetTable} {ps:Array Value} {Q:Option Value->Shared->Prop} (hh:A.handled=none) (x:SIt s.heap I (.ref tp) i a n ep) (y:SX prog w s.heap a L ks o es ep t) (hn:es.size=n)
    {ot:Obj} (ht:s.heap.get? tp=some ot) (hd:ot.data=.seq ps c) (hp:ps[i]?=none)
    (hQ:∀ h',(∀ b o,b≠I->s.heap.get? b=some o->h'.get? b=some o)->Q none { s with heap:=h' }):wpAny (model prog w) A (pyNext (.ref I)) Q E s:=by
  refine sit_open x y hn ?_
  obtain ⟨oi,hi,ci,di⟩:=id x
  dsimp only
  refine wpAny_bind (wpAny_seqItems ht hd ?_)
  dsimp only
  rw [hp]
  dsimp only
  refine wpAny_bind (wpAny_setField hi di (by simp) ?_)
  obtain ⟨o1,g1,c1,d1⟩:=SIt.upd hi ci di 0 (rawInt 0)
  refine wpAny_bind (wpAny_setField g1 d1 (by simp) ?_)
  exact stop_met hh fun h' k=>hQ h' fun b o hb e=>k b o ((Heap.get?_update_other _ _ (Ne.symm hb)).trans ((Heap.get?_update_other _ _ (Ne.symm hb)).trans e))
end
end L2
namespace L2
open PySem PySem.Spec PyProof.Rows
theorem out_perm {α:Type}:∀ (l:List α) (i:Nat) (x:α),l[i]?=some x->(x::l.eraseIdx i).Perm l
  | [],i,x,h=>by simp at h
  | a::l,0,x,h=>by simp at h;subst h;exact List.Perm.refl _
  | a::l,i+1,x,h=>by
    rw [List.eraseIdx_cons_succ]
    exact (List.Perm.swap a x _).trans ((out_perm l i x (by simpa using h)).cons a)
theorem jcj {α:Type} (f:Nat->Nat):∀ (fuel k:Nat) (left:List α) (out:Array α),left.length=fuel->(pickOrder.go f fuel k left out).toList.Perm (out.toList++left)
  | 0,k,left,out,h=>by
    rw [List.length_eq_zero_iff.mp h,List.append_nil]
    exact List.Perm.refl _
  | fuel+1,k,left,out,h=>by
    have hlt:f k % left.length < left.length:=Nat.mod_lt _ (by omega)
    unfold pickOrder.go
    rw [List.getElem?_eq_getElem hlt]
    dsimp only
    refine (jcj f fuel (k+1) _ _ (by rw [List.length_eraseIdx_of_lt hlt];omega)).trans ?_
    rw [Array.toList_push,List.append_assoc]
    exact List.Perm.append_left _ (out_perm left _ _ (List.getElem?_eq_getElem hlt))
theorem jbz {α:Type} (f:Nat->Nat) (es:Array α):(pickOrder f es).toList.Perm es.toList:=by
  have:=jcj f es.size 0 es.toList #[] (by simp)
  simpa [pickOrder] using this
section
variable {prog:Program} {w:World} {A:Around} {E:Value->Shared->Prop} {s:Shared}
theorem choose_any {src:Source} {n:Nat} {Q:Nat->Shared->Prop} (hn:0 < n) (h:∀ i dr,i < n->Q i { s with drawn:=dr }):wpAny (model prog w) A (choose src n) Q E s:=fun Γ p hΓ=>by
  show Sem.wp _ Γ (.choose src n .pure) _ _ p s
  rw [Sem.wp_choose]
  exact ⟨by omega,h _ _ (Nat.mod_lt _ hn)⟩
theorem draw_any {α:Type}:∀ (n:Nat) (xs:List α) (s:Shared) {Q:List α->Shared->Prop},xs.length=n->(∀ ys dr,ys.Perm xs->Q ys { s with drawn:=dr })->wpAny (model prog w) A (drawOrder n xs) Q E s
  | 0,xs,s,Q,hl,h=>by
    unfold drawOrder
    exact wpAny_pure (h [] s.drawn (by rw [List.length_eq_zero_iff.mp hl]))
  | n+1,[],s,Q,hl,h=>by simp at hl
  | n+1,x::xs,s,Q,hl,h=>by
    unfold drawOrder
    refine wpAny_bind (choose_any (by simp) fun i dr hi=>?_)
    rw [List.getElem?_eq_getElem hi]
    dsimp only
    refine wpAny_bind (draw_any n _ _ (by rw [List.length_eraseIdx_of_lt hi];omega) fun ys dr' hp=>wpAny_pure (h _ dr' ?_))
    exact (hp.cons _).trans (out_perm _ i _ (List.getElem?_eq_getElem hi))
theorem SX.str {h:Heap} {a:Addr} {L:Bool} {ks:List Str} {o:Obj} {es:Array (Int × Value)} {ep:Nat} {t:SetTable} (x:SX prog w h a L ks o es ep t) {e:Int × Value} (he:e ∈ es.toList):∃ tk,e.2=.str (keyE e) tk:=by
  obtain ⟨⟨k,hk,_⟩,_⟩:=x.el e he
  have hk':Value.isStrOf k e.2=true:=hk
  rw [keyE_of hk']
  exact Value.isStrOf_shape hk'
theorem next_text {a:Addr} {L:Bool} {ks:List Str} {o:Obj} {es:Array (Int × Value)} {ep:Nat} {t:SetTable} {sl i:Nat} {Q:Option (Value × Nat)->Shared->Prop} (hB:w.params.followText "set-order"=true) (x:SX prog w s.heap a L ks o es ep t)
    (h:Q (((pickOrder (w.params.setOrder a ep) es)[i]?).map fun e=>(e.2,sl)) s):wpAny (model prog w) A (setNext a sl i ep) Q E s:=by
  unfold setNext setsByText
  refine wpAny_bind (wpAny_setState_of x.at_ x.dt x.fits ?_)
  dsimp only
  refine wpAny_bind (wpAny_bind (wpAny_askSetting (wpAny_pure ?_)))
  refine wpAny_ite_split (fun _=>?_) (fun q=>absurd hB q)
  refine wpAny_ite_split (fun q=>absurd q (by simp)) (fun _=>?_)
  unfold setWalk setsByText
  refine wpAny_bind (wpAny_bind (wpAny_setState_of x.at_ x.dt x.fits ?_))
  dsimp only
  refine wpAny_bind (wpAny_bind (wpAny_askSetting (wpAny_pure ?_)))
  refine wpAny_ite_split (fun _=>?_) (fun q=>absurd hB q)
  exact wpAny_bind (wpAny_askSetting (wpAny_pure (wpAny_pure h)))
theorem next_slot {a:Addr} {ks:List Str} {o:Obj} {es:Array (Int × Value)} {ep:Nat} {t:SetTable} {sl i:Nat} {Q:Option (Value × Nat)->Shared->Prop} (hB:w.params.followText "set-order"=false) (x:SX prog w s.heap a true ks o es ep t) (h1:es.size<=1)
    (h:Q (match es[SetTable.below t.place sl]?,t.place[SetTable.below t.place sl]? with | some (_,x),some j=>some (x,j+1) | _,_=>none) s):wpAny (model prog w) A (setNext a sl i ep) Q E s:=by
  unfold setNext setsByText
  refine wpAny_bind (wpAny_setState_of x.at_ x.dt x.fits ?_)
  dsimp only
  refine wpAny_bind (wpAny_bind (wpAny_askSetting (wpAny_pure ?_)))
  have hB':¬ w.params.followText "set-order"=true:=by rw [hB];decide
  refine wpAny_ite_split (fun q=>absurd q hB') (fun _=>?_)
  refine wpAny_ite_split (fun q=>?_) (fun _=>?_)
  · have q':(!t.plain && decide (es.size > 1))=true:=q
    simp at q'
    omega
  refine wpAny_bind (show wpAny _ _ (if (!t.led && !es.isEmpty)=true then unsupported _ else pure ()) _ _ _ from ?_)
  refine wpAny_ite_split (fun q=>absurd q (by rw [x.led];simp)) (fun _=>wpAny_pure (wpAny_pure h))
theorem SX.keep {h h':Heap} {a:Addr} {L:Bool} {ks:List Str} {o:Obj} {es:Array (Int × Value)} {ep:Nat} {t:SetTable} (x:SX prog w h a L ks o es ep t) (k:∀ o,h.get? a=some o->h'.get? a=some o):SX prog w h' a L ks o es ep t:=x.to (k _ x.at_)
theorem SIt.keep {h h':Heap} {I:Addr} {f:Value} {i:Nat} {a:Addr} {n ep:Nat} (x:SIt h I f i a n ep) (k:∀ o,h.get? I=some o->h'.get? I=some o):SIt h' I f i a n ep:=let ⟨o,g,c,d⟩:=x;⟨o,k _ g,c,d⟩
theorem walk_text {a I:Addr} (hne:a≠I) {L:Bool} {ks:List Str} {o:Obj} {es:Array (Int × Value)} {ep:Nat} {t:SetTable} (hB:w.params.followText "set-order"=true) (hh:A.handled=none) :
    Walks prog w A I [I,a] [I] ((pickOrder (w.params.setOrder a ep) es).toList.map keyE).length (fun i v=>∃ tk,v=.str (((pickOrder (w.params.setOrder a ep) es).toList.map keyE).getD i ⟨#[]⟩) tk)
      (fun i h=>SIt h I (.int (0:Nat) 0) i a es.size ep/\SX prog w h a L ks o es ep t) where
  sub:=fun b hb=>by simp at hb;simp [hb]
  frame:=fun _ _ _ st hk=>⟨st.1.keep fun o e=>hk I (by simp) o e,st.2.keep fun o e=>hk a (by simp) o e⟩
  item:=fun i s Q E hi st hQ=>by
    rw [List.length_map] at hi
    have hg:(pickOrder (w.params.setOrder a ep) es).toList[i]?=some ((pickOrder (w.params.setOrder a ep) es).toList[i]):=List.getElem?_eq_getElem hi
    have hm:=(jbz (w.params.setOrder a ep) es).mem_iff.mp (List.getElem_mem hi)
    generalize (pickOrder (w.params.setOrder a ep) es).toList[i]=e at hg hm
    obtain ⟨tk,ek⟩:=st.2.str hm
    refine sit_int (v:=e.2) (nx:=0) st.1 st.2 rfl (fun A' E' Q' q=>next_text hB st.2 ?_) fun h' x' k=>hQ e.2 h' s.toks ⟨tk,?_⟩ ⟨x',st.2.keep fun o g=>(k.2 a hne).trans g⟩ fun b o hb g=>(k.2 b (by simpa using hb)).trans g
    · rw [← Array.getElem?_toList,hg]
      exact q
    · rw [ek,List.getD_eq_getElem?_getD,List.getElem?_map,hg]
      rfl
  done:=fun s Q E st hQ=>by
    refine sit_intE hh st.1 st.2 rfl (fun A' E' Q' q=>next_text hB st.2 ?_) fun h' k=>hQ h' s.toks fun b o hb g=>k b o (by simpa using hb) g
    rw [← Array.getElem?_toList,List.length_map,List.getElem?_eq_none (Nat.le_refl _)]
    exact q
  self:=fun _ _ _ _ st hQ=>sit_self st.1 hQ
theorem walk_drawn {a I tp:Addr} (hne:a≠I) (hnt:tp≠I) {L:Bool} {ks:List Str} {o ot:Obj} {es:Array (Int × Value)} {ep c:Nat} {t:SetTable} {ps:List Nat} (hp:ps.Perm (List.range es.size)) (hd:ot.data=.seq (ps.map fun (i:Nat)=>rawInt i).toArray c) (hh:A.handled=none) :
    Walks prog w A I [I,a,tp] [I] (ps.map fun p=>keyE (es.toList.getD p (0,.none))).length (fun i v=>∃ tk,v=.str ((ps.map fun p=>keyE (es.toList.getD p (0,.none))).getD i ⟨#[]⟩) tk)
      (fun i h=>SIt h I (.ref tp) i a es.size ep/\SX prog w h a L ks o es ep t/\h.get? tp=some ot) where
  sub:=fun b hb=>by simp at hb;simp [hb]
  frame:=fun _ _ _ st hk=>⟨st.1.keep fun o e=>hk I (by simp) o e,st.2.1.keep fun o e=>hk a (by simp) o e,hk tp (by simp) _ st.2.2⟩
  item:=fun i s Q E hi st hQ=>by
    rw [List.length_map] at hi
    have hg:ps[i]?=some ps[i]:=List.getElem?_eq_getElem hi
    have hm:=List.mem_range.mp (hp.mem_iff.mp (List.getElem_mem hi))
    generalize ps[i]=pl at hg hm
    have hm':pl < es.toList.length:=by simpa using hm
    have he:es.toList[pl]?=some es.toList[pl]:=List.getElem?_eq_getElem hm'
    have hmem:=List.getElem_mem hm'
    generalize es.toList[pl]=e at he hmem
    obtain ⟨tk,ek⟩:=st.2.1.str hmem
    refine sit_ref (pl:=pl) (hv:=e.1) (v:=e.2) st.1 st.2.1 rfl st.2.2 hd (by simp [hg]) (by rw [← Array.getElem?_toList,he]) fun h' x' k=>hQ e.2 h' s.toks ⟨tk,?_⟩ ⟨x',st.2.1.keep fun o g=>(k.2 a hne).trans g,(k.2 tp hnt).trans st.2.2⟩ fun b o hb g=>(k.2 b (by simpa using hb)).trans g
    rw [ek,List.getD_eq_getElem?_getD,List.getElem?_map,hg]
    show Value.str (keyE e) tk=.str (keyE (es.toList.getD pl (0,.none))) tk
    rw [List.getD_eq_getElem?_getD,he]
    rfl
  done:=fun s Q E st hQ=>by
    refine sit_refE hh st.1 st.2.1 rfl st.2.2 hd ?_ fun h' k=>hQ h' s.toks fun b o hb g=>k b o (by simpa using hb) g
    simp
  self:=fun _ _ _ _ st hQ=>sit_self st.1 hQ
def slotAt (t:SetTable) (i:Nat):Nat:=if i=0 then 0 else t.place.getD 0 0+1
theorem walk_slot {a I:Addr} (hne:a≠I) {ks:List Str} {o:Obj} {es:Array (Int × Value)} {ep:Nat} {t:SetTable} (hB:w.params.followText "set-order"=false) (h1:es.size<=1) (hf:t.fits es.size=true) (hh:A.handled=none) :
    Walks prog w A I [I,a] [I] (es.toList.map keyE).length (fun i v=>∃ tk,v=.str ((es.toList.map keyE).getD i ⟨#[]⟩) tk)
      (fun i h=>SIt h I (.int (slotAt t i:Nat) 0) i a es.size ep/\SX prog w h a true ks o es ep t) where
  sub:=fun b hb=>by simp at hb;simp [hb]
  frame:=fun _ _ _ st hk=>⟨st.1.keep fun o e=>hk I (by simp) o e,st.2.keep fun o e=>hk a (by simp) o e⟩
  item:=fun i s Q E hi st hQ=>by
    rw [List.length_map,Array.length_toList] at hi
    have hi0:i=0:=by omega
    subst hi0
    have hz:es.size=1:=by omega
    have hps:t.place.size=1:=by
      simp only [SetTable.fits,Bool.and_eq_true,beq_iff_eq] at hf
      omega
    obtain ⟨e,he⟩:∃ e,es=#[e]:=Array.size_eq_one_iff.mp hz
    obtain ⟨j,hj⟩:∃ j,t.place=#[j]:=Array.size_eq_one_iff.mp hps
    obtain ⟨tk,ek⟩:=st.2.str (e:=e) (by rw [he];simp)
    have hb0:SetTable.below t.place 0=0:=by rw [hj];simp [SetTable.below,SetTable.below.go]
    refine sit_int (v:=e.2) (nx:=j+1) st.1 st.2 rfl (fun A' E' Q' q=>next_slot hB st.2 h1 ?_) fun h' x' k=>hQ e.2 h' s.toks ⟨tk,?_⟩ ⟨?_,st.2.keep fun o g=>(k.2 a hne).trans g⟩ fun b o hb g=>(k.2 b (by simpa using hb)).trans g
    · show Q' (match es[SetTable.below t.place 0]?,t.place[SetTable.below t.place 0]? with | some (_,x),some j=>some (x,j+1) | _,_=>none) s
      rw [hb0,he,hj]
      exact q
    · rw [ek,he]
      rfl
    · have:slotAt t 1=j+1:=by unfold slotAt;rw [hj];rfl
      rw [this]
      exact x'
  done:=fun s Q E st hQ=>by
    rw [List.length_map,Array.length_toList] at st
    refine sit_intE hh st.1 st.2 rfl (fun A' E' Q' q=>next_slot hB st.2 h1 ?_) fun h' k=>hQ h' s.toks fun b o hb g=>k b o (by simpa using hb) g
    have hps:t.place.size=es.size:=by
      simp only [SetTable.fits,Bool.and_eq_true,beq_iff_eq] at hf
      exact hf.1
    have hx:es.size<=SetTable.below t.place (slotAt t es.size):=by
      by_cases hz:es.size=0
      · omega
      · have hz1:es.size=1:=by omega
        obtain ⟨j,hj⟩:∃ j,t.place=#[j]:=Array.size_eq_one_iff.mp (hps.trans hz1)
        rw [hz1]
        unfold slotAt
        rw [hj]
        simp [SetTable.below,SetTable.below.go]
    rw [Array.getElem?_eq_none hx]
    exact q
  self:=fun _ _ _ _ st hQ=>sit_self st.1 hQ
theorem iter_set {a:Addr} {ks:List Str} {o:Obj} {es:Array (Int × Value)} {ep:Nat} {t:SetTable} {Q:Value->Shared->Prop} (x:SX prog w s.heap a (!w.params.followText "set-order") ks o es ep t) (hlt:a < s.heap.objs.size)
    (hQ:∀ (I:Addr) (h':Heap) (dr:Drawn) (fp:List Addr) (ord:List Str) (St:Nat->Heap->Prop),(∀ b o,s.heap.get? b=some o->h'.get? b=some o)->s.heap.objs.size<=I->I < h'.objs.size->ord.Perm ks ->
      (∀ A':Around,A'.handled=none->Walks prog w A' I fp [I] ord.length (fun i v=>∃ tk,v=.str (ord.getD i ⟨#[]⟩) tk) St)->(∀ b ∈ fp,b=a∨s.heap.objs.size<=b/\b < h'.objs.size)->St 0 h'->Q (.ref I) { s with heap:=h',drawn:=dr }) :
    wpAny (model prog w) A (pyIter (.ref a)) Q E s:=by
  have hT:s.TypeIs (.ref a) "set":=⟨o,x.at_,x.ex.1⟩
  refine wpAny_pyIter_slot hT PySem.F.slot_set_iter (wpAny_call_entry PySem.F.slot_set_iter hT set_iter_entry ?_ (PySem.F.args_set_iter_1 _))
  unfold Builtin.«frozenset.__iter__» Builtin.Frozenset.slot0 Builtin.Frozenset.sizeOf
  refine wpAny_bind (wpAny_bind (wpAny_pure (wpAny_pure ?_)))
  refine wpAny_bind (wpAny_bind (wpAny_setEntries_of x.at_ x.dt x.fits (wpAny_pure ?_)))
  unfold setDrawn setsByText
  refine wpAny_bind (wpAny_bind (wpAny_setState_of x.at_ x.dt x.fits ?_))
  dsimp only
  refine wpAny_bind (wpAny_bind (wpAny_askSetting (wpAny_pure (wpAny_pure ?_))))
  have mk:∀ (f:Value) (s1:Shared) (R:Shared->Prop),SX prog w s1.heap a (!w.params.followText "set-order") ks o es ep t->R { s1 with heap:=s1.heap.push { cls:=.type "set_iterator",data:=.fields #[f,.int (0:Nat) 0,.ref a,.int es.size 0,.int ep 0] } } ->
      wpAny (model prog w) A.in1 (do
        let e ← setEpoch a
        let v ← newFields "set_iterator" [f,rawInt 0,.ref a,rawInt es.size,rawInt e]
        ret v) (fun fin s'=>∃ v,fin=Fin.done (Flow.ret v)/\v=.ref s1.heap.objs.size/\R s') E s1:=by
    intro f s1 R x1 hR
    refine wpAny_bind (wpAny_setEpoch_of x1.at_ x1.dt x1.fits ?_)
    unfold newFields
    exact wpAny_bind (wpAny_newObj_type (wpAny_pure ⟨_,rfl,rfl,hR⟩) (by size_fits))
  by_cases hB:w.params.followText "set-order"=true
  · refine wpAny_ite_split (fun q=>?_) (fun _=>?_)
    · have q':(!w.params.followText "set-order" && (!t.plain && decide (es.size > 1)))=true:=q
      rw [hB] at q'
      cases q'
    refine wpAny_bind (wpAny_pure ?_)
    refine wpAny_mono (mk (rawInt 0) s (fun s'=>∃ T' r,s'.TypeIs (.ref s.heap.objs.size) T'/\typeLookup (.type T') (Str.ofString "__next__")=pure (some r)/\Q (.ref s.heap.objs.size) s') x ?_) (fun fin s' ⟨v,e1,e2,r⟩=>⟨v,e1,by rw [e2];exact r⟩) fun _ _ q=>q
    have hI:(s.heap.push { cls:=.type "set_iterator",data:=.fields #[rawInt 0,.int (0:Nat) 0,.ref a,.int es.size 0,.int ep 0] }).get? s.heap.objs.size=some { cls:=.type "set_iterator",data:=.fields #[rawInt 0,.int (0:Nat) 0,.ref a,.int es.size 0,.int ep 0] }:=Heap.get?_push_size _ rfl
    refine ⟨"set_iterator",_,⟨_,hI,rfl⟩,sit_next.lookup,?_⟩
    exact hQ _ _ s.drawn [s.heap.objs.size,a] _ _ (fun b o e=>Heap.get?_push_of_some _ e) (Nat.le_refl _) (by rw [Heap.size_push];exact Nat.lt_succ_self _) (((jbz (w.params.setOrder a ep) es).map keyE).trans x.key)
      (fun A' hh=>walk_text (L:=!w.params.followText "set-order") (ks:=ks) (o:=o) (t:=t) (Nat.ne_of_lt hlt) hB hh) (fun b hb=>by
        rcases List.mem_cons.mp hb with rfl | hb
        · exact .inr ⟨Nat.le_refl _,by rw [Heap.size_push];exact Nat.lt_succ_self _⟩
        · exact .inl (List.mem_singleton.mp hb)) ⟨⟨_,hI,rfl,rfl⟩,x.keep fun o e=>Heap.get?_push_of_some _ e⟩
  · have hB':w.params.followText "set-order"=false:=by simpa using hB
    refine wpAny_ite_split (fun q=>?_) (fun q=>?_)
    · refine wpAny_bind (draw_any es.size (List.range es.size) s (by simp) fun ps dr hp=>?_)
      have pl:ps.length=es.size:=by rw [hp.length_eq,List.length_range]
      unfold newTuple
      refine wpAny_bind (wpAny_newObj_type ?_ (by
        show (ps.map fun (i:Nat)=>rawInt i).toArray.size<=sizeLine
        rw [List.size_toArray,List.length_map,pl]
        exact fits_of_scanBound x.sz))
      have x1:SX prog w (s.heap.push { cls:=.type "tuple",data:=.seq (ps.map fun (i:Nat)=>rawInt i).toArray }) a (!w.params.followText "set-order") ks o es ep t:=x.keep fun o e=>Heap.get?_push_of_some _ e
      refine wpAny_mono (mk (.ref s.heap.objs.size) { s with drawn:=dr,heap:=s.heap.push { cls:=.type "tuple",data:=.seq (ps.map fun (i:Nat)=>rawInt i).toArray } } (fun s'=>∃ T' r,s'.TypeIs (.ref (s.heap.push { cls:=.type "tuple",data:=.seq (ps.map fun (i:Nat)=>rawInt i).toArray }).objs.size) T'/\typeLookup (.type T') (Str.ofString "__next__")=pure (some r)/\Q (.ref (s.heap.push { cls:=.type "tuple",data:=.seq (ps.map fun (i:Nat)=>rawInt i).toArray }).objs.size) s') x1 ?_) (fun fin s' ⟨v,e1,e2,r⟩=>⟨v,e1,by rw [e2];exact r⟩) fun _ _ q=>q
      have ht:(s.heap.push { cls:=.type "tuple",data:=.seq (ps.map fun (i:Nat)=>rawInt i).toArray }).get? s.heap.objs.size=some { cls:=.type "tuple",data:=.seq (ps.map fun (i:Nat)=>rawInt i).toArray }:=Heap.get?_push_size _ rfl
      have hs1:(s.heap.push { cls:=.type "tuple",data:=.seq (ps.map fun (i:Nat)=>rawInt i).toArray }).objs.size=s.heap.objs.size+1:=Heap.size_push ..
      have kk:∀ b o,s.heap.get? b=some o->(s.heap.push { cls:=.type "tuple",data:=.seq (ps.map fun (i:Nat)=>rawInt i).toArray }).get? b=some o:=fun b o e=>Heap.get?_push_of_some _ e
      generalize s.heap.push { cls:=.type "tuple",data:=.seq (ps.map fun (i:Nat)=>rawInt i).toArray }=h1 at x1 ht hs1 kk
      have hI:(h1.push { cls:=.type "set_iterator",data:=.fields #[.ref s.heap.objs.size,.int (0:Nat) 0,.ref a,.int es.size 0,.int ep 0] }).get? h1.objs.size=some { cls:=.type "set_iterator",data:=.fields #[.ref s.heap.objs.size,.int (0:Nat) 0,.ref a,.int es.size 0,.int ep 0] }:=Heap.get?_push_size _ rfl
      have hs2:(h1.push { cls:=.type "set_iterator",data:=.fields #[.ref s.heap.objs.size,.int (0:Nat) 0,.ref a,.int es.size 0,.int ep 0] }).objs.size=h1.objs.size+1:=Heap.size_push ..
      refine ⟨"set_iterator",_,⟨_,hI,rfl⟩,sit_next.lookup,?_⟩
      have hne:a≠h1.objs.size:=by rw [hs1];exact Nat.ne_of_lt (Nat.lt_succ_of_lt hlt)
      have hnt:s.heap.objs.size≠h1.objs.size:=by rw [hs1];exact Nat.ne_of_lt (Nat.lt_succ_self _)
      refine hQ _ _ dr [h1.objs.size,a,s.heap.objs.size] _ _ (fun b o e=>Heap.get?_push_of_some _ (kk b o e)) (by rw [hs1];exact Nat.le_succ _) (by rw [hs2];exact Nat.lt_succ_self _) ?_
        (fun A' hh=>walk_drawn (L:=!w.params.followText "set-order") (ks:=ks) (o:=o) (t:=t) (ep:=ep) hne hnt hp rfl hh) (fun b hb=>?_) ⟨⟨_,hI,rfl,rfl⟩,x1.keep fun o e=>Heap.get?_push_of_some _ e,Heap.get?_push_of_some _ ht⟩
      · refine List.Perm.trans ?_ x.key
        have e2:es.toList.map keyE=(List.range es.size).map fun p=>keyE (es.toList.getD p (0,.none)):=by
          refine List.ext_getElem? fun j=>?_
          rw [List.getElem?_map,List.getElem?_map]
          by_cases hj:j < es.size
          · have hj':j < es.toList.length:=by simpa using hj
            rw [List.getElem?_range hj,List.getElem?_eq_getElem hj']
            show some (keyE es.toList[j])=some (keyE (es.toList.getD j (0,.none)))
            rw [List.getD_eq_getElem?_getD,List.getElem?_eq_getElem hj']
            rfl
          · rw [List.getElem?_eq_none (by simpa using hj),List.getElem?_eq_none (by simpa using hj)]
            rfl
        rw [e2]
        exact hp.map _
      · rcases List.mem_cons.mp hb with rfl | hb
        · exact .inr ⟨by rw [hs1];exact Nat.le_succ _,by rw [hs2];exact Nat.lt_succ_self _⟩
        · rcases List.mem_cons.mp hb with rfl | hb
          · exact .inl rfl
          · rw [List.mem_singleton.mp hb]
            exact .inr ⟨Nat.le_refl _,by rw [hs2,hs1];exact Nat.lt_succ_of_lt (Nat.lt_succ_self _)⟩
    · have q':¬ (!w.params.followText "set-order" && (!t.plain && decide (es.size > 1)))=true:=q
      have h1:es.size<=1:=by
        rw [hB'] at q'
        rcases x.pl with h | h
        · omega
        · rw [h] at q'
          simp at q'
          exact q'
      refine wpAny_bind (wpAny_pure ?_)
      have xt:SX prog w s.heap a true ks o es ep t:=by have:=x;rw [hB'] at this;exact this
      refine wpAny_mono (mk (rawInt 0) s (fun s'=>∃ T' r,s'.TypeIs (.ref s.heap.objs.size) T'/\typeLookup (.type T') (Str.ofString "__next__")=pure (some r)/\Q (.ref s.heap.objs.size) s') x ?_) (fun fin s' ⟨v,e1,e2,r⟩=>⟨v,e1,by rw [e2];exact r⟩) fun _ _ q=>q
      have hI:(s.heap.push { cls:=.type "set_iterator",data:=.fields #[rawInt 0,.int (0:Nat) 0,.ref a,.int es.size 0,.int ep 0] }).get? s.heap.objs.size=some { cls:=.type "set_iterator",data:=.fields #[rawInt 0,.int (0:Nat) 0,.ref a,.int es.size 0,.int ep 0] }:=Heap.get?_push_size _ rfl
      refine ⟨"set_iterator",_,⟨_,hI,rfl⟩,sit_next.lookup,?_⟩
      exact hQ _ _ s.drawn [s.heap.objs.size,a] _ _ (fun b o e=>Heap.get?_push_of_some _ e) (Nat.le_refl _) (by rw [Heap.size_push];exact Nat.lt_succ_self _) x.key
        (fun A' hh=>walk_slot (ks:=ks) (o:=o) (ep:=ep) (Nat.ne_of_lt hlt) hB' h1 x.fits hh) (fun b hb=>by
          rcases List.mem_cons.mp hb with rfl | hb
          · exact .inr ⟨Nat.le_refl _,by rw [Heap.size_push];exact Nat.lt_succ_self _⟩
          · exact .inl (List.mem_singleton.mp hb)) ⟨⟨_,hI,rfl,rfl⟩,xt.keep fun o e=>Heap.get?_push_of_some _ e⟩
end
end L2
namespace L2
open PySem PySem.Spec PyProof.Rows
section
variable {prog:Program} {w:World} {A:Around} {E:Value->Shared->Prop} {s:Shared}
theorem hint_set {r:Addr} {Q:Bool->Shared->Prop} (hT:s.TypeIs (.ref r) "set") (h:Q false s):wpAny (model prog w) A (Builtin.List.listLengthHint (.ref r)) Q E s:=by
  unfold Builtin.List.listLengthHint
  refine wpAny_bind (wpAny_specialOf hT PySem.F.slot_set_len.lookup ?_)
  generalize hid:("set.__len__":String)=id0
  wp_delta
  rw [show splitId id0=some ("set","__len__") from by subst hid;decide +kernel]
  subst hid
  refine wpAny_bind (wpAny_isInstance (T:="set") (b:=true) hT (by rw [isSubtype_type];kernel_rfl) (wpAny_ite_split (fun q=>absurd q (by decide)) (fun _=>?_)))
  refine wpAny_ite_split (fun _=>wpAny_bind (wpAny_typeOf hT ?_)) (fun q=>absurd (by decide +kernel) q)
  exact wpAny_pure h
theorem row_of_set {a S:Addr} {ks:List Str} {o:Obj} {es:Array (Int × Value)} {ep:Nat} {t:SetTable} {R:Result->Shared->Prop} (x:SX prog w s.heap a (!w.params.followText "set-order") ks o es ep t) (hh:A.handled=none) (hSa:S≠a) (hS:s.heap.get? S=some { cls:=.type "list",data:=.seq #[] })
    (hR:∀ (h':Heap) (tk:Nat) (dr:Drawn) (acc:Array Value) (c:Nat) (ord:List Str),(∀ b o,b≠S->s.heap.get? b=some o->h'.get? b=some o)->h'.get? S=some { cls:=.type "list",dict:=none,data:=.seq acc c,slots:=#[] }->ord.Perm ks ->
      ItemsOf (fun i v=>∃ tk,v=.str (ord.getD i ⟨#[]⟩) tk) acc ord.length->R (.ok (.ret (.ref S))) { s with heap:=h',toks:=tk,drawn:=dr }) :
    wpAny (model prog w) A.in1 (Builtin.List.listExtendWith (.ref S) (.ref a) (.ref S))
      (fun fin s'=>match fin with | .done f=>R (.ok f) s' | .again c'=>c'.quiet=true/\codeAny (model prog w) A c' R s') (fun e s'=>R (.error e) s') s:=by
  have hT:s.TypeIs (.ref a) "set":=⟨o,x.at_,x.ex.1⟩
  have hlt:a < s.heap.objs.size:=Heap.lt_size x.at_
  have hSl:S < s.heap.objs.size:=Heap.lt_size hS
  have hks:ks.length<=sizeLine:=by rw [← x.len];exact fits_of_scanBound x.sz
  unfold Builtin.List.listExtendWith
  refine wpAny_bind (wpAny_typeOf (T:="set") hT ?_)
  have e1:Builtin.List.listSameRef (.ref S) (.ref a)=false:=by simp [Builtin.List.listSameRef,hSa]
  simp only [e1,show (Value.type "set" == Value.type "list")=false by decide,show (Value.type "set" == Value.type "tuple")=false by decide,Bool.or_false,Bool.false_eq_true,if_false]
  refine wpAny_bind (iter_set x hlt fun I h1 dr fp ord St k1 hI hI2 hp W hfp st=>?_)
  have x1:=x.keep fun o e=>k1 a o e
  have hT1:({ s with heap:=h1,drawn:=dr }:Shared).TypeIs (.ref a) "set":=⟨o,x1.at_,x.ex.1⟩
  have hS1:=k1 S _ hS
  have hSf:S ∉ fp:=fun q=>by
    rcases hfp S q with q | q
    · exact hSa q
    · exact absurd hSl (Nat.not_lt.mpr q.1)
  have key:∀ (h:Heap) (c1 tk:Nat),St 0 h->(∀ b o,b≠S->h1.get? b=some o->h.get? b=some o)->h.get? S=some { cls:=.type "list",data:=.seq #[] c1 } ->
      codeAny (model prog w) A (.builtin "list.extend.loop" ⟨[.ref S,.ref I,.ref S],[]⟩) R { s with heap:=h,toks:=tk,drawn:=dr }:=by
    intro h c1 tk st' kk hS'
    refine codeAny_extend_loopS (W A.in1 hh).toS (by rw [hp.length_eq];exact hks) S hSf (.ref S) ord.length 0 _ #[] c1 rfl (Nat.zero_le _) st' hS' (ItemsOf.nil _) fun s' acc c' hm hS2 hacc=>?_
    rw [Moved.eq_with hm]
    refine hR s'.heap s'.toks dr acc c' ord (fun b o hb e=>hm.heap b o (fun q=>?_) (kk b o hb (k1 b o e))) hS2 hp hacc
    rcases List.mem_cons.mp q with q | q
    · exact hb q
    · exact absurd (Heap.lt_size e) (Nat.not_lt.mpr (by rw [List.mem_singleton.mp q];exact hI))
  refine wpAny_bind (wpAny_holding (hint_set hT1 ?_))
  refine wpAny_ite_split (fun _=>?_) (fun _=>wpAny_pure ⟨plainId_quiet PySem.F.plain_extend_loop _,key _ 0 _ st (fun b o _ e=>e) hS1⟩)
  refine wpAny_bind (wpAny_rule (wpAny_bind (show wpAny _ _ (updateSeq S (·.push .none) >>= fun _=>updateSeq S (·.pop)) _ _ _ from ?_)))
  refine wpAny_bind (wpAny_updateSeq hS1 rfl ?_)
  have hS2:=Heap.get?_update_self (Obj.mapSeq (·.push Value.none)) hS1 rfl
  refine wpAny_updateSeq (hz:=by seq_fits) hS2 rfl ?_
  have hS3:=Heap.get?_update_self (Obj.mapSeq (·.pop)) hS2 rfl
  have oth:∀ b o,b≠S->h1.get? b=some o->((h1.update S (Obj.mapSeq (·.push Value.none))).update S (Obj.mapSeq (·.pop))).get? b=some o:=fun b o hb e=>(Heap.get?_update_other _ _ (Ne.symm hb)).trans ((Heap.get?_update_other _ _ (Ne.symm hb)).trans e)
  exact wpAny_pure ⟨plainId_quiet PySem.F.plain_extend_loop _,key _ _ _ ((W A.in1 hh).frame 0 _ _ st fun b hb o e=>oth b o (fun q=>hSf (q ▸ hb)) e) oth hS3⟩
theorem collect_set {a:Addr} {ks:List Str} {o:Obj} {es:Array (Int × Value)} {ep:Nat} {t:SetTable} {R:List Value->Shared->Prop} (x:SX prog w s.heap a (!w.params.followText "set-order") ks o es ep t) (hh:A.handled=none)
    (h:∀ (h':Heap) (tk:Nat) (dr:Drawn) (vs:List Value) (ord:List Str),(∀ b o,s.heap.get? b=some o->h'.get? b=some o)->s.heap.objs.size<=h'.objs.size->ord.Perm ks->StrsAre vs ord->R vs { s with heap:=h',toks:=tk,drawn:=dr }) :
    wpAny (model prog w) A (collect (.ref a)) R E s:=by
  have hlt:a < s.heap.objs.size:=Heap.lt_size x.at_
  have areS:∀ (ord:List Str) (vs:List Value),vs.length=ord.length->(∀ (j:Nat) (v:Value),vs[j]?=some v->∃ tk,v=.str (ord.getD j ⟨#[]⟩) tk)->StrsAre vs ord:=by
    intro ord
    induction ord with
    | nil=>intro vs hl _;rw [List.length_eq_zero_iff.mp hl];exact .nil
    | cons k ord ih =>
      intro vs hl hv
      cases vs with
      | nil=>cases hl
      | cons v vs =>
        obtain ⟨tk,rfl⟩:=hv 0 v rfl
        exact .cons _ _ (ih vs (by simpa using hl) fun j u hu=>hv (j+1) u hu)
  unfold collect
  refine wpAny_bind (wpAny_runValue (codeAny_builtin entry_proto_collect' ?_))
  rw [Around.under_plainId PySem.F.plain_proto_collect _]
  refine show wpAny _ A.in1 (newList [] >>= fun l=>again (.builtin "list.__iadd__" ⟨[l,.ref a],[]⟩)) _ _ s from ?_
  refine wpAny_bind (wpAny_newObj_type (wpAny_pure ⟨plainId_quiet PySem.F.plain_list_iadd _,codeAny_builtin entry_list_iadd' ?_⟩))
  rw [Around.under_plainId PySem.F.plain_list_iadd _]
  have hS:(s.heap.push { cls:=.type "list",data:=.seq ([]:List Value).toArray }).get? s.heap.objs.size=some { cls:=.type "list",data:=.seq #[] }:=Heap.get?_push_size _ rfl
  refine show wpAny _ A.in1 (Builtin.List.listExtendWith (.ref s.heap.objs.size) (.ref a) (.ref s.heap.objs.size)) _ _ _ from ?_
  have key:=row_of_set (A:=A) (s:={ s with heap:=s.heap.push { cls:=.type "list",data:=.seq ([]:List Value).toArray } }) (S:=s.heap.objs.size)
    (R:=fun (q:Result) (s':Shared)=>∃ (h':Heap) (tk:Nat) (dr:Drawn) (acc:Array Value) (c:Nat) (ord:List Str),q=.ok (.ret (.ref s.heap.objs.size))/\s'={ s with heap:=h',toks:=tk,drawn:=dr } /\
      (∀ b o,s.heap.get? b=some o->h'.get? b=some o)/\h'.get? s.heap.objs.size=some { cls:=.type "list",dict:=none,data:=.seq acc c,slots:=#[] }/\ord.Perm ks/\StrsAre acc.toList ord)
    (x.keep fun o e=>Heap.get?_push_of_some _ e) hh (Nat.ne_of_gt hlt) hS
    (fun h' tk dr acc c ord hk hS' hp hacc=>⟨h',tk,dr,acc,c,ord,rfl,rfl,fun b o e=>hk b o (Nat.ne_of_lt (Heap.lt_size e)) (Heap.get?_push_of_some _ e),hS',hp,areS ord acc.toList (by rw [Array.length_toList];exact hacc.1) fun j v hv=>hacc.2 j v (by rw [← Array.getElem?_toList];exact hv)⟩)
  refine wpAny_mono key (fun fin s' y=>?_) fun e s' y=>?_
  · cases fin with
    | done f =>
      obtain ⟨h',tk,dr,acc,c,ord,e,rfl,hk,hS',hp,hst⟩:=y
      cases e
      exact wpAny_bind (wpAny_load hS' (wpAny_pure (h h' tk dr _ ord hk (Nat.le_of_lt (Heap.lt_size hS')) hp hst)))
    | again c1 =>
      refine ⟨y.1,codeAny_mono y.2 fun q s2 y2=>?_⟩
      obtain ⟨h',tk,dr,acc,c,ord,rfl,rfl,hk,hS',hp,hst⟩:=y2
      exact wpAny_bind (wpAny_load hS' (wpAny_pure (h h' tk dr _ ord hk (Nat.le_of_lt (Heap.lt_size hS')) hp hst)))
  · obtain ⟨_,_,_,_,_,_,q,_⟩:=y
    cases q
theorem sorted_set {a:Addr} {ks:List Str} {o:Obj} {es:Array (Int × Value)} {ep:Nat} {t:SetTable} {Q:Value->Shared->Prop} (x:SX prog w s.heap a (!w.params.followText "set-order") ks o es ep t) (hh:A.handled=none) (h64:ks.length < 64)
    (h:∀ (D:Addr) (h':Heap) (tk:Nat) (dr:Drawn) (vs:List Value) (ss:List Str) (c:Nat),(∀ b o,s.heap.get? b=some o->h'.get? b=some o)->s.heap.objs.size<=D->h'.get? D=some (seqObj "list" vs.toArray c)->StrsAre vs ss->ss.Perm ks->sortedS ss=true ->
      Q (.ref D) { s with heap:=h',toks:=tk,drawn:=dr }) :
    wpAny (model prog w) A (call (.builtin "sorted") [.ref a]) Q E s:=by
  refine Calls.call_function_entry kind_sorted plain_sorted entry_sorted (args_sorted1 _) ?_
  unfold Builtin.«sorted»
  refine wpAny_bind (m:=checkCount "sorted" 1 1 _) (wpAny_pure ?_)
  refine wpAny_bind (collect_set (A:=A.in1) x hh fun h1 tk dr vs ord k1 z1 hp hst=>?_)
  have hl:vs.length=ord.length:=hst.length
  have ho:ord.length < 64:=by rw [hp.length_eq];exact h64
  refine wpAny_bind (wpAny_newList ?_ (by rw [hl];have:=sizeLine_eq;omega))
  have hD:(h1.push (seqObj "list" vs.toArray 0)).get? h1.objs.size=some (seqObj "list" vs.toArray 0):=Heap.get?_push_size _ rfl
  refine wpAny_bind (wpAny_holding (wpAny_call_entry slot_list_sort ⟨_,hD,rfl⟩ entry_list_sort (list_sort_treeK strKind_oneLt hD hst.keysOf (fun v1 v2 rest e=>keyKind_strs (by rw [← e];exact hst)) (by omega) fun st' a1 a2=>⟨_,rfl,?_⟩) (args_list_sort _)))
  obtain ⟨ss,q1,q2,q3⟩:=sorted_out_str hst a1 a2
  obtain ⟨c,hc⟩:=sortedHeap_at (out:=(arrOf st').map (·.2)) hD
  have hlt1:∀ b o,s.heap.get? b=some o->b < h1.objs.size:=fun b o e=>Heap.lt_size (k1 b o e)
  refine wpAny_pure ⟨_,rfl,h h1.objs.size _ tk dr _ ss c (fun b o e=>?_) z1 (by rw [Array.toArray_toList];exact hc) q1 (q2.trans hp) q3⟩
  rw [sortedHeap_old (Nat.ne_of_lt (hlt1 b o e)) (by rw [Heap.size_push];exact Nat.lt_succ_of_lt (hlt1 b o e))]
  exact Heap.get?_push_of_some _ (k1 b o e)
end
end L2
namespace L2
open PySem PySem.Spec PyProof.Rows
theorem sub_tuple_set:isSubtype (.type "tuple") (.type "set")=pure false:=by rw [isSubtype_type];kernel_rfl
theorem sub_tuple_fs:isSubtype (.type "tuple") (.type "frozenset")=pure false:=by rw [isSubtype_type];kernel_rfl
section
variable {X:Cx} {pins:List (Addr × Obj)} {σ:L2.St} {H:Hp} {s:Shared}
theorem Inv.dr (I:Inv X pins σ H s) (dr:Drawn):Inv X pins σ H { s with drawn:=dr }:=⟨I.ok,I.os,I.bare,I.base,I.loc,I.cell,I.free,I.freeC,I.pin,I.hok,I.len⟩
theorem str_at:∀ {its:List Value} {ss:List Str},StrsAre its ss->∀ (i:Nat) (v:Value),its[i]?=some v->∃ t,v=.str (ss.getD i ⟨#[]⟩) t
  | _,_,.nil,i,v,h=>by simp at h
  | _,_,.cons x t r,0,v,h=>by simp at h;exact ⟨t,h.symm⟩
  | _,_,.cons x t r,i+1,v,h=>str_at r i v (by simpa using h)
def rSortedSet:List V->Hp->VK->Prop:=fun vs H Q=>match vs with
  | [.ref l]=>∃ ss:List Str,seqOf (H l)=some (ss.map V.str)/\ss.length < 64/\∀ (p:Addr) (ss':List Str),H p=none->sortedS ss'=true->ss'.Nodup->(∀ x,x ∈ ss'↔x ∈ ss)->Q (.ref p) (upd H p (.lst (ss'.map V.str)))
  | _=>False
theorem rSortedSet_ref (l:Addr) (H:Hp) (Q:VK):rSortedSet [.ref l] H Q=(∃ ss:List Str,seqOf (H l)=some (ss.map V.str)/\ss.length < 64/\∀ (p:Addr) (ss':List Str),H p=none->sortedS ss'=true->ss'.Nodup->(∀ x,x ∈ ss'↔x ∈ ss)->Q (.ref p) (upd H p (.lst (ss'.map V.str)))):=rfl
def tSortedSet (ta:TE):TE:=tCB rSortedSet (tCons ta tNil)
theorem fm_mem (ss:List Str) (x:Str):x ∈ fmS (fun i=>ss.getD i ⟨#[]⟩) ss.length↔x ∈ ss:=by
  rw [fmS_mem]
  constructor
  · rintro ⟨j,hj,e⟩
    rw [List.getD_eq_getElem?_getD,List.getElem?_eq_getElem hj] at e
    exact e ▸ List.getElem_mem hj
  · intro h
    obtain ⟨j,hj,e⟩:=List.getElem_of_mem h
    exact ⟨j,hj,by rw [List.getD_eq_getElem?_getD,List.getElem?_eq_getElem hj];exact e⟩
theorem set_of {l:Addr} {ss:List Str} {Q:Value->Shared->Prop} (I:Inv X pins σ H s) (hh:X.A.handled=none) (e:seqOf (H l)=some (ss.map V.str)) (hl:ss.length < 64)
    (h:∀ (h':Heap) (tk:Nat),SXO X.prog X.w h' s.heap.objs.size (!X.w.params.followText "set-order") (fmS (fun i=>ss.getD i ⟨#[]⟩) ss.length)->(∀ b o,b < s.heap.objs.size->s.heap.get? b=some o->h'.get? b=some o)->Q (.ref s.heap.objs.size) { s with heap:=h',toks:=tk }) :
    wpAny (model X.prog X.w) X.A (call (.type "set") [.ref l]) Q X.xe s:=by
  cases eo:H l with
  | none=>rw [eo] at e;cases e
  | some ob =>
    rw [eo] at e
    cases ob with
    | lst xs =>
      have ex:xs=ss.map V.str:=by simpa [seqOf] using e
      subst ex
      obtain ⟨its,rr,pl,hz⟩:=I.list (SqL.of eo)
      have hli:=rr.length
      rw [List.length_map] at hli
      have hst:=strsAre_of rr
      obtain ⟨ol,g1,g2,n,g3⟩:=pl.isList
      have hsz:its.toArray.size=ss.length:=by rw [List.size_toArray];exact hli.symm
      refine jbw (T:="list") (IT:="list_iterator") (items:=its.toArray) (ss:=ss) (St:=fun J i h=>h.IsListIter J l i/\h.IsList l its.toArray) hh g1 g2 PySem.F.sub_list_set PySem.F.sub_list_frozenset (by decide) (fun A' E' s' Q' e' q=>wpAny_pyIter_list ⟨ol,e',g2,n,g3⟩ q)
        (fun A' J hA hne=>Walks.list hA J l hne its.toArray) (fun J h e1 e2=>⟨⟨_,e2,rfl,rfl⟩,ol,e1,g2,n,g3⟩) (fun i v hv=>str_at hst i v (by simpa using hv)) (by rw [hsz];unfold scanBound;omega) ?_
      rw [hsz]
      exact h
    | tup xs =>
      have ex:xs=ss.map V.str:=by simpa [seqOf] using e
      subst ex
      obtain ⟨its,rr,pl,hz⟩:=I.tuple (SqT.of eo)
      have hli:=rr.length
      rw [List.length_map] at hli
      have hst:=strsAre_of rr
      obtain ⟨ol,g1,g2,n,g3⟩:=pl
      have hsz:its.toArray.size=ss.length:=by rw [List.size_toArray];exact hli.symm
      refine jbw (T:="tuple") (IT:="tuple_iterator") (items:=its.toArray) (ss:=ss) (St:=fun J i h=>h.IsTupleIter J l i/\h.IsTuple l its.toArray) hh g1 g2 sub_tuple_set sub_tuple_fs (by decide) (fun A' E' s' Q' e' q=>wpAny_pyIter_tuple ⟨ol,e',g2,n,g3⟩ q)
        (fun A' J hA hne=>Walks.tuple hA J l hne its.toArray) (fun J h e1 e2=>⟨⟨_,e2,rfl,rfl⟩,ol,e1,g2,n,g3⟩) (fun i v hv=>str_at hst i v (by simpa using hv)) (by rw [hsz];unfold scanBound;omega) ?_
      rw [hsz]
      exact h
    | _=>simp [seqOf] at e
theorem pe_sortedSet {a:Expr} {ta:TE} {p1 p2 q1 q2:Pos} (hc:X.calm=true) (hg:Gl X "sorted") (hm:X.mg "sorted"=none) (hg2:Gl X "set") (hm2:X.mg "set"=none) (ha:PE X a ta)
    (hs:starEach [(.Call (.Name "set" p2) [a] [] q2)] X.env=[(false,eval (.Call (.Name "set" p2) [a] [] q2) X.env)]:=by rfl) (hs2:starEach [a] X.env=[(false,eval a X.env)]:=by rfl) :
    PE X (.Call (.Name "sorted" p1) [.Call (.Name "set" p2) [a] [] q2] [] q1) (tSortedSet ta):=by
  intro pins s σ H Q I h
  refine wpAny_Call_Name_kw (ld_blt I hg hm bt_sorted (PyProof.Rows.callWith_builtin1 ?_ hs rfl))
  rw [hs]
  refine show wpAny _ _ (spliced ((false,eval (.Call (.Name "set" p2) [a] [] q2) X.env)::[])) _ _ s from Calls.spliced_cons ?_
  have hA:PA X [a] (tCons ta tNil):=jcf ha jcn hs2
  refine wpAny_Call_Name_kw (ld_blt I hg2 hm2 bt_set (PyProof.Rows.callWith_type1 (thn (hA q2 pins s σ H (fun vs H1=>rSortedSet vs H1 Q) I h) fun us s1 ⟨vs,H1,I1,r1,q1⟩=>?_) hs2 rfl))
  replace q1:rSortedSet vs H1 Q:=q1
  unfold rSortedSet at q1
  split at q1
  · rename_i l
    obtain ⟨ss,e,hl,q⟩:=q1
    obtain ⟨u,rfl,ru⟩:=vals1 r1
    cases ru
    have hh:=I1.ok.hd hc
    refine set_of I1 hh e hl fun h' tk hS hk=>Calls.spliced_nil ?_
    obtain ⟨o,es,ep,t,x⟩:=hS
    have fl:=fmS_le (fun i=>ss.getD i ⟨#[]⟩) ss.length
    have I2:Inv X pins σ H1 { s1 with heap:=h',toks:=tk }:=I1.kept fun b o e=>hk b o (Heap.lt_size e) e
    refine sorted_set (s:={ s1 with heap:=h',toks:=tk }) x hh (by omega) fun D h2 tk2 dr vs2 ss2 c k2 hD e2 st2 p2 srt=>?_
    have hsl:ss2.length < 64:=by rw [p2.length_eq];omega
    have hvl:vs2.length=ss2.length:=st2.length
    have hln:sizeLine=16777216:=sizeLine_eq
    have I3:Inv X pins σ (upd H1 D (.lst (ss2.map V.str))) { ({ s1 with heap:=h',toks:=tk }:Shared) with heap:=h2,toks:=tk2 } :=
      I2.laid (fun b o e=>k2 b o e) hD ⟨by rw [List.length_map];omega,vs2,c,vals_of_strs st2,e2⟩
    refine ⟨.ref D,_,I3.dr dr,rfl,q D ss2 (I2.hok.fresh hD) srt (p2.nodup_iff.mpr x.nd) fun y=>?_⟩
    rw [p2.mem_iff]
    exact fm_mem ss y
  · exact q1.elim
theorem jas {a:Expr} {ta:TE} {p1 p2 q1 q2:Pos} (hc:X.calm=true) (hg:Gl X "sorted") (hm:X.mg "sorted"=none) (hg2:Gl X "set") (hm2:X.mg "set"=none) (ha:QE X a ta)
    (hs:starEach [(.Call (.Name "set" p2) [a] [] q2)] X.env=[(false,eval (.Call (.Name "set" p2) [a] [] q2) X.env)]:=by rfl) (hs2:starEach [a] X.env=[(false,eval a X.env)]:=by rfl) :
    QE X (.Call (.Name "sorted" p1) [.Call (.Name "set" p2) [a] [] q2] [] q1) (tSortedSet ta):=⟨pe_sortedSet hc hg hm hg2 hm2 ha.h hs hs2⟩
end
def leS (a b:Str):Prop:=¬ b.cps.toList < a.cps.toList
theorem leS_trans {a b c:Str} (h1:leS a b) (h2:leS b c):leS a c:=fun q=>by
  have e1:a.cps.toList<=b.cps.toList:=List.not_lt.mp h1
  have e2:b.cps.toList<=c.cps.toList:=List.not_lt.mp h2
  exact (List.not_lt.mpr (List.le_trans e1 e2)) q
theorem leS_anti {a b:Str} (h1:leS a b) (h2:leS b a):a=b:=by
  have e:a.cps.toList=b.cps.toList:=List.le_antisymm (List.not_lt.mp h1) (List.not_lt.mp h2)
  obtain ⟨x⟩:=a
  obtain ⟨y⟩:=b
  have:x=y:=Array.toList_inj.mp e
  rw [this]
theorem rising_pw:∀ (p:Str) (l:List Str),risingS p l=true->(p::l).Pairwise leS
  | p,[],_=>by simp
  | p,x::r,h=>by
    simp only [risingS,Bool.and_eq_true,Bool.not_eq_true',ltCps_eq,decide_eq_false_iff_not] at h
    have ih:=rising_pw x r h.2
    refine List.pairwise_cons.mpr ⟨fun y hy=>?_,ih⟩
    rcases List.mem_cons.mp hy with rfl | hy
    · exact h.1
    · exact leS_trans h.1 ((List.pairwise_cons.mp ih).1 y hy)
theorem sorted_pw:∀ {l:List Str},sortedS l=true->l.Pairwise leS
  | [],_=>.nil
  | p::l,h=>rising_pw p l h
theorem sorted_one:∀ {l m:List Str},sortedS l=true->sortedS m=true->l.Nodup->m.Nodup->(∀ x,x ∈ l↔x ∈ m)->l=m:=by
  have gen:∀ (l m:List Str),l.Pairwise leS->m.Pairwise leS->l.Nodup->m.Nodup->(∀ x,x ∈ l↔x ∈ m)->l=m:=by
    intro l
    induction l with
    | nil =>
      intro m _ _ _ _ h
      cases m with
      | nil=>rfl
      | cons y m=>exact absurd ((h y).mpr (.head _)) (by simp)
    | cons a l ih =>
      intro m pl pm nl nm h
      cases m with
      | nil=>exact absurd ((h a).mp (.head _)) (by simp)
      | cons b m =>
        obtain ⟨pa,pl'⟩:=List.pairwise_cons.mp pl
        obtain ⟨pb,pm'⟩:=List.pairwise_cons.mp pm
        obtain ⟨na,nl'⟩:=List.nodup_cons.mp nl
        obtain ⟨nb,nm'⟩:=List.nodup_cons.mp nm
        have hab:a=b:=by
          rcases List.mem_cons.mp ((h a).mp (.head _)) with e | e
          · exact e
          · rcases List.mem_cons.mp ((h b).mpr (.head _)) with e' | e'
            · exact e'.symm
            · exact leS_anti (pa b e') (pb a e)
        subst hab
        rw [ih m pl' pm' nl' nm' fun x=>?_]
        constructor
        · intro hx
          rcases List.mem_cons.mp ((h x).mp (.tail _ hx)) with e | e
          · exact absurd (e ▸ hx) na
          · exact e
        · intro hx
          rcases List.mem_cons.mp ((h x).mpr (.tail _ hx)) with e | e
          · exact absurd (e ▸ hx) nb
          · exact e
  intro l m h1 h2
  exact gen l m (sorted_pw h1) (sorted_pw h2)
end L2
namespace L2
open PySem PySem.Spec PyProof.Rows
def mxF (val:Nat->Int) (M:Int) (j:Nat):Nat->Int
  | 0=>M
  | k+1=>mxF val (if val j > M then val j else M) (j+1) k
def maxL:Int->List Int->Int
  | M,[]=>M
  | M,x::l=>maxL (if x > M then x else M) l
section
variable {prog:Program} {w:World} {A:Around} {E:Value->Shared->Prop} {R:Result->Shared->Prop} {I:Addr} {fp wr:List Addr} {n:Nat} {P:Nat->Value->Prop} {St:Nat->Heap->Prop} {s:Shared}
theorem tree_kw {id:String} {b:Builtin} {args:List Value} {kw:List (Str × Value)} {Q:Value->Shared->Prop} (hk:builtinKind id=none) (hp:plainId id=true) (hb:entryFor table id=some b) (ha:argsOk id ⟨args,kw⟩)
    (hc:wpAny (model prog w) A.in1 (b ⟨args,kw⟩) (fun fin s'=>match fin with
      | .done f=>(match (Except.ok f:Result) with | .ok (.ret v)=>Q v s' | .ok _=>False | .error e=>E e s')
      | .again c'=>c'.quiet=true/\codeAny (model prog w) A c' (fun r s'=>match r with | .ok (.ret v)=>Q v s' | .ok _=>False | .error e=>E e s') s') E s):wpAny (model prog w) A (call (.builtin id) args kw) Q E s:=by
  refine wpAny_call (codeAny_call_builtin hp hb ?_)
  simp only [checkBuiltinCall,hk]
  cases hsig:Manifest.signature? id with
  | none=>exact wpAny_pure hc
  | some sig =>
    have ha':Bind.checkArgs id sig ⟨args,kw⟩=pure ():=by simpa only [argsOk,hsig] using ha
    simp only [ha']
    exact wpAny_pure hc
theorem max_loopI {kw:List (Str × Value)} (W:Walks prog w A.in1 I fp wr n P St) (val:Nat->Int) (hval:∀ i v,P i v->∃ t,v=.int (val i) t) (S:Addr) (hSf:S ∉ fp) :
    ∀ (k j:Nat) (s:Shared) (M:Int) (tm:Tok) (c:Nat),n - j=k->j<=n->St j s.heap->s.heap.get? S=some { cls:=.type "list",dict:=none,data:=.seq #[.int M tm,.int M tm] c,slots:=#[] } ->
      (∀ (h':Heap) (tk:Nat) (t:Tok),(∀ b o,b ∉ S::wr->s.heap.get? b=some o->h'.get? b=some o)->R (.ok (.ret (.int (mxF val M j k) t))) { s with heap:=h',toks:=tk }) ->
      codeAny (model prog w) A (.builtin "max.loop" ⟨[.ref I,.none,.ref S],kw⟩) R s:=by
  have hSw:S ∉ wr:=fun h=>hSf (W.sub _ h)
  have nm:(toString "max"++toString ".loop":String)="max.loop":=by decide
  have nS:∀ {b:Addr},b ∉ S::wr->S≠b:=fun hb e=>hb (e ▸ List.mem_cons_self ..)
  have nW:∀ {b:Addr},b ∉ S::wr->b ∉ wr:=fun hb e=>hb (List.mem_cons_of_mem _ e)
  intro k
  induction k with
  | zero =>
    intro j s M tm c hk hj st hS hR
    have hjn:j=n:=by omega
    subst hjn
    refine codeAny_builtin PySem.F.entry_max_loop ?_
    rw [Around.under_plainId PySem.F.plain_max_loop _]
    refine show wpAny _ A.in1 (seqItems? (.ref S) >>= _) _ _ s from wpAny_bind (wpAny_seqItems hS rfl ?_)
    refine show wpAny _ A.in1 (tryCatch (pyNext (.ref I)) _ >>= _) _ _ s from wpAny_bind (wpAny_tryCatch (W.done s _ _ st fun h1 tk k1=>?_))
    have hS1:=k1 S _ hSw hS
    refine show wpAny _ A.in1 (updateSeq S (fun _=>#[]) >>= _) _ _ _ from wpAny_bind (wpAny_updateSeq hS1 rfl (wpAny_bind (wpAny_letGo (wpAny_pure ?_))))
    exact hR _ tk tm fun b o hb e=>(Heap.get?_update_other _ _ (nS hb)).trans (k1 b o (nW hb) e)
  | succ k ih =>
    intro j s M tm c hk hj st hS hR
    have hlt:j < n:=by omega
    refine codeAny_builtin PySem.F.entry_max_loop ?_
    rw [Around.under_plainId PySem.F.plain_max_loop _]
    refine show wpAny _ A.in1 (seqItems? (.ref S) >>= _) _ _ s from wpAny_bind (wpAny_seqItems hS rfl ?_)
    refine show wpAny _ A.in1 (tryCatch (pyNext (.ref I)) _ >>= _) _ _ s from wpAny_bind (wpAny_tryCatch (W.item j s _ _ hlt st fun v h1 tk hP st1 k1=>?_))
    obtain ⟨tv,rfl⟩:=hval j v hP
    have hS1:=k1 S _ hSw hS
    refine show wpAny _ A.in1 (tryCatch (holding [Value.int (val j) tv,.int (val j) tv] (richCompare .Gt (.int (val j) tv) (.int M tm) >>= _)) _ >>= _) _ _ _ from ?_
    refine wpAny_bind (wpAny_tryCatch (wpAny_holding (wpAny_bind (show wpAny _ A.in1 (compareOp .Gt (.int (val j) tv) (.int M tm)) _ _ _ from PyProof.Rows.gt_int ?_))))
    refine wpAny_bind (wpAny_holding (wpAny_truthy_bool (wpAny_bind (wpAny_letGo (wpAny_pure ?_)))))
    by_cases hb:val j > M
    · rw [decide_eq_true hb,if_pos rfl]
      refine wpAny_bind (wpAny_updateSeq hS1 rfl (wpAny_bind (wpAny_letGo ?_)))
      rw [nm]
      refine wpAny_pure ⟨plainId_quiet PySem.F.plain_max_loop _,ih (j+1) _ (val j) tv _ (by omega) hlt (W.frame _ _ _ st1 fun b hbf o e=>(Heap.get?_update_other _ _ (fun q:S=b=>hSf (q ▸ hbf))).trans e) (Heap.get?_update_self _ hS1 rfl) fun h2 tk2 t k2=>?_⟩
      have:=hR h2 tk2 t fun b o hb e=>k2 b o hb ((Heap.get?_update_other _ _ (nS hb)).trans (k1 b o (nW hb) e))
      rwa [mxF,if_pos hb] at this
    · rw [decide_eq_false hb,if_neg (by decide)]
      refine wpAny_bind (wpAny_letGo ?_)
      rw [nm]
      refine wpAny_pure ⟨plainId_quiet PySem.F.plain_max_loop _,ih (j+1) _ M tm c (by omega) hlt st1 hS1 fun h2 tk2 t k2=>?_⟩
      have:=hR h2 tk2 t fun b o hb e=>k2 b o hb (k1 b o (nW hb) e)
      rwa [mxF,if_neg hb] at this
theorem mxF_list:∀ (ns:List Int) (M:Int) (j:Nat) (all:List Int),all.drop j=ns->mxF (fun i=>all.getD i 0) M j ns.length=maxL M ns
  | [],M,j,all,_=>rfl
  | x::r,M,j,all,h=>by
    have hx:all.getD j 0=x:=by
      have:=congrArg (fun l:List Int=>l[0]?) h
      simp only [List.getElem?_drop,Nat.add_zero,List.getElem?_cons_zero] at this
      rw [List.getD_eq_getElem?_getD,this]
      rfl
    have hr:all.drop (j+1)=r:=by
      rw [← List.drop_drop,h]
      rfl
    rw [List.length_cons,mxF,maxL,hx]
    exact mxF_list r _ (j+1) all hr
theorem max_rest {kw:List (Str × Value)} {l:Addr} {its:List Value} {x:Int} {r:List Int} (hh:A.handled=none) (hl:s.heap.IsList l its.toArray) (hi:∀ (i:Nat) (v:Value),its[i]?=some v->∃ t,v=.int ((x::r).getD i 0) t) (hlen:its.length=(x::r).length)
    (S J:Addr) (hlJ:l≠J) (hlS:l≠S) (hJS:J≠S) (hJ:s.heap.get? J=some { cls:=.type "list_iterator",data:=.fields #[.ref l,.int 0 0] }) (hS:s.heap.get? S=some { cls:=.type "list",data:=.seq #[] })
    (hR:∀ (h':Heap) (tk:Nat) (t:Tok),(∀ b o,b≠S->b≠J->s.heap.get? b=some o->h'.get? b=some o)->R (.ok (.ret (.int (maxL x r) t))) { s with heap:=h',toks:=tk }) :
    codeAny (model prog w) A (.builtin "max.loop" ⟨[.ref J,.none,.ref S],kw⟩) R s:=by
  have W:=Walks.list (prog:=prog) (w:=w) (A:=A.in1) hh J l hlJ its.toArray
  have nm:(toString "max"++toString ".loop":String)="max.loop":=by decide
  have hSf:S ∉ [J,l]:=by simp [hJS.symm,hlS.symm]
  have hSw:S ∉ [J]:=by simp [hJS.symm]
  have hn:its.toArray.size=r.length+1:=by rw [List.size_toArray,hlen];rfl
  refine codeAny_builtin PySem.F.entry_max_loop ?_
  rw [Around.under_plainId PySem.F.plain_max_loop _]
  refine show wpAny _ A.in1 (seqItems? (.ref S) >>= _) _ _ s from wpAny_bind (wpAny_seqItems hS rfl ?_)
  refine show wpAny _ A.in1 (tryCatch (pyNext (.ref J)) _ >>= _) _ _ s from wpAny_bind (wpAny_tryCatch (W.item 0 s _ _ (by omega) ⟨⟨_,hJ,rfl,rfl⟩,hl⟩ fun v h1 tk hP st1 k1=>?_))
  obtain ⟨tv,rfl⟩:=hi 0 v (by simpa using hP)
  have hS1:=k1 S _ hSw hS
  refine show wpAny _ A.in1 (updateSeq S (fun _=>#[_,_]) >>= _) _ _ _ from wpAny_bind (wpAny_updateSeq hS1 rfl ?_)
  rw [nm]
  refine wpAny_pure ⟨plainId_quiet PySem.F.plain_max_loop _,max_loopI W (fun i=>(x::r).getD i 0) (fun i v h=>hi i v (by simpa using h)) S hSf r.length 1 _ x tv _ (by omega) (by omega) ?_ (Heap.get?_update_self _ hS1 rfl) fun h2 tk2 t k2=>?_⟩
  · exact W.frame _ _ _ st1 fun b hb o e=>(Heap.get?_update_other _ _ (fun q:S=b=>hSf (q ▸ hb))).trans e
  · have:=hR h2 tk2 t fun b o hb hb2 e=>k2 b o (by simp [hb,hb2]) ((Heap.get?_update_other _ _ (Ne.symm hb)).trans (k1 b o (by simp [hb2]) e))
    rwa [← mxF_list r x 1 (x::r) rfl] at this
theorem max_ints {kw:List (Str × Value)} {dv:Option Value} {l:Addr} {its:List Value} {ns:List Int} {Q:Value->Shared->Prop} (hh:A.handled=none) (hl:s.heap.IsList l its.toArray) (hi:∀ (i:Nat) (v:Value),its[i]?=some v->∃ t,v=.int (ns.getD i 0) t) (hlen:its.length=ns.length)
    (ha:argsOk "max" ⟨[.ref l],kw⟩) (hbind:Builtin.Builtins.bindParams "max" ["key","default"] 0 ⟨[],kw⟩=pure [none,dv]) (hdv:(dv.toList.map fun d=>(("default":Str),d))=kw) (hne:ns=[]->dv≠none)
    (h:∀ (h':Heap) (tk:Nat) (v:Value),(∀ b o,s.heap.get? b=some o->h'.get? b=some o)->(match ns with | []=>dv=some v | x::r=>∃ t,v=.int (maxL x r) t)->Q v { s with heap:=h',toks:=tk }) :
    wpAny (model prog w) A (call (.builtin "max") [.ref l] kw) Q E s:=by
  have nm:(toString "max"++toString ".loop":String)="max.loop":=by decide
  have hlt:l < s.heap.objs.size:=let ⟨_,g,_⟩:=hl;Heap.lt_size g
  refine tree_kw PySem.F.kind_max PySem.F.plain_max PySem.F.entry_max ha ?_
  refine show wpAny _ A.in1 (Builtin.Builtins.bindParams "max" ["key","default"] 0 ⟨[],kw⟩ >>= _) _ _ s from wpAny_bind (wpAny_of_eq hbind (wpAny_bind (wpAny_pure ?_)))
  refine wpAny_bind (wpAny_pyIter_list hl (wpAny_bind (wpAny_newObj_type ?_)))
  rw [nm]
  have hJ:((s.heap.push { cls:=.type "list_iterator",data:=.fields #[.ref l,.int 0 0] }).push { cls:=.type "list",data:=.seq ([]:List Value).toArray }).get? s.heap.objs.size=some { cls:=.type "list_iterator",data:=.fields #[.ref l,.int 0 0] }:=Heap.get?_push_of_some _ (Heap.get?_push_size _ rfl)
  have hS:((s.heap.push { cls:=.type "list_iterator",data:=.fields #[.ref l,.int 0 0] }).push { cls:=.type "list",data:=.seq ([]:List Value).toArray }).get? (s.heap.push { cls:=.type "list_iterator",data:=.fields #[.ref l,.int 0 0] }).objs.size=some { cls:=.type "list",data:=.seq #[] }:=Heap.get?_push_size _ rfl
  have hz:(s.heap.push { cls:=.type "list_iterator",data:=.fields #[.ref l,.int 0 0] }).objs.size=s.heap.objs.size+1:=Heap.size_push ..
  have kk:∀ b o,s.heap.get? b=some o->((s.heap.push { cls:=.type "list_iterator",data:=.fields #[.ref l,.int 0 0] }).push { cls:=.type "list",data:=.seq ([]:List Value).toArray }).get? b=some o:=fun b o e=>Heap.get?_push_of_some _ (Heap.get?_push_of_some _ e)
  have hl2:((s.heap.push { cls:=.type "list_iterator",data:=.fields #[.ref l,.int 0 0] }).push { cls:=.type "list",data:=.seq ([]:List Value).toArray }).IsList l its.toArray:=let ⟨o,g,c,d⟩:=hl;⟨o,kk l o g,c,d⟩
  generalize (s.heap.push { cls:=.type "list_iterator",data:=.fields #[.ref l,.int 0 0] }).push { cls:=.type "list",data:=.seq ([]:List Value).toArray }=h1 at hJ hS kk hl2
  rw [hz] at hS ⊢
  have hlJ:l≠s.heap.objs.size:=Nat.ne_of_lt hlt
  have hlS:l≠s.heap.objs.size+1:=Nat.ne_of_lt (Nat.lt_succ_of_lt hlt)
  have hJS:s.heap.objs.size≠s.heap.objs.size+1:=Nat.ne_of_lt (Nat.lt_succ_self _)
  refine wpAny_pure ⟨plainId_quiet PySem.F.plain_max_loop _,?_⟩
  have old:∀ b o,s.heap.get? b=some o->b≠s.heap.objs.size+1/\b≠s.heap.objs.size:=fun b o e=>⟨Nat.ne_of_lt (Nat.lt_succ_of_lt (Heap.lt_size e)),Nat.ne_of_lt (Heap.lt_size e)⟩
  cases ns with
  | cons x r=>exact max_rest (s:={ s with heap:=h1 }) hh hl2 hi hlen _ _ hlJ hlS hJS hJ hS fun h' tk t k=>h h' tk _ (fun b o e=>k b o (old b o e).1 (old b o e).2 (kk b o e)) ⟨t,rfl⟩
  | nil =>
    obtain ⟨d,rfl⟩:∃ d,dv=some d:=by
      cases dv with
      | none=>exact absurd rfl (hne rfl)
      | some d=>exact ⟨d,rfl⟩
    have W:=Walks.list (prog:=prog) (w:=w) (A:=A.in1) hh s.heap.objs.size l hlJ its.toArray
    have hn:its.toArray.size=0:=by rw [List.size_toArray,hlen];rfl
    refine codeAny_builtin PySem.F.entry_max_loop ?_
    rw [Around.under_plainId PySem.F.plain_max_loop _]
    refine show wpAny _ A.in1 (seqItems? (.ref (s.heap.objs.size+1)) >>= _) _ _ _ from wpAny_bind (wpAny_seqItems hS rfl ?_)
    refine show wpAny _ A.in1 (tryCatch (pyNext (.ref s.heap.objs.size)) _ >>= _) _ _ _ from wpAny_bind (wpAny_tryCatch (W.done _ _ _ (by rw [hn];exact ⟨⟨_,hJ,rfl,rfl⟩,hl2⟩) fun h2 tk k2=>?_))
    refine wpAny_bind (wpAny_rule (wpAny_pure ?_))
    exact h h2 tk d (fun b o e=>k2 b o (by simp [(old b o e).2]) (kk b o e)) rfl
end
section
variable {X:Cx}
theorem int_at2:∀ {ns:List Int} {us:List Value},Vals (ns.map V.int) us->us.length=ns.length/\∀ (i:Nat) (v:Value),us[i]?=some v->∃ t,v=.int (ns.getD i 0) t
  | [],_,.nil=>⟨rfl,fun i v h=>by simp at h⟩
  | n::ns,_,.cons h r=>by
    obtain ⟨t,rfl⟩:=h
    obtain ⟨h1,h2⟩:=int_at2 r
    refine ⟨by simp [h1],fun i v hv=>?_⟩
    cases i with
    | zero=>simp at hv;exact ⟨t,hv.symm⟩
    | succ i=>exact h2 i v (by simpa using hv)
def rMaxL:List V->Hp->VK->Prop:=fun xs H Q=>match xs with
  | [.ref l]=>∃ (x:Int) (r:List Int),H l=some (.lst ((x::r).map V.int))/\Q (.int (maxL x r)) H
  | _=>False
theorem rMaxL_ref (l:Addr) (H:Hp) (Q:VK):rMaxL [.ref l] H Q=(∃ (x:Int) (r:List Int),H l=some (.lst ((x::r).map V.int))/\Q (.int (maxL x r)) H):=rfl
theorem call_maxL (hc:X.calm=true):CallR X (.builtin "max") rMaxL:=by
  intro pins s σ H xs us Q I r h
  unfold rMaxL at h
  split at h
  · rename_i l
    obtain ⟨x,rs,e,q⟩:=h
    obtain ⟨u,rfl,ru⟩:=vals1 r
    cases ru
    obtain ⟨its,rr,pl,hz⟩:=I.list (SqL.of e)
    obtain ⟨h1,h2⟩:=int_at2 rr
    refine max_ints (kw:=[]) (dv:=none) (I.ok.hd hc) pl.isList h2 h1 (PySem.F.args_max1 _) rfl rfl (fun q=>nomatch q) fun h' tk v k hv=>?_
    obtain ⟨t,rfl⟩:=hv
    exact ⟨.int (maxL x rs),H,I.kept (t':=tk) k,⟨t,rfl⟩,q⟩
  · exact h.elim
end
end L2
namespace L2
open PySem PySem.Spec PyProof.Rows
section
variable {X:Cx}
def rExtendT:V->List V->Hp->VK->Prop:=fun x vs H Q=>match x,vs with
  | .ref l,[.ref b]=>∃ xs,lstOf (H l)=some xs/\∃ zs,tupOf (H b)=some zs/\xs.length+zs.length<=sizeLine/\Q .non (upd H l (.lst (xs++zs)))
  | _,_=>False
theorem rExtendT_ref (H:Hp) (Q:VK) (l b:Addr):rExtendT (.ref l) [.ref b] H Q=(∃ xs,lstOf (H l)=some xs/\∃ zs,tupOf (H b)=some zs/\xs.length+zs.length<=sizeLine/\Q .non (upd H l (.lst (xs++zs)))):=rfl
theorem mt_extendT:MtM X "list.extend" rExtendT:=by
  intro pins s σ H x vs v us Q I rx rv h
  unfold rExtendT at h
  split at h
  · rename_i l b
    obtain ⟨xs,e1,zs,e2,hz,q⟩:=h
    cases rx
    obtain ⟨u,rfl,ru⟩:=rv.one
    cases ru
    have hH:=of_lstOf e1
    have hB:H b=some (.tup zs):=by
      cases eb:H b with
      | none=>rw [eb] at e2;cases e2
      | some o =>
        rw [eb] at e2
        cases o with
        | tup ws => have : ws = zs := by simpa [tupOf] using e2
                    rw [this]
        | _=>simp [tupOf] at e2
    obtain ⟨z,its,n,r,hl,e⟩:=I.lstM hH
    obtain ⟨its2,r2,⟨o2,g2,c2,n2,d2⟩,z2⟩:=I.tuple (SqT.of hB)
    have h1:=r.length
    have h2:=r2.length
    have hT:s.TypeIs (.ref l) "list":=⟨_,e,rfl⟩
    have hlong:(!its.toArray.isEmpty && Builtin.List.listTooLong (its.toArray.size+its2.toArray.size))=false:=by
      rw [notLongL (by rw [List.size_toArray,List.size_toArray];omega),Bool.and_false]
    refine wpAny_call_entry PySem.F.slot_list_extend hT PySem.F.entry_list_extend ?_ (PySem.F.args_list_extend_2 _ _)
    refine show wpAny _ _ (Builtin.List.listExtendWith (.ref l) (.ref b) .none) _ _ s from ?_
    unfold Builtin.List.listExtendWith
    refine wpAny_bind (wpAny_typeOf (T:="tuple") ⟨o2,g2,c2⟩ (wpAny_ite_split (fun _=>?_) (fun q=>absurd (by simp) q)))
    refine wpAny_bind (listItems_at g2 d2 (wpAny_bind (listItems_at e rfl (wpAny_ite_split (fun q=>absurd q (by rw [hlong];decide)) (fun _=>?_)))))
    refine wpAny_bind (listUpdate_at e rfl (wpAny_pure ?_) (by rw [List.size_toArray];omega) (by rw [Array.size_append,List.size_toArray,List.size_toArray];omega))
    exact ⟨_,rfl,.non,_,I.lset (its':=its++its2) (t':=s.toks) hH e (by simp) (r.append r2) (by rw [List.length_append];omega),rfl,q⟩
  · exact h.elim
end
end L2
namespace L2
open PySem PySem.Spec PyProof.Rows
abbrev FZ (o:Obj):HO:=.frz o (.ext fun _=>True)
section
variable {P:Program} {w:World} {H H':Hp} {h h':Heap} {a:Addr} {o:Obj} {cs:List Addr}
theorem FZ.get (x:HOk P w H h) (e:H a=some (FZ o)):h.get? a=some o:=(x a _ e).1
theorem FZ.mk (e:h.get? a=some o):ObjOk P w H h a (FZ o):=⟨e,trivial,⟨o,e⟩,fun _ _ _ _=>trivial⟩
def hideC (H:Hp) (cs:List Addr):Hp:=fun b=>if b ∈ cs then none else H b
def backC (H H':Hp) (cs:List Addr):Hp:=fun b=>if b ∈ cs then H b else H' b
theorem hideC_in (m:a ∈ cs):hideC H cs a=none:=if_pos m
theorem hideC_out (m:a ∉ cs):hideC H cs a=H a:=if_neg m
theorem hideC_some {u:HO} (e:hideC H cs a=some u):a ∉ cs/\H a=some u:=by
  by_cases m:a ∈ cs
  · rw [hideC_in m] at e;cases e
  · exact ⟨m,by rwa [hideC_out m] at e⟩
theorem hideC_none (e:H a=none):hideC H cs a=none:=by unfold hideC;split <;> first | rfl | exact e
theorem backC_in (m:a ∈ cs):backC H H' cs a=H a:=if_pos m
theorem backC_out (m:a ∉ cs):backC H H' cs a=H' a:=if_neg m
theorem HOk.hideC (x:HOk P w H h) (fz:∀ c ∈ cs,∃ o,H c=some (FZ o)):HOk P w (hideC H cs) h:=fun b u q=>by
  obtain ⟨_,q'⟩:=hideC_some q
  refine (x b u q').stay (fun _ _ _ z=>z) (fun c z=>?_) fun c xs z=>?_
  · rw [hideC_out fun m=>by obtain ⟨o,e⟩:=fz c m;rw [z] at e;cases e];exact z
  · rw [hideC_out fun m=>by obtain ⟨o,e⟩:=fz c m;rw [z] at e;cases e];exact z
theorem Un.backC {fs:List Addr} (u:Un fs [] (hideC H cs) H' h h') (fz:∀ c ∈ cs,∃ o,H c=some (FZ o)):Un fs [] H (backC H H' cs) h h' where
  keep:=fun b o e n hb hx=>u.keep b o e (hideC_none n) hb hx
  slot:=fun b o e n hb hx=>u.slot b o e (hideC_none n) hb hx
  free:=fun b o e n hx=>by
    rw [backC_out fun m=>by obtain ⟨o,z⟩:=fz b m;rw [n] at z;cases z]
    exact u.free b o e (hideC_none n) hx
  there:=u.there
  tups:=fun b xs e=>by
    have m:b ∉ cs:=fun m=>by obtain ⟨o,z⟩:=fz b m;rw [e] at z;cases z
    rw [backC_out m];exact u.tups b xs (by rw [hideC_out m];exact e)
  frzs:=fun b o u' e=>by
    by_cases m:b ∈ cs
    · rw [backC_in m];exact e
    · rw [backC_out m];exact u.frzs b o u' (by rw [hideC_out m];exact e)
  tbls:=fun b ps e=>by
    have m:b ∉ cs:=fun m=>by obtain ⟨o,z⟩:=fz b m;rw [e] at z;cases z
    obtain ⟨more,q⟩:=u.tbls b ps (by rw [hideC_out m];exact e)
    exact ⟨more,by rw [backC_out m];exact q⟩
theorem HOk.backC {fs:List Addr} (x:HOk P w H h) (x':HOk P w H' h') (u:Un fs [] (L2.hideC H cs) H' h h') (fz:∀ c ∈ cs,∃ o,H c=some (FZ o)) (nf:∀ c ∈ cs,c ∉ fs):HOk P w (backC H H' cs) h':=fun b v q=>by
  by_cases m:b ∈ cs
  · rw [backC_in m] at q
    obtain ⟨o,e⟩:=fz b m
    rw [e] at q
    cases Option.some.inj q
    exact FZ.mk (u.keep b o (FZ.get x e) (hideC_in m) (nf b m) (by simp))
  · rw [backC_out m] at q
    have no:∀ c ∈ cs,H' c=none:=fun c hc=>by
      obtain ⟨o,e⟩:=fz c hc
      exact u.free c o (FZ.get x e) (hideC_in hc) (by simp)
    refine (x' b v q).stay (fun _ _ _ z=>z) (fun c z=>?_) fun c xs z=>?_
    · rw [backC_out fun hc=>by rw [no c hc] at z;cases z];exact z
    · rw [backC_out fun hc=>by rw [no c hc] at z;cases z];exact z
theorem Kp.backC {S:List Addr} (k:Kp S (L2.hideC H cs) H'):Kp S H (backC H H' cs):=by
  refine ⟨fun b o e n=>?_,fun b xs e=>?_,fun b o e=>?_⟩
  · by_cases m:b ∈ cs
    · rw [backC_in m];exact e
    · rw [backC_out m];exact k.old b o (by rw [hideC_out m];exact e) n
  · by_cases m:b ∈ cs
    · rw [backC_in m];exact e
    · rw [backC_out m];exact k.tup b xs (by rw [hideC_out m];exact e)
  · by_cases m:b ∈ cs
    · exact ⟨o,by rw [backC_in m];exact e⟩
    · rw [backC_out m];exact k.dom b o (by rw [hideC_out m];exact e)
end
structure LamScope (ps fs:List Str) (sc:Scope):Prop where
  kind:sc.kind=.function
  co:sc.isCoroutine=false
  gen:sc.isGenerator=false
  nd:(ps++fs).Nodup
  par:∀ x ∈ ps,sc.names.lookup x=some .local
  nocell:∀ y ∈ sc.names,y.2≠.cell
  fr:∀ x ∈ fs,sc.names.lookup x=some .free
  only:∀ x,sc.names.lookup x=some .free->x ∈ fs
def cxLam (P:Program) (w:World) (K:PySem.W.Frag) (mg:Str->Option Value) (base:Heap) (N:List Str) (qual:Str) (scope:Scope) (f:Addr) (cd:Value) (cl:List (Str × Addr)) (A:Around) (outer:List Env) (s:Shared) (H:Hp):Cx where
  prog:=P
  w:=w
  K:=K
  mg:=mg
  base:=base
  A:=A.deeper (PySem.W.envX qual scope s.heap.objs.size f cd cl)
  N:=N
  s₀:=s
  H₀:=H
  env:=PySem.W.envX qual scope s.heap.objs.size f cd cl
  outer:=outer
  stack:=PySem.W.envX qual scope s.heap.objs.size f cd cl::outer
  ex:=[]
  calm:=true
  fn:=fun _=>false
  pn:=[]
  xe:=fun _ _=>False
structure Caps (H:Hp) (cl:List (Str × Addr)) (fs:List Str) (ws:List V):Prop where
  len:ws.length=fs.length
  at_:∀ (i:Nat) (x:Str) (v:V),fs[i]?=some x->ws[i]?=some v->∃ c o u,cl.lookup x=some c/\H c=some (FZ o)/\o.data=.cell (some u)/\RelV v u
  has:∀ x ∈ fs,∃ c,cl.lookup x=some c
  fz:∀ p ∈ cl,∃ o u,H p.2=some (FZ o)/\o.data=.cell u
  inj:∀ x y c,cl.lookup x=some c->cl.lookup y=some c->x=y
def CodeZ (H:Hp) (c:Addr) (qual:Str):Prop:=∃ oc vs t,H c=some (FZ oc)/\oc.data=.fields vs/\vs[1]?=some (.str qual t)
theorem zip_get {α β:Type}:∀ {l:List α} {m:List β} {i:Nat} {x:α} {y:β},l[i]?=some x->m[i]?=some y->(l.zip m)[i]?=some (x,y)
  | [],_,_,_,_,h,_=>by simp at h
  | _::_,[],_,_,_,_,h=>by simp at h
  | _::_,_::_,0,_,_,h,h'=>by simp at h h';subst h;subst h';rfl
  | _::l,_::m,i+1,_,_,h,h'=>by
    simp at h h'
    simpa using zip_get (l:=l) (m:=m) h h'
theorem lookup_rev {ps:List Str} {us:List Value} (nd:ps.Nodup) {i:Nat} {x:Str} {u:Value} (h:ps[i]?=some x) (h':us[i]?=some u):(ps.zip us).reverse.lookup x=some u:=by
  have key:∀ (l:List (Str × Value)),(l.map Prod.fst).Nodup->(x,u) ∈ l->l.lookup x=some u:=by
    intro l
    induction l with
    | nil=>intro _ m;cases m
    | cons q l ih =>
      intro nd m
      obtain ⟨y,v⟩:=q
      rw [List.map_cons,List.nodup_cons] at nd
      rcases List.mem_cons.mp m with e | m
      · cases e;simp [List.lookup]
      · have:x≠y:=fun e=>nd.1 (by rw [← e];exact List.mem_map.mpr ⟨(x,u),m,rfl⟩)
        rw [List.lookup_cons]
        have b:(x == y)=false:=by simpa using this
        rw [b]
        exact ih nd.2 m
  refine key _ ?_ (List.mem_reverse.mpr (List.mem_of_getElem? (zip_get h h')))
  rw [List.map_reverse]
  refine (List.reverse_perm _).nodup_iff.mpr ?_
  have:∀ (l:List Str) (m:List Value),((l.zip m).map Prod.fst).Sublist l:=by
    intro l
    induction l with
    | nil=>intro m;simp
    | cons y l ih =>
      intro m
      cases m with
      | nil=>simp
      | cons v m=>exact (ih m).cons₂ y
  exact nd.sublist (this ps us)
section
variable {P:Program} {w:World} {K:PySem.W.Frag} {mg:Str->Option Value} {base:Heap} {k:Nat} {f c':Addr} {name qual:Str} {params:Arguments} {body:Expr} {scope:Scope} {pm ct:Value} {ps fs:List Str} {cl:List (Str × Addr)} {sp:Sp}
theorem inv_lam {A:Around} {outer:List Env} {s:Shared} {h1:Heap} {tk:Tok} {H:Hp} {us:List Value} {vs ws:List V} (S:LamScope ps fs scope) (hd:A.handled=none) (e0:Env0 P w K mg base A outer s H) (hl:vs.length=ps.length) (r:Vals vs us) (cap:Caps H cl fs ws)
    (hns:h1.Ns s.heap.objs.size fun y=>(ps.zip us).reverse.lookup y) (hk:∀ b o,s.heap.get? b=some o->h1.get? b=some o) :
    Inv (cxLam P w K mg base (ps++fs) qual scope f (.ref c') cl A outer s (hideC H (cl.map Prod.snd))) [] (vs.map some++ws.map some) (hideC H (cl.map Prod.snd)) { s with heap:=h1,toks:=tk }:=by
  have fz:∀ c ∈ cl.map Prod.snd,∃ o,H c=some (FZ o):=fun c hc=>by
    obtain ⟨p,hp,rfl⟩:=List.mem_map.mp hc
    obtain ⟨o,u,e,_⟩:=cap.fz p hp
    exact ⟨o,e⟩
  have hok:=HOk.hideC e0.hok fz
  have inC:∀ x c,cl.lookup x=some c->c ∈ cl.map Prod.snd:=fun x c e=>List.mem_map.mpr ⟨(x,c),PySem.mem_of_lookup e,rfl⟩
  have noA:∀ b:Addr,b ∉ (cxLam P w K mg base (ps++fs) qual scope f (.ref c') cl A outer s (hideC H (cl.map Prod.snd))).ex:=fun b z=>absurd (show b ∈ ([]:List Addr) from z) (by simp)
  refine ⟨⟨e0.mod,S.kind,rfl,rfl,Nat.le_refl _,cap.inj,fun y hy=>?_,fun y c z=>(by cases z),fun _=>hd,Around.frames_deeper e0.frames,.inr ⟨rfl,rfl⟩,fun b z=>absurd z (noA b),fun b o e=>⟨(e0.bs b o e).1,hideC_none (e0.bs b o e).2⟩,e0.bsz,fun b _ _=>noA b,fun b z=>absurd z (noA b),e0.funs,fun b z=>hideC_none (e0.frf b z)⟩,
    rfl,e0.bare,Un.kept hk,⟨_,hns,fun i y v q1 q2 q3=>?_⟩,fun y c h=>?_,hideC_none (e0.hok.fresh (Nat.le_refl _)),fun y c h=>hideC_in (inC y c h),fun p hp=>absurd (show p ∈ ([]:List (Addr × Obj)) from hp) (by simp),hok.kept hk,?_⟩
  · have hy:scope.names.lookup y=some .cell∨scope.names.lookup y=some .free:=hy
    rcases hy with hy | hy
    · exact absurd rfl (S.nocell _ (PySem.mem_of_lookup hy))
    · exact cap.has y (S.only y hy)
  · have q1:(ps++fs)[i]?=some y:=q1
    by_cases hi:i < ps.length
    · rw [List.getElem?_append_left hi] at q1
      rw [List.getElem?_append_left (by rw [List.length_map];omega),List.getElem?_map] at q2
      have ha:vs[i]?=some v:=by
        cases e:vs[i]? with
        | none=>rw [e] at q2;cases q2
        | some a=>rw [e] at q2;cases q2;rfl
      obtain ⟨u,hu,rv⟩:=r.get ha
      exact ⟨u,rv,.inl ⟨S.par y (List.mem_of_getElem? q1),lookup_rev (S.nd.sublist (List.sublist_append_left _ _)) q1 hu⟩⟩
    · rw [List.getElem?_append_right (by omega)] at q1
      rw [List.getElem?_append_right (by rw [List.length_map];omega),List.length_map,hl,List.getElem?_map] at q2
      have ha:ws[i - ps.length]?=some v:=by
        cases e:ws[i - ps.length]? with
        | none=>rw [e] at q2;cases q2
        | some a=>rw [e] at q2;cases q2;rfl
      obtain ⟨c,o,u,e1,e2,e3,rv⟩:=cap.at_ _ y v q1 ha
      exact ⟨u,rv,.inr ⟨.inr (S.fr y (List.mem_of_getElem? q1)),c,e1,o,hk _ _ (FZ.get e0.hok e2),e3⟩⟩
  · obtain ⟨o,u,e,d⟩:=cap.fz (y,c) (PySem.mem_of_lookup h)
    exact ⟨u,o,hk _ _ (FZ.get e0.hok e),d⟩
  · show (vs.map some++ws.map some).length=(ps++fs).length
    rw [List.length_append,List.length_append,List.length_map,List.length_map,hl,cap.len]
theorem fn_lam (S:LamScope ps fs scope) (len:∀ vs H Q E,sp vs H Q E->vs.length=ps.length)
    (hbody:∀ (vs:List V) (H:Hp) (Q:VK) (E:XK),sp vs H Q E->H f=some (FZ (PySem.W.kla_obj name qual params body scope cl pm c' ct))/\CodeZ H c' qual/\∃ ws,Caps H cl fs ws /\
      ∀ (A:Around) (outer:List Env) (s:Shared),Room k (A.deeper (PySem.W.envX qual scope s.heap.objs.size f (.ref c') cl)) ->
        ∃ t,PE (cxLam P w K mg base (ps++fs) qual scope f (.ref c') cl A outer s (hideC H (cl.map Prod.snd))) body t/\t (vs.map some++ws.map some) (hideC H (cl.map Prod.snd)) fun v H'=>(∀ c ∈ cl.map Prod.snd,H' c=none)->Q v (backC H H' (cl.map Prod.snd))) :
    FnOk P w K mg base CX0 (k+1) f (PySem.W.kla_fn name qual params body scope cl pm (.ref c') ct) ps sp:=by
  refine ⟨len,fun A outer s H args us vs Q E hr e0 hb r hsp=>?_⟩
  have hl:=len _ _ _ _ hsp
  obtain ⟨hf,⟨oc,vc,tc,hc,hoc,hv1⟩,ws,cap,hb0⟩:=hbody vs H Q E hsp
  have lim:s.heap.NoLimit:=e0.mod.nolimit.keeps fun b o e=>(e0.bs b o e).1
  have fz:∀ c ∈ cl.map Prod.snd,∃ o,H c=some (FZ o):=fun c hc=>by
    obtain ⟨p,hp,rfl⟩:=List.mem_map.mp hc
    obtain ⟨o,u,e,_⟩:=cap.fz p hp
    exact ⟨o,e⟩
  refine PySem.W.kla_callFunE hr.depth (FZ.get e0.hok hf) rfl S.co S.gen rfl ⟨c',oc,vc,tc,rfl,FZ.get e0.hok hc,hoc,hv1⟩ (hb _ _ _ _ ?_)
  refine wpAny_newFunctionEnv S.nocell (fun y hy=>S.par _ (List.of_mem_zip hy).1) (fun h1 hns hsb=>⟨lim.fresh _ hsb,?_⟩) S.kind
  show codeAny _ _ (.expr body (PySem.W.envX qual scope s.heap.objs.size f (.ref c') cl)) _ _
  have hk:∀ b o,s.heap.get? b=some o->h1.get? b=some o:=fun b o e=>hsb.extBut b o (Nat.ne_of_lt (Heap.lt_size e)) (Heap.get?_push_of_some _ e)
  obtain ⟨t,ht,hq⟩:=hb0 A outer s (hr.deeper _)
  have I:=inv_lam (f:=f) (c':=c') (qual:=qual) (tk:=s.toks+(ps.zip us).length) S hr.hd e0 hl r cap hns hk
  refine PySem.W.kla_codeExpr (wpAny_mono (ht [] _ _ _ _ I hq) (fun u s' hs=>?_) fun e s' hs=>False.elim hs)
  obtain ⟨v,H',J,rv,q⟩:=hs
  have nf:∀ c ∈ cl.map Prod.snd,c ∉ frs outer:=fun c hc z=>by
    obtain ⟨o,e⟩:=fz c hc
    rw [e0.frf c z] at e;cases e
  exact ⟨v,_,J.os,J.bare,Un.backC J.base fz,HOk.backC e0.hok J.hok J.base fz nf,rv,q fun c hc=>by
    obtain ⟨o,e⟩:=fz c hc
    exact J.base.free c o (FZ.get e0.hok e) (hideC_in hc) (by intro z;exact absurd (show c ∈ ([]:List Addr) from z) (by simp))⟩
end
end L2
namespace L2
open PySem PySem.Spec PyProof.Rows
section
variable {X:Cx}
def tCallD (P:Program) (w:World) (K:PySem.W.Frag) (mg:Str->Option Value) (base:Heap) (k i:Nat) (t:TA):TE:=fun σ H Q=>∃ (f:Addr) (o:Obj) (fd:FuncData) (ps:List Str) (sp:Sp),σ[i]?=some (some (.ref f))/\o.data=.func fd /\
  FnOk P w K mg base CX0 k f fd ps sp/\Binds K fd ps []/\t σ H fun vs H1=>H1 f=some (FZ o)/\sp vs H1 Q E0
theorem pe_callD {P:Program} {w:World} {K:PySem.W.Frag} {mg:Str->Option Value} {base:Heap} (hP:X.prog=P) (hw:X.w=w) (hK:X.K=K) (hM:X.mg=mg) (hB:X.base=base) {k:Nat} {x:Str} {p pos:Pos} {e:Expr} {es:List Expr} {t:TA} (i:Nat) (hr:Room k X.A) (ha:PA X (e::es) t)
    (hN:X.N[i]?=some x:=by rfl) (hv:Vis X.env.scope x:=by first | exact Or.inl rfl | exact Or.inr (Or.inl rfl) | exact Or.inr (Or.inr rfl))
    (hdb:(x == ("__debug__":Str))=false:=by decide) (hcd:(x == ("__classdict__":Str))=false:=by decide) (he:starEach (e::es) X.env=(false,eval e X.env)::starEach es X.env:=by rfl) :
    PE X (.Call (.Name x p) (e::es) [] pos) (tCallD P w K mg base k i t):=by
  subst hP;subst hw;subst hK;subst hM;subst hB
  intro pins s σ H Q I h
  obtain ⟨f,o,fd,ps,sp,e0,hd,F,hb,h⟩:=h
  refine wpAny_Call_Name_kw (thn (jco hN hv hdb hcd pins s σ H (fun v H'=>v=.ref f/\t σ H' fun vs H1=>H1 f=some (FZ o)/\sp vs H1 Q E0) I ⟨_,e0,rfl,h⟩) fun u s1 ⟨v,H1,I1,r,hv1,h1⟩=>?_)
  subst hv1
  cases r
  refine callWith_def (o:=o) (fd:=fd) hd (thn (ha pos pins s1 σ H1 _ I1 h1) fun us s2 ⟨vs,H2,I2,r2,q1,q2⟩=>⟨FZ.get I2.hok q1,?_⟩) he
  exact run_fn F hr hb .nil jt I2 r2 (by rw [List.append_nil];exact q2)
def showC (H:Hp) (cs:List (Addr × Obj)):Hp:=fun b=>match cs.lookup b with
  | some o=>some (FZ o)
  | none=>H b
theorem showC_in {H:Hp} {cs:List (Addr × Obj)} {b:Addr} {o:Obj} (e:cs.lookup b=some o):showC H cs b=some (FZ o):=by unfold showC;rw [e]
theorem showC_out {H:Hp} {cs:List (Addr × Obj)} {b:Addr} (e:cs.lookup b=none):showC H cs b=H b:=by unfold showC;rw [e]
theorem lookup_mem {cs:List (Addr × Obj)} {b:Addr} (h:b ∈ cs.map Prod.fst):∃ o,cs.lookup b=some o:=by
  cases e:cs.lookup b with
  | some o=>exact ⟨o,rfl⟩
  | none =>
    obtain ⟨p,hp,rfl⟩:=List.mem_map.mp h
    have:=List.lookup_eq_none_iff.mp e p hp
    simp at this
theorem lookup_notin {cs:List (Addr × Obj)} {b:Addr} (h:b ∉ cs.map Prod.fst):cs.lookup b=none:=by
  refine List.lookup_eq_none_iff.mpr fun p hp=>?_
  simp only [bne_iff_ne,ne_eq]
  rintro rfl
  exact h (List.mem_map.mpr ⟨p,hp,rfl⟩)
theorem Inv.env0C {pins:List (Addr × Obj)} {σ:St} {H:Hp} {s:Shared} {cs:List (Addr × Obj)} (I:Inv X pins σ H s) (hc:∀ b o,cs.lookup b=some o->s.heap.get? b=some o/\H b=none/\X.base.get? b=none/\b ∉ frs X.stack) :
    Env0 X.prog X.w X.K X.mg X.base X.A X.stack s (showC H cs):=by
  have e:=I.env0
  refine ⟨e.frames,e.mod,fun b o q=>⟨(e.bs b o q).1,?_⟩,e.bsz,e.funs,fun b hb=>?_,fun b u q=>?_,e.bare⟩
  · cases z:cs.lookup b with
    | some o'=>rw [(hc b o' z).2.2.1] at q;cases q
    | none=>rw [showC_out z];exact (e.bs b o q).2
  · cases z:cs.lookup b with
    | some o'=>exact absurd hb (hc b o' z).2.2.2
    | none=>rw [showC_out z];exact e.frf b hb
  · cases z:cs.lookup b with
    | some o' =>
      rw [showC_in z] at q
      cases Option.some.inj q
      exact FZ.mk (hc b o' z).1
    | none =>
      rw [showC_out z] at q
      have no:∀ c,(∃ v,H c=some v)->showC H cs c=H c:=fun c ⟨v,hv⟩=>showC_out (by
        cases y:cs.lookup c with
        | none=>rfl
        | some o=>rw [(hc c o y).2.1] at hv;cases hv)
      exact (e.hok b u q).stay (fun _ _ _ y=>y) (fun c y=>by rw [no c ⟨_,y⟩];exact y) fun c xs y=>by rw [no c ⟨_,y⟩];exact y
theorem Un.hideS {fs:List Addr} {P:Program} {w:World} {H H':Hp} {h h':Heap} {cs:List (Addr × Obj)} (u:Un fs [] (showC H cs) H' h h') (x':HOk P w H' h') (hc:∀ b o,cs.lookup b=some o->h.get? b=some o/\H b=none):Un fs [] H (hideC H' (cs.map Prod.fst)) h h':=by
  have out:∀ b v,H b=some v->cs.lookup b=none:=fun b v e=>by
    cases y:cs.lookup b with
    | none=>rfl
    | some o=>rw [(hc b o y).2] at e;cases e
  have nin:∀ b v,H b=some v->b ∉ cs.map Prod.fst:=fun b v e m=>by
    obtain ⟨o,y⟩:=lookup_mem m
    rw [out b v e] at y;cases y
  have kept:∀ b o,cs.lookup b=some o->h'.get? b=some o:=fun b o z=>FZ.get x' (u.frzs b o _ (showC_in z))
  refine ⟨fun b o e n hb hx=>?_,fun b o e n hb hx=>?_,fun b o e n hx=>?_,u.there,fun b xs e=>?_,fun b o v e=>?_,fun b ps e=>?_⟩
  · cases z:cs.lookup b with
    | some o' =>
      have:=(hc b o' z).1
      rw [e] at this;cases this
      exact kept b o z
    | none=>exact u.keep b o e (by rw [showC_out z];exact n) hb hx
  · cases z:cs.lookup b with
    | some o' =>
      have:=(hc b o' z).1
      rw [e] at this;cases this
      exact ⟨o.slots,kept b o z⟩
    | none=>exact u.slot b o e (by rw [showC_out z];exact n) hb hx
  · cases z:cs.lookup b with
    | some o' =>
      refine hideC_in (Classical.byContradiction fun m=>?_)
      rw [lookup_notin m] at z;cases z
    | none=>exact hideC_none (u.free b o e (by rw [showC_out z];exact n) hx)
  · rw [hideC_out (nin b _ e)];exact u.tups b xs (by rw [showC_out (out b _ e)];exact e)
  · rw [hideC_out (nin b _ e)];exact u.frzs b o v (by rw [showC_out (out b _ e)];exact e)
  · obtain ⟨more,q⟩:=u.tbls b ps (by rw [showC_out (out b _ e)];exact e)
    exact ⟨more,by rw [hideC_out (nin b _ e)];exact q⟩
variable {pins:List (Addr × Obj)} {σ:St} {H:Hp} {s:Shared}
theorem run_fnC {k:Nat} {f:Addr} {fd:FuncData} {ps:List Str} {sp:Sp} {Q:VK} {us:List Value} {vs:List V} {cs:List (Addr × Obj)} (F:FnOk X.prog X.w X.K X.mg X.base CX0 k f fd ps sp) (hr:Room k X.A) (hb:Binds X.K fd ps [])
    (I:Inv X pins σ H s) (r:Vals vs us) (hc:∀ b o,cs.lookup b=some o->s.heap.get? b=some o/\H b=none/\X.base.get? b=none/\b ∉ frs X.stack)
    (h:sp vs (showC H cs) (fun v H2=>Q v (hideC H2 (cs.map Prod.fst))) E0):wpAny (model X.prog X.w) X.A (call (.ref f) us) (EP X pins σ Q) X.xe s:=by
  have hl:us.length=ps.length:=by rw [← r.length];exact F.len _ _ _ _ h
  have hbb:=hb s us I.kIn (by rw [List.append_nil];exact hl)
  rw [List.append_nil] at hbb
  refine wpAny_call (codeAny_mono (F.run X.A X.stack s (showC H cs) ⟨us,[]⟩ us vs _ E0 hr (I.env0C hc) hbb r h) fun r s' hq=>?_)
  cases r with
  | error e=>exact False.elim hq
  | ok fl =>
    cases fl with
    | ret u =>
      obtain ⟨v,H',os,bare,un,hok,rv,q⟩:=hq
      refine I.after ⟨v,_,os,bare,Un.hideS un hok fun b o z=>⟨(hc b o z).1,(hc b o z).2.1⟩,HOk.hideC hok fun c m=>?_,rv,q⟩
      obtain ⟨o,z⟩:=lookup_mem m
      exact ⟨o,un.frzs c o _ (showC_in z)⟩
    | next=>exact False.elim hq
    | brk=>exact False.elim hq
    | cont=>exact False.elim hq
def CellsAt (σ:St) (H:Hp) (js:List (Nat × Addr)) (cs:List (Addr × Obj)):Prop :=
  Paired (fun (j:Nat × Addr) (p:Addr × Obj)=>p.1=j.2/\H j.2=none/\∃ v u,σ[j.1]?=some (some v)/\p.2.data=.cell (some u)/\RelV v u) js cs
def tCallC (js:List (Nat × Addr)) (sp:Sp) (t:TA):TE:=fun σ H Q=>t σ H fun vs H1=>(∀ j ∈ js,∃ v,σ[j.1]?=some (some v))/\∀ cs,CellsAt σ H1 js cs->sp vs (showC H1 cs) (fun v H2=>Q v (hideC H2 (cs.map Prod.fst))) E0
theorem Inv.cellAt (I:Inv X pins σ H s) {i:Nat} {c:Addr} {x:Str} {v:V} (hN:X.N[i]?=some x) (hk:X.env.kindOf x=some .cell) (hf:X.fn x=true) (hl:X.env.cells.lookup x=some c) (e:σ[i]?=some (some v)) :
    ∃ o u,s.heap.get? c=some o/\o.data=.cell (some u)/\RelV v u/\H c=none/\X.base.get? c=none/\c ∉ frs X.stack:=by
  obtain ⟨m,hns,loc⟩:=I.loc
  obtain ⟨u,rv,lk⟩:=loc i x v hN e (.inr (.inl hk))
  rcases lk with ⟨k,_⟩ | ⟨_,c',e',o,ho,hd⟩
  · rw [hk] at k;cases k
  · rw [hl] at e'
    cases Option.some.inj e'
    have ge:=I.ok.cab x c hf hl
    refine ⟨o,u,ho,hd,rv,I.freeC x c hl,Heap.get?_none_of_le (Nat.le_trans I.ok.bsz ge),fun hb=>?_⟩
    rcases List.mem_cons.mp (I.stkSub c hb) with z | z
    · obtain ⟨ol,es,ep,e1,e2,_⟩:=hns
      rw [← z,ho] at e1
      cases Option.some.inj e1
      rw [hd] at e2;cases e2
    · obtain ⟨_,ob,hob,_⟩:=I.ok.funs.mem z
      exact absurd (Heap.lt_size hob) (Nat.not_lt.mpr ge)
theorem cells_of (I:Inv X pins σ H s):∀ {js:List (Nat × Addr)},(∀ j ∈ js,∃ x,X.N[j.1]?=some x/\X.env.kindOf x=some .cell/\X.fn x=true/\X.env.cells.lookup x=some j.2)->(∀ j ∈ js,∃ v,σ[j.1]?=some (some v)) ->
    ∃ cs,CellsAt σ H js cs/\∀ b o,cs.lookup b=some o->s.heap.get? b=some o/\H b=none/\X.base.get? b=none/\b ∉ frs X.stack
  | [],_,_=>⟨[],.nil,fun b o z=>by cases z⟩
  | j::js,h1,h2=>by
    obtain ⟨cs,pr,hc⟩:=cells_of I (js:=js) (fun i hi=>h1 i (.tail _ hi)) fun i hi=>h2 i (.tail _ hi)
    obtain ⟨x,e1,e2,e3,e4⟩:=h1 j (.head _)
    obtain ⟨v,e5⟩:=h2 j (.head _)
    obtain ⟨o,u,q1,q2,q3,q4,q5,q6⟩:=I.cellAt e1 e2 e3 e4 e5
    refine ⟨(j.2,o)::cs,.cons ⟨rfl,q4,v,u,e5,q2,q3⟩ pr,fun b o' z=>?_⟩
    rw [List.lookup_cons] at z
    split at z
    · rename_i hb
      cases Option.some.inj z
      have:b=j.2:=by simpa using hb
      subst this
      exact ⟨q1,q4,q5,q6⟩
    · exact hc b o' z
theorem pe_callC {k:Nat} {f:Addr} {fd:FuncData} {ps:List Str} {sp:Sp} {x:Str} {p pos:Pos} {e:Expr} {es:List Expr} {t:TA} (js:List (Nat × Addr)) (hjs:∀ j ∈ js,∃ x,X.N[j.1]?=some x/\X.env.kindOf x=some .cell/\X.fn x=true/\X.env.cells.lookup x=some j.2)
    (F:FnOk X.prog X.w X.K X.mg X.base CX0 k f fd ps sp) (hr:Room k X.A) (hg:Gl X x) (hm:X.mg x=some (.ref f)) (hk:PySem.W.keepIn X.K (.ref f)=true) (hb:Binds X.K fd ps []) (ha:PA X (e::es) t)
    (hdb:(x == ("__debug__":Str))=false:=by decide) (he:starEach (e::es) X.env=(false,eval e X.env)::starEach es X.env:=by rfl) (hpl:(backTo pos (starEach es X.env)).any (·.1)=false:=by rfl) :
    PE X (.Call (.Name x p) (e::es) [] pos) (tCallC js sp t):=by
  intro pins s σ H Q I h
  refine wpAny_Call_Name_kw (ld_glob I hg hm ?_ hdb)
  refine PySem.W.callWith_K (h₀:=X.base) I.ok.mod.kin hk (thn (ha pos pins s σ H _ I h) fun us s1 ⟨vs,H1,I1,r,hb1,q⟩=>⟨I1.kIn,?_⟩) he hpl
  obtain ⟨cs,pr,hc⟩:=cells_of I1 hjs hb1
  exact run_fnC F hr hb I1 r hc (q cs pr)
end
end L2
namespace L2
open PySem PySem.Spec PyProof.Rows
theorem among_snoc {pos pos':Pos} {c:Value} (l:List Value) (h:TriplesOk l) {v:Value} (e:codeAmong pos' (l++[rawInt pos.line,rawInt pos.col,c])=some v):codeAmong pos' l=some v∨v=c:=by
  fun_induction TriplesOk l with
  | case1 =>
    simp only [List.nil_append,codeAmong,rawInt] at e
    split at e
    · exact .inr (Option.some.inj e).symm
    · cases e
  | case2 a t b u x rest ih =>
    simp only [List.cons_append,codeAmong] at e ⊢
    split at e
    · rename_i hc;rw [if_pos hc];exact .inl e
    · rename_i hc;rw [if_neg hc];exact ih h e
  | case3 l h1 h2=>exact h.elim
def TabOk (H:Hp) (Pt:Addr) (qual:Str):Prop:=∃ ps,H Pt=some (.tbl ps)/\TriplesOk ps.toList/\∀ pos cv,codeAmong pos ps.toList=some cv->∃ c,cv=.ref c/\CodeZ H c qual
theorem CodeZ.kp {S:List Addr} {H H':Hp} {c:Addr} {qual:Str} (k:Kp S H H') (n:c ∉ S) (x:CodeZ H c qual):CodeZ H' c qual:=let ⟨oc,vs,t,e,r⟩:=x;⟨oc,vs,t,k.old _ _ e n,r⟩
def tLam (Pt:Addr) (qual:Str) (params:Arguments) (body:Expr) (scope:Scope) (cl:List (Str × Addr)) (pm:Value):TE:=fun σ H Q=>TabOk H Pt qual/\∀ f c ct H',H f=none->Kp [Pt] H H'->H' f=some (FZ (PySem.W.kla_obj "<lambda>" qual params body scope cl pm c ct))->CodeZ H' c qual->TabOk H' Pt qual->Q (.ref f) H'
section
variable {X:Cx}
theorem pe_lambda {params:Arguments} {body:Expr} {scope:Scope} {pos:Pos} {c Pt:Addr} {cl:List (Str × Addr)} (hdef:defaultsOf params X.env=([],[])) (hcl:closureFor scope X.env=pure cl) (hcode:X.env.code=.ref c) (hC:PySem.W.CodeHd X.base c Pt) (hbt:X.base.BuiltinsAt X.mg Pt) :
    PE X (.Lambda params body scope pos) (tLam Pt (X.env.qual++"<lambda>") params body scope cl ((X.mg "__name__").getD .none)):=by
  intro pins s σ H Q I h
  obtain ⟨⟨ps,hP,ht,hin⟩,h⟩:=h
  have oP:s.heap.get? Pt=some (PySem.W.tabObj ps):=I.hok Pt _ hP
  have hgs:s.heap.Ns mainGlobals X.mg:=I.mod.glob.keeps I.bk
  have hgP:mainGlobals≠Pt:=fun q=>by
    obtain ⟨o,es,ep,e,hd,_⟩:=hgs
    rw [q,oP] at e;cases e;cases hd
  have hb:s.heap.BuiltinsAt X.mg Pt:=let ⟨bm,o,b1,b2,b3,b4,b5,r⟩:=hbt;⟨bm,o,b1,b2,b3,b4,I.bk _ _ b5,r⟩
  have C:=hC.keeps I.bk
  refine PySem.W.kla_eval hdef ?_
  cases hf:codeAmong pos ps.toList with
  | some cv =>
    obtain ⟨c',rfl,cz⟩:=hin pos cv hf
    refine PySem.W.kla_makeFunctionHit (mg:=X.mg) hcl I.ok.glob hgs hcode C oP ht hf hb fun ctv h' tk hk hsz=>?_
    have hf:H h'.objs.size=none:=I.hok.fresh hsz
    have kp:Kp [Pt] H (upd H h'.objs.size (FZ (PySem.W.kla_obj "<lambda>" (X.env.qual++"<lambda>") params body scope cl ((X.mg "__name__").getD .none) c' ctv))):=(Kp.refl [Pt] H).new hf
    have kp0:Kp [] H (upd H h'.objs.size (FZ (PySem.W.kla_obj "<lambda>" (X.env.qual++"<lambda>") params body scope cl ((X.mg "__name__").getD .none) c' ctv))):=(Kp.refl [] H).new hf
    refine ⟨.ref h'.objs.size,_,I.laid (t':=tk) (fun b u e=>Heap.get?_push_of_some _ (hk b u e)) hsz (FZ.mk (Heap.get?_push_size _ rfl)),rfl,h _ c' ctv _ hf kp jc (cz.kp kp0 (by simp)) ⟨ps,kp0.old _ _ hP (by simp),ht,fun p v e=>?_⟩⟩
    obtain ⟨c2,e2,z⟩:=hin p v e
    exact ⟨c2,e2,z.kp kp0 (by simp)⟩
  | none =>
    refine PySem.W.kla_makeFunction (mg:=X.mg) hcl I.ok.glob hgs hcode C oP ht hf hgP hb fun c' ctv h' tk hx hge hlt hrec htb=>?_
    obtain ⟨c₂,oc,vs,t,e2,hoc,hd,hv⟩:=hrec
    cases e2
    have lP:Pt < s.heap.objs.size:=Heap.lt_size oP
    have lt:∀ b u,H b=some u->b < s.heap.objs.size:=fun b u e=>(I.hok b u e).lt
    have nPc:Pt≠c':=Nat.ne_of_lt (Nat.lt_of_lt_of_le lP hge)
    have nPf:Pt≠h'.objs.size:=Nat.ne_of_lt (Nat.lt_trans (Nat.lt_of_lt_of_le lP hge) hlt)
    have ncf:c'≠h'.objs.size:=Nat.ne_of_lt hlt
    have fC:H c'=none:=I.hok.fresh hge
    have fF:H h'.objs.size=none:=I.hok.fresh (Nat.le_trans hge (Nat.le_of_lt hlt))
    let o1:Obj:=PySem.W.kla_obj "<lambda>" (X.env.qual++"<lambda>") params body scope cl ((X.mg "__name__").getD .none) c' ctv
    let ps':Array Value:=ps++#[rawInt pos.line,rawInt pos.col,.ref c']
    let H':Hp:=upd (upd (upd H Pt (.tbl ps')) c' (FZ oc)) h'.objs.size (FZ o1)
    have eF:H' h'.objs.size=some (FZ o1):=jc
    have eC:H' c'=some (FZ oc):=by show upd _ _ _ c'=_;rw [je ncf,jc]
    have eP:H' Pt=some (.tbl ps'):=by show upd _ _ _ Pt=_;rw [je nPf,je nPc,jc]
    have eO:∀ b,b≠Pt->b≠c'->b≠h'.objs.size->H' b=H b:=fun b n1 n2 n3=>by show upd _ _ _ b=_;rw [je n3,je n2,je n1]
    have eS:∀ b,b < s.heap.objs.size->b≠Pt->H' b=H b:=fun b l n=>eO b n (Nat.ne_of_lt (Nat.lt_of_lt_of_le l hge)) (Nat.ne_of_lt (Nat.lt_trans (Nat.lt_of_lt_of_le l hge) hlt))
    have kp:Kp [Pt] H H':=by
      refine ⟨fun b o e n=>?_,fun b xs e=>?_,fun b o e=>?_⟩
      · rw [eS b (lt b _ e) (by simpa using n)];exact e
      · rw [eS b (lt b _ e) (fun z=>by rw [z,hP] at e;cases e)];exact e
      · by_cases z:b=Pt
        · exact ⟨_,by rw [z];exact eP⟩
        · exact ⟨o,by rw [eS b (lt b _ e) z];exact e⟩
    have kept:∀ b o,b≠Pt->s.heap.get? b=some o->(h'.push o1).get? b=some o:=fun b o n e=>Heap.get?_push_of_some _ (hx b o n e)
    have un:Un (frs X.stack) [] H H' s.heap (h'.push o1):=by
      refine ⟨fun b o e n _ _=>kept b o (fun z=>by rw [z,hP] at n;cases n) e,fun b o e n _ _=>⟨o.slots,kept b o (fun z=>by rw [z,hP] at n;cases n) e⟩,fun b o e n _=>?_,fun b o e _=>?_,fun b xs e=>kp.tup b xs e,fun b o u e=>?_,fun b qs e=>?_⟩
      · rw [eS b (Heap.lt_size e) (fun z=>by rw [z,hP] at n;cases n)];exact n
      · by_cases z:b=Pt
        · exact ⟨_,by rw [z];exact Heap.get?_push_of_some _ htb⟩
        · exact ⟨o,kept b o z e⟩
      · exact kp.old b _ e (by simp;intro z;rw [z,hP] at e;cases e)
      · by_cases z:b=Pt
        · subst z
          rw [hP] at e
          cases Option.some.inj e
          exact ⟨_,eP⟩
        · exact ⟨#[],by rw [eS b (lt b _ e) z,e];simp⟩
    have hok:HOk X.prog X.w H' (h'.push o1):=fun b u q=>by
      by_cases z1:b=h'.objs.size
      · subst z1
        rw [eF] at q
        cases Option.some.inj q
        exact FZ.mk (Heap.get?_push_size _ rfl)
      · by_cases z2:b=c'
        · subst z2
          rw [eC] at q
          cases Option.some.inj q
          exact FZ.mk (Heap.get?_push_of_some _ hoc)
        · by_cases z3:b=Pt
          · subst z3
            rw [eP] at q
            cases Option.some.inj q
            exact Heap.get?_push_of_some _ htb
          · rw [eO b z3 z2 z1] at q
            refine (I.hok b u q).stay (fun d v hd' e=>kept d v ?_ e) (fun d e=>?_) fun d xs e=>kp.tup d xs e
            · rcases hd' with rfl | hd'
              · exact z3
              · intro z;rw [z,hP] at hd';cases hd'
            · exact kp.old d _ e (by simp;intro z;rw [z,hP] at e;cases e)
    have nC:∀ c2,(∃ o,H c2=some (FZ o))->c2 ∉ [Pt]:=fun c2 ⟨o,e⟩ m=>by
      rw [List.mem_singleton.mp m,hP] at e;cases e
    refine ⟨.ref h'.objs.size,H',I.call (g':=s.gens) (d':=s.drawn) (t':=tk) (ch:=[]) un hok I.bare (fun b z=>absurd z (by simp)),rfl,h _ c' ctv H' fF kp eF ⟨oc,vs,t,eC,hd,hv⟩ ⟨ps',eP,?_,fun p v e=>?_⟩⟩
    · have hl:ps'.toList=ps.toList++[rawInt pos.line,rawInt pos.col,.ref c']:=by simp [ps']
      rw [hl];exact TriplesOk_snoc _ _ _ _ ht
    · have hl:ps'.toList=ps.toList++[rawInt pos.line,rawInt pos.col,.ref c']:=by simp [ps']
      rw [hl] at e
      rcases among_snoc _ ht e with e | rfl
      · obtain ⟨c2,e2,z⟩:=hin p v e
        exact ⟨c2,e2,z.kp kp (nC c2 (let ⟨oc,_,_,q,_⟩:=z;⟨oc,q⟩))⟩
      · exact ⟨c',rfl,oc,vs,t,eC,hd,hv⟩
end
end L2
namespace L2
open PySem PySem.Spec PyProof.Rows
theorem codeTab {h:Heap} {c P:Addr} {ps:Array Value} (C:PySem.W.CodeHd h c P) (e:h.get? P=some (PySem.W.tabObj ps)):isCodeTable h P:=(C.tab e).isCodeTable
theorem law_callT {P:Program} {w:World} {K:PySem.W.Frag} {mg mb:Str->Option Value} {CX:CXT} {k:Nat} {fa a:Addr} {fd:FuncData} {x:Str} {sp:Sp} {s₁:Shared} {vs:List Value} {ns:List Int} {ts:List Addr}
    (KX:K.In s₁.heap) (hns:s₁.heap.Ns mainGlobals mg) (hb:s₁.heap.Ns builtinsNs mb) (hbb:∀ x:Str,x≠"__name__"->mb x=bootBuiltins x) (hlim:s₁.heap.NoLimit) (hg:s₁.gens=#[])
    (ha:s₁.heap.get? a=some { cls:=.type "list",data:=.seq vs.toArray }) (hi:IntsAre vs ns) (hl:ns.length<=sizeLine) (hr:Room k callerA)
    (hts:∀ t ∈ ts,s₁.heap.get? t=some (PySem.W.tabObj #[])) (hcd:∀ t ∈ ts,∃ c,PySem.W.CodeHd s₁.heap c t) (hKt:∀ t ∈ ts,K.lookup t=none) (hbm:∀ t ∈ ts,s₁.heap.BuiltinsAt mg t)
    (F:∀ base:Heap,K.In base->base.Ns mainGlobals mg->(∀ t ∈ ts,base.BuiltinsAt mg t)->FnOk P w K mg base CX k fa fd [x] sp) (hbind:∀ (s:Shared) (u:Value),BindsTo s fd ⟨[u],[]⟩ [(x,u)])
    (hsp:∀ H:Hp,SqL K H a (ns.map V.int)->(∀ t ∈ ts,H t=some (.tbl #[]))->sp [.ref a] H (fun v _=>v=.bl true) fun _ _ _=>False)
    (hCX:∀ H e s',CX [] H s₁ (fun _ _ _=>False) e s'->False) :
    codeAny (model P w) callerA (.call (.ref fa) ⟨[.ref a],[]⟩) (fun r s'=>r=.ok (.ret (.bool true))/\OldK s₁.heap s'.heap/\s'.os=s₁.os/\AllBare s'.gens) s₁:=by
  have rv:=vals_ints hi
  have lenV:=hi.length
  have naT:a ∉ ts:=fun m=>by
    have:=hts a m
    rw [ha] at this
    cases this
  have core:∀ H:Hp,(∀ b,H b=none∨(∃ o xs,H b=some (.frz o (.lst xs)))∨b ∈ ts)->(∀ t ∈ ts,H t=some (.tbl #[]))->SqL K H a (ns.map V.int)->HOk P w H s₁.heap->(∀ b,H b≠none->b=a∨b ∈ ts)->(H a≠none->K.lookup a=none) ->
      codeAny (model P w) callerA (.call (.ref fa) ⟨[.ref a],[]⟩) (fun r s'=>r=.ok (.ret (.bool true))/\OldK s₁.heap s'.heap/\s'.os=s₁.os/\AllBare s'.gens) s₁:=by
    intro H hO hT hS hok hA hK
    have base_of:∀ {b:Addr} {o:Obj},s₁.heap.get? b=some o->H b=none->(hidT s₁.heap H).get? b=some o:=fun e n=>hidT_get e n
    have noB:∀ {b:Addr} {o:Obj},s₁.heap.get? b=some o->(∀ vs n,o.data≠.seq vs n)->(∀ vs,o.data≠.fields vs)->H b=none:=fun {b o} e d1 d2=>by
      cases q:H b with
      | none=>rfl
      | some u =>
        rcases hA b (by rw [q];simp) with e' | e'
        · subst e'
          rw [ha] at e;cases e
          exact absurd rfl (d1 _ _)
        · rw [hts b e'] at e;cases e
          exact absurd rfl (d2 _)
    have nsK:∀ {b:Addr} {m:Str->Option Value},s₁.heap.Ns b m->(hidT s₁.heap H).Ns b m:=fun {b m} ⟨o,es,ep,e,d,r⟩=>⟨o,es,ep,base_of e (noB e (by rw [d];nofun) (by rw [d];nofun)),d,r⟩
    have hKb:K.In (hidT s₁.heap H):=fun b o e=>base_of (KX b o e) (by
      cases q:H b with
      | none=>rfl
      | some u =>
        rcases hA b (by rw [q];simp) with e' | e'
        · subst e'
          rw [hK (by rw [q];simp)] at e;cases e
        · rw [hKt b e'] at e;cases e)
    have hBb:∀ t ∈ ts,(hidT s₁.heap H).BuiltinsAt mg t:=fun t ht=>let ⟨bm,o,b1,b2,b3,b4,b5,b6,b7,b8⟩:=hbm t ht
      ⟨bm,o,b1,b2,b3,b4,base_of b5 (noB b5 (by rw [b8];nofun) (by rw [b8];nofun)),b6,b7,b8⟩
    have hM:Mod K mg (hidT s₁.heap H):=⟨hKb,nsK hns,⟨mb,nsK hb,hbb⟩,let ⟨mc,h1,h2⟩:=hlim;⟨mc,nsK h1,h2⟩⟩
    have e0:Env0 P w K mg (hidT s₁.heap H) callerA [] s₁ H:=⟨rfl,hM,fun b o e=>of_hidT e,Nat.le_of_eq (hidT_size _ _),trivial,fun b hb=>absurd (show b ∈ ([]:List Addr) from hb) (by simp),hok,.of_eq hg⟩
    refine codeAny_mono ((F _ hKb (nsK hns) hBb).run callerA [] s₁ H ⟨[.ref a],[]⟩ [.ref a] [.ref a] _ _ hr e0 (hbind s₁ (.ref a)) (.cons rfl .nil) (hsp H hS hT)) fun r s' h=>?_
    cases r with
    | error e=>exact (hCX H e s' h).elim
    | ok fl =>
      cases fl with
      | next=>exact False.elim h
      | brk=>exact False.elim h
      | cont=>exact False.elim h
      | ret u =>
        obtain ⟨v,H',os,bare,un,hok',r',q⟩:=h
        have q':v=.bl true:=q
        subst q'
        obtain rfl:u=Value.bool true:=r'
        have grown:∀ b ∈ ts,∃ ps,s'.heap.get? b=some (PySem.W.tabObj ps):=fun b m=>by
          obtain ⟨more,e⟩:=un.tbls b #[] (hT b m)
          exact ⟨_,hok' b _ e⟩
        have keep:∀ b o,b ∉ ts->s₁.heap.get? b=some o->s'.heap.get? b=some o:=fun b o m e=>by
          cases q:H b with
          | none=>exact un.keep b o e q (by intro z;exact absurd (show b ∈ ([]:List Addr) from z) (by simp)) (by simp)
          | some u =>
            rcases hO b with z | ⟨ob,xs,z⟩ | z
            · rw [q] at z;cases z
            · have z2:=un.frzs b ob _ z
              obtain ⟨e1,_⟩:=hok b _ z
              obtain ⟨e2,_⟩:=hok' b _ z2
              rw [e] at e1;cases e1
              exact e2
            · exact absurd z m
        refine ⟨rfl,⟨fun b o e=>?_,fun b o e=>?_⟩,os,bare⟩
        · by_cases m:b ∈ ts
          · obtain ⟨c,hc⟩:=hcd b m
            obtain ⟨ps,hP⟩:=grown b m
            have e2:=hts b m
            rw [e] at e2
            cases Option.some.inj e2
            exact .inr (.inl ⟨codeTab hc (hts b m),rfl,#[],ps,rfl,by rw [Array.empty_append];exact hP⟩)
          · exact .inl (keep b o m e)
        · by_cases m:b ∈ ts
          · obtain ⟨ps,hP⟩:=grown b m
            exact ⟨_,hP⟩
          · exact ⟨o,keep b o m e⟩
  cases hk:K.lookup a with
  | some o =>
    have e:=KX a o hk
    rw [ha] at e
    cases e
    refine core (fun b=>if b ∈ ts then some (.tbl #[]) else none) (fun b=>?_) (fun t m=>if_pos m) (.inr ⟨_,vs.toArray,_,hk,rfl,rfl,rfl,by rw [List.size_toArray,lenV];exact hl,by simpa using rv⟩) (fun b u z=>?_) (fun b z=>?_) fun z=>absurd (if_neg naT) z
    · by_cases m:b ∈ ts
      · exact .inr (.inr m)
      · exact .inl (if_neg m)
    · by_cases m:b ∈ ts
      · have z':=(if_pos m).symm.trans z
        cases z'
        exact hts b m
      · have z':=(if_neg m).symm.trans z
        cases z'
    · by_cases m:b ∈ ts
      · exact .inr m
      · exact absurd (if_neg m) z
  | none =>
    refine core (fun b=>if b ∈ ts then some (.tbl #[]) else if b=a then some (.frz { cls:=.type "list",data:=.seq vs.toArray } (.lst (ns.map V.int))) else none) (fun b=>?_) (fun t m=>if_pos m) (.inl (.inr ⟨{ cls:=.type "list",data:=.seq vs.toArray },(if_neg naT).trans (if_pos rfl)⟩)) (fun b u z=>?_) (fun b z=>?_) fun _=>hk
    · by_cases m:b ∈ ts
      · exact .inr (.inr m)
      · by_cases hb:b=a
        · exact .inr (.inl ⟨_,_,(if_neg m).trans (if_pos hb)⟩)
        · exact .inl ((if_neg m).trans (if_neg hb))
    · by_cases m:b ∈ ts
      · have z':=(if_pos m).symm.trans z
        cases z'
        exact hts b m
      · by_cases hb:b=a
        · have z':=((if_neg m).trans (if_pos hb)).symm.trans z
          cases z'
          subst hb
          exact ⟨ha,by rw [List.length_map];exact hl,vs,_,rv,ha⟩
        · have z':=((if_neg m).trans (if_neg hb)).symm.trans z
          cases z'
    · by_cases m:b ∈ ts
      · exact .inr m
      · by_cases hb:b=a
        · exact .inl hb
        · exact absurd ((if_neg m).trans (if_neg hb)) z
theorem walk_ofT {l:PySem.W.OpenLaw} {n k:Nat} {q:Program} {loose:List Str} {XP:(Str->Option Value)->Heap->Prop} {YP:World->Heap->Prop} {d:DefRec} {K:Params->PySem.W.Frag} {CX:World->CXT} {sp:World->Sp} {x:Str} {ts:List Addr}
    (hn:l.most=some n) (hn2:n<=sizeLine) (hdf:d.params.defaults=[]) (hr:Room k callerA)
    (hY:∀ (w:World) (h:Heap),YP w h->(K w.params).In h) (hT:∀ (w:World) (h:Heap),YP w h->∀ t ∈ ts,h.get? t=some (PySem.W.tabObj #[]))
    (hC:∀ (w:World) (h:Heap),(K w.params).In h->∀ t ∈ ts,∃ c,PySem.W.CodeHd h c t) (hN:∀ w:World,∀ t ∈ ts,(K w.params).lookup t=none)
    (F:∀ (w:World) (mg:Str->Option Value) (fa:Addr) (h:Heap),(K w.params).In h->h.Ns mainGlobals mg->mg d.name=some (.ref fa) ->
      ∃ fd:FuncData,(∀ (s:Shared) (u:Value),BindsTo s fd ⟨[u],[]⟩ [(x,u)]) /\
        ∀ base:Heap,(K w.params).In base->base.Ns mainGlobals mg->(∀ t ∈ ts,base.BuiltinsAt mg t)->FnOk l.prog w (K w.params) mg base (CX w) k fa fd [x] (sp w))
    (hsp:∀ (w:World) (H:Hp) (a:Addr) (ns:List Int),ns.length<=n->SqL (K w.params) H a (ns.map V.int)->(∀ t ∈ ts,H t=some (.tbl #[]))->sp w [.ref a] H (fun v _=>v=.bl true) fun _ _ _=>False)
    (hCX:∀ (w:World) (H:Hp) (s:Shared) (e:Value) (s':Shared),CX w [] H s (fun _ _ _=>False) e s'->False) :
    PySem.W.WalkO q loose XP YP l.row.toRowW d [] (fun f vs=>PySem.call f vs):=by
  refine Att.attach_call hn hdf fun w s₀ s₁ mg mb fa o pm cd doc a vs ns G Y ho hd hcd hmg hobj hints hlen hg=>?_
  have KX:=hY w _ Y
  have TX:=hT w _ Y
  obtain ⟨fd,hb,hF⟩:=F w mg fa _ KX G.T.g hmg
  refine law_callT (ts:=ts) KX G.T.g G.T.b G.T.builtins G.T.nolimit hg hobj hints (Nat.le_trans hlen hn2) hr TX (hC w _ KX) (hN w) (fun t ht=>?_) hF hb (fun H hS hT=>hsp w H a ns hlen hS hT) fun H e s'=>hCX w H s₁ e s'
  obtain ⟨bm,ob,b1,b2,b3,b4,b5,b6⟩:=G.T.bmain
  refine ⟨bm,ob,b1,b2,fun q=>?_,fun q=>?_,b3,b4,b5,b6⟩
  · obtain ⟨o,es,ep,e,hd,_⟩:=G.T.g
    rw [q,e] at b3;cases b3;rw [hd] at b6;cases b6
  · rw [q,TX t ht] at b3;cases b3;cases b4
end L2
namespace L2
open PySem PySem.Spec PyProof.Rows
def KDict (P:Program) (w:World) (K:PySem.W.Frag) (a:Addr) (kvs:List (Key × V)):Prop:=∀ h:Heap,K.In h->∃ vs,KV kvs vs/\h.DictOf (mixKind P w) a vs
abbrev entS (w:World) (p:Str × Tok × Value):DictEntry:={ hash:=PyData.keyHash w.params p.1,key:=.str p.1 p.2.1,val:=p.2.2 }
theorem KDict.of {P:Program} {w:World} {K:PySem.W.Frag} {a:Addr} {kvs:List (Key × V)} {l:List (Str × Tok × Value)} {es:Array DictEntry} {ep:Nat} (lk:K.lookup a=some { cls:=.type "dict",data:=.dict es ep }) (he:es.toList=l.map (entS w))
    (hv:KV kvs (l.map fun p=>((Sum.inr p.1:Key),p.2.2))) (nd:(kvs.map Prod.fst).Nodup):KDict P w K a kvs:=fun h hK=>by
  refine ⟨l.map fun p=>((Sum.inr p.1:Key),p.2.2),hv,_,es,ep,hK _ _ lk,⟨rfl,rfl,rfl⟩,rfl,fun e hm=>?_,?_,?_⟩
  · have:e ∈ es.toList:=Array.mem_toList_iff.mpr hm
    rw [he] at this
    obtain ⟨p,_,rfl⟩:=List.mem_map.mp this
    exact ⟨.inr p.1,by simp [mixKind,keyIs,Value.isStrOf],rfl⟩
  · rw [he]
    clear he hv nd lk
    induction l with
    | nil=>exact .nil
    | cons p l ih=>exact .cons (by simp [mixKind,keyIs,Value.isStrOf]) rfl ih
  · have:∀ {kvs:List (Key × V)} {vs:List (Key × Value)},KV kvs vs->vs.map Prod.fst=kvs.map Prod.fst:=fun {kvs vs} r=>by
      induction r with
      | nil=>rfl
      | cons h _ ih=>rw [List.map_cons,List.map_cons,ih,h.1]
    have e2:=this hv
    rw [show (List.map (fun x=>x.1) (List.map (fun p:Str × Tok × Value=>((Sum.inr p.1:Key),p.2.2)) l))=_ from e2]
    exact nd
section
variable {X:Cx} {o i:Expr} {td ty:TE} {pos:Pos}
def tDGetK (P:Program) (w:World) (K:PySem.W.Frag) (td ty:TE):TE:=fun σ H Q=>td σ H fun x H1=>ty σ H1 fun y H2=>∃ a kvs k v,x=.ref a/\KDict P w K a kvs/\y=kV k/\valV kvs k=some v/\Q v H2
theorem pe_dgetK {P:Program} {w:World} {K:PySem.W.Frag} (hP:X.prog=P) (hw:X.w=w) (hK:X.K=K) (ho:PE X o td) (hi:PE X i ty) (hs:NoSl i):PE X (.Subscript o i pos) (tDGetK P w K td ty):=by
  subst hP;subst hw;subst hK
  intro pins s σ H Q I h
  refine subD_of PySem.F.slot_dict_getitem.lookup hs (thn (ho pins s σ H _ I h) fun u s1 ⟨x,H1,I1,rx,q1⟩=>thn (hi pins s1 σ H1 _ I1 q1) fun iv s2 ⟨y,H2,I2,ry,a,kvs,k,v,ex,D,ey,l,q2⟩=>?_)
  subst ex
  subst ey
  obtain rfl:u=Value.ref a:=rx
  obtain ⟨vs,rel,dd⟩:=D _ I2.kIn
  obtain ⟨w',hw,rw'⟩:=RelO.some_of (v:=v) (o:=valueAt vs k) (by rw [← l];exact rel.val k)
  exact ⟨dd.typeIs,wpAny_getItem_of (kV_is ry) dd.mapOf hw ⟨v,H2,I2.tok _,rw',q2⟩⟩
theorem qpe_dgetK {P:Program} {w:World} {K:PySem.W.Frag} (hP:X.prog=P) (hw:X.w=w) (hK:X.K=K) (ho:QE X o td) (hi:QE X i ty) (hs:NoSl i):QE X (.Subscript o i pos) (tDGetK P w K td ty):=⟨pe_dgetK hP hw hK ho.h hi.h hs⟩
theorem qpe_callD {P:Program} {w:World} {K:PySem.W.Frag} {mg:Str->Option Value} {base:Heap} (hP:X.prog=P) (hw:X.w=w) (hK:X.K=K) (hM:X.mg=mg) (hB:X.base=base) {k:Nat} {x:Str} {p pos:Pos} {e:Expr} {es:List Expr} {t:TA} (i:Nat) (hr:Room k X.A) (ha:QA X (e::es) t)
    (hN:X.N[i]?=some x:=by rfl) (hv:Vis X.env.scope x:=by first | exact Or.inl rfl | exact Or.inr (Or.inl rfl) | exact Or.inr (Or.inr rfl))
    (hdb:(x == ("__debug__":Str))=false:=by decide) (hcd:(x == ("__classdict__":Str))=false:=by decide) (he:starEach (e::es) X.env=(false,eval e X.env)::starEach es X.env:=by rfl) :
    QE X (.Call (.Name x p) (e::es) [] pos) (tCallD P w K mg base k i t):=⟨pe_callD hP hw hK hM hB i hr ha.h hN hv hdb hcd he⟩
theorem qpe_callC {k:Nat} {f:Addr} {fd:FuncData} {ps:List Str} {sp:Sp} {x:Str} {p pos:Pos} {e:Expr} {es:List Expr} {t:TA} (js:List (Nat × Addr)) (hjs:∀ j ∈ js,∃ x,X.N[j.1]?=some x/\X.env.kindOf x=some .cell/\X.fn x=true/\X.env.cells.lookup x=some j.2)
    (F:FnOk X.prog X.w X.K X.mg X.base CX0 k f fd ps sp) (hr:Room k X.A) (hg:Gl X x) (hm:X.mg x=some (.ref f)) (hk:PySem.W.keepIn X.K (.ref f)=true) (hb:Binds X.K fd ps []) (ha:QA X (e::es) t)
    (hdb:(x == ("__debug__":Str))=false:=by decide) (he:starEach (e::es) X.env=(false,eval e X.env)::starEach es X.env:=by rfl) (hpl:(backTo pos (starEach es X.env)).any (·.1)=false:=by rfl) :
    QE X (.Call (.Name x p) (e::es) [] pos) (tCallC js sp t):=⟨pe_callC js hjs F hr hg hm hk hb ha.h hdb he hpl⟩
theorem qpe_lambda {params:Arguments} {body:Expr} {scope:Scope} {pos:Pos} {c Pt:Addr} {cl:List (Str × Addr)} {qual:Str} {pm:Value} (hq:X.env.qual++"<lambda>"=qual) (hpm:(X.mg "__name__").getD .none=pm) (hcode:X.env.code=.ref c) (hC:PySem.W.CodeHd X.base c Pt) (hbt:X.base.BuiltinsAt X.mg Pt)
    (hdef:defaultsOf params X.env=([],[]):=by rfl) (hcl:closureFor scope X.env=pure cl:=by rfl):QE X (.Lambda params body scope pos) (tLam Pt qual params body scope cl pm):=by
  subst hq;subst hpm
  exact ⟨pe_lambda hdef hcl hcode hC hbt⟩
structure QPP (X:Cx) (pos:Pos) (keys:List (Option Expr)) (values:List Expr) (trs:List (TE × TE)):Prop where
  h:PPs X pos keys values trs
theorem jb8 {pos:Pos}:QPP X pos [] [] []:=⟨pps_nil⟩
theorem zx {pos:Pos} {k v:Expr} {ks:List (Option Expr)} {vs:List Expr} {tk tv:TE} {trs:List (TE × TE)} (hk:QE X k tk) (hv:QE X v tv) (hr:QPP X pos ks vs trs):QPP X pos (some k::ks) (v::vs) ((tk,tv)::trs):=⟨pps_cons hk.h hv.h hr.h⟩
theorem jb4 {pos:Pos} {keys:List (Option Expr)} {values:List Expr} {trs:List (TE × TE)} (h:QPP X pos keys values trs) (hall:keys.all (·.isSome)=true:=by rfl) (hl:keys.length=values.length:=by rfl) (h0:keys≠[]:=by nofun) (h15:keys.length<=15:=by decide):QE X (.Dict keys values pos) (tDisp trs):=⟨pe_disp h.h hall hl h0 h15⟩
end
theorem Fun.okC {P:Program} {w:World} {K:PySem.W.Frag} {mg:Str->Option Value} {base:Heap} {x qual:Str} {st:Stmt} {f:Addr} {fd:FuncData} {N ps:List Str} {k:Nat} {sp:Sp} (F:Fun K x qual st f fd) (S:FnScope N ps (jj st)) (len:∀ vs H Q E,sp vs H Q E->vs.length=ps.length)
    (hbody:∀ (A:Around) (outer:List Env) (s:Shared) (H:Hp) (vs:List V) (Q:VK) (E:XK),Room k (A.deeper (envOfC qual (jj st) s.heap.objs.size f fd.code))->sp vs H Q E ->
      ∃ t,PSs (cxOf CX0 P w K mg base N qual (jj st) f fd.code A outer s H E).nox (jx st) t/\t { nx:=fun _ H'=>Q .non H',rt:=Q } (start N vs) H):FnOk P w K mg base CX0 (k+1) f fd ps sp:=by
  obtain ⟨oc,od,kV,doc,pm,an,cdv,ct,osl,rfl,lk,hcd⟩:=F.ex
  refine fn_of lk hcd S len fun A outer s H vs Q E hr hsp=>?_
  obtain ⟨t,h,q⟩:=hbody A outer s H vs Q E hr hsp
  exact ⟨t,h.nox,q⟩
theorem Caps.kp {S:List Addr} {H H':Hp} {cl:List (Str × Addr)} {fs:List Str} {ws:List V} (k:Kp S H H') (n:∀ p ∈ cl,p.2 ∉ S) (c:Caps H cl fs ws):Caps H' cl fs ws :=
  ⟨c.len,fun i x v e1 e2=>let ⟨a,o,u,h1,h2,h3,h4⟩:=c.at_ i x v e1 e2;⟨a,o,u,h1,k.old _ _ h2 (n (x,a) (PySem.mem_of_lookup h1)),h3,h4⟩,c.has,fun p hp=>let ⟨o,u,e,d⟩:=c.fz p hp;⟨o,u,k.old _ _ e (n p hp),d⟩,c.inj⟩
theorem TabOk.kp {S:List Addr} {H H':Hp} {Pt:Addr} {qual:Str} (k:Kp S H H') (n:Pt ∉ S) (hc:∀ c o,H c=some (FZ o)->c ∉ S) (x:TabOk H Pt qual):TabOk H' Pt qual :=
  let ⟨ps,e,t,h⟩:=x
  ⟨ps,k.old _ _ e n,t,fun p v q=>let ⟨c,e2,z⟩:=h p v q;⟨c,e2,z.kp k (let ⟨oc,_,_,q,_⟩:=z;hc c oc q)⟩⟩
end L2
namespace L2
open PySem PySem.Spec PyProof.Rows
section
variable {X:Cx} {tg:Expr}
end
end L2
namespace L2
open PySem PySem.Spec PyProof.Rows
section
variable {X:Cx}
theorem op_isT:OpR X (compareOp .Is) (fun x y H Q=>∃ c d,x=.bl c/\y=.bl d/\Q (.bl (c == d)) H):=by
  intro pins s σ H x y v u Q I rx ry h
  obtain ⟨c,d,rfl,rfl,q⟩:=h
  cases rx
  cases ry
  exact PyProof.Rows.is_bool ⟨.bl (c == d),H,I,rfl,q⟩
def tDNotInK (P:Program) (w:World) (K:PySem.W.Frag) (ty td:TE):TE:=fun σ H Q=>ty σ H fun y H1=>td σ H1 fun x H2=>∃ a kvs k,x=.ref a/\KDict P w K a kvs/\(a == sysModules)=false/\y=kV k/\Q (.bl (!(valV kvs k).isSome)) H2
theorem qpc_dnotinK {P:Program} {w:World} {K:PySem.W.Frag} (hP:X.prog=P) (hw:X.w=w) (hK:X.K=K) {i o:Expr} {ty td:TE} (hi:QE X i ty) (ho:QE X o td):QC X .NotIn i o (tDNotInK P w K ty td):=by
  subst hP;subst hw;subst hK
  refine ⟨fun pins s σ H Q I h=>?_⟩
  refine thn (hi.h pins s σ H _ I h) fun iv s1 ⟨y,H1,I1,ry,q1⟩=>thn (ho.h pins s1 σ H1 _ I1 q1) fun u s2 ⟨x,H2,I2,rx,a,kvs,k,ex,D,hs,ey,q2⟩=>?_
  subst ex
  subst ey
  obtain rfl:u=Value.ref a:=rx
  obtain ⟨vs,rel,dd⟩:=D _ I2.kIn
  refine wpAny_notIn_of (kV_is ry) hs dd.mapOf ?_
  rw [← (rel.val k).isSome_eq]
  exact ⟨.bl _,H2,I2.tok _,rfl,q2⟩
end
def ItZK (K:PySem.W.Frag) (a b:Addr):It:=⟨fun i H=>∃ xs ys x y,SqT K H a xs/\SqT K H b ys/\xs[i]?=some x/\ys[i]?=some y,
  fun i H v H'=>∃ T x y,H T=none/\v=.ref T/\(∀ xs,SqT K H a xs->xs[i]?=some x)/\(∀ ys,SqT K H b ys->ys[i]?=some y)/\H'=upd H T (.tup [x,y]),fun i H=>∃ xs ys,SqT K H a xs/\SqT K H b ys/\i=min xs.length ys.length⟩
section
variable {P:Program} {w:World} {K:PySem.W.Frag}
def ZTK (a b z TI TO i1 i2:Addr) (i:Nat) (h:Heap):Prop:=IsZip h z TI TO .none/\IsPair h TI (.ref i1) (.ref i2)/\(∃ x y,IsPair h TO x y)/\h.IsTupleIter i1 a i/\h.IsTupleIter i2 b i
theorem ZTK.tys {a b z TI TO i1 i2:Addr} {i:Nat} {h:Heap} (t:ZTK a b z TI TO i1 i2 i h):∀ c ∈ [z,TI,TO,i1,i2],∃ o,h.get? c=some o/\(∀ v,o.data≠.cell v):=by
  obtain ⟨e0,e1,⟨x,y,e2⟩,⟨o3,e3,_,d3⟩,⟨o4,e4,_,d4⟩⟩:=t
  intro c hc
  simp only [List.mem_cons,List.not_mem_nil,or_false] at hc
  rcases hc with rfl | rfl | rfl | rfl | rfl
  · exact ⟨_,e0,fun v q=>by cases q⟩
  · exact ⟨_,e1,fun v q=>by cases q⟩
  · exact ⟨_,e2,fun v q=>by cases q⟩
  · exact ⟨_,e3,fun v q=>by rw [d3] at q;cases q⟩
  · exact ⟨_,e4,fun v q=>by rw [d4] at q;cases q⟩
theorem Inv.apartT {X:Cx} {pins:List (Addr × Obj)} {σ:St} {H:Hp} {s:Shared} (I:Inv X pins σ H s) {c d:Addr} {xs:List V} (h:SqT X.K H c xs) (f:FpOk X pins H d):d≠c:=by
  rintro rfl
  rcases h with (h | ⟨_,h⟩) | ⟨o,its,n,hk,_⟩
  · rw [f.1] at h;cases h
  · rw [f.1] at h;cases h
  · have hb:=I.ok.mod.kin _ _ hk
    rcases f.2.2.2.1 with m | m
    · exact I.ok.noex _ _ hb m
    · exact absurd (Heap.lt_size (I.ok.bs _ _ hb).1) (Nat.not_lt.mpr m)
theorem turn_zipK {elts:List Expr} {kk:Nat} {pos:Pos} (a b z TI TO i1 i2:Addr) (D:ZA z TI TO i1 i2 [i1] [i2]):Turn P w K (.Tuple elts kk pos) (ItZK K a b) [z,TI,TO,i1,i2] z (ZTK a b z TI TO i1 i2) where
  mem:=.head _
  obj:=fun i h st c hc=>st.tys c hc
  keep:=fun i h h' st k=>by
    obtain ⟨e0,e1,⟨x,y,e2⟩,⟨o3,e3,r3⟩,⟨o4,e4,r4⟩⟩:=st
    exact ⟨k z (by simp) _ e0,k TI (by simp) _ e1,⟨x,y,k TO (by simp) _ e2⟩,⟨o3,k i1 (by simp) _ e3,r3⟩,⟨o4,k i2 (by simp) _ e4,r4⟩⟩
  item:=by
    intro X hP hw hK hc i pins s σ H E I hf st hg
    subst hP hw hK
    obtain ⟨xs,ys,x',y',hx,hy,gx,gy⟩:=hg
    obtain ⟨va,ra,pa,_⟩:=I.tuple hx
    obtain ⟨vb,rb,pb,_⟩:=I.tuple hy
    obtain ⟨u,hu,ru⟩:=ra.get gx
    obtain ⟨v,hv,rv⟩:=rb.get gy
    have n1:∀ d ∈ [z,TI,TO,i1,i2],d≠a:=fun d hd=>I.apartT hx (hf d hd)
    have n2:∀ d ∈ [z,TI,TO,i1,i2],d≠b:=fun d hd=>I.apartT hy (hf d hd)
    have h0:X.A.in1.handled=none:=I.ok.hd hc
    have W:=walks_zipD (A:=X.A) (dr_tup (prog:=X.prog) (w:=X.w) h0 i1 a (n1 i1 (by simp)).symm va.toArray) (dr_tup (prog:=X.prog) (w:=X.w) h0 i2 b (n2 i2 (by simp)).symm vb.toArray) (za_more D n1 n2)
    have la:i < va.toArray.size:=by rw [List.size_toArray];exact (List.getElem?_eq_some_iff.mp hu).1
    have lb:i < vb.toArray.size:=by rw [List.size_toArray];exact (List.getElem?_eq_some_iff.mp hv).1
    refine W.item i s _ _ (by omega) ⟨st.1,st.2.1,st.2.2.1,⟨st.2.2.2.1,pa⟩,⟨st.2.2.2.2,pb⟩⟩ fun T vs h' tk hp hT htup mid kk'=>⟨_,rfl,?_⟩
    have nT:=W.apart _ _ _ mid
    refine W.go _ _ _ i T { s with heap:=h',toks:=tk } _ _ mid fun h'' st'' k''=>?_
    have tup':IsTup h'' T vs:=let ⟨o,eo,r⟩:=htup;⟨o,k'' T o nT eo,r⟩
    have hv':Vals [x',y'] vs.toList:=by
      obtain ⟨x1,y1,p1,p2,rfl⟩:=hp
      rw [show va.toArray[i]?=some u from by simpa using hu] at p1
      rw [show vb.toArray[i]?=some v from by simpa using hv] at p2
      cases p1
      cases p2
      exact .cons ru (.cons rv .nil)
    have Z':ZTK a b z TI TO i1 i2 (i+1) h'':=⟨st''.1,st''.2.1,st''.2.2.1,st''.2.2.2.1.1,st''.2.2.2.2.1⟩
    refine ⟨.ref T,upd H T (.tup [x',y']),?_,rfl,⟨T,x',y',I.hok.fresh hT,rfl,fun zs q=>by rw [I.tuple_inj q hx];exact gx,fun zs q=>by rw [I.tuple_inj q hy];exact gy,rfl⟩,Z',fun c hb=>?_⟩
    · refine I.turnedNew (fp:=[z,TI,TO,i1,i2]) (wr:=[z,TO,i1,i2]) (fun c hb=>hf c (by simp at hb ⊢;rcases hb with r | r | r | r <;> simp [r])) (fun c o hb eo=>k'' c o hb (kk' c o hb eo)) hT (by simpa using tup') hv' (by show 2<=sizeLine;decide) fun c hb=>?_
      obtain ⟨o,eo,_⟩:=Z'.tys c (by simp at hb ⊢;rcases hb with r | r | r | r <;> simp [r])
      exact ⟨o,eo⟩
    · obtain ⟨o,eo,_⟩:=st.tys c hb
      rw [je (Nat.ne_of_lt (Nat.lt_of_lt_of_le (Heap.lt_size eo) hT))]
      exact (hf c hb).1
  done:=by
    intro X hP hw hK hc i pins s σ H E I hf st hg
    subst hP hw hK
    obtain ⟨xs,ys,hx,hy,hi⟩:=hg
    obtain ⟨va,ra,pa,_⟩:=I.tuple hx
    obtain ⟨vb,rb,pb,_⟩:=I.tuple hy
    have n1:∀ d ∈ [z,TI,TO,i1,i2],d≠a:=fun d hd=>I.apartT hx (hf d hd)
    have n2:∀ d ∈ [z,TI,TO,i1,i2],d≠b:=fun d hd=>I.apartT hy (hf d hd)
    have h0:X.A.in1.handled=none:=I.ok.hd hc
    have W:=walks_zipD (A:=X.A) (dr_tup (prog:=X.prog) (w:=X.w) h0 i1 a (n1 i1 (by simp)).symm va.toArray) (dr_tup (prog:=X.prog) (w:=X.w) h0 i2 b (n2 i2 (by simp)).symm vb.toArray) (za_more D n1 n2)
    have hn:min va.toArray.size vb.toArray.size=i:=by rw [List.size_toArray,List.size_toArray,← ra.length,← rb.length];exact hi.symm
    refine W.done s _ _ (by rw [hn];exact ⟨st.1,st.2.1,st.2.2.1,⟨st.2.2.2.1,pa⟩,⟨st.2.2.2.2,pb⟩⟩) fun h' tk kk'=>⟨rfl,?_⟩
    exact I.walked (fun c hb=>hf c (by simp at hb ⊢;rcases hb with r | r | r | r <;> simp [r])) kk'
  self:=fun A i s Q E st q=>wpAny_pyIter_zip st.1 q
end
theorem loop_ZK {K:PySem.W.Frag} {a b:Addr} {xs ys:List V} {g:TG} {tb:TS} {D:Ends} {σ:L2.St} {H:Hp} (Pv:Nat->L2.St->Hp->Prop) (h0:Pv 0 σ H) (hl:ys.length=xs.length) (ha:∀ i σ H,i<=xs.length->Pv i σ H->SqT K H a xs/\SqT K H b ys)
    (hs:∀ i x y σ H T,xs[i]?=some x->ys[i]?=some y->Pv i σ H->H T=none->g (.ref T) σ (upd H T (.tup [x,y])) fun σ2 H2=>tb { D with nx:=Pv (i+1),ct:=Pv (i+1),bk:=D.nx } σ2 H2) (hd:∀ σ H,Pv xs.length σ H->D.nx σ H):LoopR (ItZK K a b) g tb D σ H:=by
  refine ⟨fun i m σ H=>m+i=xs.length/\Pv i σ H,⟨xs.length,rfl,h0⟩,?_⟩
  rintro i m σ H ⟨hm,p⟩
  obtain ⟨e1,e2⟩:=ha i σ H (by omega) p
  by_cases hi:i < xs.length
  · refine .inr ⟨⟨xs,ys,xs[i],ys[i],e1,e2,by simp [hi],by simp [hl,hi]⟩,Pv (i+1),fun σ' H' p'=>⟨m - 1,by omega,by omega,p'⟩,fun v H' q=>?_⟩
    obtain ⟨T,x,y,hT,rfl,q1,q2,rfl⟩:=q
    exact hs i x y σ H T (q1 xs e1) (q2 ys e2) p hT
  · obtain rfl:i=xs.length:=by omega
    exact .inl ⟨⟨xs,ys,e1,e2,by omega⟩,hd σ H p⟩
section
variable {X:Cx}
def iZipK (K:PySem.W.Frag) (ta:TA):TI:=fun σ H R=>ta σ H fun vs H1=>∃ a b xs ys,vs=[.ref a,.ref b]/\SqT K H1 a xs/\SqT K H1 b ys/\R (ItZK K a b) H1
theorem qpi_zipK {K:PySem.W.Frag} (hK:X.K=K) {a b:Expr} {ta:TA} {p pos tpos:Pos} {elts:List Expr} {kk:Nat} (hg:Gl X "zip") (hm:X.mg "zip"=none) (ha:QA X [a,b] ta) (hs:starEach [a,b] X.env=[(false,eval a X.env),(false,eval b X.env)]:=by rfl) (hs2:starEach [b] X.env=[(false,eval b X.env)]:=by rfl) :
    QI X (.Tuple elts kk tpos) (.Call (.Name "zip" p) [a,b] [] pos) (iZipK K ta):=by
  subst hK
  refine ⟨fun pins s σ H R I h=>?_⟩
  refine Call_ (ld_blt I hg hm jcp (PyProof.Rows.callWith_type1 (thn (ha.h pos pins s σ H _ I h) fun us s1 ⟨vs,H1,I1,r1,q1⟩=>?_) (by rw [hs,hs2]) (by rw [hs2];rfl)))
  obtain ⟨c,d,xs,ys,rfl,ec,ed,q⟩:=q1
  obtain ⟨u1,u2,rfl,ru,rv⟩:=vals2 r1
  cases ru
  cases rv
  obtain ⟨va,ra,pa,_⟩:=I1.tuple ec
  obtain ⟨vb,rb,pb,_⟩:=I1.tuple ed
  refine call_zipTT pa pb fun h' M=>?_
  have I2:Inv X pins σ H1 { s1 with heap:=h' }:=I1.kept (t':=s1.toks) M.old
  have D:ZA (s1.heap.objs.size+4) (s1.heap.objs.size+2) (s1.heap.objs.size+3) s1.heap.objs.size (s1.heap.objs.size+1) [s1.heap.objs.size] [s1.heap.objs.size+1]:=by
    constructor <;> simp <;> omega
  refine wpAny_pyIter_zip M.z ⟨s1.heap.objs.size+4,_,_,_,H1,rfl,I2,turn_zipK c d _ _ _ _ _ D,⟨M.z,M.ti,⟨_,_,M.to⟩,M.i1,M.i2⟩,fun b hb=>?_,q⟩
  have hb':s1.heap.objs.size<=b:=by
    simp only [List.mem_cons,List.not_mem_nil,or_false] at hb
    rcases hb with rfl | rfl | rfl | rfl | rfl <;> first | exact Nat.le_refl _ | exact Nat.le_add_right _ _
  exact I1.fpOk (H':=H1) hb' (I1.hok.fresh hb')
end
end L2
namespace L2
open PySem PySem.Spec PyProof.Rows
section
variable {env:Env} {es:List Expr}
theorem jk {c:Const} {j:Nat} {pos:Pos}:starEach (.Constant c j pos::es) env=(false,eval (.Constant c j pos) env)::starEach es env:=rfl
theorem zi {x:Str} {pos:Pos}:starEach (.Name x pos::es) env=(false,eval (.Name x pos) env)::starEach es env:=rfl
theorem ja7 {a b:Expr} {op:Operator} {pos:Pos}:starEach (.BinOp a op b pos::es) env=(false,eval (.BinOp a op b pos) env)::starEach es env:=rfl
theorem jbq {a:Expr} {op:UnaryOp} {pos:Pos}:starEach (.UnaryOp op a pos::es) env=(false,eval (.UnaryOp op a pos) env)::starEach es env:=rfl
theorem jbb {a b:Expr} {pos:Pos}:starEach (.Subscript a b pos::es) env=(false,eval (.Subscript a b pos) env)::starEach es env:=rfl
theorem jcl {f:Expr} {as:List Expr} {ks} {pos:Pos}:starEach (.Call f as ks pos::es) env=(false,eval (.Call f as ks pos) env)::starEach es env:=rfl
end
end L2
namespace L2
open PySem PySem.Spec PyProof.Rows
section
variable {X:Cx} {o e f:Expr} {apos cpos:Pos} {td ty tx:TE}
end
end L2
namespace L2
open PySem PySem.Spec PyProof.Rows
section
variable {X:Cx} {pins:List (Addr × Obj)} {σ:St} {H:Hp} {s:Shared}
end
end L2
namespace L2
open PySem PySem.Spec PyProof.Rows
section
variable {P:Program} {w:World} {K:PySem.W.Frag} {mg:Str->Option Value} {base:Heap} {x qual:Str} {st:Stmt} {f td:Addr} {fd:FuncData} {N ps:List Str} {k:Nat} {sp:Sp}
end
end L2
namespace L2
open PySem PySem.Spec PyProof.Rows
section
variable {X:Cx} {o e:Expr} {apos cpos:Pos} {td ty:TE}
def tDUp (td ty:TE):TE:=fun σ H Q=>td σ H fun x H1=>∃ a,x=.ref a/\IsD H1 a/\ty σ H1 fun y H2=>∃ b kvs more,y=.ref b/\a≠b/\H2 a=some (.dK kvs)/\H2 b=some (.dK more)/\kvs.length+more.length<=sizeLine /\
  Q .non (upd H2 a (.dK (mergeK kvs more)))
theorem pe_dup (ho:PE X o td) (he:PE X e ty) (m:M1 X o "update" apos e cpos):PE X (.Call (.Attribute o "update" apos) [e] [] cpos) (tDUp td ty):=by
  intro pins s σ H Q I h
  refine wpAny_Call_method m.base m.few m.line PySem.F.plainAttrs_dict PySem.F.slot_dict_update PySem.F.type_dict_update (thn (ho pins s σ H _ I h) fun u s1 ⟨x,H1,I1,rx,a,ex,d,q1⟩=>?_)
  subst ex
  obtain rfl:u=Value.ref a:=rx
  obtain ⟨t1,t2,_⟩:=isD_at I1 d
  refine ⟨t1,t2,?_⟩
  rw [m.trees]
  refine Calls.callWith_builtin rfl (Calls.evalArgs_plain (Calls.spliced_cons (thn (he pins s1 σ H1 _ I1 q1) fun iv s2 ⟨y,H2,I2,ry,b,kvs,more,ey,hne,ea,eb,hl,q2⟩=>Calls.spliced_nil ?_)))
  subst ey
  obtain rfl:iv=Value.ref b:=ry
  obtain ⟨za,hda,va,ra,da⟩:=dk_of I2.hok ea
  obtain ⟨zb,hdb,vb,rb,db⟩:=dk_of I2.hok eb
  have hz:va.length+vb.length<=sizeLine:=by rw [← ra.length,← rb.length];exact hl
  refine call_meetsIn PySem.F.slot_dict_update da.typeIs PySem.F.entry_dict_update (PySem.F.args_dict_update_2 _ _) (meets_dict_update (mixKind X.prog X.w) a b hne hdb) ⟨va,vb,da,db,hz,fun h' dd' _ hs=>?_⟩
  have hlp:(mergeK kvs more).length<=sizeLine:=by have:=length_mergeK more kvs;omega
  have he':∃ q,h'.get? a=some q:=let ⟨q,_,_,hq,_⟩:=dd';⟨q,hq⟩
  exact ⟨.non,_,d_write I2 (by rw [ea];exact True.intro) hs he' (dk_new hlp hda (rb.merge ra) dd'),rfl,q2⟩
theorem qpe_dup (ho:QE X o td) (he:QE X e ty) (m:M1 X o "update" apos e cpos):QE X (.Call (.Attribute o "update" apos) [e] [] cpos) (tDUp td ty):=⟨pe_dup ho.h he.h m⟩
end
end L2
namespace L2
open PySem PySem.Spec PyProof.Rows
structure ZN (h h':Heap) (x:Str) (t:Tok) (b:Addr):Prop where
  z:h'.get? (h.objs.size+4)=some (ZO .none (.bool false) (h.objs.size+2) (h.objs.size+3))
  ti:IsPair h' (h.objs.size+2) (.ref h.objs.size) (.ref (h.objs.size+1))
  to:IsPair h' (h.objs.size+3) .none .none
  i1:h'.IsStrIter h.objs.size (strIterType x) x t 0
  i2:h'.IsTupleIter (h.objs.size+1) b 0
  old:∀ c o,h.get? c=some o->h'.get? c=some o
def znH (h:Heap) (x:Str) (t:Tok) (b:Addr):Heap:=((((h.push (zsO x t)).push (ztO b)).push { cls:=.type "tuple",data:=.seq #[.ref h.objs.size,.ref (h.objs.size+1)] }).push { cls:=.type "tuple",data:=.seq #[.none,.none] }).push (ZO .none (.bool false) (h.objs.size+2) (h.objs.size+3))
theorem zn_of (h:Heap) (x:Str) (t:Tok) (b:Addr):ZN h (znH h x t b) x t b:=by
  have P:∀ (k:Heap) (o:Obj) {c:Addr} {u:Obj},k.get? c=some u->(k.push o).get? c=some u:=fun k o {c u} e=>Heap.get?_push_of_some o e
  have t1:(h.push (zsO x t)).objs.size=h.objs.size+1:=by rw [Heap.size_push]
  have t2:((h.push (zsO x t)).push (ztO b)).objs.size=h.objs.size+2:=by rw [Heap.size_push,t1]
  have t3:(((h.push (zsO x t)).push (ztO b)).push { cls:=.type "tuple",data:=.seq #[.ref h.objs.size,.ref (h.objs.size+1)] }).objs.size=h.objs.size+3:=by rw [Heap.size_push,t2]
  have t4:((((h.push (zsO x t)).push (ztO b)).push { cls:=.type "tuple",data:=.seq #[.ref h.objs.size,.ref (h.objs.size+1)] }).push { cls:=.type "tuple",data:=.seq #[.none,.none] }).objs.size=h.objs.size+4:=by rw [Heap.size_push,t3]
  unfold znH
  refine ⟨?_,?_,?_,⟨_,P _ _ (P _ _ (P _ _ (P _ _ (Heap.get?_push_size _ rfl)))),rfl,rfl⟩,⟨ztO b,?_,rfl,rfl⟩,fun c o e=>P _ _ (P _ _ (P _ _ (P _ _ (P _ _ e))))⟩
  · rw [← t4];exact Heap.get?_push_size _ rfl
  · rw [← t2];exact P _ _ (P _ _ (Heap.get?_push_size _ rfl))
  · rw [← t3];exact P _ _ (Heap.get?_push_size _ rfl)
  · rw [← t1];exact P _ _ (P _ _ (P _ _ (Heap.get?_push_size _ rfl)))
theorem meets_zipST (x:Str) (t:Tok) (b:Addr) (vb:Array Value) :
    Meets (Builtin.«zip.__new__» ⟨[.type "zip",.str x t,.ref b],[]⟩) (fun _ R s=>s.heap.IsTuple b vb/\R (.ok (.ret (.ref (s.heap.objs.size+4)))) { s with heap:=znH s.heap x t b }) :=
  .of_wp fun prog w A R s h=>by
    obtain ⟨hp,g,d,tk,os⟩:=s
    obtain ⟨hb,h⟩:=h
    have hsub:=sub_zip
    have hb':(Heap.push hp (zsO x t)).IsTuple b vb:=hb.push _
    wp_walk using wpAny_pyIter_strU,wpAny_pyIter_tuple hb'
    refine ⟨_,rfl,?_⟩
    simp only [Heap.size_push]
    exact h
theorem call_zipST {prog:Program} {w:World} {A:Around} {E:Value->Shared->Prop} {s:Shared} {x:Str} {t:Tok} {b:Addr} {vb:Array Value} {Q:Value->Shared->Prop} (hb:s.heap.IsTuple b vb)
    (q:∀ h',ZN s.heap h' x t b->Q (.ref (s.heap.objs.size+4)) { s with heap:=h' }):wpAny (model prog w) A (call (.type "zip") [.str x t,.ref b]) Q E s:=by
  refine callType_new PySem.F.called_zip (by decide) (PySem.F.typeCall_zip_2 _ _) (PySem.F.newCall_zip_2 _ _) (fun obj=>PySem.F.args_object_init_3 obj _ _) PySem.F.entry_zip_new (meets_zipST x t b vb) ⟨hb,?_⟩
  have m:=zn_of s.heap x t b
  exact ⟨⟨_,m.z,rfl⟩,q _ m⟩
def ItZN (K:PySem.W.Frag) (x:Str) (b:Addr):It:=⟨fun i H=>∃ ys y,SqT K H b ys/\i < x.length/\ys[i]?=some y,
  fun i H v H'=>∃ T y,H T=none/\v=.ref T/\(∀ ys,SqT K H b ys->ys[i]?=some y)/\H'=upd H T (.tup [.str ⟨#[x.cps.toList.getD i 0]⟩,y]),fun i H=>∃ ys,SqT K H b ys/\i=min x.length ys.length⟩
section
variable {P:Program} {w:World} {K:PySem.W.Frag}
def ZTN (x:Str) (t:Tok) (b z TI TO i1 i2:Addr) (i:Nat) (h:Heap):Prop:=IsZip h z TI TO .none/\IsPair h TI (.ref i1) (.ref i2)/\(∃ x y,IsPair h TO x y)/\h.IsStrIter i1 (strIterType x) x t i/\h.IsTupleIter i2 b i
theorem ZTN.tys {x:Str} {t:Tok} {b z TI TO i1 i2:Addr} {i:Nat} {h:Heap} (t:ZTN x t b z TI TO i1 i2 i h):∀ c ∈ [z,TI,TO,i1,i2],∃ o,h.get? c=some o/\(∀ v,o.data≠.cell v):=by
  obtain ⟨e0,e1,⟨x,y,e2⟩,⟨o3,e3,_,d3⟩,⟨o4,e4,_,d4⟩⟩:=t
  intro c hc
  simp only [List.mem_cons,List.not_mem_nil,or_false] at hc
  rcases hc with rfl | rfl | rfl | rfl | rfl
  · exact ⟨_,e0,fun v q=>by cases q⟩
  · exact ⟨_,e1,fun v q=>by cases q⟩
  · exact ⟨_,e2,fun v q=>by cases q⟩
  · exact ⟨_,e3,fun v q=>by rw [d3] at q;cases q⟩
  · exact ⟨_,e4,fun v q=>by rw [d4] at q;cases q⟩
theorem za_moreN {z TI TO i1 i2 b:Addr} (D:ZA z TI TO i1 i2 [i1] [i2]) (nb:∀ d ∈ [z,TI,TO,i1,i2],d≠b):ZA z TI TO i1 i2 [i1] [i2,b] :=
  ⟨D.TIz,D.TOz,D.i1z,D.i2z,D.TITO,D.TIi1,D.TIi2,D.TOi1,D.TOi2,D.i12,D.zf1,by simpa using ⟨D.i2z.symm,nb z (by simp)⟩,
    D.Tf1,by simpa using ⟨D.TOi2,nb TO (by simp)⟩,by simpa using ⟨D.i12,nb i1 (by simp)⟩,by simpa using D.i12.symm⟩
theorem turn_zipN {elts:List Expr} {kk:Nat} {pos:Pos} (x:Str) (t:Tok) (b z TI TO i1 i2:Addr) (D:ZA z TI TO i1 i2 [i1] [i2]):Turn P w K (.Tuple elts kk pos) (ItZN K x b) [z,TI,TO,i1,i2] z (ZTN x t b z TI TO i1 i2) where
  mem:=.head _
  obj:=fun i h st c hc=>st.tys c hc
  keep:=fun i h h' st k=>by
    obtain ⟨e0,e1,⟨x,y,e2⟩,⟨o3,e3,r3⟩,⟨o4,e4,r4⟩⟩:=st
    exact ⟨k z (by simp) _ e0,k TI (by simp) _ e1,⟨x,y,k TO (by simp) _ e2⟩,⟨o3,k i1 (by simp) _ e3,r3⟩,⟨o4,k i2 (by simp) _ e4,r4⟩⟩
  item:=by
    intro X hP hw hK hc i pins s σ H E I hf st hg
    subst hP hw hK
    obtain ⟨ys,y',hy,gx,gy⟩:=hg
    obtain ⟨vb,rb,pb,_⟩:=I.tuple hy
    obtain ⟨v,hv,rv⟩:=rb.get gy
    have n2:∀ d ∈ [z,TI,TO,i1,i2],d≠b:=fun d hd=>I.apartT hy (hf d hd)
    have h0:X.A.in1.handled=none:=I.ok.hd hc
    have W:=walks_zipD (A:=X.A) (drS (P:=X.prog) (w:=X.w) (A:=X.A) h0 i1 x t) (dr_tup (prog:=X.prog) (w:=X.w) h0 i2 b (n2 i2 (by simp)).symm vb.toArray) (za_moreN D n2)
    have la:i < x.cps.size:=gx
    have lb:i < vb.toArray.size:=by rw [List.size_toArray];exact (List.getElem?_eq_some_iff.mp hv).1
    refine W.item i s _ _ (by omega) ⟨st.1,st.2.1,st.2.2.1,st.2.2.2.1,⟨st.2.2.2.2,pb⟩⟩ fun T vs h' tk hp hT htup mid kk'=>⟨_,rfl,?_⟩
    have nT:=W.apart _ _ _ mid
    refine W.go _ _ _ i T { s with heap:=h',toks:=tk } _ _ mid fun h'' st'' k''=>?_
    have tup':IsTup h'' T vs:=let ⟨o,eo,r⟩:=htup;⟨o,k'' T o nT eo,r⟩
    have hv':Vals [.str ⟨#[x.cps.toList.getD i 0]⟩,y'] vs.toList:=by
      obtain ⟨x1,y1,⟨c,u,hc1,rfl⟩,p2,rfl⟩:=hp
      rw [show vb.toArray[i]?=some v from by simpa using hv] at p2
      cases p2
      have e1:x.cps.toList.getD i 0=c:=by
        have:x.cps.toList[i]?=some c:=by simpa using hc1
        rw [List.getD_eq_getElem?_getD,this];rfl
      exact .cons ⟨u,by rw [e1]⟩ (.cons rv .nil)
    have Z':ZTN x t b z TI TO i1 i2 (i+1) h'':=⟨st''.1,st''.2.1,st''.2.2.1,st''.2.2.2.1,st''.2.2.2.2.1⟩
    refine ⟨.ref T,upd H T (.tup [.str ⟨#[x.cps.toList.getD i 0]⟩,y']),?_,rfl,⟨T,y',I.hok.fresh hT,rfl,fun zs q=>by rw [I.tuple_inj q hy];exact gy,rfl⟩,Z',fun c hb=>?_⟩
    · refine I.turnedNew (fp:=[z,TI,TO,i1,i2]) (wr:=[z,TO,i1,i2]) (fun c hb=>hf c (by simp at hb ⊢;rcases hb with r | r | r | r <;> simp [r])) (fun c o hb eo=>k'' c o hb (kk' c o hb eo)) hT (by simpa using tup') hv' (by show 2<=sizeLine;decide) fun c hb=>?_
      obtain ⟨o,eo,_⟩:=Z'.tys c (by simp at hb ⊢;rcases hb with r | r | r | r <;> simp [r])
      exact ⟨o,eo⟩
    · obtain ⟨o,eo,_⟩:=st.tys c hb
      rw [je (Nat.ne_of_lt (Nat.lt_of_lt_of_le (Heap.lt_size eo) hT))]
      exact (hf c hb).1
  done:=by
    intro X hP hw hK hc i pins s σ H E I hf st hg
    subst hP hw hK
    obtain ⟨ys,hy,hi⟩:=hg
    obtain ⟨vb,rb,pb,_⟩:=I.tuple hy
    have n2:∀ d ∈ [z,TI,TO,i1,i2],d≠b:=fun d hd=>I.apartT hy (hf d hd)
    have h0:X.A.in1.handled=none:=I.ok.hd hc
    have W:=walks_zipD (A:=X.A) (drS (P:=X.prog) (w:=X.w) (A:=X.A) h0 i1 x t) (dr_tup (prog:=X.prog) (w:=X.w) h0 i2 b (n2 i2 (by simp)).symm vb.toArray) (za_moreN D n2)
    have hn:min x.cps.size vb.toArray.size=i:=by rw [show vb.toArray.size=ys.length from by rw [List.size_toArray,← rb.length]];exact hi.symm
    refine W.done s _ _ (by rw [hn];exact ⟨st.1,st.2.1,st.2.2.1,st.2.2.2.1,⟨st.2.2.2.2,pb⟩⟩) fun h' tk kk'=>⟨rfl,?_⟩
    exact I.walked (fun c hb=>hf c (by simp at hb ⊢;rcases hb with r | r | r | r <;> simp [r])) kk'
  self:=fun A i s Q E st q=>wpAny_pyIter_zip st.1 q
end
theorem loop_ZN {K:PySem.W.Frag} {x:Str} {b:Addr} {ys:List V} {g:TG} {tb:TS} {D:Ends} {σ:L2.St} {H:Hp} (Pv:Nat->L2.St->Hp->Prop) (h0:Pv 0 σ H) (hl:ys.length=x.length) (ha:∀ i σ H,i<=x.length->Pv i σ H->SqT K H b ys)
    (hs:∀ i y σ H T,i < x.length->ys[i]?=some y->Pv i σ H->H T=none->g (.ref T) σ (upd H T (.tup [.str ⟨#[x.cps.toList.getD i 0]⟩,y])) fun σ2 H2=>tb { D with nx:=Pv (i+1),ct:=Pv (i+1),bk:=D.nx } σ2 H2) (hd:∀ σ H,Pv x.length σ H->D.nx σ H):LoopR (ItZN K x b) g tb D σ H:=by
  refine ⟨fun i m σ H=>m+i=x.length/\Pv i σ H,⟨x.length,rfl,h0⟩,?_⟩
  rintro i m σ H ⟨hm,p⟩
  have e2:=ha i σ H (by omega) p
  by_cases hi:i < x.length
  · refine .inr ⟨⟨ys,ys[i]'(by omega),e2,hi,by simp [hl,hi]⟩,Pv (i+1),fun σ' H' p'=>⟨m - 1,by omega,by omega,p'⟩,fun v H' q=>?_⟩
    obtain ⟨T,y,hT,rfl,q2,rfl⟩:=q
    exact hs i y σ H T hi (q2 ys e2) p hT
  · obtain rfl:i=x.length:=by omega
    exact .inl ⟨⟨ys,e2,by omega⟩,hd σ H p⟩
section
variable {X:Cx}
def iZipN (K:PySem.W.Frag) (ta:TA):TI:=fun σ H R=>ta σ H fun vs H1=>∃ x b ys,vs=[.str x,.ref b]/\SqT K H1 b ys/\R (ItZN K x b) H1
theorem qpi_zipN {K:PySem.W.Frag} (hK:X.K=K) {a b:Expr} {ta:TA} {p pos tpos:Pos} {elts:List Expr} {kk:Nat} (hg:Gl X "zip") (hm:X.mg "zip"=none) (ha:QA X [a,b] ta) (hs:starEach [a,b] X.env=[(false,eval a X.env),(false,eval b X.env)]:=by rfl) (hs2:starEach [b] X.env=[(false,eval b X.env)]:=by rfl) :
    QI X (.Tuple elts kk tpos) (.Call (.Name "zip" p) [a,b] [] pos) (iZipN K ta):=by
  subst hK
  refine ⟨fun pins s σ H R I h=>?_⟩
  refine Call_ (ld_blt I hg hm jcp (PyProof.Rows.callWith_type1 (thn (ha.h pos pins s σ H _ I h) fun us s1 ⟨vs,H1,I1,r1,q1⟩=>?_) (by rw [hs,hs2]) (by rw [hs2];rfl)))
  obtain ⟨x,d,ys,rfl,ed,q⟩:=q1
  obtain ⟨u1,u2,rfl,ru,rv⟩:=vals2 r1
  obtain ⟨t,rfl⟩:=ru
  cases rv
  obtain ⟨vb,rb,pb,_⟩:=I1.tuple ed
  refine call_zipST pb fun h' M=>?_
  have I2:Inv X pins σ H1 { s1 with heap:=h' }:=I1.kept (t':=s1.toks) M.old
  have D:ZA (s1.heap.objs.size+4) (s1.heap.objs.size+2) (s1.heap.objs.size+3) s1.heap.objs.size (s1.heap.objs.size+1) [s1.heap.objs.size] [s1.heap.objs.size+1]:=by
    constructor <;> simp <;> omega
  refine wpAny_pyIter_zip M.z ⟨s1.heap.objs.size+4,_,_,_,H1,rfl,I2,turn_zipN x t d _ _ _ _ _ D,⟨M.z,M.ti,⟨_,_,M.to⟩,M.i1,M.i2⟩,fun b hb=>?_,q⟩
  have hb':s1.heap.objs.size<=b:=by
    simp only [List.mem_cons,List.not_mem_nil,or_false] at hb
    rcases hb with rfl | rfl | rfl | rfl | rfl <;> first | exact Nat.le_refl _ | exact Nat.le_add_right _ _
  exact I1.fpOk (H':=H1) hb' (I1.hok.fresh hb')
end
end L2
namespace My
open PySem
def toS (l:List Nat):Str:=⟨l.toArray⟩
theorem toS_app (l:List Nat) (c:Nat):toS l++(⟨#[c]⟩:Str)=toS (l++[c]):=by
  show (⟨l.toArray++#[c]⟩:Str)=⟨(l++[c]).toArray⟩
  simp
theorem toS_len (l:List Nat):(toS l).length=l.length:=by simp [toS,Str.length]
end My
namespace My
open PySem L2 PyProof.Rows
def sg (z:Str):List Nat:=z.cps.toList
theorem sg_len (z:Str):(sg z).length=z.length:=by simp [sg,Str.length]
theorem sg_app (x y:Str):sg (x++y)=sg x++sg y:=by simp [sg,Str.cps_append]
theorem join0:∀ l:List Str,sg (Str.join ⟨#[]⟩ l)=(l.map sg).flatten
  | []=>rfl
  | x::l=>by rw [join_nil_cons,sg_app,join0 l];rfl
theorem joinT (l:List Str):sg (Txt.join (Str.ofString "") l)=(l.map sg).flatten:=by
  have e0:(Str.ofString "")=(⟨#[]⟩:Str):=by decide +kernel
  have e:=eq_of_beq (join_plain_closes ⟨#[]⟩ l)
  rw [e0,e,join0]
theorem last_of {α:Type} {xs:List α} {x:α} (h:xs[xs.length - 1]?=some x):xs=xs.dropLast++[x]:=by
  have hne:xs≠[]:=by rintro rfl;simp at h
  have e:=List.dropLast_concat_getLast hne
  have e2:xs.getLast hne=x:=by
    rw [List.getLast_eq_getElem hne]
    have:=(List.getElem?_eq_some_iff.mp h).2
    exact this
  rw [← e2,e]
theorem atI_m1 {α:Type} {xs:List α} {v:α} (h:xs[xs.length - 1]?=some v):atI xs (-1)=some v:=by
  rw [last_of h]
  exact atI_last _ _
end My
namespace My
open PySem L2 PyProof.Rows
end My
namespace My
open PySem L2 PyProof.Rows
end My
namespace My
open PySem L2
local macro_rules
  | `(tactic| simp!)=>`(tactic| simp only [tSeq,tIfS,tTest,tOp,tVar,tC,tAsg,gName,gSub,tRet,tNext,tDrop,tAnd,tOr,tNot,tAndV,tNotV,tB,tChain,tCall,rI0,rI,rAddW_int,rAddW_str,rMulW_int,rMulW_ref,rLtU_int,rLtU_str,rLeU_int,rLeU_str,rIxU_str,rIxU_ref,rLenU_str,rLenU_ref,rIntU_int,rIntU_bl,rListU_str,rListU_ref,rPopU_ref,rAppendU_ref,rEqU_int,rEqU_bl,rEqU_str,rEqU_ref,rNeU_int,rNeU_bl,rNeU_str,rNeU_ref,rIsU_ty,rSetU_ref,isL_ref,lstOf_lst,tupOf_tup,seqOf_lst,seqOf_tup,Option.isSome_some,tBML,tCB,tCons,tNil,tLst,tTup,tSl,tPart,tNoPart,rSlU_str,iAny,iRng1,iEnumT,rStrI_int,tDNotIn,tFor_eq,tComp,tCompIf,compSt,tUn,rU,rStrK_str,tJnil,tJcons,tJoin,tBMS,isS_str,rInU_str,tExcI,tExcInit,sExcSet,tRaise,tTryA,hdl,tExcFldW,rIsW_ty,rIsW_ref,tBM0,tBM,tyV_str,rUp_str,tFmtI,rAllU_ref,Option.bind_some,Option.bind_none,Option.getD_some,L2.start,List.map_cons,List.map_nil,List.length_cons,List.length_nil,List.cons_append,List.nil_append,List.append_nil,List.cons.injEq,List.replicate,List.getElem?_cons_zero,List.getElem?_cons_succ,List.set_cons_zero,List.set_cons_succ,Nat.reduceSub,Nat.reduceAdd,Nat.reduceLeDiff,Option.some.injEq,V.int.injEq,V.bl.injEq,V.str.injEq,V.ref.injEq,HO.lst.injEq,HO.tup.injEq,exists_eq_left',exists_eq_left,exists_and_left,true_and,and_true,jc,upd_upd,atI_0,atI_1,atI_2,Bool.not_true,Bool.not_false,decide_eq_true_eq,Bool.false_eq_true,if_false,if_true,reduceIte,reduceCtorEq,tSortedSet,rSortedSet_ref,rMaxL_ref,rExtendT_ref,tCallD,tCallC,tLam,tDGetK,tDisp,tPairs,tDNotInK,iZipK,tDUp,tDGet,iZipN])
  | `(tactic| simp! [$ls,*])=>`(tactic| simp only [tSeq,tIfS,tTest,tOp,tVar,tC,tAsg,gName,gSub,tRet,tNext,tDrop,tAnd,tOr,tNot,tAndV,tNotV,tB,tChain,tCall,rI0,rI,rAddW_int,rAddW_str,rMulW_int,rMulW_ref,rLtU_int,rLtU_str,rLeU_int,rLeU_str,rIxU_str,rIxU_ref,rLenU_str,rLenU_ref,rIntU_int,rIntU_bl,rListU_str,rListU_ref,rPopU_ref,rAppendU_ref,rEqU_int,rEqU_bl,rEqU_str,rEqU_ref,rNeU_int,rNeU_bl,rNeU_str,rNeU_ref,rIsU_ty,rSetU_ref,isL_ref,lstOf_lst,tupOf_tup,seqOf_lst,seqOf_tup,Option.isSome_some,tBML,tCB,tCons,tNil,tLst,tTup,tSl,tPart,tNoPart,rSlU_str,iAny,iRng1,iEnumT,rStrI_int,tDNotIn,tFor_eq,tComp,tCompIf,compSt,tUn,rU,rStrK_str,tJnil,tJcons,tJoin,tBMS,isS_str,rInU_str,tExcI,tExcInit,sExcSet,tRaise,tTryA,hdl,tExcFldW,rIsW_ty,rIsW_ref,tBM0,tBM,tyV_str,rUp_str,tFmtI,rAllU_ref,Option.bind_some,Option.bind_none,Option.getD_some,L2.start,List.map_cons,List.map_nil,List.length_cons,List.length_nil,List.cons_append,List.nil_append,List.append_nil,List.cons.injEq,List.replicate,List.getElem?_cons_zero,List.getElem?_cons_succ,List.set_cons_zero,List.set_cons_succ,Nat.reduceSub,Nat.reduceAdd,Nat.reduceLeDiff,Option.some.injEq,V.int.injEq,V.bl.injEq,V.str.injEq,V.ref.injEq,HO.lst.injEq,HO.tup.injEq,exists_eq_left',exists_eq_left,exists_and_left,true_and,and_true,jc,upd_upd,atI_0,atI_1,atI_2,Bool.not_true,Bool.not_false,decide_eq_true_eq,Bool.false_eq_true,if_false,if_true,reduceIte,reduceCtorEq,tSortedSet,rSortedSet_ref,rMaxL_ref,rExtendT_ref,tCallD,tCallC,tLam,tDGetK,tDisp,tPairs,tDNotInK,iZipK,tDUp,tDGet,iZipN,$ls,*])
def top (i:Nat):Stmt:=PySem.Challenge.pw_calmword_k32_sayings_looked_at.main.body.getD i (.Pass ⟨0,0,0,0⟩)
def BoxO (o:HO):Prop:=∃ c s,o=.lst [.int c,.int s]/\1<=s/\s<=2147483629
def spTake:Sp:=fun vs H Q _=>∃ b w o,vs=[.ref b,.int w]/\H b=some o/\BoxO o/\0 < w/\w < 1073741824/\∀ d o,0<=d->d < w->BoxO o->Q (.int d) (upd H b o)
def spBox (K:PySem.W.Frag):Sp:=fun vs H Q _=>∃ (a:Addr) (k:Int) (ns:List Int),vs=[.ref a,.int k]/\SqL K H a (ns.map V.int)/\0<=k/\k<=1000/\∀ b o,H b=none->BoxO o->Q (.ref b) (upd H b o)
section
variable {P:Program} {w:World} {K:PySem.W.Frag} {mg:Str->Option Value} {base:Heap}
abbrev kl:Stmt:=top 23
theorem jay:FnScope ["_law_box_here","_law_wide","_law_digit","_law_one"] ["_law_box_here","_law_wide"] (jj kl):=⟨rfl,rfl,rfl,by decide +kernel,rfl,by decide +kernel,by decide +kernel⟩
theorem ok__law_take {f:Addr} {fd:FuncData} (F:Fun K "_law_take" "_law_take" kl f fd):FnOk P w K mg base CX0 1 f fd ["_law_box_here","_law_wide"] spTake:=by
  refine F.ok jay (fun vs H Q E h=>?_) (fun cdv A outer s H vs Q E hr h=>?_)
  · obtain ⟨b,w,o,rfl,_⟩:=h
    rfl
  · obtain ⟨b,w,o,rfl,hb,⟨c,sd,rfl,s1,s2⟩,w0,w1,k⟩:=h
    refine ⟨_,(QSs.h (jf (jw (jo ja2 (jq ix_U (qpv 0) jd (fun _ _=>rfl)) jd (jv _)) (jf (jm (i:=2) jay.nd rfl (by first | exact Or.inl rfl | exact Or.inr rfl) (jp jaf (jq ix_U (qpv 0) jd (fun _ _=>rfl)) (qpv 1)))
    (jf (jbs (jp jcg (jq ix_U (qpv 0) jd (fun _ _=>rfl)) (qpv 1)) (jbu (qpv 0) jd set_U))
    (ji (jr (qpv 2))))) ju)
    (jf (jm (i:=3) jay.nd rfl (by first | exact Or.inl rfl | exact Or.inr rfl) (jp jaf (jp z8 (jq ix_U (qpv 0) jd (fun _ _=>rfl)) jd) jd))
    (jf (jbs (jp j6 (jp jaf (jp j6 (jp z8 (qpv 3) jd) jd) jd) jd) (jbu (qpv 0) jd set_U))
    (ji (jr (jp jaf (jp jcg (jp j6 (jp z8 (qpv 3) jd) (jq ix_U (qpv 0) jd (fun _ _=>rfl))) jd) (qpv 1)))))))),?_⟩
    have m1:∀ z m:Int,0 < m->0<=z % m/\z % m < m:=fun z m h=>⟨Int.emod_nonneg z (by omega),Int.emod_lt_of_pos z h⟩
    simp! [hb]
    refine ite2 (fun hc=>?_) (fun _=>?_)
    · refine ⟨w0,⟨w0,w1⟩,0,rfl,?_⟩
      simp! [hb]
      exact k _ _ (m1 c w w0).1 (m1 c w w0).2 ⟨_,_,rfl,s1,s2⟩
    · have q1:=m1 (sd * 69623) 2147483647 (by decide)
      refine ⟨.inl ⟨by omega,by omega⟩,by decide,.inl ⟨by omega,by omega⟩,by decide,1,rfl,?_⟩
      simp! [hb]
      have q2:=m1 (sd * 69623 % 2147483647 * 48271+30103) 2147483629 (by decide)
      refine ⟨.inl ⟨by omega,by omega⟩,⟨by decide,by decide⟩,w0,?_⟩
      exact k _ _ (m1 _ w w0).1 (m1 _ w w0).2 ⟨_,_,rfl,by omega,by omega⟩
structure TBox (mg:Str->Option Value):Prop where
  n_len:mg "len"=none
  n_int:mg "int"=none
abbrev zz:Stmt:=top 22
theorem jah:FnScope ["_law_script","_law_k","_law_cell","_law_seed"] ["_law_script","_law_k"] (jj zz):=⟨rfl,rfl,rfl,by decide +kernel,rfl,by decide +kernel,by decide +kernel⟩
theorem ok__law_box {f:Addr} {fd:FuncData} (F:Fun K "_law_box" "_law_box" zz f fd) (T:TBox mg):FnOk P w K mg base CX0 1 f fd ["_law_script","_law_k"] (spBox K):=by
  refine F.ok jah (fun vs H Q E h=>?_) (fun cdv A outer s H vs Q E hr h=>?_)
  · obtain ⟨a,k,ns,rfl,_⟩:=h
    rfl
  · obtain ⟨a,k,ns,rfl,hS,k0,k1,kk⟩:=h
    refine ⟨_,(QSs.h (jf (jm (i:=2) jah.nd rfl (by first | exact Or.inl rfl | exact Or.inr rfl) (jp j6 (jp z8 jd (qpv 1)) jd))
    (jf (jw (jo jao (qpv 1) (jn zv (by rfl) T.n_len j9 (ja (qpv 0) jb)) (jv _)) (ji (jm (i:=2) jah.nd rfl (by first | exact Or.inl rfl | exact Or.inr rfl) (jq jbt (qpv 0) (qpv 1) (fun _ _=>rfl)))) (ji (jw (jo ja2 (jn zv (by rfl) T.n_len j9 (ja (qpv 0) jb)) jd (jv _)) (ji (jm (i:=2) jah.nd rfl (by first | exact Or.inl rfl | exact Or.inr rfl) (jp j6 (qpv 2) (jp z8 (jp jaf (jq jbt (qpv 0) (jp jaf (qpv 1) (jn zv (by rfl) T.n_len j9 (ja (qpv 0) jb))) (fun _ _=>rfl)) jd) jd)))) ju)))
    (jf (jm (i:=3) jah.nd rfl (by first | exact Or.inl rfl | exact Or.inr rfl) (jp j6 (jp jaf (jp j6 (jp z8 (jp jaf (qpv 2) jd) jd) (jp z8 jd (qpv 1))) jd) jd))
    (ji (jr (j7 (ja (jp z8 (qpv 2) (y4 jby (by rfl) T.n_int jar (ja (zp op_ge (qpv 2) (jp jb5 jd jd) (jv _)) jb))) (ja (qpv 3) jb))))))))),?_⟩
    have m1:∀ z m:Int,0 < m->0<=z % m/\z % m < m:=fun z m h=>⟨Int.emod_nonneg z (by omega),Int.emod_lt_of_pos z h⟩
    have tail:∀ cell:Int,(0:Int) < 2147483629/\CMul (cell % 2147483629) 48271/\CMul 40692 k/\(0:Int) < 2147483629/\CPow 10 18/\CMul cell (if (10:Int) ^ (18:Int).toNat<=cell then 1 else 0)/\2<=sizeLine /\
        ∀ p,H p=none->Q (.ref p) (upd H p (.lst [.int (cell * (if (10:Int) ^ (18:Int).toNat<=cell then 1 else 0)),.int ((cell % 2147483629 * 48271+40692 * k) % 2147483629+1)])):=by
      intro cell
      have q1:=m1 cell 2147483629 (by decide)
      have q2:=m1 (cell % 2147483629 * 48271+40692 * k) 2147483629 (by decide)
      refine ⟨by decide,.inl ⟨by omega,by omega⟩,.inl ⟨by decide,by decide⟩,by decide,⟨by decide,by decide,by decide⟩,.inr ?_,by decide,fun p hp=>kk p _ hp ⟨_,_,rfl,by omega,by omega⟩⟩
      split <;> constructor <;> decide
    simp!
    refine ⟨.inl ⟨by decide,by decide⟩,ns.map V.int,.inl hS,?_⟩
    rw [List.length_map]
    refine ite2 (fun h=>?_) (fun h=>?_)
    · obtain ⟨z,hz⟩:∃ z,ns[k.toNat]?=some z:=⟨ns[k.toNat]'(by omega),by simp⟩
      refine ⟨a,_,k,.int z,rfl,rfl,hS,atI_of k0 (by rw [List.getElem?_map,hz];rfl),?_⟩
      simp!
      exact tail z
    · refine ⟨ns.map V.int,.inl hS,?_⟩
      rw [List.length_map]
      refine ite2 (fun h2=>?_) (fun h2=>?_)
      · refine ⟨ns.map V.int,.inl hS,?_⟩
        rw [List.length_map]
        have q:=m1 k (ns.length:Int) (by omega)
        obtain ⟨z,hz⟩:∃ z,ns[(k % (ns.length:Int)).toNat]?=some z:=⟨ns[(k % (ns.length:Int)).toNat]'(by omega),by simp⟩
        refine ⟨by omega,a,_,_,.int z,rfl,rfl,hS,atI_of q.1 (by rw [List.getElem?_map,hz];rfl),?_⟩
        simp!
        have q3:=m1 z 2147483629 (by decide)
        refine ⟨by decide,.inl ⟨by omega,by omega⟩,?_⟩
        exact tail _
      · exact tail _
end
structure Letters (z:Str) (m:Nat):Prop where
  lo:1<=z.length
  hi:z.length<=m
  az:∀ c ∈ z.cps.toList,97<=c/\c<=122
  nd:z.cps.toList.Nodup
def chV (c:Nat):V:=.str ⟨#[c]⟩
def spLetters:Sp:=fun vs H Q _=>∃ (b:Addr) (m:Nat) (o:HO),vs=[.ref b,.int (m:Int)]/\H b=some o/\BoxO o/\1<=m/\m<=4/\∀ z o' H',Letters z m->BoxO o'->H' b=some o'->Kp [b] H H'->Q (.str z) H'
theorem erase_perm {α:Type}:∀ (l:List α) (i:Nat) (x:α),l[i]?=some x->(x::l.eraseIdx i).Perm l
  | [],i,x,h=>by simp at h
  | a::l,0,x,h=>by simp at h;subst h;exact List.Perm.refl _
  | a::l,i+1,x,h=>by
    rw [List.eraseIdx_cons_succ]
    exact (List.Perm.swap _ _ _).trans ((erase_perm l i x (by simpa using h)).cons a)
theorem map_erase {α β:Type} (f:α->β):∀ (l:List α) (i:Nat),(l.map f).eraseIdx i=(l.eraseIdx i).map f
  | [],_=>rfl
  | _::_,0=>rfl
  | a::l,i+1=>by rw [List.map_cons,List.eraseIdx_cons_succ,List.eraseIdx_cons_succ,List.map_cons,map_erase f l i]
theorem abc_sgn:sgn (Str.ofString "abcdefghijklmnopqrstuvwxyz")=((List.range 26).map (97+·)).map chV:=by decide +kernel
structure TLetters (mg:Str->Option Value) (ft:Addr):Prop where
  n_len:mg "len"=none
  n_list:mg "list"=none
  n_range:mg "range"=none
  m0z:mg "_law_take"=some (.ref ft)
section
variable {P:Program} {w:World} {K:PySem.W.Frag} {mg:Str->Option Value} {base:Heap}
abbrev yt:Stmt:=top 24
theorem zm:FnScope ["_law_box_here","_law_most","_law_pool","_law_found","_law_k"] ["_law_box_here","_law_most"] (jj yt):=⟨rfl,rfl,rfl,by decide +kernel,rfl,by decide +kernel,by decide +kernel⟩
theorem ok__law_letters {f ft:Addr} {fd fdt:FuncData} (F:Fun K "_law_letters" "_law_letters" yt f fd) (T:TLetters mg ft) (F0z:Fun K "_law_take" "_law_take" kl ft fdt) (b0z:Binds K fdt ["_law_box_here","_law_wide"] [])
    (G0z:FnOk P w K mg base CX0 1 ft fdt ["_law_box_here","_law_wide"] spTake):FnOk P w K mg base CX0 2 f fd ["_law_box_here","_law_most"] spLetters:=by
  refine F.ok zm (fun vs H Q E h=>?_) (fun cdv A outer s H vs Q E hr h=>?_)
  · obtain ⟨b,m,o,rfl,_⟩:=h
    rfl
  · obtain ⟨b,m,o,rfl,hb,ho,m1,m4,k⟩:=h
    refine ⟨_,(QSs.h (jf (jm (i:=2) zm.nd rfl (by first | exact Or.inl rfl | exact Or.inr rfl) (y4 (ja6 rfl) (by rfl) T.n_list jbv (ja jg jb)))
    (jf (jm (i:=3) zm.nd rfl (by first | exact Or.inl rfl | exact Or.inr rfl) jg)
    (jf (zt PassesOwn.never rfl (jac rfl T.n_range (ja (jp j6 jd (jl G0z (hr.mono (by decide)) rfl T.m0z F0z.kp b0z .nil jt (ja (qpv 0) (ja (qpv 1) jb)))) jb)) (kj (i:=4) zm.nd rfl (by first | exact Or.inl rfl | exact Or.inr rfl)) (ji (jm (i:=3) zm.nd rfl (by first | exact Or.inl rfl | exact Or.inr rfl) (jp j6 (qpv 3) (yx PySem.F.slot_list_pop PySem.F.type_list_pop jcc (qpv 2) (ja (jl G0z (hr.mono (by decide)) rfl T.m0z F0z.kp b0z .nil jt (ja (qpv 0) (ja (jn jy (by rfl) T.n_len j9 (ja (qpv 2) jb)) jb))) jb) mono_var)))))
    (ji (jr (qpv 3))))))),?_⟩
    simp!
    refine ⟨by decide,fun p hp=>?_⟩
    have npb:b≠p:=jh hb hp
    obtain ⟨c0,s0,rfl,_,_⟩:=id ho
    refine ⟨b,(m:Int),_,rfl,by rw [je npb];exact hb,ho,by omega,by omega,fun d o1 d0 d1 ho1=>?_⟩
    simp!
    obtain ⟨n,rfl⟩:∃ n:Nat,d=(n:Int):=⟨d.toNat,by omega⟩
    have en:(1+(n:Int)).toNat=n+1:=by omega
    refine ⟨by omega,by omega,?_⟩
    rw [en]
    refine loop_range (fun i σ H'=>∃ l R o' v,σ=[some (.ref b),some (.int (m:Int)),some (.ref p),some (.str (toS l)),v]/\H' b=some o'/\BoxO o'/\H' p=some (.lst (R.map chV))/\Kp [b] H H'/\l.length=i/\R.length+i=26 /\
      (l++R).Nodup/\∀ c ∈ l++R,97<=c/\c<=122) ?_ ?_ ?_
    · refine ⟨[],(List.range 26).map (97+·),o1,none,rfl,jc,ho1,?_,?_,rfl,by simp,?_,?_⟩
      · rw [je npb.symm,jc,abc_sgn]
      · exact ((Kp.refl [b] H).new hp).set (by rw [je npb];exact hb) (.inl (by simp))
      · decide
      · decide
    · rintro i σ H' hi ⟨l,R,o',v,rfl,hb',ho',hp',kp,hl,hR,nd,az⟩
      simp! [hp']
      obtain ⟨c1,s1,rfl,_,_⟩:=id ho'
      refine ⟨b,_,_,rfl,hb',ho',by rw [List.length_map];omega,by rw [List.length_map];omega,fun d o2 d0 d1 ho2=>?_⟩
      rw [List.length_map] at d1
      have hp2:upd H' b o2 p=some (.lst (R.map chV)):=by rw [je npb.symm];exact hp'
      simp! [hp2]
      obtain ⟨c,hc⟩:∃ c,R[d.toNat]?=some c:=⟨R[d.toNat]'(by omega),by simp⟩
      have hc':(R.map chV)[d.toNat]?=some (.str ⟨#[c]⟩):=by rw [List.getElem?_map,hc];rfl
      refine ⟨d0,_,hc',?_⟩
      simp!
      have pm:=erase_perm R d.toNat c hc
      have e1:((l++[c])++R.eraseIdx d.toNat).Perm (l++R):=by
        rw [List.append_assoc]
        exact pm.append_left l
      have hlen:(R.eraseIdx d.toNat).length+1=R.length:=by
        have:=pm.length_eq
        simpa using this
      refine ⟨?_,l++[c],R.eraseIdx d.toNat,o2,_,⟨toS_app l c,rfl⟩,by rw [je npb,jc],ho2,map_erase chV R _,?_,by simp [hl],by omega,?_,?_⟩
      · rw [toS_len]
        show l.length+1<=sizeLine
        have:sizeLine=16777216:=PySem.sizeLine_eq
        omega
      · exact (kp.set hb' (.inl (by simp))).set hp2 (.inr hp)
      · exact e1.nodup_iff.mpr nd
      · exact fun x hx=>az x (e1.mem_iff.mp hx)
    · rintro σ H' ⟨l,R,o',v,rfl,hb',ho',hp',kp,hl,hR,nd,az⟩
      simp! [hp']
      exact k (toS l) o' H' ⟨by rw [toS_len];omega,by rw [toS_len];omega,fun c hc=>az c (List.mem_append_left _ (by simpa [toS] using hc)),by simpa [toS] using (List.nodup_append.mp nd).1⟩ ho' hb' kp
end
theorem upd_swap {H:Hp} {a b:Addr} {x y:HO} (h:a≠b):upd (upd H a x) b y=upd (upd H b y) a x:=by
  funext c
  by_cases h1:c=a
  · subst h1;rw [je h,jc,jc]
  · by_cases h2:c=b
    · subst h2;rw [jc,je h1,jc]
    · rw [je h2,je h1,je h1,je h2]
theorem comp_box {lo:Int} {n:Nat} {D b:Addr} {te:TE} {E:Ends} {r:L2.St} {H:Hp} {o0:HO} (P:V->Prop) (hb:H b=some o0) (ho0:BoxO o0) (hD:H D=none) (hz:n<=sizeLine)
    (he:∀ x H' o Q,H' b=some o->BoxO o->(∀ v o',P v->BoxO o'->Q v (upd H' b o'))->te (some x::r) H' Q)
    (hn:∀ v xs o',xs.length=n->(∀ x ∈ xs,P x)->BoxO o'->E.nx (v::r) (upd (upd H b o') D (.lst xs))):LoopR (Itr lo n) (gName 0) (tEmit D te) E (none::r) (upd H D (.lst [])):=by
  have nbD:b≠D:=jh hb hD
  refine loop_range (fun i σ H'=>∃ (v:Option V) (xs:List V) (o':HO),σ=v::r/\xs.length=i/\(∀ x ∈ xs,P x)/\BoxO o'/\H'=upd (upd H b o') D (.lst xs)) ?_ ?_ ?_
  · refine ⟨none,[],o0,rfl,rfl,(fun x h=>nomatch h),ho0,?_⟩
    have:upd H b o0=H:=by
      funext c
      by_cases h:c=b
      · subst h;rw [jc,hb]
      · rw [je h]
    rw [this]
  · rintro i σ H' hi ⟨v,xs,o',rfl,hl,hP,ho',rfl⟩
    refine he _ _ o' _ (by rw [je nbD,jc]) ho' fun y o2 hy ho2=>?_
    have e:upd (upd (upd H b o') D (.lst xs)) b o2=upd (upd H b o2) D (.lst xs):=by rw [upd_swap nbD.symm,upd_upd]
    refine ⟨xs,by rw [e,jc];rfl,by omega,_,xs++[y],o2,rfl,by simp [hl],fun x hx=>?_,ho2,by rw [e,upd_upd]⟩
    rcases List.mem_append.mp hx with h | h
    · exact hP x h
    · simp at h;subst h;exact hy
  · rintro σ H' ⟨v,xs,o',rfl,hl,hP,ho',rfl⟩
    exact hn v xs o' hl hP ho'
theorem _root_.L2.Kp.seq {S:List Addr} {K:PySem.W.Frag} {H H':Hp} {a:Addr} {xs:List V} (e:Kp S H H') (n:a ∉ S) (h:SqL K H a xs):SqL K H' a xs:=by
  rcases h with (h | ⟨o,h⟩) | h
  · exact .inl (.inl (e.old _ _ h n))
  · exact .inl (.inr ⟨o,e.old _ _ h n⟩)
  · exact .inr h
def spRowAt:Sp:=fun vs H Q _=>∃ (b:Addr) (m:Int) (o:HO),vs=[.ref b,.int m]/\H b=some o/\BoxO o/\1<=m/\m<=1000/\∀ d o' H',0<=d->d < m->BoxO o'->H' b=some o'->Kp [b] H H'->Q (.int d) H'
theorem BoxO.lst {o:HO} (h:BoxO o):∃ xs,o=.lst xs:=by obtain ⟨c,s,e,_⟩:=h;exact ⟨_,e⟩
section
variable {P:Program} {w:World} {K:PySem.W.Frag} {mg:Str->Option Value} {base:Heap}
structure TRow (mg:Str->Option Value) (ft:Addr):Prop where
  m0z:mg "_law_take"=some (.ref ft)
abbrev y8:Stmt:=top 25
theorem sc__law_row_at:FnScope ["_law_box_here","_law_k"] ["_law_box_here","_law_k"] (jj y8):=⟨rfl,rfl,rfl,by decide +kernel,rfl,by decide +kernel,by decide +kernel⟩
theorem ok__law_row_at {f ft:Addr} {fd fdt:FuncData} (F:Fun K "_law_row_at" "_law_row_at" y8 f fd) (T:TRow mg ft) (F0z:Fun K "_law_take" "_law_take" kl ft fdt) (b0z:Binds K fdt ["_law_box_here","_law_wide"] [])
    (G0z:FnOk P w K mg base CX0 1 ft fdt ["_law_box_here","_law_wide"] spTake):FnOk P w K mg base CX0 2 f fd ["_law_box_here","_law_k"] spRowAt:=by
  refine F.ok sc__law_row_at (fun vs H Q E h=>?_) (fun cdv A outer s H vs Q E hr h=>?_)
  · obtain ⟨b,m,o,rfl,_⟩:=h
    rfl
  · obtain ⟨b,m,o,rfl,hb,ho,m1,m2,k⟩:=h
    refine ⟨_,(QSs.h (ji (jr (jq ix_U (j7 (ja (jp jag (qpv 1) jd) (ja (jl G0z (hr.mono (by decide)) rfl T.m0z F0z.kp b0z .nil jt (ja (qpv 0) (ja (qpv 1) jb))) jb))) (jl G0z (hr.mono (by decide)) rfl T.m0z F0z.kp b0z .nil jt (ja (qpv 0) (ja jd jb))) (fun _ _=>rfl))))),?_⟩
    have hsz:sizeLine=16777216:=PySem.sizeLine_eq
    simp!
    refine ⟨b,m,o,rfl,hb,ho,by omega,by omega,fun d o1 d0 d1 ho1=>?_⟩
    refine ⟨by omega,fun p hp=>?_⟩
    have nbp:b≠p:=jh jc hp
    obtain ⟨xs0,rfl⟩:=ho.lst
    obtain ⟨xs1,rfl⟩:=id ho1.lst
    refine ⟨b,2,_,rfl,by rw [je nbp,jc],ho1,by omega,by omega,fun e o2 e0 e1 ho2=>?_⟩
    have hp2:upd (upd (upd H b (.lst xs1)) p (.lst [V.int (m - 1),V.int d])) b o2 p=some (.lst [V.int (m - 1),V.int d]):=by rw [je nbp.symm,jc]
    simp! [hp2]
    have kp:Kp [b] H (upd (upd (upd H b (.lst xs1)) p (.lst [V.int (m - 1),V.int d])) b o2):=((((Kp.refl [b] H).set hb (.inl (by simp))).new hp).set (by rw [je nbp,jc]) (.inl (by simp)))
    have:e=0∨e=1:=by omega
    rcases this with rfl | rfl
    · exact ⟨_,atI_0 _ _,k _ o2 _ (by omega) (by omega) ho2 jc kp⟩
    · exact ⟨_,atI_1 _ _ _,k _ o2 _ d0 d1 ho2 jc kp⟩
end
def lowS (z:Str):Prop:=∀ c ∈ sg z,97<=c/\c<=122
theorem lowS.app {x y:Str} (h1:lowS x) (h2:lowS y):lowS (x++y):=fun c hc=>by
  rw [sg_app] at hc
  rcases List.mem_append.mp hc with h | h
  · exact h1 c h
  · exact h2 c h
theorem lowS.one {c:Nat} (h:97<=c/\c<=122):lowS ⟨#[c]⟩:=fun d hd=>by
  have:d=c:=by simpa [sg] using hd
  rw [this];exact h
theorem lowS.join {l:List Str} (h:∀ z ∈ l,lowS z):lowS (Txt.join (Str.ofString "") l):=fun c hc=>by
  rw [joinT] at hc
  obtain ⟨m,hm,hc⟩:=List.mem_flatten.mp hc
  obtain ⟨z,hz,rfl⟩:=List.mem_map.mp hm
  exact h z hz c hc
theorem ones_low:∀ {xs:List V},(∀ x ∈ xs,∃ c:Nat,x=.str ⟨#[c]⟩/\(97<=c/\c<=122))->∃ ys:List Str,xs=ys.map V.str/\ys.length=xs.length/\∀ y ∈ ys,y.length=1/\lowS y
  | [],_=>⟨[],rfl,rfl,fun _ h=>nomatch h⟩
  | x::xs,h=>by
    obtain ⟨c,rfl,hc⟩:=h x (.head _)
    obtain ⟨ys,rfl,hl,hy⟩:=ones_low fun y hy=>h y (.tail _ hy)
    refine ⟨⟨#[c]⟩::ys,rfl,by simp,fun y hy'=>?_⟩
    rcases List.mem_cons.mp hy' with rfl | h
    · exact ⟨rfl,lowS.one hc⟩
    · exact hy y h
abbrev NW:List V:=[V.str (Str.ofString "yes"),V.str (Str.ofString "is"),V.str (Str.ofString "not"),V.str (Str.ofString "and"),V.str (Str.ofString "or")]
def NmOk (z:Str):Prop:=z.length<=3/\lowS z/\1<=z.length/\inV (.str z) NW=false
theorem qq_not (c:Nat):inV (.str (Str.ofString "qq"++⟨#[c]⟩)) NW=false:=by
  have q:sg (Str.ofString "qq")=[113,113]:=by decide +kernel
  have ne:∀ x:Str,(sg x).head?≠some 113->¬ x=(Str.ofString "qq"++(⟨#[c]⟩:Str)):=fun x h e=>h (by rw [e,sg_app,q];rfl)
  have h1:=ne (Str.ofString "yes") (by decide +kernel)
  have h2:=ne (Str.ofString "is") (by decide +kernel)
  have h3:=ne (Str.ofString "not") (by decide +kernel)
  have h4:=ne (Str.ofString "and") (by decide +kernel)
  have h5:=ne (Str.ofString "or") (by decide +kernel)
  simp [inV,eqV,NW,h1,h2,h3,h4,h5]
def spPN:Sp:=fun vs H Q _=>∃ (b:Addr) (m:Nat) (o:HO),vs=[.ref b,.int (m:Int)]/\H b=some o/\BoxO o/\1<=m/\m<=26 /\
  ∀ (p:Addr) (zs:List Str) (o':HO) (H':Hp),zs.length=m->(∀ z ∈ zs,NmOk z)->H p=none->H' p=some (.lst (zs.map V.str))->BoxO o'->H' b=some o'->Kp [b] H H'->Q (.ref p) H'
theorem sap_len (x y:Str):(x++y).length=x.length+y.length:=by simp [Str.length,Str.cps_append]
theorem join_ones2 (l:List Str) (h:∀ a ∈ l,a.length=1):(Txt.join (Str.ofString "") l).length=l.length:=PySem.W.KT.join_ones l h
theorem cutV_strs (ys:List Str) (lo hi:Option Int):cutV (ys.map V.str) lo hi=((ys.drop (HT.sIx ys.length 0 lo)).take (HT.sIx ys.length ys.length hi - HT.sIx ys.length 0 lo)).map V.str:=by
  simp only [cutV,List.length_map,List.map_take,List.map_drop]
def JN (H:Hp) (b D c:Addr) (m n:Nat) (sp fi:Int) (i ch:Nat) (v4:Option V) (ys zs:List Str):L2.St->Hp->Prop:=fun σ H5=>∃ (nm:Str) (o':HO),
  σ=[some (.ref b),some (.int (m:Int)),some (.str "abcdefghijklmnopqrstuvwxyz"),some (.int (1+(n:Int))),some (.ref D),some (.int sp),some (.int fi),some (.ref c),some (.int (0+(i:Int))),some (.str ⟨#[ch]⟩),some (.str nm),v4] /\
  (nm.length<=3/\lowS nm/\1<=nm.length)/\BoxO o'/\H5 b=some o'/\H5 c=some (.lst (zs.map V.str))/\H5 D=some (.lst (ys.map V.str))/\Kp [b] H H5
def JM (H:Hp) (b D c:Addr) (m n:Nat) (sp fi:Int) (i ch:Nat) (v4:Option V) (ys zs:List Str):L2.St->Hp->Prop:=fun σ H5=>∃ (nm:Str) (o':HO),
  σ=[some (.ref b),some (.int (m:Int)),some (.str "abcdefghijklmnopqrstuvwxyz"),some (.int (1+(n:Int))),some (.ref D),some (.int sp),some (.int fi),some (.ref c),some (.int (0+(i:Int))),some (.str ⟨#[ch]⟩),some (.str nm),v4] /\
  NmOk nm/\BoxO o'/\H5 b=some o'/\H5 c=some (.lst (zs.map V.str))/\H5 D=some (.lst (ys.map V.str))/\Kp [b] H H5
structure TPN (mg:Str->Option Value) (ft:Addr):Prop where
  n_range:mg "range"=none
  m0z:mg "_law_take"=some (.ref ft)
section
variable {P:Program} {w:World} {K:PySem.W.Frag} {mg:Str->Option Value} {base:Heap}
abbrev ki:Stmt:=top 26
theorem j4:FnScope ["_law_box_here","_law_many","_law_letters_here","_law_size","_law_signs","_law_spot","_law_first","_law_found","_law_k","_law_one","_law_name","_law_odd"] ["_law_box_here","_law_many"] (jj ki):=⟨rfl,rfl,rfl,by decide +kernel,rfl,by decide +kernel,by decide +kernel⟩
theorem ok__law_place_names {f ft:Addr} {fd fdt:FuncData} (F:Fun K "_law_place_names" "_law_place_names" ki f fd) (T:TPN mg ft) (F0z:Fun K "_law_take" "_law_take" kl ft fdt) (b0z:Binds K fdt ["_law_box_here","_law_wide"] [])
    (G0z:FnOk P w K mg base CX0 1 ft fdt ["_law_box_here","_law_wide"] spTake):FnOk P w K mg base CX0 2 f fd ["_law_box_here","_law_many"] spPN:=by
  refine F.ok j4 (fun vs H Q E h=>?_) (fun cdv A outer s H vs Q E hr h=>?_)
  · obtain ⟨b,m,o,rfl,_⟩:=h
    rfl
  · obtain ⟨b,m,o,rfl,hb,ho,m1,m2,k⟩:=h
    have hu:=hr.units
    refine ⟨_,(QSs.h (jf (jm (i:=2) j4.nd rfl (by first | exact Or.inl rfl | exact Or.inr rfl) jg)
    (jf (jm (i:=3) j4.nd rfl (by first | exact Or.inl rfl | exact Or.inr rfl) (jp j6 jd (jl G0z (hr.mono (by decide)) rfl T.m0z F0z.kp b0z .nil jt (ja (qpv 0) (ja jd jb)))))
    (jf (qps_setc (i:=4) j4.nd rfl (by first | exact Or.inl rfl | exact Or.inr rfl) rfl (compOk_of (sc:=jj ki) (N:=["_law_box_here","_law_many","_law_letters_here","_law_size","_law_signs","_law_spot","_law_first","_law_found","_law_k","_law_one","_law_name","_law_odd"]) (Nc:=["_law_k","_law_letters_here","_law_box_here"]) (js:=[none,some 2,some 0]) (by decide +kernel)) (jac rfl T.n_range (ja (qpv 3) jb)) (fun _ _ _ _=>(kj (i:=0) (show List.Nodup [("_law_k":Str),("_law_letters_here":Str),("_law_box_here":Str)] from by decide +kernel) rfl (by first | exact Or.inl rfl | exact Or.inr rfl))) (fun _ _ _ _=>(jq ix_U (qpv 1) (jl G0z (hr.mono (by decide)) rfl T.m0z F0z.kp b0z .nil jt (ja (qpv 2) (ja jd jb))) (fun _ _=>rfl))))
    (jf (jm (i:=5) j4.nd rfl (by first | exact Or.inl rfl | exact Or.inr rfl) (jl G0z (hr.mono (by decide)) rfl T.m0z F0z.kp b0z .nil jt (ja (qpv 0) (ja (qpv 3) jb))))
    (jf (jm (i:=6) j4.nd rfl (by first | exact Or.inl rfl | exact Or.inr rfl) (jl G0z (hr.mono (by decide)) rfl T.m0z F0z.kp b0z .nil jt (ja (qpv 0) (ja jd jb))))
    (jf (jm (i:=7) j4.nd rfl (by first | exact Or.inl rfl | exact Or.inr rfl) (j7 jb))
    (jf (zt PassesOwn.never rfl (jac rfl T.n_range (ja (qpv 1) jb)) (kj (i:=8) j4.nd rfl (by first | exact Or.inl rfl | exact Or.inr rfl)) (jf (jm (i:=9) j4.nd rfl (by first | exact Or.inl rfl | exact Or.inr rfl) (jq ix_U (qpv 2) (jp jaf (jp j6 (qpv 6) (jp z8 jd (qpv 8))) jd) (fun _ _=>rfl)))
    (jf (jm (i:=10) j4.nd rfl (by first | exact Or.inl rfl | exact Or.inr rfl) (jp j6 (jp j6 (jcd PySem.F.slot_str_join PySem.F.type_str_join jca jg (ja (ku (ja3 (K:=K) rfl) (qpv 4) kz (ya (qpv 5))) jb) mono_c) (qpv 9)) (jcd PySem.F.slot_str_join PySem.F.type_str_join jca jg (ja (ku (ja3 (K:=K) rfl) (qpv 4) (ya (jp j6 (qpv 5) jd)) kz) jb) mono_c)))
    (yd (jw (QW.pt (jax (jo (j8 hu) (jp jaf (qpv 8) jd) jd (jv _)) (jax (jo jao (qpv 3) jd (jv _)) (ja8 (jo (j8 hu) (jl G0z (hr.mono (by decide)) rfl T.m0z F0z.kp b0z .nil jt (ja (qpv 0) (ja jd jb))) jd (jv _)))))) (ji (jm (i:=10) j4.nd rfl (by first | exact Or.inl rfl | exact Or.inr rfl) (jp j6 (qpv 10) jg))) ju)
    (yd (jw (jo (jam (K:=K) rfl) (qpv 10) (kc (ja jg (ja jg (ja jg (ja jg (ja jg jb jk) jk) jk) jk) jk)) (by with_unfolding_all rfl)) (ji (jm (i:=10) j4.nd rfl (by first | exact Or.inl rfl | exact Or.inr rfl) (jp j6 jg (qpv 9)))) ju)
    (ji (yi (yx PySem.F.slot_list_append PySem.F.type_list_append yh (qpv 7) (ja (qpv 10) jb) mono_var))))))))
    (yd (jw (jo (j8 hu) (jl G0z (hr.mono (by decide)) rfl T.m0z F0z.kp b0z .nil jt (ja (qpv 0) (ja jd jb))) jd (jv _)) (jf (jm (i:=11) j4.nd rfl (by first | exact Or.inl rfl | exact Or.inr rfl) (jq ix_U (j7 (ja jg (ja jg (ja jg (ja jg (ja jg (ja jg (ja jg (ja jg jb jk) jk) jk) jk) jk) jk) jk) jk)) (jl G0z (hr.mono (by decide)) rfl T.m0z F0z.kp b0z .nil jt (ja (qpv 0) (ja jd jb))) (fun _ _=>rfl)))
    (ji (jw (jo (jb0 (K:=K) rfl) (qpv 11) (qpv 7) (by with_unfolding_all rfl)) (ji (jbs (qpv 11) (jbu (qpv 7) (jl G0z (hr.mono (by decide)) rfl T.m0z F0z.kp b0z .nil jt (ja (qpv 0) (ja (qpv 1) jb))) set_U))) ju))) ju)
    (ji (jr (qpv 7)))))))))))),?_⟩
    have hsz:sizeLine=16777216:=PySem.sizeLine_eq
    have la:(Str.ofString "abcdefghijklmnopqrstuvwxyz").length=26:=by decide +kernel
    have l26:(Str.ofString "abcdefghijklmnopqrstuvwxyz").cps.toList.length=26:=by simpa [Str.length] using la
    have lq:(Str.ofString "q").length=1:=by decide +kernel
    have hlq:lowS (Str.ofString "q"):=by unfold lowS;decide +kernel
    have hlqq:lowS (Str.ofString "qq"):=by unfold lowS;decide +kernel
    have hab:∀ c ∈ (Str.ofString "abcdefghijklmnopqrstuvwxyz").cps.toList,97<=c/\c<=122:=by decide +kernel
    have lqq:(Str.ofString "qq").length=2:=by decide +kernel
    simp!
    refine ⟨b,3,o,rfl,hb,ho,by omega,by omega,fun d o1 d0 d1 ho1=>?_⟩
    obtain ⟨n,rfl⟩:∃ n:Nat,d=(n:Int):=⟨d.toNat,by omega⟩
    have en:(1+(n:Int)).toNat=n+1:=by omega
    obtain ⟨xs0,rfl⟩:=ho.lst
    obtain ⟨xs1,rfl⟩:=id ho1.lst
    refine ⟨_,rfl,by omega,by omega,fun D hD=>?_⟩
    rw [en]
    have nbD:b≠D:=jh jc hD
    have hD0:H D=none:=by rw [je nbD.symm] at hD;exact hD
    refine comp_box (fun x=>∃ c:Nat,x=.str ⟨#[c]⟩/\(97<=c/\c<=122)) jc ho1 hD (by omega) (fun x H' o' Q' hb' ho' hq=>?_) fun v xs o2 hl hP ho2=>?_
    · simp!
      refine ⟨b,26,_,rfl,hb',ho',by omega,by omega,fun e o5 e0 e1 ho5=>?_⟩
      simp!
      refine ⟨by omega,(Str.ofString "abcdefghijklmnopqrstuvwxyz").cps.toList[e.toNat]'(by omega),atI_of e0 (by simp),hq _ _ ⟨_,rfl,hab _ (List.getElem_mem _)⟩ ho5⟩
    obtain ⟨ys,rfl,hy1,hy2'⟩:=ones_low hP
    have hy2:∀ y ∈ ys,y.length=1:=fun y hy=>(hy2' y hy).1
    rw [List.length_map] at hl
    obtain ⟨xs2,rfl⟩:=id ho2.lst
    have f1:upd (upd (upd H b (.lst xs1)) b (.lst xs2)) D (.lst (ys.map V.str)) b=some (.lst xs2):=by rw [je nbD,jc]
    have f2:upd (upd (upd H b (.lst xs1)) b (.lst xs2)) D (.lst (ys.map V.str)) D=some (.lst (ys.map V.str)):=jc
    have f3:Kp [b] H (upd (upd (upd H b (.lst xs1)) b (.lst xs2)) D (.lst (ys.map V.str))):=(((Kp.refl [b] H).set hb (.inl (by simp))).set jc (.inl (by simp))).new (by rw [je nbD.symm];exact hD)
    revert f1 f2 f3
    generalize upd (upd (upd H b (.lst xs1)) b (.lst xs2)) D (.lst (ys.map V.str))=H2
    intro f1 f2 f3
    refine ⟨b,_,_,rfl,f1,ho2,by omega,by omega,fun sp o3 sp0 sp1 ho3=>?_⟩
    obtain ⟨xs3,rfl⟩:=id ho3.lst
    refine ⟨b,_,_,rfl,jc,ho3,by omega,by omega,fun fi o4 fi0 fi1 ho4=>?_⟩
    obtain ⟨xs4,rfl⟩:=id ho4.lst
    refine ⟨by omega,fun c hc=>?_⟩
    rw [upd_upd] at hc ⊢
    have g1:upd H2 b (.lst xs4) D=some (.lst (ys.map V.str)):=by rw [je nbD.symm];exact f2
    have g3:Kp [b] H (upd H2 b (.lst xs4)):=f3.set f1 (.inl (by simp))
    have nbc:b≠c:=jh jc hc
    have nDc:D≠c:=jh g1 hc
    have hc0:H c=none:=g3.free hc
    refine ⟨by omega,by omega,?_⟩
    rw [Int.toNat_natCast]
    refine loop_range (fun i σ H'=>∃ (zs:List Str) (o':HO) (v1 v2 v3 v4:Option V),σ=[some (.ref b),some (.int (m:Int)),some (.str "abcdefghijklmnopqrstuvwxyz"),some (.int (1+(n:Int))),some (.ref D),some (.int sp),some (.int fi),some (.ref c),v1,v2,v3,v4] /\
      zs.length=i/\(∀ z ∈ zs,NmOk z)/\H' c=some (.lst (zs.map V.str))/\BoxO o'/\H' b=some o'/\H' D=some (.lst (ys.map V.str))/\Kp [b] H H') ?_ ?_ ?_
    · exact ⟨[],_,none,none,none,none,rfl,rfl,(fun _ h=>nomatch h),jc,ho4,by rw [je nbc,jc],by rw [je nDc];exact g1,g3.new hc⟩
    · rintro i σ H' hi ⟨zs,o',v1,v2,v3,v4,rfl,hz1,hz2,hc',ho',hb',hD',kp⟩
      simp!
      have q0:=Int.emod_nonneg (fi+5 * (0+(i:Int))) (show (26:Int)≠0 by decide)
      have q1:=Int.emod_lt_of_pos (fi+5 * (0+(i:Int))) (show (0:Int) < 26 by decide)
      refine ⟨.inl ⟨by omega,by omega⟩,by decide,by omega,(Str.ofString "abcdefghijklmnopqrstuvwxyz").cps.toList[((fi+5 * (0+(i:Int))) % 26).toNat]'(by omega),atI_of q0 (by simp),?_⟩
      have hch:97<=(Str.ofString "abcdefghijklmnopqrstuvwxyz").cps.toList[((fi+5 * (0+(i:Int))) % 26).toNat]'(by omega)/\(Str.ofString "abcdefghijklmnopqrstuvwxyz").cps.toList[((fi+5 * (0+(i:Int))) % 26).toNat]'(by omega)<=122:=hab _ (List.getElem_mem _)
      generalize (Str.ofString "abcdefghijklmnopqrstuvwxyz").cps.toList[((fi+5 * (0+(i:Int))) % 26).toNat]'(by omega)=ch at hch
      have lch:(⟨#[ch]⟩:Str).length=1:=rfl
      refine rSlU.lst hD' fun s1 hs1=>?_
      rw [cutV_strs]
      have a1:HT.sIx ys.length 0 none=0:=rfl
      have a2:HT.sIx ys.length ys.length (some sp)=sp.toNat:=by simp only [HT.sIx];split <;> omega
      have a3:HT.sIx ys.length 0 (some (sp+1))=sp.toNat+1:=by simp only [HT.sIx];split <;> omega
      have a4:HT.sIx ys.length ys.length none=ys.length:=rfl
      generalize hL1:(ys.drop (HT.sIx ys.length 0 none)).take (HT.sIx ys.length ys.length (some sp) - HT.sIx ys.length 0 none)=La
      have l1:La.length=sp.toNat:=by rw [← hL1,a1,a2,List.length_take,List.length_drop];omega
      have o1:∀ z ∈ La,z.length=1:=fun z hz=>by rw [← hL1] at hz;exact hy2 z (List.mem_of_mem_drop (List.mem_of_mem_take hz))
      have sm:∀ L:List Str,(∀ z ∈ L,z.length=1)->(L.map (·.length)).sum=L.length:=by
        intro L
        induction L with
        | nil=>intro _;rfl
        | cons y L ih=>intro h;simp [h y (.head _),ih fun z hz=>h z (.tail _ hz)];omega
      refine ⟨La,jc,by rw [sm La o1];show La.length+La.length * 0<=_;omega,?_⟩
      have j1:=join_ones2 La o1
      have w1:lowS (Txt.join (Str.ofString "") La):=lowS.join fun z hz=>by rw [← hL1] at hz;exact (hy2' z (List.mem_of_mem_drop (List.mem_of_mem_take hz))).2
      generalize Txt.join (Str.ofString "") La=t1 at j1 w1 ⊢
      simp!
      refine ⟨by omega,?_⟩
      have nDs:D≠s1:=jh hD' hs1
      have hD2:∀ o,upd H' s1 o D=some (.lst (ys.map V.str)):=fun o=>by rw [je nDs];exact hD'
      refine rSlU.lst (hD2 _) fun s2 hs2=>?_
      rw [cutV_strs]
      generalize hL2:(ys.drop (HT.sIx ys.length 0 (some (sp+1)))).take (HT.sIx ys.length ys.length none - HT.sIx ys.length 0 (some (sp+1)))=Lb
      have l2:Lb.length=n - sp.toNat:=by rw [← hL2,a3,a4,List.length_take,List.length_drop];omega
      have o2:∀ z ∈ Lb,z.length=1:=fun z hz=>by rw [← hL2] at hz;exact hy2 z (List.mem_of_mem_drop (List.mem_of_mem_take hz))
      refine ⟨Lb,jc,by rw [sm Lb o2];show Lb.length+Lb.length * 0<=_;omega,?_⟩
      have j2:=join_ones2 Lb o2
      have w2:lowS (Txt.join (Str.ofString "") Lb):=lowS.join fun z hz=>by rw [← hL2] at hz;exact (hy2' z (List.mem_of_mem_drop (List.mem_of_mem_take hz))).2
      generalize Txt.join (Str.ofString "") Lb=t2 at j2 w2 ⊢
      simp!
      refine ⟨by rw [sap_len];omega,?_⟩
      have lnm:(t1++(⟨#[ch]⟩:Str)++t2).length=n+1:=by rw [sap_len,sap_len];omega
      have wnm:lowS (t1++(⟨#[ch]⟩:Str)++t2):=(w1.app (lowS.one hch)).app w2
      generalize t1++(⟨#[ch]⟩:Str)++t2=nm at lnm wnm ⊢
      have nbs1:b≠s1:=jh hb' hs1
      have ncs1:c≠s1:=jh hc' hs1
      have e1:upd (upd H' s1 (.lst (La.map V.str))) s2 (.lst (Lb.map V.str)) b=some o':=by rw [je (jh (by rw [je nbs1];exact hb') hs2),je nbs1];exact hb'
      have e2:upd (upd H' s1 (.lst (La.map V.str))) s2 (.lst (Lb.map V.str)) c=some (.lst (zs.map V.str)):=by rw [je (jh (by rw [je ncs1];exact hc') hs2),je ncs1];exact hc'
      have e3:upd (upd H' s1 (.lst (La.map V.str))) s2 (.lst (Lb.map V.str)) D=some (.lst (ys.map V.str)):=by rw [je (jh (hD2 _) hs2)];exact hD2 _
      have e4:Kp [b] H (upd (upd H' s1 (.lst (La.map V.str))) s2 (.lst (Lb.map V.str))):=(kp.new hs1).new hs2
      revert e1 e2 e3 e4
      generalize upd (upd H' s1 (.lst (La.map V.str))) s2 (.lst (Lb.map V.str))=H5
      intro e1 e2 e3 e4
      refine ⟨JN H b D c m n sp fi i ch v4 ys zs,?_,?_⟩
      · simp!
        refine ⟨by decide,ite2 (fun h1=>ite2 (fun h2=>?_) (fun h2=>?_)) (fun h1=>?_)⟩
        · refine ⟨b,_,_,rfl,e1,ho',by omega,by omega,fun d9 o9 d90 d91 ho9=>?_⟩
          obtain ⟨xs9,rfl⟩:=id ho9.lst
          obtain ⟨xs8,rfl⟩:=id ho'.lst
          simp!
          have k9:=e4.set (o:=.lst xs9) e1 (.inl (by simp))
          have c9:upd H5 b (.lst xs9) c=some (.lst (zs.map V.str)):=by rw [je nbc.symm];exact e2
          have D9:upd H5 b (.lst xs9) D=some (.lst (ys.map V.str)):=by rw [je nbD.symm];exact e3
          refine ite2 (fun h3=>?_) (fun h3=>?_)
          · exact ⟨by omega,_,_,rfl,⟨by rw [sap_len];omega,wnm.app hlq,by rw [sap_len];omega⟩,ho9,jc,c9,D9,k9⟩
          · exact ⟨_,_,rfl,⟨by omega,wnm,by omega⟩,ho9,jc,c9,D9,k9⟩
        · exact ⟨_,_,rfl,⟨by omega,wnm,by omega⟩,ho',e1,e2,e3,e4⟩
        · exact ⟨_,_,rfl,⟨by omega,wnm,by omega⟩,ho',e1,e2,e3,e4⟩
      · rintro σ6 H6 ⟨nm,o6,rfl,hn6,ho6,hb6,hc6,hD6,kp6⟩
        refine ⟨JM H b D c m n sp fi i ch v4 ys zs,?_,?_⟩
        · simp!
          refine ⟨by omega,fun p9 hp9=>rInU.tupS (SqT.of jc) rfl (by decide) ⟨_,rfl,?_⟩⟩
          have k9:=kp6.new (o:=.tup [V.str (Str.ofString "yes"),V.str (Str.ofString "is"),V.str (Str.ofString "not"),V.str (Str.ofString "and"),V.str (Str.ofString "or")]) hp9
          have b9:=je (H:=H6) (o:=.tup [V.str (Str.ofString "yes"),V.str (Str.ofString "is"),V.str (Str.ofString "not"),V.str (Str.ofString "and"),V.str (Str.ofString "or")]) (jh hb6 hp9)
          have c9:=je (H:=H6) (o:=.tup [V.str (Str.ofString "yes"),V.str (Str.ofString "is"),V.str (Str.ofString "not"),V.str (Str.ofString "and"),V.str (Str.ofString "or")]) (jh hc6 hp9)
          have D9:=je (H:=H6) (o:=.tup [V.str (Str.ofString "yes"),V.str (Str.ofString "is"),V.str (Str.ofString "not"),V.str (Str.ofString "and"),V.str (Str.ofString "or")]) (jh hD6 hp9)
          refine ite2 (fun h3=>?_) (fun h3=>?_)
          · exact ⟨by omega,_,_,rfl,⟨by rw [sap_len];omega,hlqq.app (lowS.one hch),by rw [sap_len];omega,qq_not ch⟩,ho6,b9.trans hb6,c9.trans hc6,D9.trans hD6,k9⟩
          · exact ⟨_,_,rfl,⟨hn6.1,hn6.2.1,hn6.2.2,by simpa using h3⟩,ho6,b9.trans hb6,c9.trans hc6,D9.trans hD6,k9⟩
        · rintro σ7 H7 ⟨nm,o7,rfl,hn7,ho7,hb7,hc7,hD7,kp7⟩
          simp! [hc7]
          refine ⟨by rw [List.length_map];omega,zs++[nm],o7,_,_,_,_,⟨rfl,rfl,rfl,rfl⟩,by simp [hz1],fun z hz=>?_,by simp,ho7,by rw [je nbc];exact hb7,by rw [je nDc];exact hD7,kp7.set hc7 (.inr hc0)⟩
          rcases List.mem_append.mp hz with h | h
          · exact hz2 z h
          · rw [List.mem_singleton.mp h];exact hn7
    · rintro σ H' ⟨zs,o',v1,v2,v3,v4,rfl,hz1,hz2,hc',ho',hb',hD',kp⟩
      simp!
      refine ⟨fun σ H9=>σ[7]?=some (some (.ref c))/\∃ (zs:List Str) (o':HO),zs.length=m/\(∀ z ∈ zs,NmOk z)/\H9 c=some (.lst (zs.map V.str))/\BoxO o'/\H9 b=some o'/\Kp [b] H H9,?_,?_⟩
      · simp!
        refine ⟨b,_,_,rfl,hb',ho',by omega,by omega,fun d9 o9 d90 d91 ho9=>?_⟩
        obtain ⟨xs9,rfl⟩:=id ho9.lst
        obtain ⟨xs8,rfl⟩:=id ho'.lst
        simp!
        have k9:=kp.set (o:=.lst xs9) hb' (.inl (by simp))
        have c9:upd H' b (.lst xs9) c=some (.lst (zs.map V.str)):=by rw [je nbc.symm];exact hc'
        refine ite2 (fun h3=>?_) (fun h3=>?_)
        · refine ⟨by omega,fun p2 hp2=>?_⟩
          have nb2:b≠p2:=jh jc hp2
          have nc2:c≠p2:=jh c9 hp2
          refine ⟨b,_,_,rfl,by rw [je nb2,jc],ho9,by omega,by omega,fun d8 o8 d80 d81 ho8=>?_⟩
          obtain ⟨xs7,rfl⟩:=id ho8.lst
          have odd:∃ od:Str,([V.str (Str.ofString "som"),V.str (Str.ofString "eac"),V.str (Str.ofString "no"),V.str (Str.ofString "an"),V.str (Str.ofString "ors"),V.str (Str.ofString "iss"),V.str (Str.ofString "so"),V.str (Str.ofString "ye")]:List V)[d8.toNat]?=some (.str od)/\NmOk od:=by
            have hn:d8.toNat < 8:=by omega
            generalize d8.toNat=e at hn
            have:e=0∨e=1∨e=2∨e=3∨e=4∨e=5∨e=6∨e=7:=by omega
            rcases this with rfl | rfl | rfl | rfl | rfl | rfl | rfl | rfl <;> exact ⟨_,rfl,by unfold NmOk lowS;decide +kernel⟩
          obtain ⟨od,hod,lod⟩:=odd
          have p8:∀ o,upd (upd (upd H' b (.lst xs9)) p2 o) b (.lst xs7) p2=some o:=fun o=>by rw [je nb2.symm,jc]
          simp! [p8]
          refine ⟨_,atI_of d80 hod,?_⟩
          have c8:∀ o,upd (upd (upd H' b (.lst xs9)) p2 o) b (.lst xs7) c=some (.lst (zs.map V.str)):=fun o=>by rw [je nbc.symm,je nc2];exact c9
          have k8:∀ o,Kp [b] H (upd (upd (upd H' b (.lst xs9)) p2 o) b (.lst xs7)):=fun o=>(k9.new hp2).set (by rw [je nb2,jc]) (.inl (by simp))
          refine rInU.lst (c8 _) rfl (by simp [List.all_map];intro z _;rfl) ⟨_,rfl,?_⟩
          refine ite2 (fun h4=>?_) (fun h4=>?_)
          · refine ⟨b,_,_,rfl,jc,ho8,by omega,by omega,fun d7 o7 d70 d71 ho7=>?_⟩
            obtain ⟨xs6,rfl⟩:=id ho7.lst
            have c7:∀ o,upd (upd (upd (upd H' b (.lst xs9)) p2 o) b (.lst xs7)) b (.lst xs6) c=some (.lst (zs.map V.str)):=fun o=>by rw [je nbc.symm];exact c8 o
            simp! [c7]
            have c6:∀ o,upd (upd (upd H' b (.lst xs9)) p2 o) b (.lst xs6) c=some (.lst (zs.map V.str)):=fun o=>by rw [je nbc.symm,je nc2];exact c9
            have k6:∀ o,Kp [b] H (upd (upd (upd H' b (.lst xs9)) p2 o) b (.lst xs6)):=fun o=>(k9.new hp2).set (by rw [je nb2,jc]) (.inl (by simp))
            refine ⟨_,by rw [c6];rfl,d7.toNat,by unfold ixN;rw [if_pos d70,if_pos (by rw [List.length_map];omega)],zs.set d7.toNat od,by simp [hz1],fun z hz=>?_,by rw [List.map_set],_,ho7,by rw [je nbc,jc],(k6 _).set (c6 _) (.inr hc0)⟩
            rcases List.mem_or_eq_of_mem_set hz with h | h
            · exact hz2 z h
            · rw [h];exact lod
          · exact ⟨zs,hz1,hz2,c8 _,_,ho8,jc,k8 _⟩
        · exact ⟨zs,hz1,hz2,c9,_,ho9,rfl,k9⟩
      · rintro σ H9 ⟨e,zs,o',hz1,hz2,hc9,ho9,hb9,kp9⟩
        simp!
        exact ⟨_,e,k c zs o' H9 hz1 hz2 hc0 hc9 ho9 hb9 kp9⟩
end
inductive RS where
  | yes | is (x a:Str) | ahead (x y:Str) | no (i:Nat) | bin (b:Bool) (i j:Nat) | qn (b:Bool) (x:Str) (i:Nat)
def bw (b:Bool):Str:=if b then "and" else "or"
def qw (b:Bool):Str:=if b then "some" else "each"
def rowV:RS->List V
  | .yes=>[.str "yes"]
  | .is x a=>[.str "is",.str x,.str a]
  | .ahead x y=>[.str "ahead",.str x,.str y]
  | .no i=>[.str "not",.int (i:Int)]
  | .bin b i j=>[.str (bw b),.int (i:Int),.int (j:Int)]
  | .qn b x i=>[.str (qw b),.str x,.int (i:Int)]
def RS.ok (zs:List Str) (k:Nat):RS->Prop
  | .yes=>True
  | .is x _=>x ∈ zs
  | .ahead x y=>x ∈ zs/\y ∈ zs
  | .no i=>i < k
  | .bin _ i j=>i < k/\j < k
  | .qn _ x i=>x ∈ zs/\i < k
def okR (zs:List Str) (rs:List RS):Prop:=∀ (k:Nat) (r:RS),rs[k]?=some r->r.ok zs k
theorem okR.snoc {zs:List Str} {rs:List RS} {r:RS} (h:okR zs rs) (hr:r.ok zs rs.length):okR zs (rs++[r]):=fun k x e=>by
  by_cases hk:k < rs.length
  · exact h k x (by rwa [List.getElem?_append_left hk] at e)
  · rw [List.getElem?_append_right (by omega)] at e
    have:k - rs.length=0:=by
      cases hq:k - rs.length with
      | zero=>rfl
      | succ n=>rw [hq] at e;simp at e
    rw [this] at e
    simp at e
    subst e
    rw [show k=rs.length by omega]
    exact hr
theorem okR.take {zs:List Str} {rs:List RS} (h:okR zs rs) (m:Nat):okR zs (rs.take m):=fun k x e=>h k x (by
  rw [List.getElem?_take] at e
  split at e
  · exact e
  · cases e)
def RS.lt (z:Str):RS->Prop
  | .is _ a=>∃ c,c ∈ z.cps.toList/\a=⟨#[c]⟩
  | _=>True
def okL (z:Str) (rs:List RS):Prop:=∀ r ∈ rs,r.lt z
theorem okL.snoc {z:Str} {rs:List RS} {r:RS} (h:okL z rs) (hr:r.lt z):okL z (rs++[r]):=fun x hx=>by
  rcases List.mem_append.mp hx with h1 | h1
  · exact h x h1
  · rw [List.mem_singleton.mp h1];exact hr
def RowsAt (H:Hp) (vs:List V) (rs:List RS):Prop:=Paired (fun v r=>∃ a,v=.ref a/\H a=some (.tup (rowV r))) vs rs
theorem RowsAt.kp {S:List Addr} {H H':Hp} {vs:List V} {rs:List RS} (k:Kp S H H') (h:RowsAt H vs rs):RowsAt H' vs rs:=Paired.mapP h fun _ _ ⟨a,e,h⟩=>⟨a,e,k.tup _ _ h⟩
theorem RowsAt.get:∀ {H:Hp} {vs:List V} {rs:List RS} {k:Nat} {v:V},RowsAt H vs rs->vs[k]?=some v->∃ r a,rs[k]?=some r/\v=.ref a/\H a=some (.tup (rowV r))
  | H,_,_,k,v,.nil,e=>by simp at e
  | H,_,_,0,v,.cons (b:=b) ⟨a,q1,q2⟩ _,e=>by simp at e;subst e;exact ⟨b,a,rfl,q1,q2⟩
  | H,_,_,k+1,v,.cons _ t,e=>by simp at e;obtain ⟨r,a,h⟩:=RowsAt.get (rs:=_) t e;exact ⟨r,a,by simpa using h.1,h.2⟩
theorem ite_or {c1 c2 A B:Prop} [Decidable c1] [Decidable c2] (h1:c1∨c2->A) (h2:¬ c1->¬ c2->B):if c1 then A else if c2 then A else B:=by
  by_cases a:c1
  · rw [if_pos a];exact h1 (.inl a)
  · rw [if_neg a]
    by_cases b:c2
    · rw [if_pos b];exact h1 (.inr b)
    · rw [if_neg b];exact h2 a b
def IR (H:Hp) (b p q:Addr) (z:Str) (zn:List Str) (m:Nat) (i:Nat):L2.St->Hp->Prop:=fun σ H'=>∃ (vs:List V) (rs:List RS) (o:HO) (v5 v6 v7 v8 v9:Option V),σ=[some (.ref b),some (.str z),some (.ref p),some (.int (m:Int)),some (.ref q),v5,v6,v7,v8,v9] /\
  rs.length=i/\RowsAt H' vs rs/\okR zn rs/\okL z rs/\H' q=some (.lst vs)/\BoxO o/\H' b=some o/\Kp [b] H H'
theorem IR.step {H H9:Hp} {b p q:Addr} {z:Str} {zn:List Str} {m i:Nat} {vs:List V} {rs:List RS} {o:HO} {v5 v6 v7 v8 v9:Option V} (r:RS) (t:Addr) (hr:r.ok zn i) (ht:H9 t=some (.tup (rowV r))) (hl:rs.length=i) (ra:RowsAt H9 vs rs) (ok:okR zn rs)
    (hq:H9 q=some (.lst vs)) (hq0:H q=none) (ho:BoxO o) (hb:H9 b=some o) (nbq:b≠q) (kp:Kp [b] H H9) (hL:r.lt z) (okl:okL z rs):IR H b p q z zn m (i+1) [some (.ref b),some (.str z),some (.ref p),some (.int (m:Int)),some (.ref q),v5,v6,v7,v8,v9] (upd H9 q (.lst (vs++[.ref t]))):=by
  have kq:Kp [q] H9 (upd H9 q (.lst (vs++[.ref t]))):=(Kp.refl [q] H9).set hq (.inl (by simp))
  exact ⟨vs++[.ref t],rs++[r],o,v5,v6,v7,v8,v9,rfl,by simp [hl],Paired.snoc (ra.kp kq) ⟨t,rfl,kq.tup _ _ ht⟩,ok.snoc (by rw [hl];exact hr),okl.snoc hL,jc,ho,by rw [je nbq];exact hb,kp.set hq (.inr hq0)⟩
structure Fc (H:Hp) (b q:Addr) (us:List V) (rs:List RS) (o:HO) (H1:Hp):Prop where
  hb:H1 b=some o
  ho:BoxO o
  hq:H1 q=some (.lst us)
  ra:RowsAt H1 us rs
  kp:Kp [b] H H1
theorem Fc.new {H H1:Hp} {b q:Addr} {us:List V} {rs:List RS} {o x:HO} {t:Addr} (F:Fc H b q us rs o H1) (ht:H1 t=none):Fc H b q us rs o (upd H1 t x) :=
  ⟨by rw [je (jh F.hb ht)];exact F.hb,F.ho,by rw [je (jh F.hq ht)];exact F.hq,F.ra.kp ((Kp.refl [b] H1).new ht),F.kp.new ht⟩
theorem Fc.step {H H1 H2:Hp} {b q:Addr} {us:List V} {rs:List RS} {o o':HO} (F:Fc H b q us rs o H1) (nbq:b≠q) (k:Kp [b] H1 H2) (ho:BoxO o') (hb:H2 b=some o'):Fc H b q us rs o' H2 :=
  ⟨hb,ho,k.old _ _ F.hq (by simpa using nbq.symm),F.ra.kp k,F.kp.trans k⟩
theorem Fc.box {H H1:Hp} {b q:Addr} {us:List V} {rs:List RS} {o o':HO} (F:Fc H b q us rs o H1) (nbq:b≠q) (ho:BoxO o'):Fc H b q us rs o' (upd H1 b o'):=by
  obtain ⟨xs,rfl⟩:=F.ho.lst
  exact F.step nbq ((Kp.refl [b] H1).set F.hb (.inl (by simp))) ho jc
def spSR:Sp:=fun vs H Q _=>∃ (b p:Addr) (z:Str) (zs:List Str) (m:Nat) (o:HO),vs=[.ref b,.str z,.ref p,.int (m:Int)]/\H b=some o/\BoxO o/\Letters z 4/\H p=some (.lst (zs.map V.str))/\1<=zs.length/\zs.length<=26/\1<=m/\m<=60/\b≠p /\
  ∀ (q:Addr) (us:List V) (rs:List RS) (o':HO) (H':Hp),1<=rs.length->rs.length<=m->RowsAt H' us rs->okR zs rs->okL z rs->H q=none->H' q=some (.lst us)->BoxO o'->H' b=some o'->Kp [b] H H'->Q (.ref q) H'
structure TSR (mg:Str->Option Value) (ft fr:Addr):Prop where
  n_range:mg "range"=none
  n_len:mg "len"=none
  m0z:mg "_law_take"=some (.ref ft)
  m6z:mg "_law_row_at"=some (.ref fr)
theorem at_str {zs:List Str} {d:Int} (h0:0<=d) (h:d < (zs.length:Int)):∃ y,y ∈ zs/\atI (zs.map V.str) d=some (.str y) :=
  ⟨zs[d.toNat]'(by omega),List.getElem_mem _,atI_of h0 (by rw [List.getElem?_map];simp)⟩
section
variable {P:Program} {w:World} {K:PySem.W.Frag} {mg:Str->Option Value} {base:Heap}
abbrev yb:Stmt:=top 27
theorem kx:FnScope ["_law_box_here","_law_letters_here","_law_names","_law_most","_law_rows","_law_k","_law_kind","_law_x","_law_y","_law_base"] ["_law_box_here","_law_letters_here","_law_names","_law_most"] (jj yb):=⟨rfl,rfl,rfl,by decide +kernel,rfl,by decide +kernel,by decide +kernel⟩
theorem ok__law_saying_rows {f ft fr:Addr} {fd fdt fdr:FuncData} (F:Fun K "_law_saying_rows" "_law_saying_rows" yb f fd) (T:TSR mg ft fr) (F0z:Fun K "_law_take" "_law_take" kl ft fdt) (b0z:Binds K fdt ["_law_box_here","_law_wide"] [])
    (G0z:FnOk P w K mg base CX0 1 ft fdt ["_law_box_here","_law_wide"] spTake) (F6z:Fun K "_law_row_at" "_law_row_at" y8 fr fdr) (b6z:Binds K fdr ["_law_box_here","_law_k"] [])
    (G6z:FnOk P w K mg base CX0 2 fr fdr ["_law_box_here","_law_k"] spRowAt):FnOk P w K mg base CX0 3 f fd ["_law_box_here","_law_letters_here","_law_names","_law_most"] spSR:=by
  refine F.ok kx (fun vs H Q E h=>?_) (fun cdv A outer s H vs Q E hr h=>?_)
  · obtain ⟨b,p,z,zs,m,o,rfl,_⟩:=h
    rfl
  · obtain ⟨b,p,z,zs,m,o,rfl,hb,ho,hz,hp,z1,z2,m1,m2,nbp,k⟩:=h
    have hu:=hr.units
    refine ⟨_,(QSs.h (jf (jm (i:=4) kx.nd rfl (by first | exact Or.inl rfl | exact Or.inr rfl) (j7 jb))
    (jf (zt PassesOwn.never rfl (jac rfl T.n_range (ja (jp j6 jd (jl G0z (hr.mono (by decide)) rfl T.m0z F0z.kp b0z .nil jt (ja (qpv 0) (ja (qpv 3) jb)))) jb)) (kj (i:=5) kx.nd rfl (by first | exact Or.inl rfl | exact Or.inr rfl)) (jf (jm (i:=6) kx.nd rfl (by first | exact Or.inl rfl | exact Or.inr rfl) (jl G0z (hr.mono (by decide)) rfl T.m0z F0z.kp b0z .nil jt (ja (qpv 0) (ja jd jb))))
    (jf (jm (i:=7) kx.nd rfl (by first | exact Or.inl rfl | exact Or.inr rfl) (jq ix_U (qpv 2) (jl G0z (hr.mono (by decide)) rfl T.m0z F0z.kp b0z .nil jt (ja (qpv 0) (ja (jn jy (by rfl) T.n_len j9 (ja (qpv 2) jb)) jb))) (fun _ _=>rfl)))
    (ji (jw (QW.pt (z7 (jo (j8 hu) (qpv 5) jd (jv _)) (jaa (jo jao (qpv 6) jd (jv _))))) (jf (jm (i:=8) kx.nd rfl (by first | exact Or.inl rfl | exact Or.inr rfl) (jq ix_U (qpv 2) (jl G0z (hr.mono (by decide)) rfl T.m0z F0z.kp b0z .nil jt (ja (qpv 0) (ja (jn jy (by rfl) T.n_len j9 (ja (qpv 2) jb)) jb))) (fun _ _=>rfl)))
    (jf (jm (i:=9) kx.nd rfl (by first | exact Or.inl rfl | exact Or.inr rfl) (j7 (ja (kc (ja jg (ja (qpv 7) (ja (jq ix_U (qpv 1) (jl G0z (hr.mono (by decide)) rfl T.m0z F0z.kp b0z .nil jt (ja (qpv 0) (ja (jn jy (by rfl) T.n_len j9 (ja (qpv 1) jb)) jb))) (fun _ _=>rfl)) jb)))) (ja (kc (ja jg (ja (qpv 7) (ja (qpv 8) jb)))) (ja (kc (ja jg jb)) jb)))))
    (ji (yi (yx PySem.F.slot_list_append PySem.F.type_list_append yh (qpv 4) (ja (jq ix_U (qpv 9) (jq ix_U (j7 (ja jd (ja jd (ja jd (ja jd (ja jd (ja jd (ja jd jb jk) jk) jk) jk) jk) jk) jk)) (jl G0z (hr.mono (by decide)) rfl T.m0z F0z.kp b0z .nil jt (ja (qpv 0) (ja jd jb))) (fun _ _=>rfl)) (fun _ _=>rfl)) jb) mono_var))))) (ji (jw (jo jao (qpv 6) jd (jv _)) (ji (yi (yx PySem.F.slot_list_append PySem.F.type_list_append yh (qpv 4) (ja (kc (ja jg (ja (jl G6z (hr.mono (by decide)) rfl T.m6z F6z.kp b6z .nil jt (ja (qpv 0) (ja (qpv 5) jb))) jb))) jb) mono_var))) (ji (jw (jo jao (qpv 6) jd (jv _)) (ji (yi (yx PySem.F.slot_list_append PySem.F.type_list_append yh (qpv 4) (ja (kc (ja (jq ix_U (j7 (ja jg (ja jg (ja jg jb)))) (jp jag (qpv 6) jd) (fun _ _=>rfl)) (ja (jl G6z (hr.mono (by decide)) rfl T.m6z F6z.kp b6z .nil jt (ja (qpv 0) (ja (qpv 5) jb))) (ja (jl G0z (hr.mono (by decide)) rfl T.m0z F0z.kp b0z .nil jt (ja (qpv 0) (ja (qpv 5) jb))) jb)))) jb) mono_var))) (ji (yi (yx PySem.F.slot_list_append PySem.F.type_list_append yh (qpv 4) (ja (kc (ja (jq ix_U (j7 (ja jg (ja jg (ja jg jb)))) (jp jag (qpv 6) jd) (fun _ _=>rfl)) (ja (qpv 7) (ja (jl G6z (hr.mono (by decide)) rfl T.m6z F6z.kp b6z .nil jt (ja (qpv 0) (ja (qpv 5) jb))) jb)))) jb) mono_var))))))))))))
    (ji (jr (qpv 4)))))),?_⟩
    have hsz:sizeLine=16777216:=PySem.sizeLine_eq
    simp!
    refine ⟨by omega,fun q hq=>?_⟩
    have nbq:b≠q:=jh hb hq
    have npq:p≠q:=jh hp hq
    refine ⟨b,(m:Int),o,rfl,by rw [je nbq];exact hb,ho,by omega,by omega,fun d o1 d0 d1 ho1=>?_⟩
    obtain ⟨n,rfl⟩:∃ n:Nat,d=(n:Int):=⟨d.toNat,by omega⟩
    have en:(1+(n:Int)).toNat=n+1:=by omega
    obtain ⟨xs0,rfl⟩:=ho.lst
    obtain ⟨xs1,rfl⟩:=id ho1.lst
    simp!
    refine ⟨by omega,by omega,?_⟩
    rw [en]
    refine loop_range (IR H b p q z zs m) ?_ ?_ ?_
    · exact ⟨[],[],_,none,none,none,none,none,rfl,rfl,.nil,(fun k r e=>by simp at e),(fun r h=>by simp at h),by rw [je nbq.symm,jc],ho1,jc,((Kp.refl [b] H).new hq).set (by rw [je nbq];exact hb) (.inl (by simp))⟩
    · rintro i σ H1 hi ⟨us,rs,o2,v5,v6,v7,v8,v9,rfl,hl,ra,ok,okl,hq1,ho2,hb1,kp⟩
      have hp1:H1 p=some (.lst (zs.map V.str)):=kp.old _ _ hp (by simpa using nbp.symm)
      obtain ⟨xs2,rfl⟩:=id ho2.lst
      simp!
      refine ⟨b,12,_,rfl,hb1,ho2,by omega,by omega,fun kd o3 kd0 kd1 ho3=>?_⟩
      obtain ⟨xs3,rfl⟩:=id ho3.lst
      have pA:∀ o,upd H1 b o p=some (.lst (zs.map V.str)):=fun o=>by rw [je nbp.symm];exact hp1
      have qA:∀ o,upd H1 b o q=some (.lst us):=fun o=>by rw [je nbq.symm];exact hq1
      have kA:∀ o,Kp [b] H (upd H1 b o):=fun o=>kp.set hb1 (.inl (by simp))
      simp! [pA]
      refine ⟨b,_,_,rfl,jc,ho3,by rw [List.length_map];omega,by rw [List.length_map];omega,fun dx o4 dx0 dx1 ho4=>?_⟩
      obtain ⟨xs4,rfl⟩:=id ho4.lst
      rw [List.length_map] at dx1
      simp! [pA]
      obtain ⟨x,hx,ax⟩:=at_str dx0 dx1
      refine ⟨_,ax,ite_or (fun h1=>?_) (fun h1 h2=>ite2 (fun h3=>?_) (fun h3=>ite2 (fun h4=>?_) (fun h4=>?_)))⟩
      · have F0:Fc H b q us rs (.lst xs4) (upd H1 b (.lst xs4)):=⟨jc,ho4,qA _,ra.kp ((Kp.refl [b] H1).set hb1 (.inl (by simp))),kA _⟩
        refine ⟨b,_,_,rfl,jc,ho4,by rw [List.length_map];omega,by rw [List.length_map];omega,fun dy o5 dy0 dy1 ho5=>?_⟩
        rw [List.length_map] at dy1
        obtain ⟨xs5,rfl⟩:=id ho5.lst
        simp! [pA]
        obtain ⟨y,hy,ay⟩:=at_str dy0 dy1
        have:=hz.lo
        have:=hz.hi
        refine ⟨_,ay,by omega,b,_,_,rfl,jc,ho5,by omega,by omega,fun dz o6 dz0 dz1 ho6=>?_⟩
        obtain ⟨xs6,rfl⟩:=id ho6.lst
        simp!
        have hzl:z.cps.toList.length=z.length:=by simp [Str.length]
        refine ⟨by omega,z.cps.toList[dz.toNat]'(by omega),atI_of dz0 (by simp),by omega,fun t1 ht1=>⟨by omega,fun t2 ht2=>⟨by omega,fun t3 ht3=>⟨by omega,fun t4 ht4=>?_⟩⟩⟩⟩
        have F1:Fc H b q us rs (.lst xs6) (upd H1 b (.lst xs6)):=⟨jc,ho6,qA _,ra.kp ((Kp.refl [b] H1).set hb1 (.inl (by simp))),kA _⟩
        have hch:z.cps.toList[dz.toNat]'(by omega) ∈ z.cps.toList:=List.getElem_mem _
        generalize z.cps.toList[dz.toNat]'(by omega)=ch at ht2 ht3 ht4 hch ⊢
        have F4:=(((F1.new (x:=.tup [V.str (Str.ofString "is"),V.str x,V.str ⟨#[ch]⟩]) ht1).new (x:=.tup [V.str (Str.ofString "ahead"),V.str x,V.str y]) ht2).new (x:=.tup [V.str (Str.ofString "yes")]) ht3).new (x:=.lst [V.ref t1,V.ref t2,V.ref t3]) ht4
        have n12:t1≠t2:=jh jc ht2
        have n23:t2≠t3:=jh jc ht3
        have n34:t3≠t4:=jh jc ht4
        have n13:t1≠t3:=jh (by rw [je n12,jc]) ht3
        have n24:t2≠t4:=jh (by rw [je n23,jc]) ht4
        have n14:t1≠t4:=jh (by rw [je n13,je n12,jc]) ht4
        have g1:upd (upd (upd (upd (upd H1 b (.lst xs6)) t1 (.tup [V.str (Str.ofString "is"),V.str x,V.str ⟨#[ch]⟩])) t2 (.tup [V.str (Str.ofString "ahead"),V.str x,V.str y])) t3 (.tup [V.str (Str.ofString "yes")])) t4 (.lst [V.ref t1,V.ref t2,V.ref t3]) t1=some (.tup (rowV (.is x ⟨#[ch]⟩))):=by rw [je n14,je n13,je n12,jc];rfl
        have g2:upd (upd (upd (upd (upd H1 b (.lst xs6)) t1 (.tup [V.str (Str.ofString "is"),V.str x,V.str ⟨#[ch]⟩])) t2 (.tup [V.str (Str.ofString "ahead"),V.str x,V.str y])) t3 (.tup [V.str (Str.ofString "yes")])) t4 (.lst [V.ref t1,V.ref t2,V.ref t3]) t2=some (.tup (rowV (.ahead x y))):=by rw [je n24,je n23,jc];rfl
        have g3:upd (upd (upd (upd (upd H1 b (.lst xs6)) t1 (.tup [V.str (Str.ofString "is"),V.str x,V.str ⟨#[ch]⟩])) t2 (.tup [V.str (Str.ofString "ahead"),V.str x,V.str y])) t3 (.tup [V.str (Str.ofString "yes")])) t4 (.lst [V.ref t1,V.ref t2,V.ref t3]) t3=some (.tup (rowV .yes)):=by rw [je n34,jc];rfl
        have g4:upd (upd (upd (upd (upd H1 b (.lst xs6)) t1 (.tup [V.str (Str.ofString "is"),V.str x,V.str ⟨#[ch]⟩])) t2 (.tup [V.str (Str.ofString "ahead"),V.str x,V.str y])) t3 (.tup [V.str (Str.ofString "yes")])) t4 (.lst [V.ref t1,V.ref t2,V.ref t3]) t4=some (.lst [V.ref t1,V.ref t2,V.ref t3]):=jc
        revert F4 g1 g2 g3 g4
        generalize upd (upd (upd (upd (upd H1 b (.lst xs6)) t1 (.tup [V.str (Str.ofString "is"),V.str x,V.str ⟨#[ch]⟩])) t2 (.tup [V.str (Str.ofString "ahead"),V.str x,V.str y])) t3 (.tup [V.str (Str.ofString "yes")])) t4 (.lst [V.ref t1,V.ref t2,V.ref t3])=H5
        intro F4 g1 g2 g3 g4
        refine ⟨by rw [F4.hq];rfl,by omega,fun t5 ht5=>?_⟩
        have F5:=F4.new (x:=.lst [V.int 0,V.int 0,V.int 0,V.int 1,V.int 1,V.int 1,V.int 2]) ht5
        refine ⟨b,_,_,rfl,F5.hb,F5.ho,by omega,by omega,fun e o7 e0 e1 ho7=>?_⟩
        have F6:=F5.box nbq ho7
        have nb5:b≠t5:=jh F4.hb ht5
        have nb4:b≠t4:=fun z=>by subst z;have:=F4.hb;rw [g4] at this;obtain ⟨c,sd,q1,_⟩:=F4.ho;rw [q1] at this;cases this
        have n45:t4≠t5:=jh g4 ht5
        have i5:∀ o,upd (upd H5 t5 o) b o7 t5=some o:=fun o=>by rw [je nb5.symm,jc]
        have i4:∀ o,upd (upd H5 t5 o) b o7 t4=some (.lst [V.ref t1,V.ref t2,V.ref t3]):=fun o=>by rw [je nb4.symm,je n45];exact g4
        simp! [i5,i4]
        have k6:Kp [b] H5 (upd (upd H5 t5 (.lst [V.int 0,V.int 0,V.int 0,V.int 1,V.int 1,V.int 1,V.int 2])) b o7):=by
          obtain ⟨xs9,e9⟩:=F4.ho.lst
          have hb5:=F5.hb
          rw [e9] at hb5
          exact ((Kp.refl [b] H5).new ht5).set hb5 (.inl (by simp))
        have pick:∀ (r:RS) (t:Addr),r.ok zs i->r.lt z->H5 t=some (.tup (rowV r))->∃ xs_1,lstOf (upd (upd H5 t5 (.lst [V.int 0,V.int 0,V.int 0,V.int 1,V.int 1,V.int 1,V.int 2])) b o7 q)=some xs_1/\xs_1.length < sizeLine /\
            IR H b p q z zs m (i+1) [some (V.ref b),some (V.str z),some (V.ref p),some (V.int (m:Int)),some (V.ref q),some (V.int (0+(i:Int))),some (V.int kd),some (V.str x),some (V.str y),some (V.ref t4)] (upd (upd (upd H5 t5 (.lst [V.int 0,V.int 0,V.int 0,V.int 1,V.int 1,V.int 1,V.int 2])) b o7) q (.lst (xs_1++[V.ref t]))) :=
          fun r t hr hlt ht=>⟨us,by rw [F6.hq];rfl,by have:us.length=rs.length:=Paired.length ra;omega,IR.step r t hr (k6.tup _ _ ht) hl F6.ra ok F6.hq hq F6.ho F6.hb nbq F6.kp hlt okl⟩
        have:e=0∨e=1∨e=2∨e=3∨e=4∨e=5∨e=6:=by omega
        rcases this with rfl | rfl | rfl | rfl | rfl | rfl | rfl
        · exact ⟨_,atI_of (by decide) rfl,_,by rw [i4];rfl,_,atI_of (by decide) rfl,pick (.is x ⟨#[ch]⟩) t1 hx ⟨ch,hch,rfl⟩ g1⟩
        · exact ⟨_,atI_of (by decide) rfl,_,by rw [i4];rfl,_,atI_of (by decide) rfl,pick (.is x ⟨#[ch]⟩) t1 hx ⟨ch,hch,rfl⟩ g1⟩
        · exact ⟨_,atI_of (by decide) rfl,_,by rw [i4];rfl,_,atI_of (by decide) rfl,pick (.is x ⟨#[ch]⟩) t1 hx ⟨ch,hch,rfl⟩ g1⟩
        · exact ⟨_,atI_of (by decide) rfl,_,by rw [i4];rfl,_,atI_of (by decide) rfl,pick (.ahead x y) t2 ⟨hx,hy⟩ trivial g2⟩
        · exact ⟨_,atI_of (by decide) rfl,_,by rw [i4];rfl,_,atI_of (by decide) rfl,pick (.ahead x y) t2 ⟨hx,hy⟩ trivial g2⟩
        · exact ⟨_,atI_of (by decide) rfl,_,by rw [i4];rfl,_,atI_of (by decide) rfl,pick (.ahead x y) t2 ⟨hx,hy⟩ trivial g2⟩
        · exact ⟨_,atI_of (by decide) rfl,_,by rw [i4];rfl,_,atI_of (by decide) rfl,pick .yes t3 trivial trivial g3⟩
      · have F0:Fc H b q us rs (.lst xs4) (upd H1 b (.lst xs4)):=⟨jc,ho4,qA _,ra.kp ((Kp.refl [b] H1).set hb1 (.inl (by simp))),kA _⟩
        refine ⟨by rw [F0.hq];rfl,b,_,_,rfl,F0.hb,F0.ho,by omega,by omega,fun e o7 H5 e0 e1 ho7 hb7 k7=>⟨by omega,fun t ht=>?_⟩⟩
        obtain ⟨j,rfl⟩:∃ j:Nat,e=(j:Int):=⟨e.toNat,by omega⟩
        have F6:=(F0.step nbq k7 ho7 hb7).new (x:=.tup [V.str (Str.ofString "not"),V.int (j:Int)]) ht
        exact ⟨us,by rw [F6.hq];rfl,by have:us.length=rs.length:=Paired.length ra;omega,IR.step (.no j) t (show j < i by omega) jc hl F6.ra ok F6.hq hq F6.ho F6.hb nbq F6.kp trivial okl⟩
      · have F0:Fc H b q us rs (.lst xs4) (upd H1 b (.lst xs4)):=⟨jc,ho4,qA _,ra.kp ((Kp.refl [b] H1).set hb1 (.inl (by simp))),kA _⟩
        obtain ⟨bb,hbb⟩:∃ bb:Bool,atI [V.str (Str.ofString "and"),V.str (Str.ofString "and"),V.str (Str.ofString "or")] (kd - 6)=some (.str (bw bb)):=by
          have:kd=6∨kd=7∨kd=8:=by omega
          rcases this with rfl | rfl | rfl
          · exact ⟨true,atI_of (by decide) rfl⟩
          · exact ⟨true,atI_of (by decide) rfl⟩
          · exact ⟨false,atI_of (by decide) rfl⟩
        refine ⟨by rw [F0.hq];rfl,by omega,fun t0 ht0=>⟨_,hbb,?_⟩⟩
        have Fa:=F0.new (x:=.lst [V.str (Str.ofString "and"),V.str (Str.ofString "and"),V.str (Str.ofString "or")]) ht0
        refine ⟨b,_,_,rfl,Fa.hb,Fa.ho,by omega,by omega,fun e o7 H5 e0 e1 ho7 hb7 k7=>?_⟩
        have Fb:=Fa.step nbq k7 ho7 hb7
        refine ⟨b,_,_,rfl,hb7,ho7,by omega,by omega,fun e2 o8 e20 e21 ho8=>⟨by omega,fun t ht=>?_⟩⟩
        obtain ⟨j,rfl⟩:∃ j:Nat,e=(j:Int):=⟨e.toNat,by omega⟩
        obtain ⟨l,rfl⟩:∃ l:Nat,e2=(l:Int):=⟨e2.toNat,by omega⟩
        have F6:=(Fb.box nbq ho8).new (x:=.tup [V.str (bw bb),V.int (j:Int),V.int (l:Int)]) ht
        exact ⟨us,by rw [F6.hq];rfl,by have:us.length=rs.length:=Paired.length ra;omega,IR.step (.bin bb j l) t (show j < i/\l < i by omega) jc hl F6.ra ok F6.hq hq F6.ho F6.hb nbq F6.kp trivial okl⟩
      · have F0:Fc H b q us rs (.lst xs4) (upd H1 b (.lst xs4)):=⟨jc,ho4,qA _,ra.kp ((Kp.refl [b] H1).set hb1 (.inl (by simp))),kA _⟩
        obtain ⟨bb,hbb⟩:∃ bb:Bool,atI [V.str (Str.ofString "some"),V.str (Str.ofString "some"),V.str (Str.ofString "each")] (kd - 9)=some (.str (qw bb)):=by
          have:kd=9∨kd=10∨kd=11:=by omega
          rcases this with rfl | rfl | rfl
          · exact ⟨true,atI_of (by decide) rfl⟩
          · exact ⟨true,atI_of (by decide) rfl⟩
          · exact ⟨false,atI_of (by decide) rfl⟩
        refine ⟨by rw [F0.hq];rfl,by omega,fun t0 ht0=>⟨_,hbb,?_⟩⟩
        have Fa:=F0.new (x:=.lst [V.str (Str.ofString "some"),V.str (Str.ofString "some"),V.str (Str.ofString "each")]) ht0
        refine ⟨b,_,_,rfl,Fa.hb,Fa.ho,by omega,by omega,fun e o7 H5 e0 e1 ho7 hb7 k7=>⟨by omega,fun t ht=>?_⟩⟩
        obtain ⟨j,rfl⟩:∃ j:Nat,e=(j:Int):=⟨e.toNat,by omega⟩
        have F6:=(Fa.step nbq k7 ho7 hb7).new (x:=.tup [V.str (qw bb),V.str x,V.int (j:Int)]) ht
        exact ⟨us,by rw [F6.hq];rfl,by have:us.length=rs.length:=Paired.length ra;omega,IR.step (.qn bb x j) t ⟨hx,show j < i by omega⟩ jc hl F6.ra ok F6.hq hq F6.ho F6.hb nbq F6.kp trivial okl⟩
    · rintro σ H1 ⟨us,rs,o2,v5,v6,v7,v8,v9,rfl,hl,ra,ok,okl,hq1,ho2,hb1,kp⟩
      simp!
      exact k q us rs o2 H1 (by omega) (by omega) ra ok okl hq hq1 ho2 hb1 kp
end
def fm (F:List (List Str)):RS->List Str
  | .yes=>[]
  | .is x _=>[x]
  | .ahead x y=>[x,y]
  | .no i=>F.getD i []
  | .bin _ i j=>F.getD i []++F.getD j []
  | .qn _ x i=>(F.getD i []).filter fun y=>!decide (y=x)
structure Cn (l raw:List Str):Prop where
  so:PyProof.Rows.sortedS l=true
  nd:l.Nodup
  me:∀ x,x ∈ l↔x ∈ raw
theorem Cn.one {l m raw raw':List Str} (h:Cn l raw) (h':Cn m raw') (e:∀ x,x ∈ raw↔x ∈ raw'):l=m:=sorted_one h.so h'.so h.nd h'.nd fun x=>by rw [h.me,h'.me,e]
theorem getD_snoc {α:Type} {d:α} {F:List α} {x:α} {i:Nat} (h:i < F.length):(F++[x]).getD i d=F.getD i d:=by
  rw [List.getD_eq_getElem?_getD,List.getD_eq_getElem?_getD,List.getElem?_append_left h]
theorem getD_last {α:Type} {d:α} {F:List α} {x:α}:(F++[x]).getD F.length d=x:=by
  rw [List.getD_eq_getElem?_getD,List.getElem?_append_right (Nat.le_refl _)]
  simp
theorem fm_cong {F G:List (List Str)} {zs:List Str} {k:Nat} (h:∀ i,i < k->F.getD i []=G.getD i []):∀ {r:RS},r.ok zs k->fm F r=fm G r
  | .yes,_=>rfl
  | .is _ _,_=>rfl
  | .ahead _ _,_=>rfl
  | .no i,ok=>h i ok
  | .bin _ i j,ok=>by simp only [fm];rw [h i ok.1,h j ok.2]
  | .qn _ x i,ok=>by simp only [fm];rw [h i ok.2]
structure CF (zs:List Str) (F:List (List Str)) (rs:List RS):Prop where
  len:F.length=rs.length
  at_:∀ k r,rs[k]?=some r->Cn (F.getD k []) (fm F r)
  sub:∀ k x,x ∈ F.getD k []->x ∈ zs
theorem fm_sub {zs:List Str} {F:List (List Str)} {k:Nat} (h:∀ k x,x ∈ F.getD k []->x ∈ zs):∀ {r:RS},r.ok zs k->∀ x ∈ fm F r,x ∈ zs
  | .yes,_,x,hx=>by simp [fm] at hx
  | .is y _,ok,x,hx=>by
    have:x=y:=by simpa [fm] using hx
    rw [this];exact ok
  | .ahead y z,ok,x,hx=>by
    have:x=y∨x=z:=by simpa [fm] using hx
    rcases this with rfl | rfl
    · exact ok.1
    · exact ok.2
  | .no i,_,x,hx=>h i x hx
  | .bin _ i j,_,x,hx=>by
    rcases List.mem_append.mp hx with q | q
    · exact h i x q
    · exact h j x q
  | .qn _ y i,_,x,hx=>h i x (List.mem_filter.mp hx).1
theorem CF.nil (zs:List Str):CF zs [] []:=⟨rfl,fun k r e=>by simp at e,fun k x hx=>by simp at hx⟩
theorem CF.snoc {zs:List Str} {F:List (List Str)} {rs:List RS} {r:RS} {l:List Str} (h:CF zs F rs) (okr:okR zs rs) (hr:r.ok zs rs.length) (hl:Cn l (fm F r)):CF zs (F++[l]) (rs++[r]):=by
  have hF:=h.len
  refine ⟨by simp [hF],fun k x e=>?_,fun k x hx=>?_⟩
  · by_cases hk:k < rs.length
    · rw [List.getElem?_append_left hk] at e
      rw [getD_snoc (by omega),fm_cong (G:=F) (fun i hi=>getD_snoc (by omega)) (okr k x e)]
      exact h.at_ k x e
    · have hk':k=rs.length:=by
        have:=(List.getElem?_eq_some_iff.mp e).1
        simp at this
        omega
      subst hk'
      rw [List.getElem?_append_right (Nat.le_refl _)] at e
      simp at e
      subst e
      rw [← hF,getD_last,fm_cong (G:=F) (k:=rs.length) (fun i hi=>getD_snoc (by omega)) hr]
      exact hl
  · by_cases hk:k < F.length
    · rw [getD_snoc hk] at hx;exact h.sub k x hx
    · by_cases hk2:k=F.length
      · rw [hk2,getD_last] at hx
        exact fm_sub h.sub hr x ((hl.me x).mp hx)
      · rw [List.getD_eq_getElem?_getD,List.getElem?_eq_none (by simp;omega)] at hx
        simp at hx
theorem CF.eq {zs:List Str} {F G:List (List Str)} {rs:List RS} (ok:okR zs rs) (h:CF zs F rs) (h':CF zs G rs):F=G:=by
  have key:∀ k,F.getD k []=G.getD k []:=by
    intro k
    induction k using Nat.strongRecOn with
    | ind k ih =>
      by_cases hk:k < rs.length
      · have e:=List.getElem?_eq_getElem hk
        exact (h.at_ k _ e).one (h'.at_ k _ e) fun x=>by rw [fm_cong (fun i hi=>ih i hi) (ok k _ e)]
      · have h1:=h.len
        have h2:=h'.len
        rw [List.getD_eq_getElem?_getD,List.getElem?_eq_none (by omega),List.getD_eq_getElem?_getD,List.getElem?_eq_none (by omega)]
  refine List.ext_getElem? fun k=>?_
  have h1:=h.len
  have h2:=h'.len
  have:=key k
  by_cases hk:k < rs.length
  · rw [List.getD_eq_getElem?_getD,List.getD_eq_getElem?_getD,List.getElem?_eq_getElem (by omega),List.getElem?_eq_getElem (by omega)] at this
    rw [List.getElem?_eq_getElem (by omega),List.getElem?_eq_getElem (by omega)]
    exact congrArg some this
  · rw [List.getElem?_eq_none (by omega),List.getElem?_eq_none (by omega)]
theorem nodup_le:∀ {l zs:List Str},l.Nodup->(∀ x ∈ l,x ∈ zs)->l.length<=zs.length
  | [],_,_,_=>Nat.zero_le _
  | x::l,zs,nd,h=>by
    obtain ⟨hx,nd'⟩:=List.nodup_cons.mp nd
    have hm:=h x (.head _)
    have:=nodup_le (l:=l) (zs:=zs.erase x) nd' fun y hy=>(List.mem_erase_of_ne (fun e:y=x=>hx (e ▸ hy))).mpr (h y (.tail _ hy))
    rw [List.length_erase_of_mem hm] at this
    have hp:0 < zs.length:=List.length_pos_of_mem hm
    rw [List.length_cons]
    omega
theorem CF.le {zs:List Str} {F:List (List Str)} {rs:List RS} (h:CF zs F rs) (k:Nat):(F.getD k []).length<=zs.length:=by
  by_cases hk:k < rs.length
  · exact nodup_le (h.at_ k _ (List.getElem?_eq_getElem hk)).nd (h.sub k)
  · have:=h.len
    rw [List.getD_eq_getElem?_getD,List.getElem?_eq_none (by omega)]
    exact Nat.zero_le _
theorem fm_len {zs:List Str} {F:List (List Str)} {rs:List RS} (h:CF zs F rs) (hz:∀ k,(F.getD k []).length<=26):∀ r:RS,(fm F r).length<=52
  | .yes=>Nat.zero_le _
  | .is _ _=>by simp [fm]
  | .ahead _ _=>by simp [fm]
  | .no i=>by have:=hz i;simp only [fm];omega
  | .bin _ i j=>by have:=hz i;have:=hz j;simp only [fm,List.length_append];omega
  | .qn _ x i=>by have:=hz i;have:=List.length_filter_le (fun y=>!decide (y=x)) (F.getD i []);simp only [fm];omega
def dp (D:List Nat):RS->Nat
  | .no i=>D.getD i 0
  | .bin _ i j=>max (D.getD i 0) (D.getD j 0)
  | .qn _ _ i=>D.getD i 0+1
  | _=>0
def deps (rs:List RS):List Nat:=rs.foldl (fun D r=>D++[dp D r]) []
theorem deps_snoc (rs:List RS) (r:RS):deps (rs++[r])=deps rs++[dp (deps rs) r]:=by simp [deps,List.foldl_append]
theorem snoc_ind {α:Type} {M:List α->Prop} (h0:M []) (h1:∀ l x,M l->M (l++[x])):∀ l,M l:=by
  intro l
  rw [← List.reverse_reverse l]
  induction l.reverse with
  | nil=>exact h0
  | cons x l ih=>rw [List.reverse_cons];exact h1 _ _ ih
theorem deps_len:∀ rs:List RS,(deps rs).length=rs.length:=snoc_ind rfl fun l x ih=>by rw [deps_snoc,List.length_append,List.length_append,ih];rfl
def pts:RS->List Nat
  | .no i=>[i]
  | .bin _ i j=>[i,j]
  | .qn _ _ i=>[i]
  | _=>[]
def isI:V->Bool
  | .int _=>true
  | _=>false
theorem pts_rows (r:RS):(rowV r).filter isI=(pts r).map fun i:Nat=>V.int (i:Int):=by cases r <;> rfl
def spParts:Sp:=fun vs H Q _=>∃ (a:Addr) (r:RS),vs=[.ref a]/\H a=some (.tup (rowV r))/\∀ p,H p=none->Q (.ref p) (upd H p (.lst ((pts r).map fun i:Nat=>V.int (i:Int))))
structure TPa (K:PySem.W.Frag) (mg:Str->Option Value):Prop where
  n_isinstance:mg "isinstance"=none
  n_int:mg "int"=none
  si:PySem.W.kitOne K (.type "str") (.type "int")=some false
  ii:PySem.W.kitOne K (.type "int") (.type "int")=some true
def NT (H:Hp) (ys:List V) (F:List (List Str)):Prop:=Paired (fun y l=>∃ q,y=.ref q/\H q=some (.tup (l.map V.str))) ys F
theorem NT.kp {S:List Addr} {H H':Hp} {ys:List V} {F:List (List Str)} (k:Kp S H H') (h:NT H ys F):NT H' ys F:=Paired.mapP h fun _ _ ⟨q,e,g⟩=>⟨q,e,k.tup _ _ g⟩
theorem NT.get:∀ {H:Hp} {ys:List V} {F:List (List Str)} {i:Nat},NT H ys F->i < F.length->∃ q,ys[i]?=some (.ref q)/\H q=some (.tup ((F.getD i []).map V.str))
  | _,_,_,0,.cons ⟨q,e,g⟩ _,_=>⟨q,by rw [e];rfl,g⟩
  | _,_,_,i+1,.cons _ p,h=>by
    obtain ⟨q,e,g⟩:=NT.get p (i:=i) (by simpa using h)
    exact ⟨q,e,g⟩
def BN:List V:=[.str "some",.str "each"]
structure TNR (K:PySem.W.Frag) (mg:Str->Option Value) (fp ab:Addr):Prop where
  n_tuple:mg "tuple"=none
  n_sorted:mg "sorted"=none
  n_set:mg "set"=none
  m9z:mg "parts_of"=some (.ref fp)
  m_BINDING:mg "BINDING"=some (.ref ab)
  bn:∀ H,SqT K H ab BN
def spNR:Sp:=fun vs H Q _=>∃ (a n:Addr) (r:RS) (ys:List V) (F:List (List Str)) (rs:List RS) (zs:List Str),vs=[.ref a,.ref n]/\H a=some (.tup (rowV r))/\H n=some (.lst ys)/\NT H ys F/\CF zs F rs/\r.ok zs rs.length/\(∀ k,(F.getD k []).length<=26) /\
  ∀ q l H',Kp [] H H'->H' q=some (.tup (l.map V.str))->Cn l (fm F r)->Q (.ref q) H'
theorem sorted1 (x:Str):Cn [x] [x]:=⟨rfl,by simp,fun _=>Iff.rfl⟩
def tg:RS->Fin 8
  | .yes=>0
  | .is _ _=>1
  | .ahead _ _=>2
  | .no _=>3
  | .bin true _ _=>4
  | .bin false _ _=>5
  | .qn true _ _=>6
  | .qn false _ _=>7
def hdw:Fin 8->Str
  | 0=>"yes"
  | 1=>"is"
  | 2=>"ahead"
  | 3=>"not"
  | 4=>"and"
  | 5=>"or"
  | 6=>"some"
  | 7=>"each"
def hd (r:RS):Str:=hdw (tg r)
theorem hd_at (r:RS):atI (rowV r) 0=some (.str (hd r)):=by
  cases r with
  | bin b=>cases b <;> exact atI_of (by decide) rfl
  | qn b=>cases b <;> exact atI_of (by decide) rfl
  | _=>exact atI_of (by decide) rfl
theorem w_is:∀ t:Fin 8,hdw t=Str.ofString "is"->t=1:=by decide +kernel
theorem w_ah:∀ t:Fin 8,hdw t=Str.ofString "ahead"->t=2:=by decide +kernel
theorem w_in:∀ t:Fin 8,inV (.str (hdw t)) BN=true->t=6∨t=7:=by decide +kernel
theorem hd_is {r:RS} (h:hd r=Str.ofString "is"):∃ x c,r=.is x c:=by
  have q:=w_is _ h
  cases r with
  | is x c=>exact ⟨x,c,rfl⟩
  | bin b=>cases b <;> cases q
  | qn b=>cases b <;> cases q
  | _=>cases q
theorem hd_ahead {r:RS} (h:hd r=Str.ofString "ahead"):∃ x y,r=.ahead x y:=by
  have q:=w_ah _ h
  cases r with
  | ahead x y=>exact ⟨x,y,rfl⟩
  | bin b=>cases b <;> cases q
  | qn b=>cases b <;> cases q
  | _=>cases q
theorem hd_in {r:RS} (h:inV (.str (hd r)) BN=true):∃ b x i,r=.qn b x i:=by
  have q:=w_in _ h
  cases r with
  | qn b x i=>exact ⟨b,x,i,rfl⟩
  | bin b=>cases b <;> (rcases q with q | q <;> cases q)
  | _=>rcases q with q | q <;> cases q
theorem qn_in (b:Bool) (x:Str) (i:Nat):inV (.str (hd (.qn b x i))) BN=true:=by
  cases b
  · exact (by decide +kernel:inV (.str (hdw 7)) BN=true)
  · exact (by decide +kernel:inV (.str (hdw 6)) BN=true)
def rb (F:List (List Str)) (l:List Nat):List Str:=(l.map fun i=>F.getD i []).flatten
theorem rb_snoc (F:List (List Str)) (l:List Nat) (i:Nat):rb F (l++[i])=rb F l++F.getD i []:=by simp [rb]
theorem rb_fm {F:List (List Str)} {r:RS} (h1:hd r≠Str.ofString "is") (h2:hd r≠Str.ofString "ahead") (h3:inV (.str (hd r)) BN≠true):fm F r=rb F (pts r):=by
  cases r with
  | yes=>rfl
  | is=>exact absurd rfl h1
  | ahead=>exact absurd rfl h2
  | no=>simp [fm,rb,pts]
  | bin=>simp [fm,rb,pts]
  | qn b x i=>exact absurd (qn_in b x i) h3
theorem jbk {zs:List Str} {k:Nat}:∀ {r:RS},r.ok zs k->∀ i ∈ pts r,i < k
  | .no i,ok,j,hj=>by rw [List.mem_singleton.mp hj];exact ok
  | .bin _ i j,ok,l,hl=>by
    rcases List.mem_cons.mp hl with rfl | hl
    · exact ok.1
    · rw [List.mem_singleton.mp hl];exact ok.2
  | .qn _ _ i,ok,j,hj=>by rw [List.mem_singleton.mp hj];exact ok.2
  | .yes,_,j,hj=>nomatch hj
  | .is _ _,_,j,hj=>nomatch hj
  | .ahead _ _,_,j,hj=>nomatch hj
theorem rb_len {zs:List Str} {F:List (List Str)} {rs:List RS} (cf:CF zs F rs) (hz:∀ k,(F.getD k []).length<=26):∀ l:List Nat,l.length<=2->(rb F l).length<=52
  | [],_=>Nat.zero_le _
  | [i],_=>by have:=hz i;simp [rb];simp at this;omega
  | [i,j],_=>by have h1:=hz i;have h2:=hz j;simp [rb];simp at h1 h2;omega
  | _::_::_::_,h=>by simp at h
theorem jcb (r:RS):(pts r).length<=2:=by cases r <;> simp [pts]
section
variable {P:Program} {w:World} {K:PySem.W.Frag} {mg:Str->Option Value} {base:Heap}
abbrev zk:Stmt:=top 10
theorem sc_parts_of:FnScope ["row"] ["row"] (jj zk):=⟨rfl,rfl,rfl,by decide +kernel,rfl,by decide +kernel,by decide +kernel⟩
theorem ok_parts_of {f:Addr} {fd:FuncData} (F:Fun K "parts_of" "parts_of" zk f fd) (T:TPa K mg):FnOk P w K mg base CX0 1 f fd ["row"] spParts:=by
  refine F.ok sc_parts_of (fun vs H Q E h=>?_) (fun cdv A outer s H vs Q E hr h=>?_)
  · obtain ⟨a,r,rfl,_⟩:=h
    rfl
  · obtain ⟨a,r,rfl,ha,k⟩:=h
    have hu:=hr.units
    have hsz:sizeLine=16777216:=PySem.sizeLine_eq
    refine ⟨_,(QSs.h (ji (jr (qpe_compIf rfl (compOk_of (sc:=jj zk) (N:=["row"]) (Nc:=["thing"]) (js:=[none]) (by decide +kernel)) (zu (K:=K) (qpv 0) rfl) (fun _ _ _ _=>(kj (i:=0) (show List.Nodup [("thing":Str)] from by decide +kernel) rfl (by first | exact Or.inl rfl | exact Or.inr rfl))) (fun _ _ _ _=>(z5 (jn (ke (K:=K) rfl) (by rfl) T.n_isinstance kh (ja (qpv 0) (ja (yu (v:=.ty "int") rfl T.n_int jar rfl) jb))))) (fun _ _ _ _=>(qpv 0)))))),?_⟩
    simp! [ha]
    intro D hD
    have hl:(rowV r).length<=3:=by cases r <;> simp [rowV]
    refine compIf_tup isI id ha hD (by omega) (fun x hx l Q' q=>?_) (fun x hx _ l Q' q=>?_) fun v=>?_
    · simp!
      have hx':(∃ z,x=.str z)∨∃ i,x=.int i:=by
        cases r <;> simp [rowV] at hx <;> rcases hx with rfl | rfl | rfl <;> first | exact .inl ⟨_,rfl⟩ | exact .inr ⟨_,rfl⟩
      rcases hx' with ⟨z,rfl⟩ | ⟨i,rfl⟩
      · exact ⟨_,.str _,_,T.si,q⟩
      · exact ⟨_,.int _,_,T.ii,q⟩
    · simp!
      exact q
    · rw [List.map_id,pts_rows]
      exact k D hD
abbrev yn:Stmt:=top 20
theorem zj:FnScope ["row","names","word","free","part"] ["row","names"] (jj yn):=⟨rfl,rfl,rfl,by decide +kernel,rfl,by decide +kernel,by decide +kernel⟩
theorem ok_names_of_row {f fp ab:Addr} {fd fdp:FuncData} (F:Fun K "names_of_row" "names_of_row" yn f fd) (T:TNR K mg fp ab) (F9z:Fun K "parts_of" "parts_of" zk fp fdp) (b9z:Binds K fdp ["row"] [])
    (G9z:FnOk P w K mg base CX0 1 fp fdp ["row"] spParts):FnOk P w K mg base CX0 2 f fd ["row","names"] spNR:=by
  refine F.ok zj (fun vs H Q E h=>?_) (fun cdv A outer s H vs Q E hr h=>?_)
  · obtain ⟨a,n,r,ys,G,rs,zs,rfl,_⟩:=h
    rfl
  · obtain ⟨a,n,r,ys,G,rs,zs,rfl,ha,hn,nt,cf,ok,hz,k⟩:=h
    have hu:=hr.units
    have hsz:sizeLine=16777216:=PySem.sizeLine_eq
    have fl:=fm_len cf hz r
    have hlen:=cf.len
    refine ⟨_,(QSs.h (jf (jm (i:=2) zj.nd rfl (by first | exact Or.inl rfl | exact Or.inr rfl) (jq ix_U (qpv 0) jd (fun _ _=>rfl)))
    (yd (jw (jo (j8 hu) (qpv 2) jg (jv _)) (ji (jr (kc (ja (jq ix_U (qpv 0) jd (fun _ _=>rfl)) jb)))) ju)
    (yd (jw (jo (j8 hu) (qpv 2) jg (jv _)) (ji (jr (y4 jaq (by rfl) T.n_tuple ja1 (ja (jas rfl rfl T.n_sorted rfl T.n_set (ku (ja3 (K:=K) rfl) (qpv 0) (ya jd) kz)) jb)))) ju)
    (jf (jm (i:=3) zj.nd rfl (by first | exact Or.inl rfl | exact Or.inr rfl) (j7 jb))
    (jf (zt PassesOwn.never rfl (zu (K:=K) (jl G9z (hr.mono (by decide)) rfl T.m9z F9z.kp b9z .nil jt (ja (qpv 0) jb)) rfl) (kj (i:=4) zj.nd rfl (by first | exact Or.inl rfl | exact Or.inr rfl)) (ji (yi (yx PySem.F.slot_list_extend PySem.F.type_list_extend mt_extendT (qpv 3) (ja (jq ix_U (qpv 1) (qpv 4) (fun _ _=>rfl)) jb) mono_var))))
    (yd (jw (jo (jam (K:=K) rfl) (qpv 2) (z0 (v:=.ref _) rfl T.m_BINDING rfl) (by with_unfolding_all rfl)) (ji (jbl (i:=3) zj.nd rfl (by first | exact Or.inl rfl | exact Or.inr rfl) rfl (compOk_of (sc:=jj yn) (N:=["row","names","word","free","part"]) (Nc:=["name","row"]) (js:=[none,some 0]) (by decide +kernel)) (zu (K:=K) (qpv 3) rfl) (fun _ _ _ _=>(kj (i:=0) (show List.Nodup [("name":Str),("row":Str)] from by decide +kernel) rfl (by first | exact Or.inl rfl | exact Or.inr rfl))) (fun _ _ _ _=>(jo (jbp hu) (qpv 0) (jq ix_U (qpv 1) jd (fun _ _=>rfl)) (jv _))) (fun _ _ _ _=>(qpv 0)))) ju)
    (ji (jr (y4 jaq (by rfl) T.n_tuple ja1 (ja (jas rfl rfl T.n_sorted rfl T.n_set (qpv 3)) jb))))))))))),?_⟩
    simp! [ha]
    refine ⟨_,hd_at r,?_⟩
    refine ⟨fun σ H'=>[some (.ref a),some (.ref n),some (.str (hd r)),none,none]=σ/\H=H'/\hd r≠Str.ofString "is",?_,?_⟩
    · simp! [ha]
      refine ite2 (fun e=>?_) (fun e=>e)
      obtain ⟨x,c,rfl⟩:=hd_is e
      exact ⟨_,atI_of (by decide) rfl,by omega,fun q hq=>k q [x] _ ((Kp.refl [] H).new hq) jc (sorted1 x)⟩
    rintro _ _ ⟨rfl,rfl,h1⟩
    refine ⟨fun σ H'=>[some (.ref a),some (.ref n),some (.str (hd r)),none,none]=σ/\H=H'/\hd r≠Str.ofString "ahead",?_,?_⟩
    · simp! [ha]
      refine ite2 (fun e=>?_) (fun e=>e)
      obtain ⟨x,y,rfl⟩:=hd_ahead e
      refine rSlU.tup ha (fun h=>absurd h.1 (show ¬ HT.sIx 3 0 (some 1)=0 by decide)) fun q hq=>?_
      rw [show cutV (rowV (.ahead x y)) (some 1) none=[x,y].map V.str from rfl]
      refine ⟨[x,y],by rw [jc];rfl,by simp,fun p ss hp so nd me=>?_⟩
      refine rTupleU_lst jc fun l hl=>k l ss _ ((((Kp.refl [] H).new hq).new hp).new hl) jc ⟨so,nd,me⟩
    rintro _ _ ⟨rfl,rfl,h2⟩
    simp! [ha]
    refine ⟨by omega,fun fr hfr=>⟨a,r,rfl,by rw [je (jh ha hfr)];exact ha,fun pl hpl=>?_⟩⟩
    have k1:Kp [] H (upd (upd H fr (.lst [])) pl (.lst ((pts r).map fun i:Nat=>V.int (i:Int)))):=((Kp.refl [] H).new hfr).new hpl
    have nfp:fr≠pl:=jh jc hpl
    have ef:upd (upd H fr (.lst [])) pl (.lst ((pts r).map fun i:Nat=>V.int (i:Int))) fr=some (.lst []):=by rw [je nfp,jc]
    have el:upd (upd H fr (.lst [])) pl (.lst ((pts r).map fun i:Nat=>V.int (i:Int))) pl=some (.lst ((pts r).map fun i:Nat=>V.int (i:Int))):=jc
    generalize upd (upd H fr (.lst [])) pl (.lst ((pts r).map fun i:Nat=>V.int (i:Int)))=H1 at k1 ef el
    simp only [el]
    have pl2:=jcb r
    refine loop_list (xs:=(pts r).map fun i:Nat=>V.int (i:Int)) (fun i σ H'=>∃ v:Option V,σ=[some (.ref a),some (.ref n),some (.str (hd r)),some (.ref fr),v]/\Kp [] H H'/\H' pl=some (.lst ((pts r).map fun i:Nat=>V.int (i:Int)))/\H' fr=some (.lst ((rb G ((pts r).take i)).map V.str))) ?_ ?_ ?_ ?_
    · exact ⟨none,rfl,k1,el,ef⟩
    · rintro i σ H' _ ⟨v,rfl,_,e,_⟩
      exact e
    · rintro i x σ H2 hx ⟨v,rfl,k2,el2,ef2⟩
      rw [List.getElem?_map] at hx
      obtain ⟨j,hj,rfl⟩:∃ j:Nat,(pts r)[i]?=some j/\x=.int (j:Int):=by
        cases e:(pts r)[i]? with
        | none=>rw [e] at hx;cases hx
        | some j=>rw [e] at hx;exact ⟨j,rfl,(Option.some.inj hx).symm⟩
      have hjk:j < G.length:=by rw [hlen];exact jbk ok j (List.mem_of_getElem? hj)
      obtain ⟨q,hq1,hq2⟩:=nt.get hjk
      have hn2:=k2.old _ _ hn (by simp)
      have hil:i < (pts r).length:=(List.getElem?_eq_some_iff.mp hj).1
      simp! [hn2,ef2]
      refine ⟨_,atI_nat hq1,?_⟩
      have hq3:=k2.tup _ _ hq2
      have rl:=rb_len cf hz ((pts r).take i) (by rw [List.length_take];omega)
      have gl:=hz j
      refine ⟨_,by rw [ef2];rfl,_,by rw [hq3];rfl,by rw [List.length_map,List.length_map];omega,k2.set ef2 (.inr hfr),by rw [je nfp.symm];exact el2,?_⟩
      rw [jc,List.take_succ,hj,← List.map_append]
      show some (HO.lst ((rb G ((pts r).take i)++G.getD j []).map V.str))=some (.lst ((rb G ((pts r).take i++[j])).map V.str))
      rw [rb_snoc]
    · rintro σ H2 ⟨v,rfl,k2,el2,ef2⟩
      rw [List.length_map,List.take_length] at ef2
      refine ⟨fun σ H'=>∃ (q:Addr) (v:Option V),σ=[some (.ref a),some (.ref n),some (.str (hd r)),some (.ref q),v]/\Kp [] H H'/\H' q=some (.lst ((fm G r).map V.str)),?_,?_⟩
      · simp!
        refine rInU.tupS (T.bn H2) rfl rfl ⟨_,rfl,?_⟩
        rw [show (if false=true then !inV (.str (hd r)) BN else inV (.str (hd r)) BN)=inV (.str (hd r)) BN from rfl]
        refine ite2 (fun e=>?_) (fun e=>⟨fr,v,⟨rfl,rfl⟩,k2,by rw [rb_fm h1 h2 e];exact ef2⟩)
        obtain ⟨bb,x,i,rfl⟩:=hd_in e
        simp only [ef2]
        intro D hD
        have ha2:=k2.tup _ _ ha
        have ad:a≠D:=jh ha2 hD
        have rl:=rb_len cf hz [i] (by simp)
        refine compIf_list (fun v=>match v with | .str y=>!decide (y=x) | _=>false) id ef2 hD (by rw [List.length_map];show (rb G [i]).length<=_;omega) (fun u hu l Q' q=>?_) (fun u hu _ l Q' q=>?_) fun v'=>?_
        · obtain ⟨y,hy,rfl⟩:=List.mem_map.mp hu
          have ha3:upd H2 D (.lst l) a=some (.tup (rowV (.qn bb x i))):=by rw [je ad];exact ha2
          simp! [ha3]
          exact ⟨_,atI_of (by decide) rfl,_,rfl,q⟩
        · simp!
          exact q
        · refine ⟨D,v,⟨rfl,rfl⟩,k2.new hD,?_⟩
          rw [jc,List.map_id,List.filter_map]
          show some (HO.lst (((rb G [i]).filter fun y=>!decide (y=x)).map V.str))=_
          simp [rb,fm]
      rintro _ H3 ⟨q,v,rfl,k3,e3⟩
      simp! [e3]
      refine ⟨fm G r,rfl,by omega,fun p ss hp so nd me=>?_⟩
      exact rTupleU_lst jc fun l hl=>k l ss _ ((k3.new hp).new hl) jc ⟨so,nd,me⟩
end
def FL (N:List Addr) (H:Hp) (ys:List V) (F:List (List Str)):Prop:=Paired (fun y l=>∃ q,y=.ref q/\q ∉ N/\H q=some (.lst (l.map V.str))) ys F
theorem FL.kp {N S:List Addr} {H H':Hp} {ys:List V} {F:List (List Str)} (hS:∀ x ∈ S,x ∈ N) (k:Kp S H H') (h:FL N H ys F):FL N H' ys F:=Paired.mapP h fun _ _ ⟨q,e,n,g⟩=>⟨q,e,n,k.old _ _ g fun m=>n (hS q m)⟩
theorem FL.len {N:List Addr} {H:Hp} {ys:List V} {F:List (List Str)} (h:FL N H ys F):ys.length=F.length:=Paired.length h
theorem FL.get:∀ {N:List Addr} {H:Hp} {ys:List V} {F:List (List Str)} {i:Nat},FL N H ys F->i < F.length->∃ q,ys[i]?=some (.ref q)/\q ∉ N/\H q=some (.lst ((F.getD i []).map V.str))
  | _,_,_,_,0,.cons ⟨q,e,n,g⟩ _,_=>⟨q,by rw [e];rfl,n,g⟩
  | _,_,_,_,i+1,.cons _ p,h=>by
    obtain ⟨q,e,g⟩:=FL.get p (i:=i) (by simpa using h)
    exact ⟨q,e,g⟩
def spNO:Sp:=fun vs H Q _=>∃ (a n:Addr) (r:RS) (N:List Addr) (ys:List V) (F:List (List Str)) (rs:List RS) (zs:List Str),vs=[.ref a,.ref n]/\H a=some (.tup (rowV r))/\H n=some (.lst ys)/\FL N H ys F/\CF zs F rs/\r.ok zs rs.length/\(∀ k,(F.getD k []).length<=26) /\
  ∀ p l H',H p=none->Kp [] H H'->H' p=some (.lst (l.map V.str))->Cn l (fm F r)->Q (.ref p) H'
structure TNO (mg:Str->Option Value):Prop where
  n_sorted:mg "sorted"=none
  n_set:mg "set"=none
theorem w_na:∀ t:Fin 8,inV (.str (hdw t)) [.str "not",.str "and",.str "or"]=true->t=3∨t=4∨t=5:=by decide +kernel
def st1:RS->List Str
  | .is x _=>[x]
  | .ahead x _=>[x]
  | _=>[]
def st2:RS->List Str
  | .is x _=>[x]
  | .ahead x y=>[x,y]
  | _=>[]
def st3 (F:List (List Str)):RS->List Str
  | .is x _=>[x]
  | .ahead x y=>[x,y]
  | .no i=>F.getD i []
  | .bin _ i j=>F.getD i []++F.getD j []
  | _=>[]
theorem w_so:∀ t:Fin 8,hdw t=Str.ofString "some"->t=6:=by decide +kernel
theorem w_ea:∀ t:Fin 8,hdw t=Str.ofString "each"->t=7:=by decide +kernel
theorem hd_some {r:RS} (h:hd r=Str.ofString "some"):∃ b x i,r=.qn b x i:=by
  have q:=w_so _ h
  cases r with
  | qn b x i=>exact ⟨b,x,i,rfl⟩
  | bin b=>cases b <;> cases q
  | _=>cases q
theorem hd_each {r:RS} (h:hd r=Str.ofString "each"):∃ b x i,r=.qn b x i:=by
  have q:=w_ea _ h
  cases r with
  | qn b x i=>exact ⟨b,x,i,rfl⟩
  | bin b=>cases b <;> cases q
  | _=>cases q
theorem hd_na {F:List (List Str)} {r:RS} (h:inV (.str (hd r)) [.str "not",.str "and",.str "or"]=true):(st2 r=[]/\st3 F r=rb F (pts r))/\¬ (HT.sIx (rowV r).length 0 (some 1)=0/\HT.sIx (rowV r).length (rowV r).length none=(rowV r).length)/\cutV (rowV r) (some 1) none=(pts r).map fun i:Nat=>V.int (i:Int):=by
  have q:=w_na _ h
  cases r with
  | no i=>exact ⟨⟨rfl,by simp [st3,rb,pts]⟩,fun h=>absurd h.1 (show ¬ HT.sIx 2 0 (some 1)=0 by decide),rfl⟩
  | bin b i j=>exact ⟨⟨rfl,by simp [st3,rb,pts]⟩,fun h=>absurd h.1 (show ¬ HT.sIx 3 0 (some 1)=0 by decide),rfl⟩
  | qn b=>cases b <;> (rcases q with q | q | q <;> cases q)
  | _=>rcases q with q | q | q <;> cases q
section
variable {P:Program} {w:World} {K:PySem.W.Frag} {mg:Str->Option Value} {base:Heap}
abbrev kt:Stmt:=top 28
theorem yk:FnScope ["_law_row","_law_frees_here","_law_some","_law_part"] ["_law_row","_law_frees_here"] (jj kt):=⟨rfl,rfl,rfl,by decide +kernel,rfl,by decide +kernel,by decide +kernel⟩
theorem ok__law_names_of {f:Addr} {fd:FuncData} (F:Fun K "_law_names_of" "_law_names_of" kt f fd) (T:TNO mg):FnOk P w K mg base CX0 1 f fd ["_law_row","_law_frees_here"] spNO:=by
  refine F.ok yk (fun vs H Q E h=>?_) (fun cdv A outer s H vs Q E hr h=>?_)
  · obtain ⟨a,n,r,N,ys,G,rs,zs,rfl,_⟩:=h
    rfl
  · obtain ⟨a,n,r,N,ys,G,rs,zs,rfl,ha,hn,fl,cf,ok,hz,k⟩:=h
    have hu:=hr.units
    have hsz:sizeLine=16777216:=PySem.sizeLine_eq
    have hlen:=cf.len
    have hyl:=fl.len
    refine ⟨_,(QSs.h (jf (jm (i:=2) yk.nd rfl (by first | exact Or.inl rfl | exact Or.inr rfl) (j7 jb))
    (yd (jw (QW.pt (z7 (jo (j8 hu) (jq ix_U (qpv 0) jd (fun _ _=>rfl)) jg (jv _)) (jaa (jo (j8 hu) (jq ix_U (qpv 0) jd (fun _ _=>rfl)) jg (jv _))))) (ji (jm (i:=2) yk.nd rfl (by first | exact Or.inl rfl | exact Or.inr rfl) (j7 (ja (jq ix_U (qpv 0) jd (fun _ _=>rfl)) jb)))) ju)
    (yd (jw (jo (j8 hu) (jq ix_U (qpv 0) jd (fun _ _=>rfl)) jg (jv _)) (ji (jm (i:=2) yk.nd rfl (by first | exact Or.inl rfl | exact Or.inr rfl) (j7 (ja (jq ix_U (qpv 0) jd (fun _ _=>rfl)) (ja (jq ix_U (qpv 0) jd (fun _ _=>rfl)) jb))))) ju)
    (yd (jw (jo (jam (K:=K) rfl) (jq ix_U (qpv 0) jd (fun _ _=>rfl)) (kc (ja jg (ja jg (ja jg jb)))) (by with_unfolding_all rfl)) (ji (zt PassesOwn.never rfl (zu (K:=K) (ku (ja3 (K:=K) rfl) (qpv 0) (ya jd) kz) rfl) (kj (i:=3) yk.nd rfl (by first | exact Or.inl rfl | exact Or.inr rfl)) (ji (jm (i:=2) yk.nd rfl (by first | exact Or.inl rfl | exact Or.inr rfl) (jp j6 (qpv 2) (jq ix_U (qpv 1) (qpv 3) (fun _ _=>rfl))))))) ju)
    (yd (jw (QW.pt (z7 (jo (j8 hu) (jq ix_U (qpv 0) jd (fun _ _=>rfl)) jg (jv _)) (jaa (jo (j8 hu) (jq ix_U (qpv 0) jd (fun _ _=>rfl)) jg (jv _))))) (ji (jbl (i:=2) yk.nd rfl (by first | exact Or.inl rfl | exact Or.inr rfl) rfl (compOk_of (sc:=jj kt) (N:=["_law_row","_law_frees_here","_law_some","_law_part"]) (Nc:=["_law_name","_law_row"]) (js:=[none,some 0]) (by decide +kernel)) (zu (K:=K) (jq ix_U (qpv 1) (jq ix_U (qpv 0) jd (fun _ _=>rfl)) (fun _ _=>rfl)) rfl) (fun _ _ _ _=>(kj (i:=0) (show List.Nodup [("_law_name":Str),("_law_row":Str)] from by decide +kernel) rfl (by first | exact Or.inl rfl | exact Or.inr rfl))) (fun _ _ _ _=>(jo (jbp hu) (qpv 0) (jq ix_U (qpv 1) jd (fun _ _=>rfl)) (jv _))) (fun _ _ _ _=>(qpv 0)))) ju)
    (ji (jr (jas rfl rfl T.n_sorted rfl T.n_set (qpv 2)))))))))),?_⟩
    simp!
    refine ⟨by omega,fun p hp=>?_⟩
    have k0:Kp [] H (upd H p (.lst [])):=(Kp.refl [] H).new hp
    have ha0:upd H p (.lst []) a=some (.tup (rowV r)):=by rw [je (jh ha hp)];exact ha
    refine ⟨fun σ H'=>∃ (q:Addr),σ=[some (.ref a),some (.ref n),some (.ref q),none]/\Kp [] H H'/\H' q=some (.lst ((st1 r).map V.str)),?_,?_⟩
    · simp! [ha0]
      refine ⟨_,hd_at r,?_⟩
      simp! [ha0]
      refine ite2 (fun e=>?_) (fun e1=>⟨_,hd_at r,?_⟩)
      · obtain ⟨x,c,rfl⟩:=hd_is e
        exact ⟨_,atI_of (by decide) rfl,by omega,fun q hq=>⟨k0.new hq,rfl⟩⟩
      simp! [ha0]
      refine ite2 (fun e=>?_) (fun e2=>⟨k0,?_⟩)
      · obtain ⟨x,y,rfl⟩:=hd_ahead e
        exact ⟨_,atI_of (by decide) rfl,by omega,fun q hq=>⟨k0.new hq,rfl⟩⟩
      cases r with
      | is=>exact absurd rfl e1
      | ahead=>exact absurd rfl e2
      | _=>rfl
    rintro _ H1 ⟨p1,rfl,k1,e1⟩
    have ha1:=k1.tup _ _ ha
    refine ⟨fun σ H'=>∃ (q:Addr),σ=[some (.ref a),some (.ref n),some (.ref q),none]/\Kp [] H H'/\H' q=some (.lst ((st2 r).map V.str)),?_,?_⟩
    · simp! [ha1]
      refine ⟨_,hd_at r,?_⟩
      simp! [ha1]
      refine ite2 (fun e=>?_) (fun e2=>⟨k1,?_⟩)
      · obtain ⟨x,y,rfl⟩:=hd_ahead e
        exact ⟨_,atI_of (by decide) rfl,_,atI_of (by decide) rfl,by omega,fun q hq=>⟨k1.new hq,rfl⟩⟩
      rw [e1]
      cases r with
      | ahead=>exact absurd rfl e2
      | _=>rfl
    rintro _ H2 ⟨p2,rfl,k2,e2⟩
    have ha2:=k2.tup _ _ ha
    refine ⟨fun σ H'=>∃ (q:Addr) (v:Option V),σ=[some (.ref a),some (.ref n),some (.ref q),v]/\Kp [] H H'/\H' q=some (.lst ((st3 G r).map V.str)),?_,?_⟩
    · simp! [ha2]
      refine ⟨_,hd_at r,by omega,fun t ht=>?_⟩
      refine rInU.tupS (.of jc) rfl rfl ⟨_,rfl,?_⟩
      rw [show (if false=true then !inV (.str (hd r)) [.str "not",.str "and",.str "or"] else inV (.str (hd r)) [.str "not",.str "and",.str "or"])=inV (.str (hd r)) [.str "not",.str "and",.str "or"] from rfl]
      have k2':=k2.new (o:=.tup [.str "not",.str "and",.str "or"]) ht
      have e2':upd H2 t (.tup [.str "not",.str "and",.str "or"]) p2=some (.lst ((st2 r).map V.str)):=by rw [je (jh e2 ht)];exact e2
      refine ite2 (fun e=>?_) (fun e=>⟨p2,none,⟨rfl,rfl⟩,k2',?_⟩)
      · obtain ⟨h2,hcut⟩:=hd_na (F:=G) e
        refine rSlU.tup (k2'.tup _ _ ha) hcut.1 fun q hq=>?_
        rw [hcut.2]
        have k3:=k2'.new (o:=.tup ((pts r).map fun i:Nat=>V.int (i:Int))) hq
        have e3:upd (upd H2 t (.tup [.str "not",.str "and",.str "or"])) q (.tup ((pts r).map fun i:Nat=>V.int (i:Int))) p2=some (.lst ((rb G ((pts r).take 0)).map V.str)):=by rw [je (jh e2' hq),e2',h2.1];rfl
        have et:upd (upd H2 t (.tup [.str "not",.str "and",.str "or"])) q (.tup ((pts r).map fun i:Nat=>V.int (i:Int))) q=some (.tup ((pts r).map fun i:Nat=>V.int (i:Int))):=jc
        generalize upd (upd H2 t (.tup [.str "not",.str "and",.str "or"])) q (.tup ((pts r).map fun i:Nat=>V.int (i:Int)))=H3 at k3 e3 et ⊢
        simp only [et]
        have pl2:=jcb r
        refine loop_tup (xs:=(pts r).map fun i:Nat=>V.int (i:Int)) (fun i σ H'=>∃ (z:Addr) (v:Option V),σ=[some (.ref a),some (.ref n),some (.ref z),v]/\Kp [] H H'/\Kp [] H3 H'/\H' z=some (.lst ((rb G ((pts r).take i)).map V.str))) ?_ ?_ ?_ ?_
        · exact ⟨p2,none,rfl,k3,Kp.refl [] H3,e3⟩
        · rintro i σ H' _ ⟨z,v,rfl,_,kk,_⟩
          exact kk.tup _ _ et
        · rintro i x σ H4 hx ⟨z,v,rfl,k4,kk,e4⟩
          rw [List.getElem?_map] at hx
          obtain ⟨j,hj,rfl⟩:∃ j:Nat,(pts r)[i]?=some j/\x=.int (j:Int):=by
            cases e:(pts r)[i]? with
            | none=>rw [e] at hx;cases hx
            | some j=>rw [e] at hx;exact ⟨j,rfl,(Option.some.inj hx).symm⟩
          have hjk:j < G.length:=by rw [hlen];exact jbk ok j (List.mem_of_getElem? hj)
          obtain ⟨fq,hq1,nq,hq2⟩:=fl.get hjk
          have hn4:=k4.old _ _ hn (by simp)
          have hq4:=k4.old _ _ hq2 (by simp)
          have hil:i < (pts r).length:=(List.getElem?_eq_some_iff.mp hj).1
          have rl:=rb_len cf hz ((pts r).take i) (by rw [List.length_take];omega)
          have gl:=hz j
          simp! [hn4]
          refine ⟨_,atI_nat hq1,?_⟩
          refine rAddW.lst e4 hq4 (by rw [List.length_map,List.length_map];omega) fun z' hz'=>⟨z',_,⟨rfl,rfl⟩,k4.new hz',kk.new hz',?_⟩
          rw [jc,List.take_succ,hj,← List.map_append]
          show some (HO.lst ((rb G ((pts r).take i)++G.getD j []).map V.str))=some (.lst ((rb G ((pts r).take i++[j])).map V.str))
          rw [rb_snoc]
        · rintro σ H4 ⟨z,v,rfl,k4,_,e4⟩
          rw [List.length_map,List.take_length,← h2.2] at e4
          exact ⟨z,v,rfl,k4,e4⟩
      · rw [e2']
        cases r with
        | no=>exact absurd rfl e
        | bin b=>cases b <;> exact absurd (by rfl) e
        | _=>rfl
    rintro _ H3 ⟨p3,v,rfl,k3,e3⟩
    have ha3:=k3.tup _ _ ha
    refine ⟨fun σ H'=>∃ (q:Addr) (v:Option V),σ=[some (.ref a),some (.ref n),some (.ref q),v]/\Kp [] H H'/\H' q=some (.lst ((fm G r).map V.str)),?_,?_⟩
    · simp! [ha3]
      refine ⟨_,hd_at r,?_⟩
      simp! [ha3]
      refine ite2 (fun e=>?_) (fun f1=>⟨_,hd_at r,?_⟩)
      · obtain ⟨bb,x,i,rfl⟩:=hd_some e
        have okq:i < rs.length:=ok.2
        obtain ⟨fq,hq1,nq,hq2⟩:=fl.get (i:=i) (by omega)
        have hn3:=k3.old _ _ hn (by simp)
        have hq3:=k3.old _ _ hq2 (by simp)
        refine ⟨_,atI_of (by decide) rfl,?_⟩
        simp! [hn3]
        refine ⟨_,atI_nat hq1,?_⟩
        simp only [hq3]
        intro D hD
        have ad:a≠D:=jh ha3 hD
        have gl:=hz i
        refine compIf_list (fun v=>match v with | .str y=>!decide (y=x) | _=>false) id hq3 hD (by rw [List.length_map];omega) (fun u hu l Q' q=>?_) (fun u hu _ l Q' q=>?_) fun v'=>?_
        · obtain ⟨y,hy,rfl⟩:=List.mem_map.mp hu
          have ha4:upd H3 D (.lst l) a=some (.tup (rowV (.qn bb x i))):=by rw [je ad];exact ha3
          simp! [ha4]
          exact ⟨_,atI_of (by decide) rfl,_,rfl,q⟩
        · simp!
          exact q
        · refine ⟨D,v,⟨rfl,rfl⟩,k3.new hD,?_⟩
          rw [jc,List.map_id,List.filter_map]
          rfl
      simp! [ha3]
      refine ite2 (fun e=>?_) (fun f2=>⟨p3,v,⟨rfl,rfl⟩,k3,?_⟩)
      · obtain ⟨bb,x,i,rfl⟩:=hd_each e
        have okq:i < rs.length:=ok.2
        obtain ⟨fq,hq1,nq,hq2⟩:=fl.get (i:=i) (by omega)
        have hn3:=k3.old _ _ hn (by simp)
        have hq3:=k3.old _ _ hq2 (by simp)
        refine ⟨_,atI_of (by decide) rfl,?_⟩
        simp! [hn3]
        refine ⟨_,atI_nat hq1,?_⟩
        simp only [hq3]
        intro D hD
        have ad:a≠D:=jh ha3 hD
        have gl:=hz i
        refine compIf_list (fun v=>match v with | .str y=>!decide (y=x) | _=>false) id hq3 hD (by rw [List.length_map];omega) (fun u hu l Q' q=>?_) (fun u hu _ l Q' q=>?_) fun v'=>?_
        · obtain ⟨y,hy,rfl⟩:=List.mem_map.mp hu
          have ha4:upd H3 D (.lst l) a=some (.tup (rowV (.qn bb x i))):=by rw [je ad];exact ha3
          simp! [ha4]
          exact ⟨_,atI_of (by decide) rfl,_,rfl,q⟩
        · simp!
          exact q
        · refine ⟨D,v,⟨rfl,rfl⟩,k3.new hD,?_⟩
          rw [jc,List.map_id,List.filter_map]
          rfl
      rw [e3]
      cases r with
      | qn b => cases b
                · exact absurd rfl f2
                · exact absurd rfl f1
      | _=>rfl
    rintro _ H4 ⟨p4,v,rfl,k4,e4⟩
    simp! [e4]
    have fl52:=fm_len cf hz r
    exact ⟨fm G r,rfl,by omega,fun p' ss hp' so nd me=>k p' ss _ (k4.free hp') (k4.new hp') jc ⟨so,nd,me⟩⟩
end
def SQ (H:Hp) (a:Addr) (us:List V):Prop:=H a=some (.lst us)∨H a=some (.tup us)
def spFs:Sp:=fun vs H Q _=>∃ (a:Addr) (us:List V) (rs:List RS) (zs:List Str) (N:List Addr),vs=[.ref a]/\SQ H a us/\RowsAt H us rs/\okR zs rs/\zs.length<=26/\rs.length<=100/\(∀ x ∈ N,∃ o,H x=some o) /\
  ∀ p ys F H',H p=none->Kp [] H H'->H' p=some (.lst ys)->FL (p::N) H' ys F->CF zs F rs->Q (.ref p) H'
structure TFs (mg:Str->Option Value) (fr:Addr):Prop where
  m2z:mg "_law_names_of"=some (.ref fr)
def spDp:Sp:=fun vs H Q _=>∃ (a n:Addr) (r:RS) (D:List Nat) (zs:List Str),vs=[.ref a,.ref n]/\H a=some (.tup (rowV r))/\H n=some (.lst (D.map fun n:Nat=>V.int (n:Int)))/\r.ok zs D.length /\
  ∀ H',Kp [] H H'->Q (.int (dp D r:Nat)) H'
structure TDp (mg:Str->Option Value):Prop where
  n_max:mg "max"=none
theorem take_snoc {α:Type} {l:List α} {i:Nat} {x:α} (h:l[i]?=some x):l.take (i+1)=l.take i++[x]:=by rw [List.take_succ,h];rfl
theorem NT.len {H:Hp} {ys:List V} {F:List (List Str)} (h:NT H ys F):ys.length=F.length:=Paired.length h
theorem at_int {D:List Nat} {i:Nat} (h:i < D.length):(D.map fun n:Nat=>V.int (n:Int))[i]?=some (.int ((D.getD i 0:Nat):Int)):=by
  rw [List.getElem?_map,List.getD_eq_getElem?_getD,List.getElem?_eq_getElem h];rfl
theorem w_ba:∀ t:Fin 8,inV (.str (hdw t)) [.str "yes",.str "is",.str "ahead"]=true->t=0∨t=1∨t=2:=by decide +kernel
theorem dp_base {D:List Nat} {r:RS} (h:inV (.str (hd r)) [.str "yes",.str "is",.str "ahead"]=true):dp D r=0:=by
  have q:=w_ba _ h
  cases r with
  | no i=>rcases q with q | q | q <;> cases q
  | bin b=>cases b <;> (rcases q with q | q | q <;> cases q)
  | qn b=>cases b <;> (rcases q with q | q | q <;> cases q)
  | _=>rfl
section
variable {P:Program} {w:World} {K:PySem.W.Frag} {mg:Str->Option Value} {base:Heap}
abbrev zf:Stmt:=top 29
theorem jau:FnScope ["_law_saying","_law_frees_here","_law_row"] ["_law_saying"] (jj zf):=⟨rfl,rfl,rfl,by decide +kernel,rfl,by decide +kernel,by decide +kernel⟩
theorem ok__law_frees {f fr:Addr} {fd fdr:FuncData} (F:Fun K "_law_frees" "_law_frees" zf f fd) (T:TFs mg fr) (F2z:Fun K "_law_names_of" "_law_names_of" kt fr fdr) (b2z:Binds K fdr ["_law_row","_law_frees_here"] [])
    (G2z:FnOk P w K mg base CX0 1 fr fdr ["_law_row","_law_frees_here"] spNO):FnOk P w K mg base CX0 2 f fd ["_law_saying"] spFs:=by
  refine F.ok jau (fun vs H Q E h=>?_) (fun cdv A outer s H vs Q E hr h=>?_)
  · obtain ⟨a,us,rs,zs,N,rfl,_⟩:=h
    rfl
  · obtain ⟨a,us,rs,zs,N,rfl,ha,ra,ok,hz,hl,hN,k⟩:=h
    have hu:=hr.units
    have hsz:sizeLine=16777216:=PySem.sizeLine_eq
    have hul:us.length=rs.length:=Paired.length ra
    refine ⟨_,(QSs.h (jf (jm (i:=1) jau.nd rfl (by first | exact Or.inl rfl | exact Or.inr rfl) (j7 jb))
    (jf (zt PassesOwn.never rfl (zu (K:=K) (qpv 0) rfl) (kj (i:=2) jau.nd rfl (by first | exact Or.inl rfl | exact Or.inr rfl)) (ji (yi (yx PySem.F.slot_list_append PySem.F.type_list_append yh (qpv 1) (ja (jl G2z (hr.mono (by decide)) rfl T.m2z F2z.kp b2z .nil jt (ja (qpv 2) (ja (qpv 1) jb))) jb) mono_var))))
    (ji (jr (qpv 1)))))),?_⟩
    simp!
    refine ⟨by omega,fun nm hnm=>?_⟩
    let I:Nat->List (Option V)->Hp->Prop:=fun i σ H'=>∃ (v:Option V) (ys:List V) (G:List (List Str)),σ=[some (.ref a),some (.ref nm),v]/\Kp [] H H'/\H' nm=some (.lst ys)/\FL (nm::N) H' ys G/\CF zs G (rs.take i)
    have i0:I 0 [some (.ref a),some (.ref nm),none] (upd H nm (.lst [])):=⟨none,[],[],rfl,(Kp.refl [] H).new hnm,jc,.nil,CF.nil zs⟩
    have st:∀ (i:Nat) (r:RS) (c:Addr) (v:Option V) (ys:List V) (G:List (List Str)) (H1:Hp),rs[i]?=some r->H c=some (.tup (rowV r))->Kp [] H H1->H1 nm=some (.lst ys)->FL (nm::N) H1 ys G->CF zs G (rs.take i) ->
        spNO [.ref c,.ref nm] H1 (fun x H'=>(∃ xs,lstOf (H' nm)=some xs/\xs.length < sizeLine/\I (i+1) [some (.ref a),some (.ref nm),some (.ref c)] (upd H' nm (.lst (xs++[x]))))) E0:=by
      intro i r c v ys G H1 hri hc k1 e1 fl cf
      have hi:i < rs.length:=(List.getElem?_eq_some_iff.mp hri).1
      have hl1:(rs.take i).length=i:=by rw [List.length_take];omega
      have okr:=ok i r hri
      have hyl:=fl.len
      have hG:=cf.len
      refine ⟨c,nm,r,nm::N,ys,G,rs.take i,zs,rfl,k1.tup _ _ hc,e1,fl,cf,by rw [hl1];exact okr,(fun k=>Nat.le_trans (cf.le k) hz),fun q l H2 hq k2 e2 cn=>?_⟩
      have e12:=k2.old _ _ e1 (by simp)
      have kL:Kp [nm] H2 (upd H2 nm (.lst (ys++[.ref q]))):=(Kp.refl [nm] H2).set e12 (.inl (by simp))
      have qn:q≠nm:=fun e=>by rw [e,e1] at hq;cases hq
      refine ⟨ys,by rw [e12];rfl,by omega,some (.ref c),ys++[.ref q],G++[l],rfl,(k1.trans k2).set e12 (.inr hnm),jc,?_,?_⟩
      · refine Paired.snoc (FL.kp (S:=[nm]) (by simp) kL (FL.kp (S:=[]) (by simp) k2 fl)) ⟨q,rfl,fun hm=>?_,by rw [je qn];exact e2⟩
        rcases List.mem_cons.mp hm with e | hm
        · exact qn e
        · obtain ⟨o,ho⟩:=hN q hm
          rw [k1.old _ _ ho (by simp)] at hq
          cases hq
      · rw [take_snoc hri]
        exact cf.snoc (ok.take i) (by rw [hl1];exact okr) cn
    have ed:∀ σ H1,I us.length σ H1->Q (.ref nm) H1:=by
      rintro σ H1 ⟨v,ys,G,rfl,k1,e1,fl,cf⟩
      rw [hul,List.take_length] at cf
      exact k nm ys G H1 hnm k1 e1 fl cf
    rcases ha with ha | ha
    · have a0:upd H nm (.lst []) a=some (.lst us):=by rw [je (jh ha hnm)];exact ha
      simp only [a0]
      refine loop_list (xs:=us) I i0 ?_ ?_ ?_
      · rintro i σ H' _ ⟨v,ys,G,rfl,kp,_⟩
        exact kp.old _ _ ha (by simp)
      · rintro i x σ H1 hx ⟨v,ys,G,rfl,k1,e1,fl,cf⟩
        obtain ⟨r,c,hri,rfl,hc⟩:=ra.get hx
        simp!
        refine ⟨by rw [e1];rfl,?_⟩
        exact st i r c v ys G H1 hri hc k1 e1 fl cf
      · rintro σ H1 hI
        have:=ed σ H1 hI
        obtain ⟨v,ys,G,rfl,_⟩:=hI
        simp!
        exact this
    · have a0:upd H nm (.lst []) a=some (.tup us):=by rw [je (jh ha hnm)];exact ha
      simp only [a0]
      refine loop_tup (xs:=us) I i0 ?_ ?_ ?_
      · rintro i σ H' _ ⟨v,ys,G,rfl,kp,_⟩
        exact kp.tup _ _ ha
      · rintro i x σ H1 hx ⟨v,ys,G,rfl,k1,e1,fl,cf⟩
        obtain ⟨r,c,hri,rfl,hc⟩:=ra.get hx
        simp!
        refine ⟨by rw [e1];rfl,?_⟩
        exact st i r c v ys G H1 hri hc k1 e1 fl cf
      · rintro σ H1 hI
        have:=ed σ H1 hI
        obtain ⟨v,ys,G,rfl,_⟩:=hI
        simp!
        exact this
abbrev zc:Stmt:=top 30
theorem sc__law_deep:FnScope ["_law_row","_law_depths"] ["_law_row","_law_depths"] (jj zc):=⟨rfl,rfl,rfl,by decide +kernel,rfl,by decide +kernel,by decide +kernel⟩
theorem ok__law_deep {f:Addr} {fd:FuncData} (F:Fun K "_law_deep" "_law_deep" zc f fd) (T:TDp mg):FnOk P w K mg base CX0 1 f fd ["_law_row","_law_depths"] spDp:=by
  refine F.ok sc__law_deep (fun vs H Q E h=>?_) (fun cdv A outer s H vs Q E hr h=>?_)
  · obtain ⟨a,n,r,D,zs,rfl,_⟩:=h
    rfl
  · obtain ⟨a,n,r,D,zs,rfl,ha,hn,ok,k⟩:=h
    have hu:=hr.units
    have hsz:sizeLine=16777216:=PySem.sizeLine_eq
    refine ⟨_,(QSs.h (yd (jw (jo (jam (K:=K) rfl) (jq ix_U (qpv 0) jd (fun _ _=>rfl)) (kc (ja jg (ja jg (ja jg jb)))) (by with_unfolding_all rfl)) (ji (jr jd)) ju)
    (yd (jw (QW.pt (z7 (jo (j8 hu) (jq ix_U (qpv 0) jd (fun _ _=>rfl)) jg (jv _)) (jaa (jo (j8 hu) (jq ix_U (qpv 0) jd (fun _ _=>rfl)) jg (jv _))))) (ji (jr (jp j6 (jq ix_U (qpv 1) (jq ix_U (qpv 0) jd (fun _ _=>rfl)) (fun _ _=>rfl)) jd))) ju)
    (ji (jr (jn (call_maxL rfl) (by rfl) T.n_max bt_max (ja (ja0 rfl (compOk_of (sc:=jj zc) (N:=["_law_row","_law_depths"]) (Nc:=["_law_part","_law_depths"]) (js:=[none,some 1]) (by decide +kernel)) (zu (K:=K) (ku (ja3 (K:=K) rfl) (qpv 0) (ya jd) kz) rfl) (fun _ _ _ _=>(kj (i:=0) (show List.Nodup [("_law_part":Str),("_law_depths":Str)] from by decide +kernel) rfl (by first | exact Or.inl rfl | exact Or.inr rfl))) (fun _ _ _ _=>(jq ix_U (qpv 1) (qpv 0) (fun _ _=>rfl)))) jb))))))),?_⟩
    refine ⟨fun σ H'=>[some (.ref a),some (.ref n)]=σ/\Kp [] H H'/\inV (.str (hd r)) [.str "yes",.str "is",.str "ahead"]≠true,?_,?_⟩
    · simp! [ha]
      refine ⟨_,hd_at r,by omega,fun t ht=>?_⟩
      refine rInU.tupS (.of jc) rfl rfl ⟨_,rfl,?_⟩
      rw [show (if false=true then !inV (.str (hd r)) [.str "yes",.str "is",.str "ahead"] else inV (.str (hd r)) [.str "yes",.str "is",.str "ahead"])=inV (.str (hd r)) [.str "yes",.str "is",.str "ahead"] from rfl]
      refine ite2 (fun e=>?_) (fun e=>⟨(Kp.refl [] H).new ht,e⟩)
      have:=k _ ((Kp.refl [] H).new (o:=.tup [.str "yes",.str "is",.str "ahead"]) ht)
      rw [dp_base (D:=D) e] at this
      exact this
    rintro _ H1 ⟨rfl,k1,b1⟩
    have ha1:=k1.tup _ _ ha
    have hn1:=k1.old _ _ hn (by simp)
    refine ⟨fun σ H'=>[some (.ref a),some (.ref n)]=σ/\Kp [] H H'/\(∃ c i j,r=.bin c i j)∨[some (.ref a),some (.ref n)]=σ/\Kp [] H H'/\(∃ i,r=.no i),?_,?_⟩
    · simp! [ha1]
      refine ⟨_,hd_at r,?_⟩
      simp! [ha1]
      refine ite2 (fun e=>?_) (fun f1=>⟨_,hd_at r,?_⟩)
      · obtain ⟨bb,x,i,rfl⟩:=hd_some e
        have okq:i < D.length:=ok.2
        refine ⟨_,atI_of (by decide) rfl,?_⟩
        simp! [hn1]
        refine ⟨_,atI_nat (at_int okq),?_⟩
        simp!
        have:=k _ k1
        rw [show ((dp D (.qn bb x i):Nat):Int)=((D.getD i 0:Nat):Int)+1 by simp [dp]] at this
        exact this
      simp! [ha1]
      refine ite2 (fun e=>?_) (fun f2=>?_)
      · obtain ⟨bb,x,i,rfl⟩:=hd_each e
        have okq:i < D.length:=ok.2
        refine ⟨_,atI_of (by decide) rfl,?_⟩
        simp! [hn1]
        refine ⟨_,atI_nat (at_int okq),?_⟩
        simp!
        have:=k _ k1
        rw [show ((dp D (.qn bb x i):Nat):Int)=((D.getD i 0:Nat):Int)+1 by simp [dp]] at this
        exact this
      cases r with
      | no i=>exact .inr ⟨k1,i,rfl⟩
      | bin b i j=>exact .inl ⟨k1,b,i,j,rfl⟩
      | qn b => cases b
                · exact absurd rfl f2
                · exact absurd rfl f1
      | _=>exact absurd rfl b1
    rintro _ H2 (⟨rfl,k2,b,i,j,rfl⟩ | ⟨rfl,k2,i,rfl⟩)
    · have ha2:=k2.tup _ _ ha
      have hn2:=k2.old _ _ hn (by simp)
      simp!
      refine rSlU.tup ha2 (fun h=>absurd h.1 (show ¬ HT.sIx 3 0 (some 1)=0 by decide)) fun q hq=>?_
      rw [show cutV (rowV (.bin b i j)) (some 1) none=[i,j].map fun i:Nat=>V.int (i:Int) from rfl]
      have k3:=k2.new (o:=.tup ([i,j].map fun i:Nat=>V.int (i:Int))) hq
      have et:upd H2 q (.tup ([i,j].map fun i:Nat=>V.int (i:Int))) q=some (.tup ([i,j].map fun i:Nat=>V.int (i:Int))):=jc
      have hn3:=k3.old _ _ hn (by simp)
      generalize upd H2 q (.tup ([i,j].map fun i:Nat=>V.int (i:Int)))=H3 at k3 et hn3 ⊢
      simp only [et]
      intro Z hZ
      have nZ:n≠Z:=jh hn3 hZ
      refine comp_tup (fun v=>match v with | .int t=>.int ((D.getD t.toNat 0:Nat):Int) | _=>.non) et hZ (by simp;omega) (fun u hu l Q' q=>?_) fun v'=>?_
      · obtain ⟨m,hm,rfl⟩:=List.mem_map.mp hu
        have hm':m < D.length:=jbk ok m hm
        have hn4:upd H3 Z (.lst l) n=some (.lst (D.map fun n:Nat=>V.int (n:Int))):=by rw [je nZ];exact hn3
        simp! [hn4]
        exact ⟨_,atI_nat (at_int hm'),q⟩
      · refine ⟨((D.getD i 0:Nat):Int),[((D.getD j 0:Nat):Int)],by rw [jc];rfl,?_⟩
        have:=k _ (k3.new (o:=.lst ([i,j].map (fun i:Nat=>V.int (i:Int)) |>.map fun v=>match v with | .int t=>.int ((D.getD t.toNat 0:Nat):Int) | _=>.non)) hZ)
        rw [show ((dp D (.bin b i j):Nat):Int)=maxL ((D.getD i 0:Nat):Int) [((D.getD j 0:Nat):Int)] by simp only [dp,maxL];split <;> omega] at this
        exact this
    · have ha2:=k2.tup _ _ ha
      have hn2:=k2.old _ _ hn (by simp)
      simp!
      refine rSlU.tup ha2 (fun h=>absurd h.1 (show ¬ HT.sIx 2 0 (some 1)=0 by decide)) fun q hq=>?_
      rw [show cutV (rowV (.no i)) (some 1) none=[i].map fun i:Nat=>V.int (i:Int) from rfl]
      have k3:=k2.new (o:=.tup ([i].map fun i:Nat=>V.int (i:Int))) hq
      have et:upd H2 q (.tup ([i].map fun i:Nat=>V.int (i:Int))) q=some (.tup ([i].map fun i:Nat=>V.int (i:Int))):=jc
      have hn3:=k3.old _ _ hn (by simp)
      generalize upd H2 q (.tup ([i].map fun i:Nat=>V.int (i:Int)))=H3 at k3 et hn3 ⊢
      simp only [et]
      intro Z hZ
      have nZ:n≠Z:=jh hn3 hZ
      refine comp_tup (fun v=>match v with | .int t=>.int ((D.getD t.toNat 0:Nat):Int) | _=>.non) et hZ (by simp;omega) (fun u hu l Q' q=>?_) fun v'=>?_
      · obtain ⟨m,hm,rfl⟩:=List.mem_map.mp hu
        have hm':m < D.length:=jbk ok m hm
        have hn4:upd H3 Z (.lst l) n=some (.lst (D.map fun n:Nat=>V.int (n:Int))):=by rw [je nZ];exact hn3
        simp! [hn4]
        exact ⟨_,atI_nat (at_int hm'),q⟩
      · refine ⟨((D.getD i 0:Nat):Int),[],by rw [jc];rfl,?_⟩
        have:=k _ (k3.new (o:=.lst ([i].map (fun i:Nat=>V.int (i:Int)) |>.map fun v=>match v with | .int t=>.int ((D.getD t.toNat 0:Nat):Int) | _=>.non)) hZ)
        exact this
end
def spRT:Sp:=fun vs H Q _=>∃ (b p:Addr) (z:Str) (zs:List Str) (m:Nat) (o:HO),vs=[.ref b,.str z,.ref p,.int (m:Int),.int 60]/\H b=some o/\BoxO o/\Letters z 4/\H p=some (.lst (zs.map V.str))/\1<=zs.length/\zs.length<=26/\1<=m/\m<=60/\b≠p /\
  ∀ (q:Addr) (us:List V) (rs:List RS) (o':HO) (H':Hp),1<=rs.length->rs.length<=m->RowsAt H' us rs->okR zs rs->okL z rs->(∃ G:List (List Str),CF zs G rs/\∀ k,(G.getD k []).length<=3)->H q=none->H' q=some (.lst us)->BoxO o'->H' b=some o'->Kp [b] H H'->Q (.ref q) H'
structure TRT (mg:Str->Option Value) (fs fn fd:Addr):Prop where
  n_len:mg "len"=none
  m13z:mg "_law_saying_rows"=some (.ref fs)
  m2z:mg "_law_names_of"=some (.ref fn)
  m8z:mg "_law_deep"=some (.ref fd)
structure IT (z:Str) (H:Hp) (b A B C q:Addr) (zs:List Str) (us0:List V) (rs0:List RS) (us:List V) (rs:List RS) (ys:List V) (G:List (List Str)) (H':Hp):Prop where
  kp:Kp [b] H H'
  bx:∃ o,BoxO o/\H' b=some o
  hq:H' q=some (.lst us0)
  r0:RowsAt H' us0 rs0
  hA:H' A=some (.lst us)
  ra:RowsAt H' us rs
  ok:okR zs rs
  hB:H' B=some (.lst ys)
  fl:FL [A,B,C] H' ys G
  cf:CF zs G rs
  hC:H' C=some (.lst ((deps rs).map fun n:Nat=>V.int (n:Int)))
  okl:okL z rs
  g3:∀ k,(G.getD k []).length<=3
theorem IT.mv {z:Str} {H:Hp} {b A B C q:Addr} {zs:List Str} {us0:List V} {rs0:List RS} {us:List V} {rs:List RS} {ys:List V} {G:List (List Str)} {H1 H2:Hp} (I:IT z H b A B C q zs us0 rs0 us rs ys G H1) (k:Kp [] H1 H2):IT z H b A B C q zs us0 rs0 us rs ys G H2 :=
  ⟨I.kp.trans (k.mono (by simp)),I.bx.imp fun o h=>⟨h.1,k.old _ _ h.2 (by simp)⟩,k.old _ _ I.hq (by simp),I.r0.kp k,k.old _ _ I.hA (by simp),I.ra.kp k,I.ok,k.old _ _ I.hB (by simp),I.fl.kp (by simp) k,I.cf,k.old _ _ I.hC (by simp),I.okl,I.g3⟩
theorem fm0 {F:List (List Str)} {D:List Nat} {zs:List Str}:∀ {r:RS},r.ok zs 0->(fm F r).length<=2/\dp D r=0
  | .yes,_=>⟨by simp [fm],rfl⟩
  | .is _ _,_=>⟨by simp [fm],rfl⟩
  | .ahead _ _,_=>⟨by simp [fm],rfl⟩
  | .no i,ok=>absurd ok (Nat.not_lt_zero _)
  | .bin _ i j,ok=>absurd ok.1 (Nat.not_lt_zero _)
  | .qn _ _ i,ok=>absurd ok.2 (Nat.not_lt_zero _)
theorem kitT (K:PySem.W.Frag) (T:String):PySem.W.kitOne K (.type T) (.type T)=some true:=if_pos (by simp)
def spWhole:Sp:=fun vs H Q _=>∃ i:Int,vs=[.int i]/\Q (.bl true) H
structure TWh (K:PySem.W.Frag) (mg:Str->Option Value):Prop where
  n_isinstance:mg "isinstance"=none
  n_int:mg "int"=none
  n_bool:mg "bool"=none
  ib:PySem.W.kitOne K (.type "int") (.type "bool")=some false
section
variable {P:Program} {w:World} {K:PySem.W.Frag} {mg:Str->Option Value} {base:Heap}
abbrev y0:Stmt:=top 31
theorem yo:FnScope ["_law_box_here","_law_letters_here","_law_names","_law_most","_law_deep_here","_law_rows","_law_frees_here","_law_depths","_law_row","_law_one"] ["_law_box_here","_law_letters_here","_law_names","_law_most","_law_deep_here"] (jj y0):=⟨rfl,rfl,rfl,by decide +kernel,rfl,by decide +kernel,by decide +kernel⟩
theorem ok__law_rows_to {f fs fn fdp:Addr} {fd fds fdn fdd:FuncData} (F:Fun K "_law_rows_to" "_law_rows_to" y0 f fd) (T:TRT mg fs fn fdp) (F13z:Fun K "_law_saying_rows" "_law_saying_rows" yb fs fds) (b13z:Binds K fds ["_law_box_here","_law_letters_here","_law_names","_law_most"] [])
    (G13z:FnOk P w K mg base CX0 3 fs fds ["_law_box_here","_law_letters_here","_law_names","_law_most"] spSR) (F2z:Fun K "_law_names_of" "_law_names_of" kt fn fdn) (b2z:Binds K fdn ["_law_row","_law_frees_here"] [])
    (G2z:FnOk P w K mg base CX0 1 fn fdn ["_law_row","_law_frees_here"] spNO) (F8z:Fun K "_law_deep" "_law_deep" zc fdp fdd) (b8z:Binds K fdd ["_law_row","_law_depths"] [])
    (G8z:FnOk P w K mg base CX0 1 fdp fdd ["_law_row","_law_depths"] spDp):FnOk P w K mg base CX0 4 f fd ["_law_box_here","_law_letters_here","_law_names","_law_most","_law_deep_here"] spRT:=by
  refine F.ok yo (fun vs H Q E h=>?_) (fun cdv A outer s H vs Q E hr h=>?_)
  · obtain ⟨b,p,z,zs,m,o,rfl,_⟩:=h
    rfl
  · obtain ⟨b,p,z,zs,m,o,rfl,hb,ho,hz,hp,z1,z2,m1,m2,nbp,k⟩:=h
    have hu:=hr.units
    refine ⟨_,(QSs.h (jf (jm (i:=5) yo.nd rfl (by first | exact Or.inl rfl | exact Or.inr rfl) (j7 jb))
    (jf (jm (i:=6) yo.nd rfl (by first | exact Or.inl rfl | exact Or.inr rfl) (j7 jb))
    (jf (jm (i:=7) yo.nd rfl (by first | exact Or.inl rfl | exact Or.inr rfl) (j7 jb))
    (jf (zt PassesOwn.never rfl (zu (K:=K) (jl G13z (hr.mono (by decide)) rfl T.m13z F13z.kp b13z .nil jt (ja (qpv 0) (ja (qpv 1) (ja (qpv 2) (ja (qpv 3) jb))))) rfl) (kj (i:=8) yo.nd rfl (by first | exact Or.inl rfl | exact Or.inr rfl)) (jf (jm (i:=9) yo.nd rfl (by first | exact Or.inl rfl | exact Or.inr rfl) (qpv 8))
    (yd (jw (QW.pt (z7 (jo ja2 (jn jy (by rfl) T.n_len j9 (ja (jl G2z (hr.mono (by decide)) rfl T.m2z F2z.kp b2z .nil jt (ja (qpv 8) (ja (qpv 6) jb))) jb)) jd (jv _)) (jaa (jo ja2 (jl G8z (hr.mono (by decide)) rfl T.m8z F8z.kp b8z .nil jt (ja (qpv 8) (ja (qpv 7) jb))) (qpv 4) (jv _))))) (ji (jm (i:=9) yo.nd rfl (by first | exact Or.inl rfl | exact Or.inr rfl) (kc (ja jg (ja (jp jag (jn jy (by rfl) T.n_len j9 (ja (qpv 5) jb)) jd) jb))))) ju)
    (jf (yi (yx PySem.F.slot_list_append PySem.F.type_list_append yh (qpv 5) (ja (qpv 9) jb) mono_var))
    (jf (yi (yx PySem.F.slot_list_append PySem.F.type_list_append yh (qpv 6) (ja (jl G2z (hr.mono (by decide)) rfl T.m2z F2z.kp b2z .nil jt (ja (qpv 9) (ja (qpv 6) jb))) jb) mono_var))
    (ji (yi (yx PySem.F.slot_list_append PySem.F.type_list_append yh (qpv 7) (ja (jl G8z (hr.mono (by decide)) rfl T.m8z F8z.kp b8z .nil jt (ja (qpv 9) (ja (qpv 7) jb))) jb) mono_var))))))))
    (ji (jr (qpv 5)))))))),?_⟩
    have hsz:sizeLine=16777216:=PySem.sizeLine_eq
    simp!
    refine ⟨by omega,fun A hA=>⟨by omega,fun B hB=>⟨by omega,fun C hC=>?_⟩⟩⟩
    have nAB:A≠B:=jh jc hB
    have nBC:B≠C:=jh jc hC
    have nAC:A≠C:=jh (by rw [je nAB,jc]) hC
    have k0:Kp [] H (upd (upd (upd H A (.lst [])) B (.lst [])) C (.lst [])):=(((Kp.refl [] H).new hA).new hB).new hC
    have eA:upd (upd (upd H A (.lst [])) B (.lst [])) C (.lst []) A=some (.lst []):=by rw [je nAC,je nAB,jc]
    have eB:upd (upd (upd H A (.lst [])) B (.lst [])) C (.lst []) B=some (.lst []):=by rw [je nBC,jc]
    have eC:upd (upd (upd H A (.lst [])) B (.lst [])) C (.lst []) C=some (.lst []):=jc
    generalize upd (upd (upd H A (.lst [])) B (.lst [])) C (.lst [])=H0 at k0 eA eB eC ⊢
    have hB0:H B=none:=by
      rw [je nAB.symm] at hB;exact hB
    have hC0:H C=none:=by
      rw [je nBC.symm,je nAC.symm] at hC;exact hC
    have nbA:b≠A:=jh hb hA
    have nbB:b≠B:=jh hb hB0
    have nbC:b≠C:=jh hb hC0
    refine ⟨b,p,z,zs,m,o,rfl,k0.old _ _ hb (by simp),ho,hz,k0.old _ _ hp (by simp),z1,z2,m1,m2,nbp,fun q us0 rs0 o1 H1 l1 l2 ra0 ok0 okl0 hq0 hq1 ho1 hb1 k1=>?_⟩
    have nqA:q≠A:=fun e=>by rw [e,eA] at hq0;cases hq0
    have nqB:q≠B:=fun e=>by rw [e,eB] at hq0;cases hq0
    have nqC:q≠C:=fun e=>by rw [e,eC] at hq0;cases hq0
    have hul:us0.length=rs0.length:=Paired.length ra0
    have hK1:Kp [b] H H1:=(k0.mono (by simp)).trans k1
    simp only [hq1]
    refine loop_list (xs:=us0) (fun i σ H'=>∃ (v1 v2:Option V) (us:List V) (rs:List RS) (ys:List V) (G:List (List Str)),σ=[some (.ref b),some (.str z),some (.ref p),some (.int (m:Int)),some (.int 60),some (.ref A),some (.ref B),some (.ref C),v1,v2]/\rs.length=i/\IT z H b A B C q zs us0 rs0 us rs ys G H') ?_ ?_ ?_ ?_
    · exact ⟨none,none,[],[],[],[],rfl,rfl,hK1,⟨o1,ho1,hb1⟩,hq1,ra0,k1.old _ _ eA (by simpa using nbA.symm),.nil,(fun k r e=>by simp at e),k1.old _ _ eB (by simpa using nbB.symm),.nil,CF.nil zs,k1.old _ _ eC (by simpa using nbC.symm),(fun r h=>by simp at h),(fun k=>by simp)⟩
    · rintro i σ H' _ ⟨_,_,_,_,_,_,rfl,_,I⟩
      exact I.hq
    · rintro i x σ H2 hx ⟨v1,v2,us,rs,ys,G,rfl,hlr,I⟩
      obtain ⟨r,c,hri,rfl,hc⟩:=I.r0.get hx
      have hi:i < rs0.length:=(List.getElem?_eq_some_iff.mp hri).1
      have okr:=ok0 i r hri
      simp!
      refine ⟨fun σ H'=>∃ (c':Addr) (r':RS),σ=[some (.ref b),some (.str z),some (.ref p),some (.int (m:Int)),some (.int 60),some (.ref A),some (.ref B),some (.ref C),some (.ref c),some (.ref c')]/\H' c'=some (.tup (rowV r'))/\r'.ok zs i/\r'.lt z/\(∀ l,Cn l (fm G r')->l.length<=3)/\IT z H b A B C q zs us0 rs0 us rs ys G H',?_,?_⟩
      · simp!
        have uL:us.length=i:=by rw [Paired.length I.ra];exact hlr
        have nrow:∀ H4,IT z H b A B C q zs us0 rs0 us rs ys G H4->i≠0->∃ ys_1,seqOf (H4 A)=some ys_1/\2<=sizeLine/\∀ (p:Addr),H4 p=none->∃ x,[V.str (Str.ofString "not"),V.int ((ys_1.length:Int) - 1)]=rowV x/\RS.ok zs i x/\RS.lt z x/\(∀ l,Cn l (fm G x)->l.length<=3) /\
            IT z H b A B C q zs us0 rs0 us rs ys G (upd H4 p (HO.tup [V.str (Str.ofString "not"),V.int ((ys_1.length:Int) - 1)])):=fun H4 I4 h0 =>
          ⟨us,by rw [I4.hA];rfl,by omega,fun p hp=>⟨.no (i - 1),by rw [uL,show ((i:Int) - 1)=((i - 1:Nat):Int) by omega];rfl,by show i - 1 < i;omega,trivial,(fun l cl=>Nat.le_trans (nodup_le cl.nd fun x hx=>(cl.me x).mp hx) (I4.g3 (i - 1))),I4.mv ((Kp.refl [] H4).new hp)⟩⟩
        refine ⟨c,B,r,[A,B,C],ys,G,rs,zs,rfl,hc,I.hB,I.fl,I.cf,by rw [hlr];exact okr,(fun k=>Nat.le_trans (I.g3 k) (by decide)),fun p' l H3 hp' k3 e3 cn=>?_⟩
        have I3:=I.mv k3
        have hc3:=k3.tup _ _ hc
        simp! [e3]
        refine ite2 (fun h3=>nrow H3 I3 fun h0=>?_) (fun h3=>⟨c,C,r,deps rs,zs,rfl,hc3,I3.hC,by rw [deps_len,hlr];exact okr,fun H4 k4=>⟨_,rfl,ite2 (fun h6=>nrow H4 (I3.mv k4) fun h0=>?_) fun _=>⟨r,k4.tup _ _ hc3,okr,okl0 r (List.mem_of_getElem? hri),(fun l' cl=>by rw [cl.one cn fun _=>Iff.rfl];rw [List.length_map] at h3;omega),I3.mv k4⟩⟩⟩)
        · rw [h0] at okr
          have:=nodup_le cn.nd (fun x hx=>(cn.me x).mp hx)
          have:=(fm0 (F:=G) (D:=deps rs) okr).1
          rw [List.length_map] at h3
          omega
        · rw [h0] at okr
          have:=(fm0 (F:=G) (D:=deps rs) okr).2
          omega
      rintro _ H3 ⟨c',r',rfl,hc',okr',okl',g3',I3⟩
      simp!
      have uL:us.length=i:=by rw [Paired.length I3.ra];exact hlr
      have yL:ys.length=i:=by rw [I3.fl.len,I3.cf.len];exact hlr
      have kA:Kp [A] H3 (upd H3 A (.lst (us++[.ref c']))):=(Kp.refl [A] H3).set I3.hA (.inl (by simp))
      have kp4:=I3.kp.set (o:=.lst (us++[.ref c'])) I3.hA (.inr hA)
      have e4A:upd H3 A (.lst (us++[.ref c'])) A=some (.lst (us++[.ref c'])):=jc
      refine ⟨by rw [I3.hA];rfl,us,by rw [I3.hA];rfl,by omega,?_⟩
      generalize upd H3 A (.lst (us++[.ref c']))=H4 at kA kp4 e4A ⊢
      have e4B:=kA.old _ _ I3.hB (by simpa using nAB.symm)
      have e4C:=kA.old _ _ I3.hC (by simpa using nAC.symm)
      refine ⟨by rw [e4B];rfl,c',B,r',[A,B,C],ys,G,rs,zs,rfl,kA.tup _ _ hc',e4B,FL.kp (S:=[A]) (by simp) kA I3.fl,I3.cf,by rw [hlr];exact okr',(fun k=>Nat.le_trans (I3.g3 k) (by decide)),fun p' l H5 hp' k5 e5 cn=>?_⟩
      have e5B:=k5.old _ _ e4B (by simp)
      have kp5:=kp4.trans (k5.mono (by simp))
      have kB:Kp [B] H5 (upd H5 B (.lst (ys++[.ref p']))):=(Kp.refl [B] H5).set e5B (.inl (by simp))
      have kp6:=kp5.set (o:=.lst (ys++[.ref p'])) e5B (.inr hB0)
      have e6B:upd H5 B (.lst (ys++[.ref p'])) B=some (.lst (ys++[.ref p'])):=jc
      refine ⟨ys,by rw [e5B];rfl,by omega,?_⟩
      generalize upd H5 B (.lst (ys++[.ref p']))=H6 at kB kp6 e6B ⊢
      have npA:p'≠A:=fun e=>by rw [e,e4A] at hp';cases hp'
      have npB:p'≠B:=fun e=>by rw [e,e4B] at hp';cases hp'
      have npC:p'≠C:=fun e=>by rw [e,e4C] at hp';cases hp'
      have e6C:=kB.old _ _ (k5.old _ _ e4C (by simp)) (by simpa using nBC.symm)
      have k46:Kp [A,B,C] H3 H6:=(kA.mono (by simp)).trans ((k5.mono (by simp)).trans (kB.mono (by simp)))
      refine ⟨by rw [e6C];rfl,c',C,r',deps rs,zs,rfl,k46.tup _ _ hc',e6C,by rw [deps_len,hlr];exact okr',fun H7 k7=>?_⟩
      have e7C:=k7.old _ _ e6C (by simp)
      have kC:Kp [C] H7 (upd H7 C (.lst (((deps rs).map fun n:Nat=>V.int (n:Int))++[.int (dp (deps rs) r':Nat)]))):=(Kp.refl [C] H7).set e7C (.inl (by simp))
      have kp8:=(kp6.trans (k7.mono (by simp))).set (o:=.lst (((deps rs).map fun n:Nat=>V.int (n:Int))++[.int (dp (deps rs) r':Nat)])) e7C (.inr hC0)
      have e8C:upd H7 C (.lst (((deps rs).map fun n:Nat=>V.int (n:Int))++[.int (dp (deps rs) r':Nat)])) C=some (.lst (((deps rs).map fun n:Nat=>V.int (n:Int))++[.int (dp (deps rs) r':Nat)])):=jc
      refine ⟨_,by rw [e7C];rfl,by rw [List.length_map,deps_len];omega,_,_,⟨rfl,rfl⟩,us++[.ref c'],rs++[r'],by simp [hlr],ys++[.ref p'],G++[l],?_⟩
      generalize upd H7 C (.lst (((deps rs).map fun n:Nat=>V.int (n:Int))++[.int (dp (deps rs) r':Nat)]))=H8 at kC kp8 e8C ⊢
      have kk:Kp [A,B,C] H3 H8:=k46.trans ((k7.mono (by simp)).trans (kC.mono (by simp)))
      obtain ⟨o3,ho3,hb3⟩:=I3.bx
      refine ⟨kp8,⟨o3,ho3,kk.old _ _ hb3 (by simp [nbA,nbB,nbC])⟩,kk.old _ _ I3.hq (by simp [nqA,nqB,nqC]),I3.r0.kp kk,?_,Paired.snoc (I3.ra.kp kk) ⟨c',rfl,kk.tup _ _ hc'⟩,I3.ok.snoc (by rw [hlr];exact okr'),?_,Paired.snoc (FL.kp (S:=[A,B,C]) (by simp) kk I3.fl) ⟨p',rfl,by simp [npA,npB,npC],?_⟩,I3.cf.snoc I3.ok (by rw [hlr];exact okr') cn,?_,I3.okl.snoc okl',?_⟩
      · exact kC.old _ _ (k7.old _ _ (kB.old _ _ (k5.old _ _ e4A (by simp)) (by simpa using nAB)) (by simp)) (by simpa using nAC)
      · exact kC.old _ _ (k7.old _ _ e6B (by simp)) (by simpa using nBC)
      · exact kC.old _ _ (k7.old _ _ (kB.old _ _ e5 (by simpa using npB)) (by simp)) (by simpa using npC)
      · rw [e8C,deps_snoc,List.map_append]
        rfl
      · intro k
        by_cases hk:k < G.length
        · rw [getD_snoc hk];exact I3.g3 k
        · by_cases hk2:k=G.length
          · subst hk2
            rw [getD_last];exact g3' l cn
          · rw [List.getD_eq_getElem?_getD,List.getElem?_eq_none (by simp;omega)]
            exact Nat.zero_le _
    · rintro σ H2 ⟨v1,v2,us,rs,ys,G,rfl,hlr,I⟩
      simp!
      obtain ⟨o2,ho2,hb2⟩:=I.bx
      exact k A us rs o2 H2 (by omega) (by omega) I.ra I.ok I.okl ⟨G,I.cf,I.g3⟩ hA I.hA ho2 hb2 I.kp
abbrev zg:Stmt:=top 33
theorem sc__law_whole:FnScope ["_law_found"] ["_law_found"] (jj zg):=⟨rfl,rfl,rfl,by decide +kernel,rfl,by decide +kernel,by decide +kernel⟩
theorem ok__law_whole {f:Addr} {fd:FuncData} (F:Fun K "_law_whole" "_law_whole" zg f fd) (T:TWh K mg):FnOk P w K mg base CX0 1 f fd ["_law_found"] spWhole:=by
  refine F.ok sc__law_whole (fun vs H Q E h=>?_) (fun cdv A outer s H vs Q E hr h=>?_)
  · obtain ⟨i,rfl,_⟩:=h
    rfl
  · obtain ⟨i,rfl,k⟩:=h
    have hu:=hr.units
    refine ⟨_,(QSs.h (ji (jr (z4 (jn (ke (K:=K) rfl) (by rfl) T.n_isinstance kh (ja (qpv 0) (ja (yu (v:=.ty "int") rfl T.n_int jar rfl) jb))) (jap (jck (jn (ke (K:=K) rfl) (by rfl) T.n_isinstance kh (ja (qpv 0) (ja (yu (v:=.ty "bool") rfl T.n_bool jci rfl) jb))))))))),?_⟩
    simp!
    exact ⟨_,.int _,_,kitT K "int",by rw [if_pos rfl];exact ⟨_,.int _,_,T.ib,k⟩⟩
end
def lenAt (H:Hp) (l:Addr):Nat:=match H l with | some (.lst xs)=>xs.length | _=>0
theorem sorted_filter {l:List Str} (h:PyProof.Rows.sortedS l=true) (p:Str->Bool):PyProof.Rows.sortedS (l.filter p)=true:=by
  refine PyProof.Rows.sortedS_of_pairwise _ (((sorted_pw h).filter p).imp fun h=>?_)
  rw [PyProof.Rows.ltCps_eq]
  exact decide_eq_false h
theorem CF.qn {zs:List Str} {G:List (List Str)} {rs:List RS} (cf:CF zs G rs) (b:Bool) (x:Str) {i:Nat} (hi:i < rs.length):Cn ((G.getD i []).filter fun y=>!decide (y=x)) (fm G (.qn b x i)):=by
  have c:=cf.at_ i _ (List.getElem?_eq_getElem hi)
  exact ⟨sorted_filter c.so _,c.nd.filter _,fun _=>Iff.rfl⟩
def Good (z:Str) (zs:List Str) (rs:List RS):Prop:=okR zs rs/\okL z rs/\∃ G:List (List Str),CF zs G rs/\∀ k,(G.getD k []).length<=3
theorem Good.qn {z:Str} {zs:List Str} {rs:List RS} (h:Good z zs rs) (h1:1<=rs.length) (b:Bool) {x:Str} (hx:x ∈ zs):Good z zs (rs++[.qn b x (rs.length - 1)]):=by
  obtain ⟨ok,okl,G,cf,g3⟩:=h
  have hr:(RS.qn b x (rs.length - 1)).ok zs rs.length:=⟨hx,by omega⟩
  refine ⟨ok.snoc hr,okl.snoc trivial,G++[(G.getD (rs.length - 1) []).filter fun y=>!decide (y=x)],cf.snoc ok hr (cf.qn b x (by omega)),fun k=>?_⟩
  by_cases hk:k < G.length
  · rw [getD_snoc hk];exact g3 k
  · by_cases hk2:k=G.length
    · subst hk2
      rw [getD_last];exact Nat.le_trans (List.length_filter_le _ _) (g3 _)
    · rw [List.getD_eq_getElem?_getD,List.getElem?_eq_none (by simp;omega)]
      exact Nat.zero_le _
def spShut:Sp:=fun vs H Q _=>∃ (b p:Addr) (z:Str) (zs:List Str) (us:List V) (rs:List RS) (o:HO),vs=[.ref b,.ref p]/\H b=some o/\BoxO o/\H p=some (.tup us)/\RowsAt H us rs/\Good z zs rs/\1<=rs.length/\rs.length<=60/\zs.length<=26 /\
  ∀ (q:Addr) (us':List V) (rs':List RS) (o':HO) (H':Hp),1<=rs'.length->rs'.length<=rs.length+3->RowsAt H' us' rs'->Good z zs rs'->H q=none->H' q=some (.tup us')->BoxO o'->H' b=some o'->Kp [b] H H'->Q (.ref q) H'
structure TSh (mg:Str->Option Value) (ft ff:Addr):Prop where
  n_len:mg "len"=none
  n_list:mg "list"=none
  n_tuple:mg "tuple"=none
  m0z:mg "_law_take"=some (.ref ft)
  m19z:mg "_law_frees"=some (.ref ff)
section
variable {P:Program} {w:World} {K:PySem.W.Frag} {mg:Str->Option Value} {base:Heap}
abbrev zq:Stmt:=top 32
theorem jan:FnScope ["_law_box_here","_law_rows","_law_found","_law_left","_law_word"] ["_law_box_here","_law_rows"] (jj zq):=⟨rfl,rfl,rfl,by decide +kernel,rfl,by decide +kernel,by decide +kernel⟩
theorem ok__law_shut {f ft ff:Addr} {fd fdt fdf:FuncData} (F:Fun K "_law_shut" "_law_shut" zq f fd) (T:TSh mg ft ff) (F0z:Fun K "_law_take" "_law_take" kl ft fdt) (b0z:Binds K fdt ["_law_box_here","_law_wide"] [])
    (G0z:FnOk P w K mg base CX0 1 ft fdt ["_law_box_here","_law_wide"] spTake) (F19z:Fun K "_law_frees" "_law_frees" zf ff fdf) (b19z:Binds K fdf ["_law_saying"] [])
    (G19z:FnOk P w K mg base CX0 2 ff fdf ["_law_saying"] spFs):FnOk P w K mg base CX0 3 f fd ["_law_box_here","_law_rows"] spShut:=by
  refine F.ok jan (fun vs H Q E h=>?_) (fun cdv A outer s H vs Q E hr h=>?_)
  · obtain ⟨b,p,z,zs,us,rs,o,rfl,_⟩:=h
    rfl
  · obtain ⟨b,p,z,zs,us,rs,o,rfl,hb,ho,hp,ra,gd,l1,l2,hz,k⟩:=h
    have hu:=hr.units
    have hsz:sizeLine=16777216:=PySem.sizeLine_eq
    have hul:us.length=rs.length:=Paired.length ra
    refine ⟨_,(QSs.h (jf (jm (i:=2) jan.nd rfl (by first | exact Or.inl rfl | exact Or.inr rfl) (y4 (ja6 rfl) (by rfl) T.n_list jbv (ja (qpv 1) jb)))
    (jf (jm (i:=3) jan.nd rfl (by first | exact Or.inl rfl | exact Or.inr rfl) (y4 (ja6 rfl) (by rfl) T.n_list jbv (ja (jq ix_U (jl G19z (hr.mono (by decide)) rfl T.m19z F19z.kp b19z .nil jt (ja (qpv 1) jb)) (jbn un_neg jd) (fun _ _=>rfl)) jb)))
    (jf (qps_while PassesOwn.never (jo ja2 (jn jy (by rfl) T.n_len j9 (ja (qpv 3) jb)) jd (jv _)) (jf (jm (i:=4) jan.nd rfl (by first | exact Or.inl rfl | exact Or.inr rfl) (jq ix_U (j7 (ja jg (ja jg jb))) (jl G0z (hr.mono (by decide)) rfl T.m0z F0z.kp b0z .nil jt (ja (qpv 0) (ja jd jb))) (fun _ _=>rfl)))
    (ji (yi (yx PySem.F.slot_list_append PySem.F.type_list_append yh (qpv 2) (ja (kc (ja (qpv 4) (ja (yx PySem.F.slot_list_pop PySem.F.type_list_pop jcc (qpv 3) (ja (jl G0z (hr.mono (by decide)) rfl T.m0z F0z.kp b0z .nil jt (ja (qpv 0) (ja (jn jy (by rfl) T.n_len j9 (ja (qpv 3) jb)) jb))) jb) mono_var) (ja (jp jag (jn jy (by rfl) T.n_len j9 (ja (qpv 2) jb)) jd) jb)))) jb) mono_var)))))
    (ji (jr (y4 jaq (by rfl) T.n_tuple ja1 (ja (qpv 2) jb)))))))),?_⟩
    simp! [hp]
    intro q hq
    have k0:Kp [] H (upd H q (.lst us)):=(Kp.refl [] H).new hq
    have nbq:b≠q:=jh hb hq
    have eq0:upd H q (.lst us) q=some (.lst us):=jc
    generalize upd H q (.lst us)=H0 at k0 eq0 ⊢
    refine ⟨p,us,rs,zs,[],rfl,.inr (k0.tup _ _ hp),ra.kp k0,gd.1,hz,by omega,by simp,fun m ys G H1 hm k1 em fl cf=>?_⟩
    obtain ⟨ok,okl,G0,cf0,g3⟩:=gd
    obtain rfl:=cf.eq ok cf0
    have yl:=fl.len
    have gl:=cf.len
    obtain ⟨c,ec,hc⟩:=fl.get (i:=rs.length - 1) (by omega)
    simp! [em]
    refine ⟨_,atI_m1 (by rw [yl,gl];exact ec),?_⟩
    simp! [hc.2]
    intro l hl
    have k01:=k0.trans k1
    have hl0:H l=none:=k01.free hl
    have nql:q≠l:=jh (k1.old _ _ eq0 (by simp)) hl
    have nbl:b≠l:=jh hb hl0
    have kA:Kp [] H (upd H1 l (.lst ((G.getD (rs.length - 1) []).map V.str))):=k01.new hl
    have eqA:upd H1 l (.lst ((G.getD (rs.length - 1) []).map V.str)) q=some (.lst us):=by rw [je nql];exact k1.old _ _ eq0 (by simp)
    have elA:upd H1 l (.lst ((G.getD (rs.length - 1) []).map V.str)) l=some (.lst ((G.getD (rs.length - 1) []).map V.str)):=jc
    have sub0:∀ x ∈ G.getD (rs.length - 1) [],x ∈ zs:=cf.sub _
    have le0:=g3 (rs.length - 1)
    generalize upd H1 l (.lst ((G.getD (rs.length - 1) []).map V.str))=HA at kA eqA elA ⊢
    generalize G.getD (rs.length - 1) []=nm at elA sub0 le0
    refine while_by (fun σ H'=>∃ (v:Option V) (us':List V) (rs':List RS) (lf:List Str) (o':HO),σ=[some (.ref b),some (.ref p),some (.ref q),some (.ref l),v]/\Kp [b] H H'/\H' q=some (.lst us')/\RowsAt H' us' rs'/\Good z zs rs'/\H' l=some (.lst (lf.map V.str))/\(∀ x ∈ lf,x ∈ zs) /\
      1<=rs'.length/\rs'.length+lf.length<=rs.length+3/\BoxO o'/\H' b=some o') (fun _ H'=>lenAt H' l) ?_ ?_ ?_
    · exact ⟨none,us,rs,nm,o,rfl,kA.mono (by simp),eqA,ra.kp kA,⟨ok,okl,G,cf,g3⟩,elA,sub0,l1,by omega,ho,kA.old _ _ hb (by simp)⟩
    · rintro σ H' ⟨v,us',rs',lf,o',rfl,kp,eq,ra',gd',el,sub,n1,n2,ho',hb'⟩
      have nL:lenAt H' l=lf.length:=by simp [lenAt,el]
      simp! [el]
      rw [List.length_map]
      refine ite2 (fun h=>?_) (fun h=>?_)
      · obtain ⟨xs0,rfl⟩:=id ho'.lst
        refine ⟨by omega,fun t ht=>?_⟩
        have nbt:b≠t:=jh hb' ht
        refine ⟨b,2,_,rfl,by rw [je nbt];exact hb',ho',by omega,by omega,fun d o2 d0 d1 ho2=>?_⟩
        have et:upd (upd H' t (.lst [V.str (Str.ofString "some"),V.str (Str.ofString "each")])) b o2 t=some (.lst [V.str (Str.ofString "some"),V.str (Str.ofString "each")]):=by rw [je nbt.symm,jc]
        have k2:Kp [b] H' (upd (upd H' t (.lst [V.str (Str.ofString "some"),V.str (Str.ofString "each")])) b o2):=((Kp.refl [b] H').new ht).set (by rw [je nbt];exact hb') (.inl (by simp))
        have hb2:upd (upd H' t (.lst [V.str (Str.ofString "some"),V.str (Str.ofString "each")])) b o2 b=some o2:=jc
        obtain ⟨bb,hbb⟩:∃ bb:Bool,atI [V.str (Str.ofString "some"),V.str (Str.ofString "each")] d=some (.str (qw bb)):=by
          have:d=0∨d=1:=by omega
          rcases this with rfl | rfl
          · exact ⟨true,atI_of (by decide) rfl⟩
          · exact ⟨false,atI_of (by decide) rfl⟩
        simp! [et]
        refine ⟨_,hbb,?_⟩
        generalize upd (upd H' t (.lst [V.str (Str.ofString "some"),V.str (Str.ofString "each")])) b o2=H2 at k2 hb2 ⊢
        have eq2:H2 q=some (.lst us'):=k2.old _ _ eq (by simpa using nbq.symm)
        have el2:H2 l=some (.lst (lf.map V.str)):=k2.old _ _ el (by simpa using nbl.symm)
        obtain ⟨xs2,rfl⟩:=id ho2.lst
        refine ⟨by rw [eq2];rfl,by rw [el2];rfl,_,by rw [el2];rfl,b,_,_,rfl,hb2,ho2,by rw [List.length_map];omega,by rw [List.length_map];omega,fun e o3 e0 e1 ho3=>?_⟩
        rw [List.length_map] at e1
        have el3:upd H2 b o3 l=some (.lst (lf.map V.str)):=by rw [je nbl.symm];exact el2
        simp! [el3]
        obtain ⟨x,hx⟩:∃ x,lf[e.toNat]?=some x:=⟨lf[e.toNat]'(by omega),by simp⟩
        refine ⟨e0,_,by rw [List.getElem?_map,hx];rfl,?_⟩
        have hlen:(lf.eraseIdx e.toNat).length+1=lf.length:=by rw [List.length_eraseIdx_of_lt (by omega)];omega
        rw [map_erase]
        have k3:Kp [b] H2 (upd H2 b o3):=(Kp.refl [b] H2).set hb2 (.inl (by simp))
        have k4:Kp [b,l] H2 (upd (upd H2 b o3) l (.lst ((lf.eraseIdx e.toNat).map V.str))):=(k3.mono (by simp)).set el3 (.inl (by simp))
        have kp4:Kp [b] H (upd (upd H2 b o3) l (.lst ((lf.eraseIdx e.toNat).map V.str))):=((kp.trans k2).trans k3).set el3 (.inr hl0)
        have el4:upd (upd H2 b o3) l (.lst ((lf.eraseIdx e.toNat).map V.str)) l=some (.lst ((lf.eraseIdx e.toNat).map V.str)):=jc
        have hb4:upd (upd H2 b o3) l (.lst ((lf.eraseIdx e.toNat).map V.str)) b=some o3:=by rw [je nbl,jc]
        generalize upd (upd H2 b o3) l (.lst ((lf.eraseIdx e.toNat).map V.str))=H4 at k4 kp4 el4 hb4 ⊢
        have eq4:H4 q=some (.lst us'):=k4.old _ _ eq2 (by simp [nbq.symm,nql])
        have ul':us'.length=rs'.length:=Paired.length ra'
        refine ⟨us',by rw [eq4];rfl,by omega,fun t2 ht2=>?_⟩
        have nqt:q≠t2:=jh eq4 ht2
        have nlt:l≠t2:=jh el4 ht2
        have nbt2:b≠t2:=jh hb4 ht2
        have erow:[V.str (qw bb),V.str x,V.int ((us'.length:Int) - 1)]=rowV (.qn bb x (rs'.length - 1)):=by rw [ul',show ((rs'.length:Int) - 1)=((rs'.length - 1:Nat):Int) by omega];rfl
        rw [erow]
        have e5q:upd H4 t2 (.tup (rowV (.qn bb x (rs'.length - 1)))) q=some (.lst us'):=by rw [je nqt];exact eq4
        have k5:Kp [q] H4 (upd (upd H4 t2 (.tup (rowV (.qn bb x (rs'.length - 1))))) q (.lst (us'++[.ref t2]))):=((Kp.refl [q] H4).new ht2).set e5q (.inl (by simp))
        have k9:Kp [b,l,q] H' (upd (upd H4 t2 (.tup (rowV (.qn bb x (rs'.length - 1))))) q (.lst (us'++[.ref t2]))):=(k2.mono (by simp)).trans ((k4.mono (by simp)).trans (k5.mono (by simp)))
        refine ⟨us',by rw [e5q];rfl,by omega,⟨(kp4.new ht2).set e5q (.inr hq),rs'++[.qn bb x (rs'.length - 1)],Paired.snoc (ra'.kp k9) ⟨t2,rfl,?_⟩,gd'.qn n1 bb (sub x (List.mem_of_getElem? hx)),lf.eraseIdx e.toNat,?_,fun y hy=>sub y (List.mem_of_mem_eraseIdx hy),by simp,by simp;omega,o3,ho3,?_⟩,?_⟩
        · rw [je nqt.symm,jc]
        · rw [je nql.symm,je nlt];exact el4
        · rw [je nbq,je nbt2];exact hb4
        · rw [nL]
          simp only [lenAt,je nql.symm,je nlt,el4,List.length_map]
          omega
      · refine rTupleU_lst eq fun r hr'=>?_
        exact k r us' rs' o' _ n1 (by omega) (ra'.kp ((Kp.refl [b] H').new hr')) gd' (kp.free hr') jc ho' (by rw [je (jh hb' hr')];exact hb') (kp.new hr')
    · intro σ H' Q Q' hm h
      obtain ⟨v,e,h⟩:=h
      refine ⟨v,e,?_⟩
      have go:∀ n:Int,(∃ i j,V.int n=.int i/\V.int 0=.int j/\∃ k,V.bl (decide (j < i))=.bl k/\Q k H')->∃ i j,V.int n=.int i/\V.int 0=.int j/\∃ k,V.bl (decide (j < i))=.bl k/\Q' k H':=fun n ⟨i,j,a,b,k,c,d⟩=>⟨i,j,a,b,k,c,hm _ _ d⟩
      cases v with
      | str z=>exact ⟨h.1,go _ h.2⟩
      | ref p' =>
        obtain ⟨ys,e1,e2⟩:=h
        exact ⟨ys,e1,go _ e2⟩
      | _=>exact h.elim
end
def NN:List Str:=["yes","is","not","and","or"]
def azB (c:Nat):Bool:=decide (97<=c) && decide (c<=122)
def isNm (z:Str):Bool:=!(decide ((z.length:Int) < 1) || decide (3 < (z.length:Int)) || inV (.str z) (NN.map V.str)) && z.cps.toList.all azB
def spNm:Sp:=fun vs H Q _=>∃ z:Str,vs=[.str z]/\z.length<=sizeLine/\∀ H',Kp [] H H'->Q (.bl (isNm z)) H'
structure TNm (K:PySem.W.Frag) (mg:Str->Option Value) (an:Addr):Prop where
  n_len:mg "len"=none
  n_all:mg "all"=none
  m_NO_NAMES:mg "NO_NAMES"=some (.ref an)
  k_NO_NAMES:∀ H,SqT K H an (NN.map V.str)
section
variable {P:Program} {w:World} {K:PySem.W.Frag} {mg:Str->Option Value} {base:Heap}
abbrev zy:Stmt:=top 16
theorem sc_is_name:FnScope ["text"] ["text"] (jj zy):=⟨rfl,rfl,rfl,by decide +kernel,rfl,by decide +kernel,by decide +kernel⟩
theorem ok_is_name {f an:Addr} {fd:FuncData} (F:Fun K "is_name" "is_name" zy f fd) (T:TNm K mg an):FnOk P w K mg base CX0 1 f fd ["text"] spNm:=by
  refine F.ok sc_is_name (fun vs H Q E h=>?_) (fun cdv A outer s H vs Q E hr h=>?_)
  · obtain ⟨z,rfl,_⟩:=h
    rfl
  · obtain ⟨z,rfl,hz,k⟩:=h
    refine ⟨_,(QSs.h (jf (jw (QW.pt (z7 (jo jao (jn jy (by rfl) T.n_len j9 (ja (qpv 0) jb)) jd (jv _)) (z7 (jo ja2 (jn jy (by rfl) T.n_len j9 (ja (qpv 0) jb)) jd (jv _)) (jaa (jo (jam (K:=K) rfl) (qpv 0) (z0 (v:=.ref _) rfl T.m_NO_NAMES rfl) (by with_unfolding_all rfl)))))) (ji (jr jal)) ju)
    (ji (jr (jn (ja4 rfl) (by rfl) T.n_all jbm (ja (ja0 rfl (compOk_of (sc:=jj zy) (N:=["text"]) (Nc:=["sign"]) (js:=[none]) (by decide +kernel)) (zu (K:=K) (qpv 0) rfl) (fun _ _ _ _=>(kj (i:=0) (show List.Nodup [("sign":Str)] from by decide +kernel) rfl (by first | exact Or.inl rfl | exact Or.inr rfl))) (fun _ _ _ _=>(jbe jbj jbj jg (qpv 0) jg))) jb)))))),?_⟩
    simp!
    refine ⟨hz,ite2 (fun h1=>?_) (fun h1=>⟨hz,ite2 (fun h2=>?_) (fun h2=>rInU.tupS (T.k_NO_NAMES H) rfl (by decide) ⟨_,rfl,?_⟩)⟩)⟩
    · have e:isNm z=false:=by simp [isNm,h1]
      rw [← e];exact k H (Kp.refl [] H)
    · have e:isNm z=false:=by simp [isNm,h2]
      rw [← e];exact k H (Kp.refl [] H)
    simp only [Bool.false_eq_true,if_false]
    refine ite2 (fun h3=>?_) (fun h3=>?_)
    · have e:isNm z=false:=by simp [isNm,h3]
      rw [← e];exact k H (Kp.refl [] H)
    have e:isNm z=z.cps.toList.all azB:=by simp [isNm,h1,h2,h3]
    intro D hD
    have ea:(Str.ofString "a").cps.toList=[97]:=by decide +kernel
    have ez:(Str.ofString "z").cps.toList=[122]:=by decide +kernel
    refine comp_str (fun c=>.bl (azB c)) hz (fun c _ l Q' hq=>?_) fun v=>?_
    · simp! [ea,ez,lt1]
      refine ite2 (fun g=>?_) (fun g=>?_)
      · refine (congrArg (fun b=>Q' (.bl b) _) (?_:_=azB c)).mpr hq
        simp at g
        rw [Bool.eq_iff_iff]
        simp [azB]
        omega
      · refine (congrArg (fun b=>Q' (.bl b) _) (?_:_=azB c)).mpr hq
        simp at g
        rw [Bool.eq_iff_iff]
        simp [azB]
        omega
    · refine ⟨z.cps.toList.map azB,by rw [jc,List.map_map];rfl,?_⟩
      rw [List.all_map]
      exact e ▸ k _ ((Kp.refl [] H).new hD)
structure TIs (mg:Str->Option Value):Prop where
  n_len:mg "len"=none
  n_all:mg "all"=none
abbrev ym:Stmt:=top 34
theorem sc__law_is_name:FnScope ["_law_text"] ["_law_text"] (jj ym):=⟨rfl,rfl,rfl,by decide +kernel,rfl,by decide +kernel,by decide +kernel⟩
theorem inV3 (n:Nat):inV (.int (n:Int)) [.int 1,.int 2,.int 3]=!(decide ((n:Int) < 1) || decide (3 < (n:Int))):=by
  rw [Bool.eq_iff_iff]
  simp [inV,eqV]
  omega
theorem abc_mem (c:Nat):decide (c ∈ (Str.ofString "abcdefghijklmnopqrstuvwxyz").cps.toList)=azB c:=by
  have e:(Str.ofString "abcdefghijklmnopqrstuvwxyz").cps.toList=(List.range 26).map (97+·):=by decide +kernel
  rw [Bool.eq_iff_iff,e]
  simp only [decide_eq_true_eq,List.mem_map,List.mem_range,azB,Bool.and_eq_true]
  constructor
  · rintro ⟨i,hi,rfl⟩;omega
  · intro h;exact ⟨c - 97,by omega,by omega⟩
theorem ok__law_is_name {f:Addr} {fd:FuncData} (F:Fun K "_law_is_name" "_law_is_name" ym f fd) (T:TIs mg):FnOk P w K mg base CX0 1 f fd ["_law_text"] spNm:=by
  refine F.ok sc__law_is_name (fun vs H Q E h=>?_) (fun cdv A outer s H vs Q E hr h=>?_)
  · obtain ⟨z,rfl,_⟩:=h
    rfl
  · obtain ⟨z,rfl,hz,k⟩:=h
    refine ⟨_,(QSs.h (jf (jw (QW.pt (z7 (jo (jam (K:=K) rfl) (qpv 0) (j7 (ja jg (ja jg (ja jg (ja jg (ja jg jb jk) jk) jk) jk) jk)) (by with_unfolding_all rfl)) (jaa (jo (jb0 (K:=K) rfl) (jn jy (by rfl) T.n_len j9 (ja (qpv 0) jb)) (j7 (ja jd (ja jd (ja jd jb)))) (by with_unfolding_all rfl))))) (ji (jr jal)) ju)
    (ji (jr (jn (ja4 rfl) (by rfl) T.n_all jbm (ja (ja0 rfl (compOk_of (sc:=jj ym) (N:=["_law_text"]) (Nc:=["_law_sign"]) (js:=[none]) (by decide +kernel)) (zu (K:=K) (qpv 0) rfl) (fun _ _ _ _=>(kj (i:=0) (show List.Nodup [("_law_sign":Str)] from by decide +kernel) rfl (by first | exact Or.inl rfl | exact Or.inr rfl))) (fun _ _ _ _=>(zp (jam (K:=K) rfl) (qpv 0) jg (by with_unfolding_all rfl)))) jb)))))),?_⟩
    simp!
    refine ⟨by decide,fun p hp=>rInU.lst (xs:=NN.map V.str) jc rfl (by decide) ⟨_,rfl,?_⟩⟩
    have kp1:∀ o,Kp [] H (upd H p o):=fun o=>(Kp.refl [] H).new hp
    simp only [Bool.false_eq_true,if_false]
    refine ite2 (fun h3=>?_) (fun h3=>?_)
    · have e:isNm z=false:=by simp [isNm,h3]
      rw [← e];exact k _ (kp1 _)
    refine ⟨hz,by decide,fun p2 hp2=>rInU.lst jc rfl (by decide) ⟨_,rfl,?_⟩⟩
    have kp2:=fun o=>(kp1 (.lst (NN.map V.str))).new (o:=o) hp2
    simp only [if_true,inV3]
    refine ite2 (fun h4=>?_) (fun h4=>?_)
    · have e:isNm z=false:=by
        have h5:(decide ((z.length:Int) < 1) || decide (3 < (z.length:Int)))=true:=by simpa using h4
        simp [isNm,h5]
      rw [← e];exact k _ (kp2 _)
    have e:isNm z=z.cps.toList.all azB:=by
      simp at h4
      simp [isNm,h3,h4]
    intro D hD
    refine comp_str (fun c=>.bl (azB c)) hz (fun c _ l Q' hq=>?_) fun v=>?_
    · simp! [hasS_one,abc_mem]
      exact hq
    · refine ⟨z.cps.toList.map azB,by rw [jc,List.map_map];rfl,?_⟩
      rw [List.all_map]
      exact e ▸ k _ ((kp2 _).new hD)
end
def lw (z:Str):Prop:=∀ c ∈ z.cps.toList,c < 1000
theorem lw.app {x y:Str} (h1:lw x) (h2:lw y):lw (x++y):=fun c hc=>by
  rw [Str.cps_append] at hc
  rcases List.mem_append.mp (by simpa using hc:c ∈ x.cps.toList++y.cps.toList) with h | h
  · exact h1 c h
  · exact h2 c h
theorem lw.cut {x:Str} (h:lw x) (lo hi:Option Int):lw (cutS x lo hi):=fun c hc=>h c (List.mem_of_mem_drop (List.mem_of_mem_take (by simpa [cutS] using hc)))
theorem lw.one {c:Nat} (h:c < 1000):lw ⟨#[c]⟩:=fun d hd=>by
  have:d=c:=by simpa using hd
  rw [this];exact h
def At (v:V):Prop:=(∃ z:Str,v=.str z/\z.length<=100/\lw z)∨∃ i:Int,v=.int i
structure RowO (xs:List V):Prop where
  len:xs.length<=20
  at_:∀ v ∈ xs,At v
  hd:xs=[]∨∃ z r,xs=.str z::r
def frm (w:Str):Option (List Str):=if w="yes" then some [] else if w="is" then some ["name","letter"] else if w="ahead" then some ["name","name"] else if w="not" then some ["row"] else if w="and" then some ["row","row"] else if w="or" then some ["row","row"] else if w="some" then some ["name","row"] else if w="each" then some ["name","row"] else none
def isNmV:V->Bool
  | .str x=>isNm x
  | _=>false
def isLet (z:Str):V->Bool
  | .str x=>decide (x.length=1) && hasS z x
  | _=>false
def isRow (n:Int):V->Bool
  | .int i=>decide (0<=i) && decide (i < n)
  | _=>false
def fitsB (z:Str) (n:Int) (k:Str) (v:V):Bool:=if k=Str.ofString "row" then isRow n v else if k=Str.ofString "letter" then isLet z v else isNmV v
def goodB (z:Str) (n:Int):List V->Bool
  | .str w::rest=>match frm w with
    | none=>false
    | some ks=>decide (rest.length=ks.length) && ((ks.zip rest).all fun p=>fitsB z n p.1 p.2)
  | _=>false
def spRA:Sp:=fun vs H Q _=>∃ (v:V) (n:Int),vs=[v,.int n]/\At v/\Q (.bl (isRow n v)) H
def spOL:Sp:=fun vs H Q _=>∃ (v:V) (z:Str),vs=[v,.str z]/\At v/\z.length<=100/\Q (.bl (isLet z v)) H
structure TRA (K:PySem.W.Frag) (mg:Str->Option Value):Prop where
  n_isinstance:mg "isinstance"=none
  n_int:mg "int"=none
  n_bool:mg "bool"=none
  n_str:mg "str"=none
  n_len:mg "len"=none
  ii:PySem.W.kitOne K (.type "int") (.type "int")=some true
  si:PySem.W.kitOne K (.type "str") (.type "int")=some false
  ib:PySem.W.kitOne K (.type "int") (.type "bool")=some false
  ss:PySem.W.kitOne K (.type "str") (.type "str")=some true
  is:PySem.W.kitOne K (.type "int") (.type "str")=some false
def spF (g:Str->V->Bool) (R:Hp->Prop):Sp:=fun vs H Q _=>∃ k v,vs=[.str k,v]/\R H/\At v/\∀ H',Kp [] H H'->Q (.bl (g k v)) H'
structure Lf (P:Program) (w:World) (K:PySem.W.Frag) (mg:Str->Option Value) (base:Heap) (fp:Addr) (o:Obj) (fd:FuncData) (psp:List Str) (g:Str->V->Bool) (R:Hp->Prop):Prop where
  dat:o.data=.func fd
  fn:FnOk P w K mg base CX0 3 fp fd psp (spF g R)
  bi:Binds K fd psp []
  at_:∀ H,R H->H fp=some (FZ o)
  kr:∀ H H',Kp [] H H'->R H->R H'
def spHF (P:Program) (w:World) (K:PySem.W.Frag) (mg:Str->Option Value) (base:Heap):Sp:=fun vs H Q _=>∃ (r fo fp:Addr) (o:Obj) (fd:FuncData) (psp:List Str) (g:Str->V->Bool) (R:Hp->Prop) (x:V) (rest:List V) (ks:List Str),Lf P w K mg base fp o fd psp g R/\R H/\vs=[.ref r,.ref fo,.ref fp]/\H r=some (.tup (x::rest))/\(∀ v ∈ rest,At v)/\rest.length<=20/\SqT K H fo (ks.map V.str)/\ks.length<=2 /\
  ∀ H',Kp [] H H'->Q (.bl (decide (rest.length=ks.length) && ((ks.zip rest).all fun p=>g p.1 p.2))) H'
structure THF (mg:Str->Option Value):Prop where
  n_len:mg "len"=none
  n_all:mg "all"=none
  n_zip:mg "zip"=none
theorem _root_.L2.Kp.sqT {S:List Addr} {K:PySem.W.Frag} {H H':Hp} {a:Addr} {xs:List V} (e:Kp S H H') (n:a ∉ S) (h:SqT K H a xs):SqT K H' a xs:=by
  rcases h with (h | ⟨o,h⟩) | h
  · exact .inl (.inl (e.old _ _ h n))
  · exact .inl (.inr ⟨o,e.old _ _ h n⟩)
  · exact .inr h
section
variable {P:Program} {w:World} {K:PySem.W.Frag} {mg:Str->Option Value} {base:Heap}
abbrev y3:Stmt:=top 8
theorem sc_is_row_ahead:FnScope ["thing","at"] ["thing","at"] (jj y3):=⟨rfl,rfl,rfl,by decide +kernel,rfl,by decide +kernel,by decide +kernel⟩
theorem ok_is_row_ahead {f:Addr} {fd:FuncData} (F:Fun K "is_row_ahead" "is_row_ahead" y3 f fd) (T:TRA K mg):FnOk P w K mg base CX0 1 f fd ["thing","at"] spRA:=by
  refine F.ok sc_is_row_ahead (fun vs H Q E h=>?_) (fun cdv A outer s H vs Q E hr h=>?_)
  · obtain ⟨v,n,rfl,_⟩:=h
    rfl
  · obtain ⟨v,n,rfl,av,k⟩:=h
    have hu:=hr.units
    refine ⟨_,(QSs.h (ji (jr (z4 (jn (ke (K:=K) rfl) (by rfl) T.n_isinstance kh (ja (qpv 0) (ja (yu (v:=.ty "int") rfl T.n_int jar rfl) jb))) (z4 (jck (jn (ke (K:=K) rfl) (by rfl) T.n_isinstance kh (ja (qpv 0) (ja (yu (v:=.ty "bool") rfl T.n_bool jci rfl) jb)))) (jap (jbe jbj jao jd (qpv 0) (qpv 1)))))))),?_⟩
    simp!
    rcases av with ⟨x,rfl,_⟩ | ⟨i,rfl⟩
    · refine ⟨_,TyOf.str _,false,T.si,?_⟩
      exact k
    · refine ⟨_,TyOf.int _,true,T.ii,?_⟩
      rw [if_pos rfl]
      refine ⟨_,TyOf.int _,false,T.ib,?_⟩
      simp!
      replace k:Q (.bl (decide (0<=i) && decide (i < n))) H:=k
      refine ite2 (fun h=>?_) (fun h=>?_)
      · rw [decide_eq_true h,Bool.true_and] at k;exact k
      · rw [decide_eq_false h,Bool.false_and] at k;exact k
abbrev yr:Stmt:=top 9
theorem sc_is_one_letter:FnScope ["thing","letters"] ["thing","letters"] (jj yr):=⟨rfl,rfl,rfl,by decide +kernel,rfl,by decide +kernel,by decide +kernel⟩
theorem ok_is_one_letter {f:Addr} {fd:FuncData} (F:Fun K "is_one_letter" "is_one_letter" yr f fd) (T:TRA K mg):FnOk P w K mg base CX0 1 f fd ["thing","letters"] spOL:=by
  refine F.ok sc_is_one_letter (fun vs H Q E h=>?_) (fun cdv A outer s H vs Q E hr h=>?_)
  · obtain ⟨v,z,rfl,_⟩:=h
    rfl
  · obtain ⟨v,z,rfl,av,hz,k⟩:=h
    have hu:=hr.units
    have hsz:sizeLine=16777216:=PySem.sizeLine_eq
    refine ⟨_,(QSs.h (ji (jr (z4 (jn (ke (K:=K) rfl) (by rfl) T.n_isinstance kh (ja (qpv 0) (ja (yu (v:=.ty "str") rfl T.n_str jbo rfl) jb))) (z4 (zp (j8 hu) (jn jy (by rfl) T.n_len j9 (ja (qpv 0) jb)) jd (jv _)) (jap (zp (jam (K:=K) rfl) (qpv 0) (qpv 1) (by with_unfolding_all rfl)))))))),?_⟩
    simp!
    rcases av with ⟨x,rfl,hx,_⟩ | ⟨i,rfl⟩
    · refine ⟨_,TyOf.str _,true,T.ss,?_⟩
      rw [if_pos rfl]
      simp!
      replace k:Q (.bl (decide (x.length=1) && hasS z x)) H:=k
      refine ⟨by omega,ite2 (fun h=>?_) (fun h=>?_)⟩
      · rw [decide_eq_true (show x.length=1 by omega),Bool.true_and] at k;exact k
      · rw [decide_eq_false (show ¬ x.length=1 by omega),Bool.false_and] at k;exact k
    · refine ⟨_,TyOf.int _,false,T.is,?_⟩
      exact k
def spFits:Sp:=fun vs H Q _=>∃ (z:Str) (n:Int) (k:Str) (v:V),vs=[.str z,.int n,.str k,v]/\At v/\z.length<=100/\∀ H',Kp [] H H'->Q (.bl (fitsB z n k v)) H'
structure TFi (mg:Str->Option Value) (fa fo fn:Addr):Prop where
  n_isinstance:mg "isinstance"=none
  n_str:mg "str"=none
  m18z:mg "is_row_ahead"=some (.ref fa)
  m27z:mg "is_one_letter"=some (.ref fo)
  m4z:mg "is_name"=some (.ref fn)
abbrev jaz:Stmt:=top 19
theorem sc_fits:FnScope ["letters","at","kind","thing"] ["letters","at","kind","thing"] (jj jaz):=⟨rfl,rfl,rfl,by decide +kernel,rfl,by decide +kernel,by decide +kernel⟩
theorem ok_fits {f fa fo fn:Addr} {fd fda fdo fdn:FuncData} (F:Fun K "fits" "fits" jaz f fd) (T:TFi mg fa fo fn) (TR:TRA K mg)
    (F18z:Fun K "is_row_ahead" "is_row_ahead" y3 fa fda) (b18z:Binds K fda ["thing","at"] []) (G18z:FnOk P w K mg base CX0 1 fa fda ["thing","at"] spRA)
    (F27z:Fun K "is_one_letter" "is_one_letter" yr fo fdo) (b27z:Binds K fdo ["thing","letters"] []) (G27z:FnOk P w K mg base CX0 1 fo fdo ["thing","letters"] spOL)
    (F4z:Fun K "is_name" "is_name" zy fn fdn) (b4z:Binds K fdn ["text"] []) (G4z:FnOk P w K mg base CX0 1 fn fdn ["text"] spNm):FnOk P w K mg base CX0 2 f fd ["letters","at","kind","thing"] spFits:=by
  refine F.ok sc_fits (fun vs H Q E h=>?_) (fun cdv A outer s H vs Q E hr h=>?_)
  · obtain ⟨z,n,kd,v,rfl,_⟩:=h
    rfl
  · obtain ⟨z,n,kd,v,rfl,av,hz,k⟩:=h
    have hu:=hr.units
    have hsz:sizeLine=16777216:=PySem.sizeLine_eq
    refine ⟨_,(QSs.h (jf (jw (jo (j8 hu) (qpv 2) jg (jv _)) (ji (jr (jl G18z (hr.mono (by decide)) rfl T.m18z F18z.kp b18z .nil jt (ja (qpv 3) (ja (qpv 1) jb))))) ju)
    (jf (jw (jo (j8 hu) (qpv 2) jg (jv _)) (ji (jr (jl G27z (hr.mono (by decide)) rfl T.m27z F27z.kp b27z .nil jt (ja (qpv 3) (ja (qpv 0) jb))))) ju)
    (ji (jr (z4 (jn (ke (K:=K) rfl) (by rfl) T.n_isinstance kh (ja (qpv 3) (ja (yu (v:=.ty "str") rfl T.n_str jbo rfl) jb))) (jap (jl G4z (hr.mono (by decide)) rfl T.m4z F4z.kp b4z .nil jt (ja (qpv 3) jb))))))))),?_⟩
    simp!
    unfold fitsB at k
    refine ite2 (fun h=>?_) (fun h=>ite2 (fun h'=>?_) (fun h'=>?_))
    · rw [if_pos h] at k
      exact ⟨v,n,rfl,av,k H (Kp.refl [] H)⟩
    · rw [if_neg h,if_pos h'] at k
      exact ⟨v,z,rfl,av,hz,k H (Kp.refl [] H)⟩
    · rw [if_neg h,if_neg h'] at k
      rcases av with ⟨x,rfl,hx,_⟩ | ⟨i,rfl⟩
      · refine ⟨_,TyOf.str _,true,TR.ss,?_⟩
        rw [if_pos rfl]
        exact ⟨x,rfl,by omega,k⟩
      · refine ⟨_,TyOf.int _,false,TR.is,?_⟩
        exact k H (Kp.refl [] H)
def kdW (w:Str):Str:=if w="p" then "row" else if w="l" then "letter" else "name"
def spTF:Sp:=fun vs H Q _=>∃ (z:Str) (n:Int) (wt:Str) (v:V),vs=[.str z,.str wt,v,.int n]/\At v/\z.length<=100/\∀ H',Kp [] H H'->Q (.bl (fitsB z n (kdW wt) v)) H'
structure TTF (mg:Str->Option Value) (fn:Addr):Prop where
  n_isinstance:mg "isinstance"=none
  n_str:mg "str"=none
  n_int:mg "int"=none
  n_len:mg "len"=none
  m29z:mg "_law_is_name"=some (.ref fn)
theorem fB_p {z:Str} {n:Int} {w:Str} {v:V} (h:w=Str.ofString "p"):fitsB z n (kdW w) v=isRow n v:=by
  subst h;rfl
theorem fB_l {z:Str} {n:Int} {w:Str} {v:V} (h:w=Str.ofString "l"):fitsB z n (kdW w) v=isLet z v:=by
  subst h;rfl
theorem fB_n {z:Str} {n:Int} {w:Str} {v:V} (h1:¬ w=Str.ofString "p") (h2:¬ w=Str.ofString "l"):fitsB z n (kdW w) v=isNmV v:=by
  unfold kdW
  rw [if_neg h1,if_neg h2];rfl
abbrev yf:Stmt:=top 35
theorem sc__law_thing_fits:FnScope ["_law_letters_here","_law_want","_law_thing","_law_at"] ["_law_letters_here","_law_want","_law_thing","_law_at"] (jj yf):=⟨rfl,rfl,rfl,by decide +kernel,rfl,by decide +kernel,by decide +kernel⟩
theorem ok__law_thing_fits {f fn:Addr} {fd fdn:FuncData} (F:Fun K "_law_thing_fits" "_law_thing_fits" yf f fd) (T:TTF mg fn) (TR:TRA K mg)
    (F29z:Fun K "_law_is_name" "_law_is_name" ym fn fdn) (b29z:Binds K fdn ["_law_text"] []) (G29z:FnOk P w K mg base CX0 1 fn fdn ["_law_text"] spNm):FnOk P w K mg base CX0 2 f fd ["_law_letters_here","_law_want","_law_thing","_law_at"] spTF:=by
  refine F.ok sc__law_thing_fits (fun vs H Q E h=>?_) (fun cdv A outer s H vs Q E hr h=>?_)
  · obtain ⟨z,n,wt,v,rfl,_⟩:=h
    rfl
  · obtain ⟨z,n,wt,v,rfl,av,hz,k⟩:=h
    have hu:=hr.units
    have hsz:sizeLine=16777216:=PySem.sizeLine_eq
    refine ⟨_,(QSs.h (jf (jw (jo (j8 hu) (qpv 1) jg (jv _)) (ji (jr (z4 (jn (ke (K:=K) rfl) (by rfl) T.n_isinstance kh (ja (qpv 2) (ja (yu (v:=.ty "int") rfl T.n_int jar rfl) jb))) (jap (jbe jbj jao jd (qpv 2) (qpv 3)))))) ju)
    (jf (jw (ja5 (z5 (jn (ke (K:=K) rfl) (by rfl) T.n_isinstance kh (ja (qpv 2) (ja (yu (v:=.ty "str") rfl T.n_str jbo rfl) jb))))) (ji (jr jal)) ju)
    (jf (jw (jo (j8 hu) (qpv 1) jg (jv _)) (ji (jr (z4 (zp (j8 hu) (jn jy (by rfl) T.n_len j9 (ja (qpv 2) jb)) jd (jv _)) (jap (zp (jam (K:=K) rfl) (qpv 2) (qpv 0) (by with_unfolding_all rfl)))))) ju)
    (ji (jr (jl G29z (hr.mono (by decide)) rfl T.m29z F29z.kp b29z .nil jt (ja (qpv 2) jb)))))))),?_⟩
    simp!
    have k0:=k H (Kp.refl [] H)
    refine ite2 (fun h=>?_) (fun h=>?_)
    · rw [fB_p h] at k0
      rcases av with ⟨x,rfl,hx,_⟩ | ⟨i,rfl⟩
      · refine ⟨_,TyOf.str _,false,TR.si,?_⟩
        exact k0
      · refine ⟨_,TyOf.int _,true,TR.ii,?_⟩
        rw [if_pos rfl]
        replace k0:Q (.bl (decide (0<=i) && decide (i < n))) H:=k0
        simp!
        refine ite2 (fun h=>?_) (fun h=>?_)
        · rw [decide_eq_true h,Bool.true_and] at k0;exact k0
        · rw [decide_eq_false h,Bool.false_and] at k0;exact k0
    · rcases av with ⟨x,rfl,hx,_⟩ | ⟨i,rfl⟩
      · refine ⟨_,TyOf.str _,true,TR.ss,?_⟩
        rw [if_neg (by simp)]
        refine ite2 (fun h'=>?_) (fun h'=>?_)
        · rw [fB_l h'] at k0
          simp!
          replace k0:Q (.bl (decide (x.length=1) && hasS z x)) H:=k0
          refine ⟨by omega,ite2 (fun h=>?_) (fun h=>?_)⟩
          · rw [decide_eq_true (show x.length=1 by omega),Bool.true_and] at k0;exact k0
          · rw [decide_eq_false (show ¬ x.length=1 by omega),Bool.false_and] at k0;exact k0
        · exact ⟨x,rfl,by omega,fun H' kk=>by have:=k H' kk;rw [fB_n h h'] at this;exact this⟩
      · refine ⟨_,TyOf.int _,false,TR.is,?_⟩
        rw [if_pos (show (!false)=true from rfl)]
        by_cases h':wt=Str.ofString "l"
        · rw [fB_l h'] at k0;exact k0
        · rw [fB_n h h'] at k0;exact k0
abbrev zo:Stmt:=top 7
theorem sc_has_form:FnScope ["row","form","fits"] ["row","form","fits"] (jj zo):=⟨rfl,rfl,rfl,by decide +kernel,rfl,by decide +kernel,by decide +kernel⟩
theorem ok_has_form {f:Addr} {fd:FuncData} (F:Fun K "has_form" "has_form" zo f fd) (T:THF mg):FnOk P w K mg base CX0 4 f fd ["row","form","fits"] (spHF P w K mg base):=by
  refine F.ok sc_has_form (fun vs H Q E h=>?_) (fun cdv A outer s H vs Q E hr h=>?_)
  · obtain ⟨r,fo,fp,o,fd',psp,g,R,x,rest,ks,L,hR,rfl,_⟩:=h
    rfl
  · obtain ⟨r,fo,fp,o,fd',psp,g,R,x,rest,ks,L,hR,rfl,hr0,ar,lr,hfo,lk,k⟩:=h
    have hu:=hr.units
    have hsz:sizeLine=16777216:=PySem.sizeLine_eq
    refine ⟨_,(QSs.h (jf (jw (jo (jbp hu) (jn jy (by rfl) T.n_len j9 (ja (qpv 0) jb)) (jp j6 jd (jn zv (by rfl) T.n_len j9 (ja (qpv 1) jb))) (jv _)) (ji (jr jal)) ju)
    (ji (jr (jn (ja4 rfl) (by rfl) T.n_all jbm (ja (ja0 rfl (compOk_of (sc:=jj zo) (N:=["row","form","fits"]) (Nc:=["kind","thing","fits"]) (js:=[none,none,some 2]) (by decide +kernel)) (qpi_zipK (K:=K) rfl rfl T.n_zip (ja (qpv 1) (ja (ku (jaw (K:=K) rfl) (qpv 0) (ya jd) kz) jb))) (fun _ _ _ _=>(jbr (n:=2) rfl (jak (kj (i:=0) (show List.Nodup [("kind":Str),("thing":Str),("fits":Str)] from by decide +kernel) rfl (by first | exact Or.inl rfl | exact Or.inr rfl)) (jak (kj (i:=1) (show List.Nodup [("kind":Str),("thing":Str),("fits":Str)] from by decide +kernel) rfl (by first | exact Or.inl rfl | exact Or.inr rfl)) jbg)) (K:=K) rfl)) (fun _ _ _ _=>(qpe_callD (P:=P) (w:=w) (K:=K) (mg:=mg) (base:=base) (k:=3) rfl rfl rfl rfl rfl 2 (hr.mono (by decide)) (ja (qpv 0) (ja (qpv 1) jb))))) jb)))))),?_⟩
    simp! [hr0]
    refine ⟨_,.inr hfo,?_⟩
    rw [List.length_map]
    by_cases hl:rest.length=ks.length
    · rw [decide_eq_true hl,Bool.true_and] at k
      rw [if_neg (by simp;omega)]
      refine rSlV.tup hr0 fun p1 H1 h1 k1=>?_
      have e0:cutV (x::rest) (some 1) none=rest:=by
        unfold cutV
        simp [HT.sIx]
      rw [e0] at h1
      refine ⟨fo,p1,⟨rfl,rfl⟩,_,k1.sqT (by simp) hfo,_,SqT.of h1,fun D hD=>?_⟩
      refine loop_ZK (xs:=ks.map V.str) (ys:=rest) (fun i σ H'=>∃ (v0 v1:Option V),σ=[v0,v1,some (.ref fp)]/\Kp [] H1 H'/\H' D=some (.lst (((ks.zip rest).take i).map fun p=>.bl (g p.1 p.2)))) ⟨none,none,rfl,(Kp.refl [] H1).new hD,jc⟩ (by rw [List.length_map];exact hl) ?_ ?_ ?_
      · rintro i σ H2 _ ⟨v0,v1,rfl,k2,_⟩
        exact ⟨(k1.trans k2).sqT (by simp) hfo,SqT.of (k2.tup _ _ h1)⟩
      · rintro i a y σ H2 T2 ha hy ⟨v0,v1,rfl,k2,hD2⟩ hT2
        rw [List.getElem?_map] at ha
        obtain ⟨kd,hkd,rfl⟩:=Option.map_eq_some_iff.mp ha
        refine ⟨T2,[_,_],rfl,SqT.of jc,rfl,?_⟩
        refine ⟨_,_,rfl,_,_,rfl,rfl,?_⟩
        have k3:Kp [] H1 (upd H2 T2 (.tup [V.str kd,y])):=k2.new hT2
        have hD3:upd H2 T2 (.tup [V.str kd,y]) D=some (.lst (((ks.zip rest).take i).map fun p=>.bl (g p.1 p.2))):=by rw [je (jh hD2 hT2)];exact hD2
        have hR3:=L.kr _ _ (k1.trans k3) hR
        refine ⟨fp,o,fd',psp,spF g R,rfl,L.dat,L.fn,L.bi,?_⟩
        simp!
        refine ⟨L.at_ _ hR3,kd,y,rfl,hR3,ar y (List.mem_of_getElem? hy),fun H4 k4=>?_⟩
        have hD4:=k4.old _ _ hD3 (by simp)
        have lz:(((ks.zip rest).take i).map fun p=>V.bl (g p.1 p.2)).length<=2:=by rw [List.length_map,List.length_take,List.length_zip];omega
        refine ⟨_,by rw [hD4];rfl,by omega,_,_,⟨rfl,rfl⟩,(k3.trans k4).set hD4 (.inr hD),?_⟩
        rw [List.take_succ,zip_get hkd hy]
        simp
      · rintro σ H2 ⟨v0,v1,rfl,k2,hD2⟩
        rw [List.length_map,List.take_of_length_le (by rw [List.length_zip];omega)] at hD2
        refine ⟨(ks.zip rest).map fun p=>g p.1 p.2,by rw [hD2,List.map_map];rfl,?_⟩
        have:=k H2 (k1.trans k2)
        rw [show (List.map (fun p:Str × V=>g p.1 p.2) (ks.zip rest)).all id=(ks.zip rest).all fun p=>g p.1 p.2 from by rw [List.all_map];rfl]
        exact this
    · rw [decide_eq_false hl,Bool.false_and] at k
      rw [if_pos (by simp;omega)]
      exact k H (Kp.refl [] H)
end
abbrev LQ:Str:="is_saying_row"++".<locals>."++"<lambda>"
def KF (a0 a1 a2 a3 a4 a5 a6 a7:Addr):List (Key × V):=[(.inr "yes",.ref a0),(.inr "is",.ref a1),(.inr "ahead",.ref a2),(.inr "not",.ref a3),(.inr "and",.ref a4),(.inr "or",.ref a5),(.inr "some",.ref a6),(.inr "each",.ref a7)]
structure TIE (P:Program) (w:World) (K:PySem.W.Frag) (mg:Str->Option Value) (base:Heap) (af a0 a1 a2 a3 a4 a5 a6 a7 fh ff c Pt:Addr) (pm:Value):Prop where
  n_len:mg "len"=none
  m_FORMS:mg "FORMS"=some (.ref af)
  m15z:mg "has_form"=some (.ref fh)
  m1z:mg "fits"=some (.ref ff)
  kf:KDict P w K af (KF a0 a1 a2 a3 a4 a5 a6 a7)
  ns:(af == sysModules)=false
  s0:∀ H,SqT K H a0 []
  s1:∀ H,SqT K H a1 [.str "name",.str "letter"]
  s2:∀ H,SqT K H a2 [.str "name",.str "name"]
  s3:∀ H,SqT K H a3 [.str "row"]
  s4:∀ H,SqT K H a4 [.str "row",.str "row"]
  s5:∀ H,SqT K H a5 [.str "row",.str "row"]
  s6:∀ H,SqT K H a6 [.str "name",.str "row"]
  s7:∀ H,SqT K H a7 [.str "name",.str "row"]
  pm:(mg "__name__").getD .none=pm
  hd:PySem.W.CodeHd base c Pt
  bl:base.BuiltinsAt mg Pt
def spIE (Pt:Addr):Sp:=fun vs H Q _=>∃ (z:Str) (r:Addr) (xs:List V) (n:Int),vs=[.str z,.ref r,.int n]/\H r=some (.tup xs)/\RowO xs/\z.length<=100/\TabOk H Pt LQ/\∀ H',Kp [Pt] H H'->TabOk H' Pt LQ->Q (.bl (goodB z n xs)) H'
theorem goodB_none {z w:Str} {n:Int} {rest:List V} (h:frm w=none):goodB z n (.str w::rest)=false:=by simp only [goodB,h]
theorem goodB_some {z w:Str} {n:Int} {rest:List V} {ks:List Str} (h:frm w=some ks):goodB z n (.str w::rest)=(decide (rest.length=ks.length) && ((ks.zip rest).all fun p=>fitsB z n p.1 p.2)):=by simp only [goodB,h]
theorem kf_at {a0 a1 a2 a3 a4 a5 a6 a7:Addr} {K:PySem.W.Frag} (s0:∀ H,SqT K H a0 []) (s1:∀ H,SqT K H a1 [.str "name",.str "letter"]) (s2:∀ H,SqT K H a2 [.str "name",.str "name"]) (s3:∀ H,SqT K H a3 [.str "row"]) (s4:∀ H,SqT K H a4 [.str "row",.str "row"]) (s5:∀ H,SqT K H a5 [.str "row",.str "row"]) (s6:∀ H,SqT K H a6 [.str "name",.str "row"]) (s7:∀ H,SqT K H a7 [.str "name",.str "row"]) (w:Str) :
    (frm w=none/\valV (KF a0 a1 a2 a3 a4 a5 a6 a7) (.inr w)=none)∨∃ ks a,frm w=some ks/\ks.length<=2/\valV (KF a0 a1 a2 a3 a4 a5 a6 a7) (.inr w)=some (.ref a)/\∀ H,SqT K H a (ks.map V.str):=by
  unfold frm
  by_cases h0:w="yes"
  · subst h0;exact .inr ⟨[],a0,if_pos rfl,by simp,rfl,s0⟩
  by_cases h1:w="is"
  · subst h1;exact .inr ⟨["name","letter"],a1,rfl,by simp,rfl,s1⟩
  by_cases h2:w="ahead"
  · subst h2;exact .inr ⟨["name","name"],a2,rfl,by simp,rfl,s2⟩
  by_cases h3:w="not"
  · subst h3;exact .inr ⟨["row"],a3,rfl,by simp,rfl,s3⟩
  by_cases h4:w="and"
  · subst h4;exact .inr ⟨["row","row"],a4,rfl,by simp,rfl,s4⟩
  by_cases h5:w="or"
  · subst h5;exact .inr ⟨["row","row"],a5,rfl,by simp,rfl,s5⟩
  by_cases h6:w="some"
  · subst h6;exact .inr ⟨["name","row"],a6,rfl,by simp,rfl,s6⟩
  by_cases h7:w="each"
  · subst h7;exact .inr ⟨["name","row"],a7,rfl,by simp,rfl,s7⟩
  refine .inl ⟨by rw [if_neg h0,if_neg h1,if_neg h2,if_neg h3,if_neg h4,if_neg h5,if_neg h6,if_neg h7],?_⟩
  have ne:∀ {x:Str},¬ w=x->¬ (Sum.inr x:Key)=Sum.inr w:=fun h e=>h (Sum.inr.inj e).symm
  simp [KF,valV,ne h0,ne h1,ne h2,ne h3,ne h4,ne h5,ne h6,ne h7]
section
variable {P:Program} {w:World} {K:PySem.W.Frag} {mg:Str->Option Value} {base:Heap}
abbrev yg:Stmt:=top 18
theorem sc_is_saying_row:FnScope ["letters","row","at"] ["letters","row","at"] (jj yg):=⟨rfl,rfl,rfl,by decide +kernel,rfl,by decide +kernel,by decide +kernel⟩
def lamE:Expr:=match jx yg with
  | [_,.Return (some (.Call _ [_,_,l] _ _)) _]=>l
  | _=>.Name "" ⟨0,0,0,0⟩
def lamA:Arguments:=match lamE with
  | .Lambda a _ _ _=>a
  | _=>jz (.Pass ⟨0,0,0,0⟩)
def lamB:Expr:=match lamE with
  | .Lambda _ b _ _=>b
  | _=>.Name "" ⟨0,0,0,0⟩
def lamS:Scope:=match lamE with
  | .Lambda _ _ c _=>c
  | _=>jj (.Pass ⟨0,0,0,0⟩)
theorem lamSc:LamScope ["kind","thing"] ["at","letters"] lamS:=⟨rfl,rfl,rfl,by decide +kernel,by decide +kernel,by decide +kernel,by decide +kernel,fun x h=>by
  have hn:lamS.names=[(Str.ofString "kind",.local),(Str.ofString "thing",.local),(Str.ofString "at",.free),(Str.ofString "letters",.free),(Str.ofString "fits",.globalImplicit)]:=rfl
  rw [hn] at h
  by_cases h1:x=Str.ofString "at"
  · rw [h1];exact .head _
  by_cases h2:x=Str.ofString "letters"
  · rw [h2];exact .tail _ (.head _)
  have b1:(x == Str.ofString "at")=false:=by simpa using h1
  have b2:(x == Str.ofString "letters")=false:=by simpa using h2
  simp only [List.lookup_cons,List.lookup_nil,b1,b2] at h
  repeat (split at h <;> try (cases h))⟩
theorem us2 {C:List Value->Prop} (h:∀ u v:Value,C [u,v]) (us:List Value) (e:us.length=2):C us :=
  match us,e with | [u,v],_=>h u v
theorem ok_is_saying_row {f af a0 a1 a2 a3 a4 a5 a6 a7 fh ff c Pt:Addr} {fd fdh fdf:FuncData} {pm:Value} (F:Fun K "is_saying_row" "is_saying_row" yg f fd) (T:TIE P w K mg base af a0 a1 a2 a3 a4 a5 a6 a7 fh ff c Pt pm) (hcd:fd.code=.ref c)
    (F15z:Fun K "has_form" "has_form" zo fh fdh) (b15z:Binds K fdh ["row","form","fits"] []) (G15z:FnOk P w K mg base CX0 4 fh fdh ["row","form","fits"] (spHF P w K mg base))
    (F1z:Fun K "fits" "fits" jaz ff fdf) (b1z:Binds K fdf ["letters","at","kind","thing"] []) (G1z:FnOk P w K mg base CX0 2 ff fdf ["letters","at","kind","thing"] spFits):FnOk P w K mg base CX0 5 f fd ["letters","row","at"] (spIE Pt):=by
  refine F.okC sc_is_saying_row (fun vs H Q E h=>?_) (fun A outer s H vs Q E hr h=>?_)
  · obtain ⟨z,r,xs,n,rfl,_⟩:=h
    rfl
  · obtain ⟨z,r,xs,n,rfl,hr0,ro,hz,tb,k⟩:=h
    have hu:=hr.units
    refine ⟨_,(QSs.h (jf (jw (QW.pt (z7 (jo (j8 hu) (jn jy (by rfl) T.n_len j9 (ja (qpv 1) jb)) jd (jv _)) (jaa (jce (qpc_dnotinK (P:=P) (w:=w) (K:=K) rfl rfl rfl (jq ix_U (qpv 1) jd (fun _ _=>rfl)) (z0 (v:=.ref _) rfl T.m_FORMS rfl)) (by with_unfolding_all rfl))))) (ji (jr jal)) ju)
    (ji (jr (qpe_callC [(0,s.heap.objs.size+1),(2,s.heap.objs.size+2)] (by intro j hj;simp only [List.mem_cons,List.not_mem_nil,or_false] at hj;rcases hj with rfl | rfl <;> exact ⟨_,rfl,rfl,rfl,rfl⟩) G15z (hr.mono (by decide)) rfl T.m15z F15z.kp b15z (ja (qpv 1) (ja (qpe_dgetK (P:=P) (w:=w) (K:=K) rfl rfl rfl (z0 (v:=.ref _) rfl T.m_FORMS rfl) (jq ix_U (qpv 1) jd (fun _ _=>rfl)) (fun _ _=>rfl)) (ja (qpe_lambda (Pt:=Pt) rfl T.pm hcd T.hd T.bl) jb)))))))),?_⟩
    simp! [hr0]
    rcases ro.hd with rfl | ⟨wd,rest,rfl⟩
    · rw [if_pos (show (([]:List V).length:Int)=0 from rfl)]
      exact k H (Kp.refl _ _) tb
    rw [if_neg (show ¬ ((V.str wd::rest).length:Int)=0 by simp;omega)]
    have hat:atI (V.str wd::rest) 0=some (.str wd):=atI_of (by decide) rfl
    refine ⟨_,hat,_,T.kf,T.ns,.inr wd,rfl,?_⟩
    have ka:∀ v ∈ rest,At v:=fun v hv=>ro.at_ v (.tail _ hv)
    have lr:rest.length<=20:=by have:=ro.len;simp at this;omega
    rcases kf_at T.s0 T.s1 T.s2 T.s3 T.s4 T.s5 T.s6 T.s7 wd with ⟨hf,hv⟩ | ⟨ks,ak,hf,lk,hv,hq⟩
    · rw [hv,if_pos (show (!(none:Option V).isSome)=true from rfl)]
      have:=k H (Kp.refl _ _) tb
      rw [goodB_none hf] at this
      exact this
    rw [hv,if_neg (by simp)]
    have k:∀ H',Kp [Pt] H H'->TabOk H' Pt LQ->Q (.bl (decide (rest.length=ks.length) && ((ks.zip rest).all fun p=>fitsB z n p.1 p.2))) H':=fun H' h1 h2=>by
      have:=k H' h1 h2
      rw [goodB_some hf] at this
      exact this
    refine ⟨_,hat,_,T.kf,.inr wd,rfl,_,hv,tb,fun fl c' ct H1 hfl k1 e1 cz tb1=>?_⟩
    refine ⟨fun j hj=>?_,fun cs hcs=>?_⟩
    · simp only [List.mem_cons,List.not_mem_nil,or_false] at hj
      rcases hj with rfl | rfl <;> exact ⟨_,rfl⟩
    obtain ⟨o1,o2,rfl,hn1,hn2,u1,u2,ho1,ru1,ho2,ru2⟩:∃ o1 o2,cs=[(s.heap.objs.size+1,o1),(s.heap.objs.size+2,o2)]/\H1 (s.heap.objs.size+1)=none/\H1 (s.heap.objs.size+2)=none/\∃ u1 u2,o1.data=.cell (some u1)/\RelV (.str z) u1/\o2.data=.cell (some u2)/\RelV (.int n) u2:=by
      cases hcs with
      | cons h t =>
        cases t with
        | cons h' t' =>
          cases t'
          rename_i p p'
          obtain ⟨c1,o1⟩:=p
          obtain ⟨c2,o2⟩:=p'
          obtain ⟨e1,e2,v,u,e3,e4,e5⟩:=h
          obtain ⟨d1,d2,v',u',d3,d4,d5⟩:=h'
          cases (Option.some.inj (Option.some.inj e3))
          cases (Option.some.inj (Option.some.inj d3))
          cases (show c1=s.heap.objs.size+1 from e1)
          cases (show c2=s.heap.objs.size+2 from d1)
          exact ⟨o1,o2,rfl,e2,d2,u,u',e4,e5,d4,d5⟩
    have e1':H1 fl=some (FZ (PySem.W.kla_obj "<lambda>" LQ lamA lamB lamS [("letters",s.heap.objs.size+1),("at",s.heap.objs.size+2)] pm c' ct)):=e1
    generalize hN1:s.heap.objs.size+1=n1 at e1' hn1
    generalize hN2:s.heap.objs.size+2=n2 at e1' hn2
    have n12:n1≠n2:=by omega
    have lk1:([(n1,o1),(n2,o2)]:List (Addr × Obj)).lookup n1=some o1:=by simp [List.lookup]
    have lk2:([(n1,o1),(n2,o2)]:List (Addr × Obj)).lookup n2=some o2:=by
      rw [List.lookup_cons]
      have:(n2 == n1)=false:=by simpa using n12.symm
      rw [this];simp [List.lookup]
    have lkb:∀ b,b≠n1->b≠n2->([(n1,o1),(n2,o2)]:List (Addr × Obj)).lookup b=none:=fun b h h'=>by
      rw [List.lookup_cons]
      have:(b == n1)=false:=by simpa using h
      rw [this,List.lookup_cons]
      have:(b == n2)=false:=by simpa using h'
      rw [this];rfl
    have sh:∀ b v,H1 b=some v->showC H1 [(n1,o1),(n2,o2)] b=some v:=fun b v e=>by rw [showC_out (lkb b (jh e hn1) (jh e hn2))];exact e
    have kS:Kp [] H1 (showC H1 [(n1,o1),(n2,o2)]):=⟨fun b v e _=>sh b v e,fun b xs e=>sh b _ e,fun b v e=>⟨v,sh b v e⟩⟩
    have en1:showC H1 [(n1,o1),(n2,o2)] n1=some (FZ o1):=showC_in lk1
    have en2:showC H1 [(n1,o1),(n2,o2)] n2=some (FZ o2):=showC_in lk2
    have cb:([("letters",n1),("at",n2)]:List (Str × Addr)).lookup (Str.ofString "letters")=some n1:=rfl
    have ca:([("letters",n1),("at",n2)]:List (Str × Addr)).lookup (Str.ofString "at")=some n2:=by
      rw [List.lookup_cons]
      have:((Str.ofString "at") == (Str.ofString "letters"))=false:=by decide +kernel
      rw [this];simp [List.lookup]
    have cap:Caps (showC H1 [(n1,o1),(n2,o2)]) [("letters",n1),("at",n2)] ["at","letters"] [.int n,.str z]:=by
      refine ⟨rfl,fun i x v q1 q2=>?_,fun x hx=>?_,fun p hp=>?_,fun x y c q1 q2=>?_⟩
      · match i with
        | 0=>cases q1;cases q2;exact ⟨n2,o2,u2,ca,en2,ho2,ru2⟩
        | 1=>cases q1;cases q2;exact ⟨n1,o1,u1,cb,en1,ho1,ru1⟩
        | i+2=>simp at q1
      · simp only [List.mem_cons,List.not_mem_nil,or_false] at hx
        rcases hx with rfl | rfl
        · exact ⟨n2,ca⟩
        · exact ⟨n1,cb⟩
      · simp only [List.mem_cons,List.not_mem_nil,or_false] at hp
        rcases hp with rfl | rfl
        · exact ⟨o1,some u1,en1,ho1⟩
        · exact ⟨o2,some u2,en2,ho2⟩
      · have look:∀ x c,([("letters",n1),("at",n2)]:List (Str × Addr)).lookup x=some c->(x=Str.ofString "letters"/\c=n1)∨(x=Str.ofString "at"/\c=n2):=fun x c q=>by
          rw [List.lookup_cons] at q
          split at q
          · rename_i h;exact .inl ⟨eq_of_beq h,(Option.some.inj q).symm⟩
          · rw [List.lookup_cons] at q
            split at q
            · rename_i h;exact .inr ⟨eq_of_beq h,(Option.some.inj q).symm⟩
            · cases q
        rcases look x c q1 with ⟨h1,h2⟩ | ⟨h1,h2⟩ <;> rcases look y c q2 with ⟨h3,h4⟩ | ⟨h3,h4⟩
        · rw [h1,h3]
        · exact absurd (h2.symm.trans h4) n12
        · exact absurd (h4.symm.trans h2) n12
        · rw [h1,h3]
    let R:Hp->Prop:=fun H=>H fl=some (FZ (PySem.W.kla_obj "<lambda>" LQ lamA lamB lamS [("letters",n1),("at",n2)] pm c' ct))/\CodeZ H c' LQ/\Caps H [("letters",n1),("at",n2)] ["at","letters"] [.int n,.str z]
    have L:Lf P w K mg base fl (PySem.W.kla_obj "<lambda>" LQ lamA lamB lamS [("letters",n1),("at",n2)] pm c' ct) (PySem.W.kla_fn "<lambda>" LQ lamA lamB lamS [("letters",n1),("at",n2)] pm (.ref c') ct) ["kind","thing"] (fitsB z n) R:=by
      refine ⟨rfl,fn_lam (fs:=["at","letters"]) lamSc (fun vs H Q E h=>?_) (fun vs H Q E h=>?_),.all (us2 fun _ _=>rfl),fun H h=>h.1,fun H H' k h=>⟨k.old _ _ h.1 (by simp),h.2.1.kp k (by simp),h.2.2.kp k (by simp)⟩⟩
      · obtain ⟨kd,v,rfl,_⟩:=h
        rfl
      · obtain ⟨kd,v,rfl,hR,av,q⟩:=h
        refine ⟨hR.1,hR.2.1,[.int n,.str z],hR.2.2,fun A outer s hr=>⟨_,QE.h (jl G1z (hr.mono (by decide)) rfl T.m1z F1z.kp b1z .nil jt (ja (qpv 3) (ja (qpv 2) (ja (qpv 0) (ja (qpv 1) jb))))),?_⟩⟩
        simp!
        exact ⟨z,n,kd,v,rfl,av,hz,fun H2 k2 _=>q _ (Kp.backC k2)⟩
    have hR:R (showC H1 [(n1,o1),(n2,o2)]):=⟨sh _ _ e1',cz.kp kS (by simp),cap⟩
    refine ⟨r,ak,fl,_,_,_,fitsB z n,R,.str wd,rest,ks,L,hR,rfl,sh _ _ (k1.tup _ _ hr0),ka,lr,hq _,lk,fun H2 k2=>?_⟩
    have k3:Kp [] H1 (hideC H2 [n1,n2]):=by
      have kk:=kS.trans k2
      have ne:∀ b v,H1 b=some v->b ∉ [n1,n2]:=fun b v e m=>by
        simp only [List.mem_cons,List.not_mem_nil,or_false] at m
        rcases m with rfl | rfl
        · rw [hn1] at e;cases e
        · rw [hn2] at e;cases e
      exact ⟨fun b v e m=>by rw [hideC_out (ne b _ e)];exact kk.old b v e m,fun b xs e=>by rw [hideC_out (ne b _ e)];exact kk.tup b xs e,fun b v e=>by rw [hideC_out (ne b _ e)];exact kk.dom b v e⟩
    exact k _ (k1.trans (k3.mono (by simp))) (tb1.kp k3 (by simp) (by simp))
end
def meth (st:Stmt):Stmt:=match st with
  | .ClassDef _ _ _ body _ _ _ _ _ _ _=>body.getD 0 (.Pass ⟨0,0,0,0⟩)
  | s=>s
theorem apl (a b:Str):(a++b).length=a.length+b.length:=by
  show (a.cps++b.cps).size=_
  simp [Str.length]
def spIni (K:PySem.W.Frag) (fld:Str) (ok:V->Hp->Prop):Sp:=fun vs H Q _=>∃ (e C D N:Addr) (x:V),vs=[.ref e,x]/\H e=some (ExO e C none)/\XC K C D N/\PySem.W.findIn K (.ref C) fld=some none/\ok x H /\
  ∀ dx,H dx=none->Q .non (upd (upd H dx (.xd [(fld,x)])) e (ExO e C (some dx)))
def okI:V->Hp->Prop:=fun x _=>∃ i:Int,x=.int i/\i.natAbs < 10 ^ 20
structure TIni (K:PySem.W.Frag) (mg:Str->Option Value) (D:Addr):Prop where
  m_CalmError:mg "CalmError"=some (.ref D)
  xd:XD K D
theorem kp_fly {H:Hp} {e dx:Addr} {o1 o2 d:HO} (he:H e=none) (hd:upd H e o1 dx=none):Kp [] H (dropH (upd (upd (upd H e o1) dx d) e o2) e)/\dropH (upd (upd (upd H e o1) dx d) e o2) e dx=some d:=by
  have ne:dx≠e:=fun z=>by rw [z,jc] at hd;cases hd
  rw [je ne] at hd
  have go:∀ a u,H a=some u->dropH (upd (upd (upd H e o1) dx d) e o2) e a=some u:=fun a u h=>by
    have n1:=jh h he
    have n2:=jh h hd
    rw [dropH_ne n1,je n1,je n2,je n1];exact h
  exact ⟨⟨fun a u h _=>go a u h,fun a xs h=>go a _ h,fun a u h=>⟨u,go a u h⟩⟩,by rw [dropH_ne ne,je ne,jc]⟩
def AR (H:Hp) (us:List V) (R:List (List V)):Prop:=Paired (fun v xs=>∃ t,v=.ref t/\H t=some (.tup xs)/\RowO xs) us R
theorem AR.kp {S:List Addr} {H H':Hp} {us:List V} {R:List (List V)} (k:Kp S H H') (h:AR H us R):AR H' us R:=Paired.mapP h fun _ _ ⟨t,e,h,r⟩=>⟨t,e,k.tup _ _ h,r⟩
theorem AR.len {H:Hp} {us:List V} {R:List (List V)} (h:AR H us R):us.length=R.length:=Paired.length h
theorem AR.get:∀ {H:Hp} {us:List V} {R:List (List V)} {k:Nat} {v:V},AR H us R->us[k]?=some v->∃ xs t,R[k]?=some xs/\v=.ref t/\H t=some (.tup xs)/\RowO xs
  | H,_,_,k,v,.nil,e=>by simp at e
  | H,_,_,0,v,.cons (b:=b) ⟨a,q1,q2,q3⟩ _,e=>by simp at e;subst e;exact ⟨b,a,rfl,q1,q2,q3⟩
  | H,_,_,k+1,v,.cons _ t,e=>by simp at e;obtain ⟨r,a,h⟩:=AR.get t e;exact ⟨r,a,by simpa using h.1,h.2⟩
def strV:V->Option Str
  | .str x=>some x
  | _=>none
def txts (R:List (List V)):List Str:=R.flatten.filterMap strV
theorem txts_mem {R:List (List V)} {xs:List V} {x:Str} (h:xs ∈ R) (hx:V.str x ∈ xs):x ∈ txts R:=List.mem_filterMap.mpr ⟨.str x,List.mem_flatten.mpr ⟨xs,h,hx⟩,rfl⟩
theorem isNmV_str {v:V} (h:isNmV v=true):∃ x,v=.str x:=by
  cases v with
  | str x=>exact ⟨x,rfl⟩
  | _=>cases h
theorem isLet_str {z:Str} {v:V} (h:isLet z v=true):∃ x,v=.str x:=by
  cases v with
  | str x=>exact ⟨x,rfl⟩
  | _=>cases h
theorem isRow_nat {n:Nat} {v:V} (h:isRow (n:Int) v=true):∃ j:Nat,v=.int (j:Int)/\j < n:=by
  cases v with
  | int i =>
    simp only [isRow,Bool.and_eq_true,decide_eq_true_eq] at h
    exact ⟨i.toNat,by congr 1;omega,by omega⟩
  | _=>cases h
theorem two_of {α:Type} {l:List α} (h:l.length=2):∃ a b,l=[a,b]:=match l,h with | [a,b],_=>⟨a,b,rfl⟩
theorem one_of {α:Type} {l:List α} (h:l.length=1):∃ a,l=[a]:=match l,h with | [a],_=>⟨a,rfl⟩
theorem good_rs {z:Str} {i:Nat} {xs:List V} {R:List (List V)} (h:goodB z (i:Int) xs=true) (hm:xs ∈ R):∃ r:RS,xs=rowV r/\r.ok (txts R) i:=by
  match xs,h with
  | .str w::rest,h =>
    have M:∀ x,V.str x ∈ rest->x ∈ txts R:=fun x hx=>txts_mem hm (.tail _ hx)
    have fN:∀ v,fitsB z (i:Int) "name" v=isNmV v:=fun _=>rfl
    have fL:∀ v,fitsB z (i:Int) "letter" v=isLet z v:=fun _=>rfl
    have fR:∀ v,fitsB z (i:Int) "row" v=isRow (i:Int) v:=fun _=>rfl
    have go:∀ ks,frm w=some ks->rest.length=ks.length/\((ks.zip rest).all fun p=>fitsB z (i:Int) p.1 p.2)=true:=fun ks e=>by
      rw [goodB_some e,Bool.and_eq_true,decide_eq_true_eq] at h
      exact h
    by_cases h0:w="yes"
    · subst h0
      obtain ⟨l,_⟩:=go [] rfl
      cases List.length_eq_zero_iff.mp l
      exact ⟨.yes,rfl,trivial⟩
    by_cases h1:w="is"
    · subst h1
      obtain ⟨l,q⟩:=go ["name","letter"] rfl
      obtain ⟨a,b,rfl⟩:=two_of l
      simp only [List.zip_cons_cons,List.zip_nil_left,List.all_cons,List.all_nil,Bool.and_true,Bool.and_eq_true,fN,fL] at q
      obtain ⟨x,rfl⟩:=isNmV_str q.1
      obtain ⟨y,rfl⟩:=isLet_str q.2
      exact ⟨.is x y,rfl,M x (.head _)⟩
    by_cases h2:w="ahead"
    · subst h2
      obtain ⟨l,q⟩:=go ["name","name"] rfl
      obtain ⟨a,b,rfl⟩:=two_of l
      simp only [List.zip_cons_cons,List.zip_nil_left,List.all_cons,List.all_nil,Bool.and_true,Bool.and_eq_true,fN] at q
      obtain ⟨x,rfl⟩:=isNmV_str q.1
      obtain ⟨y,rfl⟩:=isNmV_str q.2
      exact ⟨.ahead x y,rfl,M x (.head _),M y (.tail _ (.head _))⟩
    by_cases h3:w="not"
    · subst h3
      obtain ⟨l,q⟩:=go ["row"] rfl
      obtain ⟨a,rfl⟩:=one_of l
      simp only [List.zip_cons_cons,List.zip_nil_left,List.all_cons,List.all_nil,Bool.and_true,fR] at q
      obtain ⟨j,rfl,hj⟩:=isRow_nat q
      exact ⟨.no j,rfl,hj⟩
    have bin:∀ b:Bool,w=bw b->∃ r:RS,V.str w::rest=rowV r/\r.ok (txts R) i:=fun b e=>by
      subst e
      obtain ⟨l,q⟩:=go ["row","row"] (by cases b <;> rfl)
      obtain ⟨a,c,rfl⟩:=two_of l
      simp only [List.zip_cons_cons,List.zip_nil_left,List.all_cons,List.all_nil,Bool.and_true,Bool.and_eq_true,fR] at q
      obtain ⟨j,rfl,hj⟩:=isRow_nat q.1
      obtain ⟨k,rfl,hk⟩:=isRow_nat q.2
      exact ⟨.bin b j k,rfl,hj,hk⟩
    have qn:∀ b:Bool,w=qw b->∃ r:RS,V.str w::rest=rowV r/\r.ok (txts R) i:=fun b e=>by
      subst e
      obtain ⟨l,q⟩:=go ["name","row"] (by cases b <;> rfl)
      obtain ⟨a,c,rfl⟩:=two_of l
      simp only [List.zip_cons_cons,List.zip_nil_left,List.all_cons,List.all_nil,Bool.and_true,Bool.and_eq_true,fN,fR] at q
      obtain ⟨x,rfl⟩:=isNmV_str q.1
      obtain ⟨k,rfl,hk⟩:=isRow_nat q.2
      exact ⟨.qn b x k,rfl,M x (.head _),hk⟩
    by_cases h4:w="and"
    · exact bin true h4
    by_cases h5:w="or"
    · exact bin false h5
    by_cases h6:w="some"
    · exact qn true h6
    by_cases h7:w="each"
    · exact qn false h7
    have:frm w=none:=by unfold frm;rw [if_neg h0,if_neg h1,if_neg h2,if_neg h3,if_neg h4,if_neg h5,if_neg h6,if_neg h7]
    rw [goodB_none this] at h
    cases h
inductive FB (z:Str):List (List V)->Nat->List (List Str)->Option Nat->Prop
  | nil {i:Nat} {F}:FB z [] i F none
  | bad {xs R} {i:Nat} {F}:goodB z (i:Int) xs=false->FB z (xs::R) i F (some i)
  | many {xs r R} {i:Nat} {F l}:goodB z (i:Int) xs=true->xs=rowV r->Cn l (fm F r)->3 < l.length->FB z (xs::R) i F (some i)
  | good {xs r R} {i:Nat} {F l o}:goodB z (i:Int) xs=true->xs=rowV r->Cn l (fm F r)->l.length<=3->FB z R (i+1) (F++[l]) o->FB z (xs::R) i F o
theorem rowV_inj:∀ {r s:RS},rowV r=rowV s->r=s:=by
  have bi:∀ {a b:Bool},bw a=bw b->a=b:=by decide +kernel
  have qi:∀ {a b:Bool},qw a=qw b->a=b:=by decide +kernel
  have bq:∀ {a b:Bool},¬ bw a=qw b:=by decide +kernel
  intro r s h
  cases r <;> cases s <;> simp only [rowV,List.cons.injEq,V.str.injEq,V.int.injEq,and_true,reduceCtorEq,false_and,and_false] at h
  · rfl
  · obtain ⟨_,rfl,rfl⟩:=h;rfl
  · exact absurd h.1 (by decide +kernel)
  · exact absurd h.1 (by decide +kernel)
  · obtain ⟨_,rfl,rfl⟩:=h;rfl
  · rw [Int.ofNat_inj.mp h.2]
  · rw [bi h.1,Int.ofNat_inj.mp h.2.1,Int.ofNat_inj.mp h.2.2]
  · rw [qi h.1,h.2.1,Int.ofNat_inj.mp h.2.2]
theorem FB.one {z:Str} {R:List (List V)} {i:Nat} {F:List (List Str)} {o o':Option Nat} (h:FB z R i F o) (h':FB z R i F o'):o=o':=by
  induction h generalizing o' with
  | nil=>cases h';rfl
  | bad e =>
    cases h' with
    | bad _=>rfl
    | many g _ _ _=>exact absurd (e.symm.trans g) (by decide)
    | good g _ _ _ _=>exact absurd (e.symm.trans g) (by decide)
  | many g er c l =>
    cases h' with
    | bad e=>exact absurd (e.symm.trans g) (by decide)
    | many _ _ _ _=>rfl
    | good _ er' c' l' _ =>
      obtain rfl:=rowV_inj (er.symm.trans er')
      obtain rfl:=c.one c' fun _=>Iff.rfl
      omega
  | good g er c l t ih =>
    cases h' with
    | bad e=>exact absurd (e.symm.trans g) (by decide)
    | many _ er' c' l' =>
      obtain rfl:=rowV_inj (er.symm.trans er')
      obtain rfl:=c.one c' fun _=>Iff.rfl
      omega
    | good _ er' c' l' t' =>
      obtain rfl:=rowV_inj (er.symm.trans er')
      obtain rfl:=c.one c' fun _=>Iff.rfl
      exact ih t'
section
variable {P:Program} {w:World} {K:PySem.W.Frag} {mg:Str->Option Value} {base:Heap}
abbrev yv:Stmt:=meth (top 5)
theorem sc_BadRow__init__:FnScope ["self","at"] ["self","at"] (jj yv):=⟨rfl,rfl,rfl,by decide +kernel,rfl,by decide +kernel,by decide +kernel⟩
theorem ok_BadRow__init__ {f D0:Addr} {fd:FuncData} (F:Fun K "__init__" "BadRow.__init__" yv f fd) (T:TIni K mg D0):FnOk P w K mg base CX0 1 f fd ["self","at"] (spIni K "at" okI):=by
  refine F.ok sc_BadRow__init__ (fun vs H Q E h=>?_) (fun cdv A outer s H vs Q E hr h=>?_)
  · obtain ⟨e,C,D,N,x,rfl,_⟩:=h
    rfl
  · obtain ⟨e,C,D,N,x,rfl,he,c,nf,ok,k⟩:=h
    have hu:=hr.units
    have hgd:=hr.gd
    have hsz:sizeLine=16777216:=PySem.sizeLine_eq
    have l0:(Str.empty++Str.ofString "row ").length<=100:=by decide +kernel
    obtain ⟨i,rfl,hi⟩:=ok
    refine ⟨_,(QSs.h (jf (yi (qpe_excInit rfl T.xd rfl T.m_CalmError (ja (qpv 0) (ja (qpe_joined (jb6 jg (jb6 (qpe_fmtI (qpv 1)) qpj_nil))) jb))))
    (ji (qps_excSet rfl (qpv 0) (qpv 1) rfl)))),?_⟩
    simp!
    refine ⟨by omega,hi,fun z hz=>⟨by rw [apl];omega,by rw [apl];omega,e,_,⟨rfl,rfl⟩,C,he,D,N,c,C,he,D,N,c,nf,k⟩⟩
end
def FBs (z:Str) (R:List (List V)) (o:Option Nat):Prop:=(R=[]/\o=some 0)∨(R≠[]/\FB z R 0 [] o)
theorem FBs.one {z:Str} {R:List (List V)} {o o':Option Nat} (h:FBs z R o) (h':FBs z R o'):o=o':=by
  rcases h with ⟨h1,rfl⟩ | ⟨h1,h2⟩ <;> rcases h' with ⟨g1,rfl⟩ | ⟨g1,g2⟩
  · rfl
  · exact absurd h1 g1
  · exact absurd g1 h1
  · exact h2.one g2
theorem FB.lt {z:Str} {R:List (List V)} {i k:Nat} {F:List (List Str)} {o:Option Nat} (h:FB z R i F o) (e:o=some k):k < i+R.length:=by
  induction h with
  | nil=>cases e
  | bad _=>cases e;rw [List.length_cons];omega
  | many _ _ _ _=>cases e;rw [List.length_cons];omega
  | good _ _ _ _ _ ih=>have:=ih e;rw [List.length_cons];omega
def spLS (Pt cR:Addr):Sp:=fun vs H Q E=>∃ (z:Str) (a:Addr) (us:List V) (R:List (List V)),vs=[.str z,.ref a]/\H a=some (.tup us)/\AR H us R/\z.length<=100/\R.length<=200/\TabOk H Pt LQ /\
  (FBs z R none->∀ H',Kp [Pt] H H'->TabOk H' Pt LQ->Q (.bl true) H')/\∀ (i:Nat) (dx:Addr) (H':Hp),FBs z R (some i)->Kp [Pt] H H'->TabOk H' Pt LQ->H' dx=some (.xd [("at",.int (i:Int))])->E (.ref cR) (some dx) H'
structure TLS (K:PySem.W.Frag) (mg:Str->Option Value) (cR NR D fR fx fn:Addr) (tk:Tok):Prop where
  n_len:mg "len"=none
  n_enumerate:mg "enumerate"=none
  m21z:mg "is_saying_row"=some (.ref fx)
  m23z:mg "names_of_row"=some (.ref fn)
  m_BadRow:mg "BadRow"=some (.ref cR)
  c_BadRow:XC K cR D NR
  i_BadRow:PySem.W.nsIn K NR "__init__"=some (some (.ref fR))
  f_BadRow:∃ o,K.lookup fR=some o/\o.cls=.type "function"
  nf:PySem.W.findIn K (.ref cR) "at"=some none
  m_MOST_NAMES:mg "MOST_NAMES"=some (.int 3 tk)
section
variable {P:Program} {w:World} {K:PySem.W.Frag} {mg:Str->Option Value} {base:Heap}
abbrev y9:Stmt:=top 17
theorem jad:FnScope ["letters","saying","names","at","row"] ["letters","saying"] (jj y9):=⟨rfl,rfl,rfl,by decide +kernel,rfl,by decide +kernel,by decide +kernel⟩
theorem ok_look_saying {f Pt cR NR D fR fx fn:Addr} {tk:Tok} {fd fdR fdx fdn:FuncData} (F:Fun K "look_saying" "look_saying" y9 f fd) (T:TLS K mg cR NR D fR fx fn tk) (b_BadRow:Binds K fdR ["self","at"] [])
    (G_BadRow:FnOk P w K mg base CX0 1 fR fdR ["self","at"] (spIni K "at" okI)) (F21z:Fun K "is_saying_row" "is_saying_row" yg fx fdx) (b21z:Binds K fdx ["letters","row","at"] [])
    (G21z:FnOk P w K mg base CX0 5 fx fdx ["letters","row","at"] (spIE Pt)) (F23z:Fun K "names_of_row" "names_of_row" yn fn fdn) (b23z:Binds K fdn ["row","names"] [])
    (G23z:FnOk P w K mg base CX0 2 fn fdn ["row","names"] spNR):FnOk P w K mg base (CXE P w) 6 f fd ["letters","saying"] (spLS Pt cR):=by
  refine F.okE jad (fun vs H Q E h=>?_) (fun cdv A outer s H vs Q E hr h=>?_)
  · obtain ⟨z,a,us,R,rfl,_⟩:=h
    rfl
  · obtain ⟨z,a,us,R,rfl,ha,ar,hz,hR,tb,kG,kB⟩:=h
    have hu:=hr.units
    have hsz:sizeLine=16777216:=PySem.sizeLine_eq
    refine ⟨_,(QSs.h (jf (jw (jo (j8 hu) (jn jy (by rfl) T.n_len j9 (ja (qpv 1) jb)) jd (jv _)) (ji (jbd rfl rfl rfl leaves_of (jbh rfl T.c_BadRow T.i_BadRow T.f_BadRow G_BadRow (hr.mono (by decide)) b_BadRow rfl T.m_BadRow (ja jd jb)))) ju)
    (jf (jm (i:=2) jad.nd rfl (by first | exact Or.inl rfl | exact Or.inr rfl) (j7 jb))
    (jf (zt passOwn_of rfl (qpi_enumT (K:=K) rfl rfl T.n_enumerate (ja (qpv 1) jb)) (jbr (n:=2) rfl (jak (kj (i:=3) jad.nd rfl (by first | exact Or.inl rfl | exact Or.inr rfl)) (jak (kj (i:=4) jad.nd rfl (by first | exact Or.inl rfl | exact Or.inr rfl)) jbg)) (K:=K) rfl) (jf (jw (ja5 (z5 (jl G21z (hr.mono (by decide)) rfl T.m21z F21z.kp b21z .nil jt (ja (qpv 0) (ja (qpv 4) (ja (qpv 3) jb)))))) (ji (jbd rfl rfl rfl leaves_of (jbh rfl T.c_BadRow T.i_BadRow T.f_BadRow G_BadRow (hr.mono (by decide)) b_BadRow rfl T.m_BadRow (ja (qpv 3) jb)))) ju)
    (jf (yi (yx PySem.F.slot_list_append PySem.F.type_list_append yh (qpv 2) (ja (jl G23z (hr.mono (by decide)) rfl T.m23z F23z.kp b23z .nil jt (ja (qpv 4) (ja (qpv 2) jb))) jb) mono_var))
    (ji (jw (jo ja2 (jn jy (by rfl) T.n_len j9 (ja (jq ix_U (qpv 2) (qpv 3) (fun _ _=>rfl)) jb)) (z0 (v:=.int 3) rfl T.m_MOST_NAMES ⟨_,rfl⟩) (jv _)) (ji (jbd rfl rfl rfl leaves_of (jbh rfl T.c_BadRow T.i_BadRow T.f_BadRow G_BadRow (hr.mono (by decide)) b_BadRow rfl T.m_BadRow (ja (qpv 3) jb)))) ju)))))
    (ji (jr jal)))))),?_⟩
    have lu:=ar.len
    simp! [ha]
    have raise:∀ (i:Nat) (H1:Hp),Kp [Pt] H H1->TabOk H1 Pt LQ->FBs z R (some i)->∀ e,H1 e=none->spIni K "at" okI [.ref e,.int (i:Int)] (upd H1 e (ExO e cR none)) (fun v H2=>v=.non/\∃ C D' N dx,H2 e=some (ExO e C dx)/\XC K C D' N/\H e=none/\E (.ref C) dx (dropH H2 e)) E0:=by
      intro i H1 k1 tb1 hf e he
      have hi:i < 1000:=by
        rcases id hf with ⟨_,h⟩ | ⟨_,h⟩
        · cases h;omega
        · have:=h.lt rfl;omega
      refine ⟨e,cR,D,NR,_,rfl,jc,T.c_BadRow,T.nf,⟨(i:Int),rfl,by omega⟩,fun dx hdx=>⟨rfl,cR,D,NR,some dx,jc,T.c_BadRow,k1.free he,?_⟩⟩
      obtain ⟨k2,e2⟩:=kp_fly (o1:=ExO e cR none) (o2:=ExO e cR (some dx)) (d:=.xd [("at",.int (i:Int))]) he hdx
      exact kB i dx _ hf (k1.trans (k2.mono (by simp))) (tb1.kp k2 (by simp) (by simp)) e2
    refine ite2 (fun h0=>?_) (fun h0=>?_)
    · exact raise 0 H (Kp.refl _ _) tb (.inl ⟨List.length_eq_zero_iff.mp (by omega),rfl⟩)
    have hne:R≠[]:=fun e=>by subst e;simp at lu;exact h0 (by rw [lu];rfl)
    refine ⟨by omega,fun nm hnm=>?_⟩
    have kN:Kp [Pt] H (upd H nm (.lst [])):=(Kp.refl [Pt] H).new hnm
    have tbN:TabOk (upd H nm (.lst [])) Pt LQ:=tb.kp ((Kp.refl [] H).new hnm) (by simp) (by simp)
    have eN:upd H nm (.lst []) nm=some (.lst []):=jc
    generalize upd H nm (.lst [])=H0 at kN tbN eN ⊢
    refine ⟨⟨us,SqT.of (kN.tup _ _ ha)⟩,?_⟩
    refine loop_ET (xs:=us) (fun i σ H'=>∃ (v3 v4:Option V) (ys:List V) (G:List (List Str)) (rs:List RS),σ=[some (.str z),some (.ref a),some (.ref nm),v3,v4]/\Kp [Pt] H H'/\TabOk H' Pt LQ/\H' nm=some (.lst ys)/\NT H' ys G/\CF (txts R) G rs/\okR (txts R) rs/\rs.length=i/\(∀ k,(G.getD k []).length<=3)/\∀ o,FB z (R.drop i) i G o->FB z R 0 [] o)
      ⟨none,none,[],[],[],rfl,kN,tbN,eN,.nil,CF.nil _,(fun k r e=>by simp at e),rfl,(fun k=>by simp),fun o h=>h⟩ ?_ ?_ ?_
    · rintro i σ H' _ ⟨v3,v4,ys,G,rs,rfl,kp,_⟩
      exact kp.tup _ _ ha
    · rintro i x σ H' Tt hx ⟨v3,v4,ys,G,rs,rfl,kp,tb1,en,nt,cf,ok,hl,g3,ew⟩ hTt
      obtain ⟨xs,t,hxs,rfl,ht,ro⟩:=ar.get hx
      refine ⟨Tt,[.int (i:Int),.ref t],rfl,SqT.of jc,rfl,⟨_,_,rfl,⟨_,_,rfl,rfl,?_⟩⟩⟩
      have kT:Kp [] H' (upd H' Tt (.tup [.int (i:Int),.ref t])):=(Kp.refl [] H').new hTt
      generalize upd H' Tt (.tup [.int (i:Int),.ref t])=H2 at kT ⊢
      have kp2:=kp.trans (kT.mono (by simp):Kp [Pt] H' H2)
      have hi:i < R.length:=(List.getElem?_eq_some_iff.mp hxs).1
      have ed:R.drop i=xs::R.drop (i+1):=by
        rw [List.drop_eq_getElem_cons hi]
        congr 1
        rw [List.getElem?_eq_getElem hi] at hxs
        exact Option.some.inj hxs
      rw [ed] at ew
      simp!
      refine ⟨z,t,xs,(i:Int),rfl,kp2.tup _ _ ht,ro,hz,tb1.kp kT (by simp) (by simp),fun H3 k3 tb3=>?_⟩
      simp!
      have nPn:nm≠Pt:=fun e=>by obtain ⟨ps,h,_⟩:=tb;rw [e,h] at hnm;cases hnm
      have en3:H3 nm=some (.lst ys):=k3.old _ _ (kT.old _ _ en (by simp)) (by simpa using nPn)
      by_cases hg:goodB z (i:Int) xs=true
      · rw [hg,if_neg (by decide)]
        obtain ⟨r,rfl,okr⟩:=good_rs hg (List.mem_of_getElem? hxs)
        have nt3:NT H3 ys G:=(nt.kp kT).kp k3
        refine ⟨by rw [en3];rfl,t,nm,r,ys,G,rs,txts R,rfl,(kp2.trans k3).tup _ _ ht,en3,nt3,cf,by rw [hl];exact okr,(fun k=>Nat.le_trans (g3 k) (by decide)),fun q l H4 k4 e4 cn=>?_⟩
        have en4:=k4.old _ _ en3 (by simp)
        have yl:=nt.len
        have gl:=cf.len
        have kk:Kp [nm] H4 (upd H4 nm (.lst (ys++[.ref q]))):=(Kp.refl [nm] H4).set en4 (.inl (by simp))
        have kp5:Kp [Pt] H (upd H4 nm (.lst (ys++[.ref q]))):=((kp2.trans k3).trans (k4.mono (by simp))).set en4 (.inr hnm)
        have tb5:TabOk (upd H4 nm (.lst (ys++[.ref q]))) Pt LQ:=(tb3.kp k4 (by simp) (by simp)).kp kk (by simpa using nPn.symm) (fun c o hc=>by intro hm;rw [List.mem_singleton.mp hm,en4] at hc;cases hc)
        have en5:upd H4 nm (.lst (ys++[.ref q])) nm=some (.lst (ys++[.ref q])):=jc
        have eq5:=kk.tup _ _ e4
        refine ⟨ys,by rw [en4];rfl,by omega,?_⟩
        have nt5:NT (upd H4 nm (.lst (ys++[.ref q]))) (ys++[.ref q]) (G++[l]):=Paired.snoc ((nt3.kp k4).kp kk) ⟨q,rfl,eq5⟩
        generalize upd H4 nm (.lst (ys++[.ref q]))=H5 at kp5 tb5 en5 eq5 nt5 ⊢
        simp! [en5]
        refine ⟨_,atI_nat (j:=i) (by rw [List.getElem?_append_right (by omega),show i - ys.length=0 by omega];rfl),?_⟩
        simp! [eq5]
        rw [List.length_map]
        refine ite2 (fun h3=>?_) (fun h3=>?_)
        · exact raise i H5 kp5 tb5 (.inr ⟨hne,ew _ (.many hg rfl cn (by omega))⟩)
        · have g5:∀ k,((G++[l]).getD k []).length<=3:=fun k=>by
            by_cases hk:k < G.length
            · rw [getD_snoc hk];exact g3 k
            · by_cases hk2:k=G.length
              · subst hk2
                rw [getD_last];omega
              · rw [List.getD_eq_getElem?_getD,List.getElem?_eq_none (by simp;omega)]
                exact Nat.zero_le _
          exact ⟨kp5,tb5,_,en5,G++[l],nt5,rs++[r],cf.snoc ok (by rw [hl];exact okr) cn,ok.snoc (by rw [hl];exact okr),by simp [hl],fun k=>by have:=g5 k;rwa [List.getD_eq_getElem?_getD] at this,fun o h=>ew o (.good hg rfl cn (by omega) h)⟩
      · rw [show goodB z (i:Int) xs=false by simpa using hg,if_pos (show (!false)=true from rfl)]
        exact raise i H3 (kp2.trans k3) tb3 (.inr ⟨hne,ew _ (.bad (by simpa using hg))⟩)
    · rintro σ H' ⟨v3,v4,ys,G,rs,rfl,kp,tb1,en,nt,cf,ok,hl,g3,ew⟩
      simp!
      rw [lu,List.drop_length] at ew
      exact kG (.inr ⟨hne,ew _ .nil⟩) _ kp tb1
end
theorem exQ {X:Cx} {ss:List Stmt} {t:TS} {D:Ends} {σ:L2.St} {H:Hp} (h:QSs X ss t) (q:t D σ H):∃ t,PSs X ss t/\t D σ H:=⟨t,h.h,q⟩
def W1:List (Key × V):=[(.inr "yes",.str ""),(.inr "is",.str "nl"),(.inr "ahead",.str "nn"),(.inr "not",.str "p")]
def W2:List (Key × V):=[(.inr "and",.str "pp"),(.inr "or",.str "pp"),(.inr "some",.str "np"),(.inr "each",.str "np")]
def WF:List (Key × V):=W1++W2
theorem mW1:mergeK [] W1=W1:=by decide +kernel
theorem mW2:mergeK [] W2=W2:=by decide +kernel
theorem mWF:mergeK W1 W2=WF:=by decide +kernel
def wantsOf (t:Str):List Str:=t.cps.toList.map fun c=>kdW ⟨#[c]⟩
theorem wf_at (w:Str):(frm w=none/\valV WF (.inr w)=none)∨∃ ks t,frm w=some ks/\ks.length<=2/\valV WF (.inr w)=some (.str t)/\wantsOf t=ks:=by
  unfold frm
  by_cases h0:w="yes"
  · subst h0;exact .inr ⟨[],"",if_pos rfl,by simp,rfl,by decide +kernel⟩
  by_cases h1:w="is"
  · subst h1;exact .inr ⟨["name","letter"],"nl",rfl,by simp,rfl,by decide +kernel⟩
  by_cases h2:w="ahead"
  · subst h2;exact .inr ⟨["name","name"],"nn",rfl,by simp,rfl,by decide +kernel⟩
  by_cases h3:w="not"
  · subst h3;exact .inr ⟨["row"],"p",rfl,by simp,rfl,by decide +kernel⟩
  by_cases h4:w="and"
  · subst h4;exact .inr ⟨["row","row"],"pp",rfl,by simp,rfl,by decide +kernel⟩
  by_cases h5:w="or"
  · subst h5;exact .inr ⟨["row","row"],"pp",rfl,by simp,rfl,by decide +kernel⟩
  by_cases h6:w="some"
  · subst h6;exact .inr ⟨["name","row"],"np",rfl,by simp,rfl,by decide +kernel⟩
  by_cases h7:w="each"
  · subst h7;exact .inr ⟨["name","row"],"np",rfl,by simp,rfl,by decide +kernel⟩
  refine .inl ⟨by rw [if_neg h0,if_neg h1,if_neg h2,if_neg h3,if_neg h4,if_neg h5,if_neg h6,if_neg h7],?_⟩
  have ne:∀ {x:Str},¬ w=x->¬ (Sum.inr x:Key)=Sum.inr w:=fun h e=>h (Sum.inr.inj e).symm
  simp [WF,W1,W2,valV,ne h0,ne h1,ne h2,ne h3,ne h4,ne h5,ne h6,ne h7]
def spRF:Sp:=fun vs H Q _=>∃ (z:Str) (r:Addr) (xs:List V) (n:Int),vs=[.str z,.ref r,.int n]/\H r=some (.tup xs)/\RowO xs/\z.length<=100/\∀ H',Kp [] H H'->Q (.bl (goodB z n xs)) H'
structure TRF (mg:Str->Option Value) (ft:Addr):Prop where
  n_len:mg "len"=none
  n_all:mg "all"=none
  n_zip:mg "zip"=none
  m11z:mg "_law_thing_fits"=some (.ref ft)
section
variable {P:Program} {w:World} {K:PySem.W.Frag} {mg:Str->Option Value} {base:Heap}
abbrev ky:Stmt:=top 36
theorem jai:FnScope ["_law_letters_here","_law_row","_law_at","_law_forms","_law_wants"] ["_law_letters_here","_law_row","_law_at"] (jj ky):=⟨rfl,rfl,rfl,by decide +kernel,rfl,by decide +kernel,by decide +kernel⟩
theorem ok__law_row_fits {f ft:Addr} {fd fdt:FuncData} (F:Fun K "_law_row_fits" "_law_row_fits" ky f fd) (T:TRF mg ft) (F11z:Fun K "_law_thing_fits" "_law_thing_fits" yf ft fdt) (b11z:Binds K fdt ["_law_letters_here","_law_want","_law_thing","_law_at"] [])
    (G11z:FnOk P w K mg base CX0 2 ft fdt ["_law_letters_here","_law_want","_law_thing","_law_at"] spTF):FnOk P w K mg base CX0 3 f fd ["_law_letters_here","_law_row","_law_at"] spRF:=by
  refine F.ok jai (fun vs H Q E h=>?_) (fun cdv A outer s H vs Q E hr h=>?_)
  · obtain ⟨z,r,xs,n,rfl,_⟩:=h
    rfl
  · obtain ⟨z,r,xs,n,rfl,hr0,ro,hz,k⟩:=h
    have hu:=hr.units
    have hu1:(A.deeper (PyProof.Rows.envOfC (Str.ofString "_law_row_fits") (jj ky) s.heap.objs.size f cdv)).units+1 < cLine:=by omega
    have hsz:sizeLine=16777216:=PySem.sizeLine_eq
    refine exQ (jf (jm (i:=3) jai.nd rfl (by first | exact Or.inl rfl | exact Or.inr rfl) (jb4 (zx jg jg (zx jg jg (zx jg jg (zx jg jg jb8))))))
    (jf (yi (qpe_dup (qpv 3) (jb4 (zx jg jg (zx jg jg (zx jg jg (zx jg jg jb8))))) ⟨rfl,rfl,rfl,rfl⟩))
    (jf (jw (QW.pt (z7 (jo (j8 hu) (jn jy (by rfl) T.n_len j9 (ja (qpv 1) jb)) jd (jv _)) (z7 (jce (qpc_dnotin hu1 (jq ix_U (qpv 1) jd (fun _ _=>rfl)) (qpv 3)) (by with_unfolding_all rfl)) (jaa (jo (jbp hu) (jn jy (by rfl) T.n_len j9 (ja (jb7 hu1 (qpv 3) (jq ix_U (qpv 1) jd (fun _ _=>rfl)) (fun _ _=>rfl)) jb)) (jp jag (jn jy (by rfl) T.n_len j9 (ja (qpv 1) jb)) jd) (jv _)))))) (ji (jr jal)) ju)
    (jf (jm (i:=4) jai.nd rfl (by first | exact Or.inl rfl | exact Or.inr rfl) (jb7 hu1 (qpv 3) (jq ix_U (qpv 1) jd (fun _ _=>rfl)) (fun _ _=>rfl)))
    (ji (jr (jn (ja4 rfl) (by rfl) T.n_all jbm (ja (ja0 rfl (compOk_of (sc:=jj ky) (N:=["_law_letters_here","_law_row","_law_at","_law_forms","_law_wants"]) (Nc:=["_law_want","_law_thing","_law_letters_here","_law_at"]) (js:=[none,none,some 0,some 2]) (by decide +kernel)) (qpi_zipN (K:=K) rfl rfl T.n_zip (ja (qpv 4) (ja (ku (jaw (K:=K) rfl) (qpv 1) (ya jd) kz) jb))) (fun _ _ _ _=>(jbr (n:=2) rfl (jak (kj (i:=0) (show List.Nodup [("_law_want":Str),("_law_thing":Str),("_law_letters_here":Str),("_law_at":Str)] from by decide +kernel) rfl (by first | exact Or.inl rfl | exact Or.inr rfl)) (jak (kj (i:=1) (show List.Nodup [("_law_want":Str),("_law_thing":Str),("_law_letters_here":Str),("_law_at":Str)] from by decide +kernel) rfl (by first | exact Or.inl rfl | exact Or.inr rfl)) jbg)) (K:=K) rfl)) (fun _ _ _ _=>(jl G11z (hr.mono (by decide)) rfl T.m11z F11z.kp b11z .nil jt (ja (qpv 2) (ja (qpv 0) (ja (qpv 1) (ja (qpv 3) jb))))))) jb)))))))) ?_
    simp!
    refine fun d hd=>⟨W1,rfl,by decide,?_⟩
    rw [mW1]
    refine ⟨.inl ⟨W1,.inl jc⟩,fun p2 hp2=>?_⟩
    have nd2:d≠p2:=jh jc hp2
    refine ⟨W2,rfl,by decide,nd2,W1,by rw [je nd2,jc],W2,by rw [mW2],by rw [hsz];decide,?_⟩
    rw [mW2,mWF]
    have hp0:H p2=none:=by rw [je nd2.symm] at hp2;exact hp2
    have k1:Kp [] H (upd (upd (upd H d (.dK W1)) p2 (.dK W2)) d (.dK WF)):=by
      have go:∀ a u,H a=some u->upd (upd (upd H d (.dK W1)) p2 (.dK W2)) d (.dK WF) a=some u:=fun a u h=>by rw [je (jh h hd),je (jh h hp0),je (jh h hd)];exact h
      exact ⟨fun a u h _=>go a u h,fun a xs h=>go a _ h,fun a u h=>⟨u,go a u h⟩⟩
    have ed:upd (upd (upd H d (.dK W1)) p2 (.dK W2)) d (.dK WF) d=some (.dK WF):=jc
    generalize upd (upd (upd H d (.dK W1)) p2 (.dK W2)) d (.dK WF)=H1 at k1 ed ⊢
    have er:H1 r=some (.tup xs):=k1.tup _ _ hr0
    refine ⟨xs,by rw [er];rfl,?_⟩
    rcases ro.hd with rfl | ⟨wd,rest,rfl⟩
    · rw [if_pos (show (([]:List V).length:Int)=0 from rfl)]
      exact k H1 k1
    rw [if_neg (show ¬ ((V.str wd::rest).length:Int)=0 by simp;omega)]
    have hat:atI (V.str wd::rest) 0=some (.str wd):=atI_of (by decide) rfl
    have ka:∀ v ∈ rest,At v:=fun v hv=>ro.at_ v (.tail _ hv)
    have lr:rest.length<=20:=by have:=ro.len;simp at this;omega
    have dg:DGet H1 d (.str wd) (valV WF (.inr wd)):=.inl ⟨WF,.inr wd,.inl ed,rfl,rfl⟩
    refine ⟨_,by rw [er];rfl,_,hat,_,dg,?_⟩
    rcases wf_at wd with ⟨hf,hv⟩ | ⟨ks,t,hf,lk,hv,hq⟩
    · rw [hv,if_pos (show (!(none:Option V).isSome)=true from rfl)]
      have:=k H1 k1
      rw [goodB_none hf] at this
      exact this
    rw [hv] at dg
    rw [hv,if_neg (by simp)]
    have k:∀ H',Kp [] H H'->Q (.bl (decide (rest.length=ks.length) && ((ks.zip rest).all fun p=>fitsB z n p.1 p.2))) H':=fun H' h1=>by
      have:=k H' h1
      rw [goodB_some hf] at this
      exact this
    have tl:t.length=ks.length:=by rw [← hq];simp [wantsOf,Str.length]
    refine ⟨_,by rw [er];rfl,_,hat,_,dg,?_⟩
    simp! [er]
    refine ⟨by omega,?_⟩
    by_cases hl:rest.length=ks.length
    · rw [if_neg (by simp [tl,hl])]
      rw [decide_eq_true hl] at k
      simp only [Bool.true_and] at k
      refine ⟨_,dg,rSlV.tup er fun p1 H2 h2 k2=>?_⟩
      have e0:cutV (V.str wd::rest) (some 1) none=rest:=by
        unfold cutV
        simp [HT.sIx]
      rw [e0] at h2
      refine ⟨t,p1,⟨rfl,rfl⟩,_,SqT.of h2,fun D hD=>?_⟩
      refine loop_ZN (ys:=rest) (fun i σ H'=>∃ (v0 v1:Option V),σ=[v0,v1,some (.str z),some (.int n)]/\Kp [] H2 H'/\H' D=some (.lst (((ks.zip rest).take i).map fun p=>.bl (fitsB z n p.1 p.2)))) ⟨none,none,rfl,(Kp.refl [] H2).new hD,jc⟩ (by rw [hl,tl]) ?_ ?_ ?_
      · rintro i σ H3 _ ⟨v0,v1,rfl,k3,_⟩
        exact SqT.of (k3.tup _ _ h2)
      · rintro i y σ H3 T2 hi hy ⟨v0,v1,rfl,k3,hD3⟩ hT2
        have ht:i < t.cps.toList.length:=by simpa [Str.length] using hi
        have hkd:ks[i]?=some (kdW ⟨#[t.cps.toList.getD i 0]⟩):=by
          rw [← hq,wantsOf,List.getElem?_map,List.getElem?_eq_getElem ht,List.getD_eq_getElem?_getD,List.getElem?_eq_getElem ht];rfl
        refine ⟨T2,[_,_],rfl,SqT.of jc,rfl,?_⟩
        refine ⟨_,_,rfl,_,_,rfl,rfl,?_⟩
        have k4:Kp [] H2 (upd H3 T2 (.tup [V.str ⟨#[t.cps.toList.getD i 0]⟩,y])):=k3.new hT2
        have hD4:upd H3 T2 (.tup [V.str ⟨#[t.cps.toList.getD i 0]⟩,y]) D=some (.lst (((ks.zip rest).take i).map fun p=>.bl (fitsB z n p.1 p.2))):=by rw [je (jh hD3 hT2)];exact hD3
        generalize upd H3 T2 (.tup [V.str ⟨#[t.cps.toList.getD i 0]⟩,y])=H4 at k4 hD4 ⊢
        simp! [tEmit]
        refine ⟨z,n,_,y,rfl,ka y (List.mem_of_getElem? hy),hz,fun H5 k5=>?_⟩
        have hD5:=k5.old _ _ hD4 (by simp)
        have lz:(((ks.zip rest).take i).map fun p=>V.bl (fitsB z n p.1 p.2)).length<=2:=by rw [List.length_map,List.length_take,List.length_zip];omega
        refine ⟨_,by rw [hD5];rfl,by omega,_,_,⟨rfl,rfl⟩,(k4.trans k5).set hD5 (.inr hD),?_⟩
        rw [List.take_succ,zip_get hkd hy]
        simp
      · rintro σ H3 ⟨v0,v1,rfl,k3,hD3⟩
        rw [tl,List.take_of_length_le (by rw [List.length_zip];omega)] at hD3
        refine ⟨(ks.zip rest).map fun p=>fitsB z n p.1 p.2,by rw [hD3,List.map_map];rfl,?_⟩
        have:=k H3 (k1.trans (k2.trans k3))
        rw [show (List.map (fun p:Str × V=>fitsB z n p.1 p.2) (ks.zip rest)).all id=(ks.zip rest).all fun p=>fitsB z n p.1 p.2 from by rw [List.all_map];rfl]
        exact this
    · rw [if_pos (by simp;omega)]
      have:=k H1 k1
      rw [decide_eq_false hl,Bool.false_and] at this
      exact this
end
def ansV:Option Nat->V
  | none=>.non
  | some i=>.int (i:Int)
def spFB:Sp:=fun vs H Q _=>∃ (z:Str) (a:Addr) (us:List V) (R:List (List V)),vs=[.str z,.ref a]/\H a=some (.tup us)/\AR H us R/\z.length<=100/\R.length<=200/\∀ o H',FBs z R o->Kp [] H H'->Q (ansV o) H'
structure TFB (mg:Str->Option Value) (fx fn:Addr):Prop where
  n_len:mg "len"=none
  n_range:mg "range"=none
  m24z:mg "_law_row_fits"=some (.ref fx)
  m2z:mg "_law_names_of"=some (.ref fn)
section
variable {P:Program} {w:World} {K:PySem.W.Frag} {mg:Str->Option Value} {base:Heap}
abbrev yc:Stmt:=top 37
theorem jae:FnScope ["_law_letters_here","_law_saying","_law_frees_here","_law_at"] ["_law_letters_here","_law_saying"] (jj yc):=⟨rfl,rfl,rfl,by decide +kernel,rfl,by decide +kernel,by decide +kernel⟩
theorem ok__law_first_bad {f fx fn:Addr} {fd fdx fdn:FuncData} (F:Fun K "_law_first_bad" "_law_first_bad" yc f fd) (T:TFB mg fx fn) (F24z:Fun K "_law_row_fits" "_law_row_fits" ky fx fdx) (b24z:Binds K fdx ["_law_letters_here","_law_row","_law_at"] [])
    (G24z:FnOk P w K mg base CX0 3 fx fdx ["_law_letters_here","_law_row","_law_at"] spRF) (F2z:Fun K "_law_names_of" "_law_names_of" kt fn fdn) (b2z:Binds K fdn ["_law_row","_law_frees_here"] [])
    (G2z:FnOk P w K mg base CX0 1 fn fdn ["_law_row","_law_frees_here"] spNO):FnOk P w K mg base CX0 4 f fd ["_law_letters_here","_law_saying"] spFB:=by
  refine F.ok jae (fun vs H Q E h=>?_) (fun cdv A outer s H vs Q E hr h=>?_)
  · obtain ⟨z,a,us,R,rfl,_⟩:=h
    rfl
  · obtain ⟨z,a,us,R,rfl,ha,ar,hz,hR,k⟩:=h
    have hu:=hr.units
    have hsz:sizeLine=16777216:=PySem.sizeLine_eq
    refine ⟨_,(QSs.h (jf (jw (jo (j8 hu) (jn jy (by rfl) T.n_len j9 (ja (qpv 1) jb)) jd (jv _)) (ji (jr jd)) ju)
    (jf (jm (i:=2) jae.nd rfl (by first | exact Or.inl rfl | exact Or.inr rfl) (j7 jb))
    (jf (zt PassesOwn.never rfl (jac rfl T.n_range (ja (jn jy (by rfl) T.n_len j9 (ja (qpv 1) jb)) jb)) (kj (i:=3) jae.nd rfl (by first | exact Or.inl rfl | exact Or.inr rfl)) (jf (jw (ja5 (z5 (jl G24z (hr.mono (by decide)) rfl T.m24z F24z.kp b24z .nil jt (ja (qpv 0) (ja (jq ix_U (qpv 1) (qpv 3) (fun _ _=>rfl)) (ja (qpv 3) jb)))))) (ji (jr (qpv 3))) ju)
    (jf (yi (yx PySem.F.slot_list_append PySem.F.type_list_append yh (qpv 2) (ja (jl G2z (hr.mono (by decide)) rfl T.m2z F2z.kp b2z .nil jt (ja (jq ix_U (qpv 1) (qpv 3) (fun _ _=>rfl)) (ja (qpv 2) jb))) jb) mono_var))
    (ji (jw (jo ja2 (jn jy (by rfl) T.n_len j9 (ja (jq ix_U (qpv 2) (qpv 3) (fun _ _=>rfl)) jb)) jd (jv _)) (ji (jr (qpv 3))) ju)))))
    (ji (jr jbf)))))),?_⟩
    have lu:=ar.len
    simp! [ha]
    refine ite2 (fun h0=>?_) (fun h0=>?_)
    · exact k (some 0) H (.inl ⟨List.length_eq_zero_iff.mp (by omega),rfl⟩) (Kp.refl [] H)
    have hne:R≠[]:=fun e=>by subst e;simp at lu;exact h0 (by rw [lu];rfl)
    refine ⟨by omega,fun nm hnm=>?_⟩
    have kN:Kp [] H (upd H nm (.lst [])):=(Kp.refl [] H).new hnm
    have eN:upd H nm (.lst []) nm=some (.lst []):=jc
    generalize upd H nm (.lst [])=H0 at kN eN ⊢
    have ha0:=kN.tup _ _ ha
    simp! [ha0]
    refine ⟨by omega,by omega,?_⟩
    rw [show ((us.length:Int)).toNat=us.length from Int.toNat_natCast _]
    refine loop_range (fun i σ H'=>∃ (v3:Option V) (ys:List V) (G:List (List Str)) (rs:List RS),σ=[some (.str z),some (.ref a),some (.ref nm),v3]/\Kp [] H H'/\H' nm=some (.lst ys)/\FL [nm] H' ys G/\CF (txts R) G rs/\okR (txts R) rs/\rs.length=i/\(∀ k,(G.getD k []).length<=3)/\∀ o,FB z (R.drop i) i G o->FB z R 0 [] o)
      ⟨none,[],[],[],rfl,kN,eN,.nil,CF.nil _,(fun k r e=>by simp at e),rfl,(fun k=>by simp),fun o h=>h⟩ ?_ ?_
    · rintro i σ H' hi ⟨v3,ys,G,rs,rfl,kp,en,fl,cf,ok,hl,g3,ew⟩
      have ha':=kp.tup _ _ ha
      obtain ⟨x,hx⟩:∃ x,us[i]?=some x:=⟨us[i],by simp [hi]⟩
      obtain ⟨xs,t,hxs,rfl,ht,ro⟩:=ar.get hx
      have hiR:i < R.length:=(List.getElem?_eq_some_iff.mp hxs).1
      have ed:R.drop i=xs::R.drop (i+1):=by
        rw [List.drop_eq_getElem_cons hiR]
        congr 1
        rw [List.getElem?_eq_getElem hiR] at hxs
        exact Option.some.inj hxs
      rw [ed] at ew
      simp! [ha']
      rw [show (0:Int)+(i:Int)=(i:Int) by omega]
      refine ⟨_,atI_nat hx,z,t,xs,(i:Int),rfl,kp.tup _ _ ht,ro,hz,fun H3 k3=>?_⟩
      refine ⟨_,rfl,?_⟩
      have kp3:=kp.trans k3
      have en3:=k3.old _ _ en (by simp)
      by_cases hg:goodB z (i:Int) xs=true
      · rw [hg,if_neg (by decide)]
        obtain ⟨r,rfl,okr⟩:=good_rs hg (List.mem_of_getElem? hxs)
        refine ⟨by rw [en3];rfl,us,by rw [kp3.tup _ _ ha];rfl,_,atI_nat hx,t,nm,r,[nm],ys,G,rs,txts R,rfl,kp3.tup _ _ ht,en3,fl.kp (by simp) k3,cf,by rw [hl];exact okr,(fun k=>Nat.le_trans (g3 k) (by decide)),fun q l H4 hq k4 e4 cn=>?_⟩
        have en4:=k4.old _ _ en3 (by simp)
        have nqn:q≠nm:=fun e=>by rw [e,en3] at hq;cases hq
        have yl:=fl.len
        have gl:=cf.len
        have kk:Kp [nm] H4 (upd H4 nm (.lst (ys++[.ref q]))):=(Kp.refl [nm] H4).set en4 (.inl (by simp))
        have kp5:Kp [] H (upd H4 nm (.lst (ys++[.ref q]))):=(kp3.trans k4).set en4 (.inr hnm)
        have en5:upd H4 nm (.lst (ys++[.ref q])) nm=some (.lst (ys++[.ref q])):=jc
        have eq5:upd H4 nm (.lst (ys++[.ref q])) q=some (.lst (l.map V.str)):=by rw [je nqn];exact e4
        have fl5:FL [nm] (upd H4 nm (.lst (ys++[.ref q]))) (ys++[.ref q]) (G++[l]):=Paired.snoc (FL.kp (S:=[nm]) (by simp) kk ((fl.kp (by simp) k3).kp (by simp) k4)) ⟨q,rfl,by simpa using nqn,eq5⟩
        refine ⟨ys,by rw [en4];rfl,by omega,_,atI_nat (j:=i) (by rw [List.getElem?_append_right (by omega),show i - ys.length=0 by omega];rfl),?_⟩
        generalize upd H4 nm (.lst (ys++[.ref q]))=H5 at kp5 en5 eq5 fl5 ⊢
        simp! [eq5]
        rw [List.length_map]
        refine ite2 (fun h3=>?_) (fun h3=>?_)
        · exact k (some i) H5 (.inr ⟨hne,ew _ (.many hg rfl cn (by omega))⟩) kp5
        · have g5:∀ k,((G++[l]).getD k []).length<=3:=fun k=>by
            by_cases hk:k < G.length
            · rw [getD_snoc hk];exact g3 k
            · by_cases hk2:k=G.length
              · subst hk2
                rw [getD_last];omega
              · rw [List.getD_eq_getElem?_getD,List.getElem?_eq_none (by simp;omega)]
                exact Nat.zero_le _
          exact ⟨kp5,_,en5,G++[l],fl5,rs++[r],cf.snoc ok (by rw [hl];exact okr) cn,ok.snoc (by rw [hl];exact okr),by simp [hl],g5,fun o h=>ew o (.good hg rfl cn (by omega) h)⟩
      · rw [show goodB z (i:Int) xs=false by simpa using hg,if_pos (show (!false)=true from rfl)]
        exact k (some i) H3 (.inr ⟨hne,ew _ (.bad (by simpa using hg))⟩) kp3
    · rintro σ H' ⟨v3,ys,G,rs,rfl,kp,en,fl,cf,ok,hl,g3,ew⟩
      simp!
      rw [lu,List.drop_length] at ew
      exact k none _ (.inr ⟨hne,ew _ .nil⟩) kp
end
structure THe (K:PySem.W.Frag) (mg:Str->Option Value) (fl cR NR D c0 c1 c2:Addr):Prop where
  n_isinstance:mg "isinstance"=none
  n_ValueError:mg "ValueError"=none
  m26z:mg "look_saying"=some (.ref fl)
  m_BadRow:mg "BadRow"=some (.ref cR)
  xt_CalmError:XT K D
  m_CalmError:mg "CalmError"=some (.ref D)
  m_BadText:mg "BadText"=some (.ref c0)
  m_NoLetter:mg "NoLetter"=some (.ref c1)
  m_TooMany:mg "TooMany"=some (.ref c2)
  c:XC K cR D NR
  xi:XI K cR
  ko:∀ o ∈ [c0,c1,c2],PySem.W.kitOne K (.ref cR) (.ref o)=some false
  kR:PySem.W.kitOne K (.ref cR) (.ref cR)=some true
  kV:PySem.W.kitOne K (.ref cR) (.type "ValueError")=some true
  nf:PySem.W.findIn K (.ref cR) "at"=some none
theorem kit_any {K:PySem.W.Frag} {C:Addr}:∀ {os:List Addr},(∀ o ∈ os,PySem.W.kitOne K (.ref C) (.ref o)=some false)->PySem.W.kitAny K (.ref C) (os.map Value.ref)=some false
  | [],_=>rfl
  | o::os,h=>by
    rw [List.map_cons,PySem.W.kitAny,h o (.head _)]
    exact kit_any fun x hx=>h x (.tail _ hx)
def heardE (H:Hp) (v:V):Option Nat->Prop
  | none=>v=.bl true
  | some i=>∃ q,v=.ref q/\H q=some (.tup [.str "row",.int (i:Int)])
def spHe (Pt:Addr):Sp:=fun vs H Q _=>∃ (z:Str) (a:Addr) (us:List V) (R:List (List V)),vs=[.str z,.ref a]/\H a=some (.tup us)/\AR H us R/\z.length<=100/\R.length<=200/\TabOk H Pt LQ /\
  ∀ o v H',FBs z R o->heardE H' v o->Kp [Pt] H H'->TabOk H' Pt LQ->Q v H'
section
variable {P:Program} {w:World} {K:PySem.W.Frag} {mg:Str->Option Value} {base:Heap}
abbrev y6:Stmt:=top 42
theorem zd:FnScope ["_law_letters_here","_law_saying","_law_found","e","_law_others"] ["_law_letters_here","_law_saying"] (jj y6):=⟨rfl,rfl,rfl,by decide +kernel,rfl,by decide +kernel,by decide +kernel⟩
theorem ok__law_answer {f Pt fl cR NR D c0 c1 c2:Addr} {fd fdl:FuncData} (F:Fun K "_law_answer" "_law_answer" y6 f fd) (T:THe K mg fl cR NR D c0 c1 c2)
    (F26z:Fun K "look_saying" "look_saying" y9 fl fdl) (b26z:Binds K fdl ["letters","saying"] []) (G26z:FnOk P w K mg base (CXE P w) 6 fl fdl ["letters","saying"] (spLS Pt cR)):FnOk P w K mg base CX0 7 f fd ["_law_letters_here","_law_saying"] (spHe Pt):=by
  refine F.ok zd (fun vs H Q E h=>?_) (fun cdv A outer s H vs Q E hr h=>?_)
  · obtain ⟨z,a,us,R,rfl,_⟩:=h
    rfl
  · obtain ⟨z,a,us,R,rfl,ha,ar,hz,hR,tb,k⟩:=h
    have hsz:sizeLine=16777216:=PySem.sizeLine_eq
    refine ⟨_,(QSs.h (jf (jm (i:=2) zd.nd rfl (by first | exact Or.inl rfl | exact Or.inr rfl) jbf)
    (jf (qps_tryA (i:=2) (j:=3) rfl G26z (hr.mono (by decide)) rfl T.m26z F26z.kp b26z (ja (qpv 0) (ja (qpv 1) jb)) T.xt_CalmError rfl T.m_CalmError (fun A' h1 h2 h3 h4=>(jf (jm (i:=2) zd.nd rfl (by first | exact Or.inl rfl | exact Or.inr rfl) (kc (ja jg (ja (jbn un_neg jd) jb))))
    (jf (jm (i:=4) zd.nd rfl (by first | exact Or.inl rfl | exact Or.inr rfl) (jn (jbi (K:=K) rfl) (by rfl) T.n_isinstance kh (ja (qpv 3) (ja (kc (ja (z0 (v:=.ref _) rfl T.m_BadText rfl) (ja (z0 (v:=.ref _) rfl T.m_NoLetter rfl) (ja (z0 (v:=.ref _) rfl T.m_TooMany rfl) jb)))) jb))))
    (ji (jw (QW.pt (jax (z5 (jn (jbi (K:=K) rfl) (by rfl) T.n_isinstance kh (ja (qpv 3) (ja (z0 (v:=.ref _) rfl T.m_BadRow rfl) jb)))) (jax (z5 (jn (jbi (K:=K) rfl) (by rfl) T.n_isinstance kh (ja (qpv 3) (ja (yu (v:=.ty "ValueError") rfl T.n_ValueError bt_ValueError rfl) jb)))) (ja8 (ja5 (z5 (qpv 4))))))) (ji (jm (i:=2) zd.nd rfl (by first | exact Or.inl rfl | exact Or.inr rfl) (kc (ja jg (ja (qpe_excFldW rfl (qpv 3) rfl) jb))))) ju))))) ⟨rfl,rfl⟩ rfl (fun _ _ z=>z) zd.nd rfl rfl rfl rfl)
    (ji (jr (qpv 2)))))),?_⟩
    simp!
    refine ⟨z,a,us,R,rfl,ha,ar,hz,hR,tb,fun e H' kp tb'=>?_,fun i dx H' e kp tb' hd=>?_⟩
    · exact k none _ _ e rfl kp tb'
    · refine ⟨cR,D,NR,rfl,T.c,.inl rfl,fun x hx=>?_⟩
      simp!
      have k1:Kp [] H' (upd H' x (ExW x cR (some dx))):=(Kp.refl [] H').new hx
      have hx1:upd H' x (ExW x cR (some dx)) x=some (ExW x cR (some dx)):=jc
      generalize upd H' x (ExW x cR (some dx))=H1 at k1 hx1 ⊢
      refine ⟨by omega,fun p1 hp1=>?_⟩
      have k2:Kp [] H1 (upd H1 p1 (.tup [.str (Str.ofString "other"),.int (-1)])):=(Kp.refl [] H1).new hp1
      generalize upd H1 p1 (.tup [.str (Str.ofString "other"),.int (-1)])=H2 at k2 ⊢
      refine ⟨by omega,fun p2 hp2=>?_⟩
      have k3:Kp [] H2 (upd H2 p2 (.tup [.ref c0,.ref c1,.ref c2])):=(Kp.refl [] H2).new hp2
      have et2:tupRefs (upd H2 p2 (.tup [.ref c0,.ref c1,.ref c2])) p2 [c0,c1,c2]:=jc
      generalize upd H2 p2 (.tup [.ref c0,.ref c1,.ref c2])=H3 at k3 et2 ⊢
      have k13:=k2.trans k3
      have eaOf:∀ {H3:Hp},Kp [] H1 H3->ExAtW H3 x cR:=fun k=>⟨some dx,k.old _ _ hx1 (by simp),fun d e=>by cases e;exact ⟨_,(k1.trans k).old _ _ hd (by simp)⟩⟩
      have ea3:=eaOf k13
      refine ⟨cR,ea3,D,NR,T.c,T.xi,false,.inr ⟨_,et2,kit_any T.ko⟩,?_⟩
      refine ⟨cR,ea3,D,NR,T.c,T.xi,true,.inl T.kR,?_⟩
      rw [if_pos rfl]
      refine ⟨cR,ea3,D,NR,T.c,T.xi,true,T.kV,?_⟩
      rw [if_pos rfl,if_pos (show (!false)=true from rfl)]
      refine ⟨cR,D,NR,dx,k13.old _ _ hx1 (by simp),_,(k1.trans k13).old _ _ hd (by simp),T.c,T.nf,.int (i:Int),rfl,by omega,fun q hq=>?_⟩
      have k4:Kp [] H' (upd H3 q (.tup [.str (Str.ofString "row"),.int (i:Int)])):=(k1.trans k13).new hq
      exact k (some i) _ _ e ⟨q,rfl,jc⟩ (kp.trans (k4.mono (by simp))) (tb'.kp k4 (by simp) (by simp))
def spRt (Pt:Addr):Sp:=fun vs H Q _=>∃ (z:Str) (a:Addr) (us:List V) (R:List (List V)),vs=[.str z,.ref a]/\H a=some (.tup us)/\AR H us R/\z.length<=100/\R.length<=200/\TabOk H Pt LQ/\∀ H',Kp [Pt] H H'->TabOk H' Pt LQ->Q (.bl true) H'
structure TRt (K:PySem.W.Frag) (mg:Str->Option Value) (fb fa fw:Addr):Prop where
  n_isinstance:mg "isinstance"=none
  n_tuple:mg "tuple"=none
  m5z:mg "_law_first_bad"=some (.ref fb)
  m12z:mg "_law_answer"=some (.ref fa)
  m16z:mg "_law_whole"=some (.ref fw)
  tt:PySem.W.kitOne K (.type "tuple") (.type "tuple")=some true
abbrev ze:Stmt:=top 43
theorem jat:FnScope ["_law_letters_here","_law_saying","_law_due","_law_found"] ["_law_letters_here","_law_saying"] (jj ze):=⟨rfl,rfl,rfl,by decide +kernel,rfl,by decide +kernel,by decide +kernel⟩
theorem ok__law_right {f fb fa fw Pt:Addr} {fd fdb fda fdw:FuncData} (F:Fun K "_law_right" "_law_right" ze f fd) (T:TRt K mg fb fa fw)
    (F5z:Fun K "_law_first_bad" "_law_first_bad" yc fb fdb) (b5z:Binds K fdb ["_law_letters_here","_law_saying"] []) (G5z:FnOk P w K mg base CX0 4 fb fdb ["_law_letters_here","_law_saying"] spFB)
    (F12z:Fun K "_law_answer" "_law_answer" y6 fa fda) (b12z:Binds K fda ["_law_letters_here","_law_saying"] []) (G12z:FnOk P w K mg base CX0 7 fa fda ["_law_letters_here","_law_saying"] (spHe Pt))
    (F16z:Fun K "_law_whole" "_law_whole" zg fw fdw) (b16z:Binds K fdw ["_law_found"] []) (G16z:FnOk P w K mg base CX0 1 fw fdw ["_law_found"] spWhole):FnOk P w K mg base CX0 8 f fd ["_law_letters_here","_law_saying"] (spRt Pt):=by
  refine F.ok jat (fun vs H Q E h=>?_) (fun cdv A outer s H vs Q E hr h=>?_)
  · obtain ⟨z,a,us,R,rfl,_⟩:=h
    rfl
  · obtain ⟨z,a,us,R,rfl,ha,ar,hz,hR,tb,k⟩:=h
    have hu:=hr.units
    have hsz:sizeLine=16777216:=PySem.sizeLine_eq
    refine ⟨_,(QSs.h (jf (jm (i:=2) jat.nd rfl (by first | exact Or.inl rfl | exact Or.inr rfl) (jl G5z (hr.mono (by decide)) rfl T.m5z F5z.kp b5z .nil jt (ja (qpv 0) (ja (qpv 1) jb))))
    (jf (jm (i:=3) jat.nd rfl (by first | exact Or.inl rfl | exact Or.inr rfl) (jl G12z (hr.mono (by decide)) rfl T.m12z F12z.kp b12z .nil jt (ja (qpv 0) (ja (qpv 1) jb))))
    (jf (jw (jo jcm (qpv 2) jbf (jv _)) (ji (jr (zp op_isT (qpv 3) jal (jv _)))) ju)
    (ji (jr (z4 (jn (ke (K:=K) rfl) (by rfl) T.n_isinstance kh (ja (qpv 3) (ja (yu (v:=.ty "tuple") rfl T.n_tuple ja1 rfl) jb))) (z4 (zp (j8 hu) (qpv 3) (kc (ja jg (ja (qpv 2) jb))) (jv _)) (jap (jl G16z (hr.mono (by decide)) rfl T.m16z F16z.kp b16z .nil jt (ja (jq ix_U (qpv 3) jd (fun _ _=>rfl)) jb))))))))))),?_⟩
    simp!
    refine ⟨z,a,us,R,rfl,ha,ar,hz,hR,fun o H1 f1 k1=>?_⟩
    have tb1:=tb.kp k1 (by simp) (by simp)
    refine ⟨z,a,us,R,rfl,k1.tup _ _ ha,ar.kp k1,hz,hR,tb1,fun o' v H2 f2 hv k2 tb2=>?_⟩
    obtain rfl:=f1.one f2
    have k12:=(k1.mono (by simp):Kp [Pt] H H1).trans k2
    cases o with
    | none =>
      cases hv
      simp! [ansV]
      exact k H2 k12 tb2
    | some i =>
      obtain ⟨q,rfl,hq⟩:=hv
      simp! [ansV]
      refine ⟨_,TyOf.tup hq,true,T.tt,?_⟩
      rw [if_pos rfl]
      refine ⟨by omega,fun p hp=>?_⟩
      have k3:Kp [] H2 (upd H2 p (.tup [V.str (Str.ofString "row"),V.int (i:Int)])):=(Kp.refl [] H2).new hp
      have hq3:=k3.tup _ _ hq
      have so:PyData.strOk (Str.ofString "row")=true:=by decide +kernel
      have shp:SeqAt.shaped (.tuple [.str (Str.ofString "row"),.int (i:Int)])=true:=by simp [SeqAt.shaped,PyData.canLay0,PyData.canLayAll0,PyData.depth,PyData.depthAll,so]
      refine ⟨.tuple [.str "row",.int (i:Int)],.tuple [.str "row",.int (i:Int)],⟨q,_,rfl,hq3,by simp [Reps,Rep]⟩,⟨p,_,rfl,jc,by simp [Reps,Rep]⟩,shp,shp,?_⟩
      rw [show PyData.eqv (.tuple [.str "row",.int (i:Int)]) (.tuple [.str "row",.int (i:Int)])=true from by simp [PyData.eqv,PyData.eqvAll]]
      refine ⟨true,rfl,?_⟩
      rw [if_pos rfl]
      exact ⟨_,by rw [hq3];rfl,_,atI_of (by decide) rfl,(i:Int),rfl,k _ (k12.trans (k3.mono (by simp))) (tb2.kp k3 (by simp) (by simp))⟩
end
structure SB (H:Hp) (b:Addr) (H':Hp):Prop where
  kp:Kp [b] H H'
  bx:∃ o,H' b=some o/\BoxO o
theorem SB.take {H H':Hp} {b:Addr} {o1:HO} (h:SB H b H') (ho1:BoxO o1):SB H b (upd H' b o1):=by
  obtain ⟨kp,o,hb,ho⟩:=h
  obtain ⟨xs,rfl⟩:=ho.lst
  exact ⟨kp.set hb (.inl (by simp)),o1,jc,ho1⟩
theorem SB.new {H H':Hp} {b p:Addr} {x:HO} (h:SB H b H') (hp:H' p=none):SB H b (upd H' p x):=by
  obtain ⟨kp,o,hb,ho⟩:=h
  exact ⟨kp.new hp,o,by rw [je (jh hb hp)];exact hb,ho⟩
theorem SB.keep {H H' H2:Hp} {b:Addr} (h:SB H b H') (k:Kp [] H' H2):SB H b H2:=by
  obtain ⟨kp,o,hb,ho⟩:=h
  exact ⟨kp.trans (k.mono (by simp)),o,k.old _ _ hb (by simp),ho⟩
theorem SB.trans {H H' H2:Hp} {b:Addr} (h:SB H b H') (k:SB H' b H2):SB H b H2:=⟨h.kp.trans k.kp,k.bx⟩
theorem SB.tk {H H':Hp} {b:Addr} (h:SB H b H') {w:Int} (w0:0 < w) (w1:w < 1073741824) {Q:VK} {E:XK} (q:∀ d o,0<=d->d < w->BoxO o->SB H b (upd H' b o)->Q (.int d) (upd H' b o)):spTake [.ref b,.int w] H' Q E:=by
  obtain ⟨o,hb,ho⟩:=h.bx
  exact ⟨b,w,o,rfl,hb,ho,w0,w1,fun d o' d0 d1 ho'=>q d o' d0 d1 ho' (h.take ho')⟩
theorem SB.tq {H H':Hp} {b:Addr} (h:SB H b H') {w:Int} (w0:0 < w) (w1:w < 1073741824) {Q:VK} {E:XK} (q:∀ d H2,0<=d->d < w->SB H b H2->Kp [b] H' H2->Q (.int d) H2):spTake [.ref b,.int w] H' Q E:=by
  obtain ⟨o,hb,ho⟩:=h.bx
  refine ⟨b,w,o,rfl,hb,ho,w0,w1,fun d o' d0 d1 ho'=>q d _ d0 d1 (h.take ho') ?_⟩
  obtain ⟨xs,rfl⟩:=ho.lst
  exact (Kp.refl [b] H').set hb (.inl (by simp))
theorem SB.ne {H H':Hp} {b p:Addr} (h:SB H b H') (hp:H' p=none):p≠b:=by
  obtain ⟨o,hb,_⟩:=h.bx
  exact (jh hb hp).symm
theorem at_any {l:List V} {M:V->Prop} (h:∀ v ∈ l,M v) {d:Int} (d0:0<=d) (d1:d < (l.length:Int)):∃ v,atI l d=some v/\M v:=by
  have hd:d.toNat < l.length:=by omega
  exact ⟨l[d.toNat],atI_of d0 (List.getElem?_eq_getElem hd),h _ (List.getElem_mem hd)⟩
theorem cut_len (x:Str) (lo hi:Option Int):(cutS x lo hi).length<=x.length:=by
  rw [← sg_len,← sg_len]
  simp [cutS,sg]
  try omega
theorem up_len:∀ c < 123,97<=c->(Txt.upper ⟨#[c]⟩).length=1:=by decide +kernel
theorem up_lw:∀ c < 123,97<=c->∀ d ∈ (Txt.upper ⟨#[c]⟩).cps.toList,d < 1000:=by decide +kernel
def ShS (v:V):Prop:=∃ y:Str,v=.str y/\y.length<=100/\lw y
theorem At.s {z:Str} (h:z.length<=100) (l:lw z):At (.str z):=.inl ⟨z,rfl,h,l⟩
theorem At.i (i:Int):At (.int i):=.inr ⟨i,rfl⟩
def spON:Sp:=fun vs H Q _=>∃ (b:Addr) (x:Str),vs=[.ref b,.str x]/\SB H b H/\x.length<=60/\lw x/\∀ (y:Str) H',y.length<=100->lw y->SB H b H'->Q (.str y) H'
structure TBd (mg:Str->Option Value) (ft:Addr):Prop where
  n_len:mg "len"=none
  m0z:mg "_law_take"=some (.ref ft)
section
variable {P:Program} {w:World} {K:PySem.W.Frag} {mg:Str->Option Value} {base:Heap}
abbrev yq:Stmt:=top 38
theorem jaj:FnScope ["_law_box_here","_law_name","_law_some"] ["_law_box_here","_law_name"] (jj yq):=⟨rfl,rfl,rfl,by decide +kernel,rfl,by decide +kernel,by decide +kernel⟩
theorem ok__law_odd_name {f ft:Addr} {fd fdt:FuncData} (F:Fun K "_law_odd_name" "_law_odd_name" yq f fd) (T:TBd mg ft) (F0z:Fun K "_law_take" "_law_take" kl ft fdt) (b0z:Binds K fdt ["_law_box_here","_law_wide"] [])
    (G0z:FnOk P w K mg base CX0 1 ft fdt ["_law_box_here","_law_wide"] spTake):FnOk P w K mg base CX0 2 f fd ["_law_box_here","_law_name"] spON:=by
  refine F.ok jaj (fun vs H Q E h=>?_) (fun cdv A outer s H vs Q E hr h=>?_)
  · obtain ⟨b,x,rfl,_⟩:=h
    rfl
  · obtain ⟨b,x,rfl,sb,x2,xw,k⟩:=h
    have hu:=hr.units
    have hsz:sizeLine=16777216:=PySem.sizeLine_eq
    refine exQ (jf (jm (i:=2) jaj.nd rfl (by first | exact Or.inl rfl | exact Or.inr rfl) (j7 (ja jg (ja jg (ja jg (ja jg (ja jg (ja jg (ja jg (ja jg (ja jg (ja jg (ja jg (ja jg (ja jg (ja jg jb jk) jk) jk) jk) jk) jk) jk) jk) jk) jk) jk) jk) jk) jk)))
    (jf (jm (i:=2) jaj.nd rfl (by first | exact Or.inl rfl | exact Or.inr rfl) (jp j6 (qpv 2) (j7 (ja (jp j6 (qpv 1) jg) (ja (jp j6 (ku (ja3 (K:=K) rfl) (qpv 1) kz (ya (jp jag (jn jy (by rfl) T.n_len j9 (ja (qpv 1) jb)) jd))) jg) (ja (jp j6 (qpv 1) jg) jb))))))
    (ji (jr (jq ix_U (qpv 2) (jl G0z (hr.mono (by decide)) rfl T.m0z F0z.kp b0z .nil jt (ja (qpv 0) (ja jd jb))) (fun _ _=>rfl)))))) ?_
    simp!
    refine ⟨by omega,fun p hp=>?_⟩
    have oth:∀ v ∈ [V.str (Str.ofString ""),V.str (Str.ofString "abcd"),V.str (Str.ofString "is"),V.str (Str.ofString "yes"),V.str (Str.ofString "or"),V.str (Str.ofString "and"),V.str (Str.ofString "not"),V.str (Str.ofString "A"),V.str (Str.ofString "a1"),V.str (Str.ofString "a b"),V.str (Str.ofString "x "),V.str (Str.ofString " x"),V.str (Str.ofString "some"),V.str (Str.ofString "a-b")],ShS v:=by
      intro v hv
      simp only [List.mem_cons,List.not_mem_nil,or_false] at hv
      rcases hv with rfl | rfl | rfl | rfl | rfl | rfl | rfl | rfl | rfl | rfl | rfl | rfl | rfl | rfl <;> exact ⟨_,rfl,by decide +kernel,by unfold lw;decide +kernel⟩
    have l14:([V.str (Str.ofString ""),V.str (Str.ofString "abcd"),V.str (Str.ofString "is"),V.str (Str.ofString "yes"),V.str (Str.ofString "or"),V.str (Str.ofString "and"),V.str (Str.ofString "not"),V.str (Str.ofString "A"),V.str (Str.ofString "a1"),V.str (Str.ofString "a b"),V.str (Str.ofString "x "),V.str (Str.ofString " x"),V.str (Str.ofString "some"),V.str (Str.ofString "a-b")]:List V).length=14:=rfl
    generalize [V.str (Str.ofString ""),V.str (Str.ofString "abcd"),V.str (Str.ofString "is"),V.str (Str.ofString "yes"),V.str (Str.ofString "or"),V.str (Str.ofString "and"),V.str (Str.ofString "not"),V.str (Str.ofString "A"),V.str (Str.ofString "a1"),V.str (Str.ofString "a b"),V.str (Str.ofString "x "),V.str (Str.ofString " x"),V.str (Str.ofString "some"),V.str (Str.ofString "a-b")]=ol at oth l14 ⊢
    have sb1:=sb.new (x:=.lst ol) hp
    have e1:upd H p (.lst ol) p=some (.lst ol):=jc
    generalize upd H p (.lst ol)=H1 at sb1 e1 ⊢
    have lz:(Str.ofString "z").length=1:=by decide +kernel
    have lZ:(Str.ofString "Z").length=1:=by decide +kernel
    have ls:(Str.ofString " ").length=1:=by decide +kernel
    have hc:=cut_len x none (some ((x.length:Int) - 1))
    refine ⟨by omega,by omega,by omega,by omega,by omega,by omega,fun p2 hp2=>?_⟩
    have mor:∀ v ∈ [V.str (x++Str.ofString "z"),V.str (cutS x none (some ((x.length:Int) - 1))++Str.ofString "Z"),V.str (x++Str.ofString " ")],ShS v:=by
      intro v hv
      simp only [List.mem_cons,List.not_mem_nil,or_false] at hv
      rcases hv with rfl | rfl | rfl
      · exact ⟨_,rfl,by rw [apl];omega,xw.app (by unfold lw;decide +kernel)⟩
      · exact ⟨_,rfl,by rw [apl];omega,(xw.cut _ _).app (by unfold lw;decide +kernel)⟩
      · exact ⟨_,rfl,by rw [apl];omega,xw.app (by unfold lw;decide +kernel)⟩
    have l3:([V.str (x++Str.ofString "z"),V.str (cutS x none (some ((x.length:Int) - 1))++Str.ofString "Z"),V.str (x++Str.ofString " ")]:List V).length=3:=rfl
    generalize [V.str (x++Str.ofString "z"),V.str (cutS x none (some ((x.length:Int) - 1))++Str.ofString "Z"),V.str (x++Str.ofString " ")]=ml at mor l3 ⊢
    have sb2:=sb1.new (x:=.lst ml) hp2
    have e2:upd H1 p2 (.lst ml) p=some (.lst ol):=by rw [je (jh e1 hp2)];exact e1
    have e3:upd H1 p2 (.lst ml) p2=some (.lst ml):=jc
    generalize upd H1 p2 (.lst ml)=H2 at sb2 e2 e3 ⊢
    refine rAddW.lst e2 e3 (by omega) fun q hq=>(sb2.new hq).tk (by omega) (by omega) fun d o1 d0 d1 ho1 sb3=>?_
    have nq:=sb2.ne hq
    have hq3:=(je (H:=upd H2 q (.lst (ol++ml))) (o:=o1) nq).trans jc
    simp! [hq3]
    obtain ⟨v,av,y,rfl,hy,yw⟩:=at_any (l:=ol++ml) (M:=ShS) (fun v hv=>(List.mem_append.mp hv).elim (oth v) (mor v)) d0 (by rw [List.length_append];omega)
    exact ⟨_,av,k y _ hy yw sb3⟩
end
def AtS (v:V):Prop:=(∃ z:Str,v=.str z/\z.length<=60/\lw z)∨∃ i:Nat,v=.int (i:Int)/\i < 100
theorem nmS_100:∀ i < 100,(nmS ((i:Nat):Int)).length<=100:=by decide +kernel
theorem nmS_lw:∀ i < 100,∀ c ∈ (nmS ((i:Nat):Int)).cps.toList,c < 1000:=by decide +kernel
def spOT:Sp:=fun vs H Q _=>∃ (b r:Addr) (z:Str) (xs:List V) (v:V) (sp n:Nat) (w:Str),vs=[.ref b,.str z,.ref r,.int (sp:Int),.int (n:Int)]/\SB H b H/\Letters z 4/\H r=some (.tup xs)/\xs[0]?=some (.str w)/\xs[sp]?=some v/\AtS v/\n<=100/\∀ (y:V) H',At y->SB H b H'->Q y H'
structure TOT (K:PySem.W.Frag) (mg:Str->Option Value) (ft fo:Addr):Prop where
  n_isinstance:mg "isinstance"=none
  n_int:mg "int"=none
  n_str:mg "str"=none
  m0z:mg "_law_take"=some (.ref ft)
  m25z:mg "_law_odd_name"=some (.ref fo)
section
variable {P:Program} {w:World} {K:PySem.W.Frag} {mg:Str->Option Value} {base:Heap}
abbrev yj:Stmt:=top 39
theorem zr:FnScope ["_law_box_here","_law_letters_here","_law_row","_law_spot","_law_at","_law_thing","_law_letter","_law_some"] ["_law_box_here","_law_letters_here","_law_row","_law_spot","_law_at"] (jj yj):=⟨rfl,rfl,rfl,by decide +kernel,rfl,by decide +kernel,by decide +kernel⟩
theorem ok__law_odd_thing {f ft fo:Addr} {fd fdt fdo:FuncData} (F:Fun K "_law_odd_thing" "_law_odd_thing" yj f fd) (T:TOT K mg ft fo) (TR:TRA K mg) (F0z:Fun K "_law_take" "_law_take" kl ft fdt) (b0z:Binds K fdt ["_law_box_here","_law_wide"] [])
    (G0z:FnOk P w K mg base CX0 1 ft fdt ["_law_box_here","_law_wide"] spTake) (F25z:Fun K "_law_odd_name" "_law_odd_name" yq fo fdo) (b25z:Binds K fdo ["_law_box_here","_law_name"] [])
    (G25z:FnOk P w K mg base CX0 2 fo fdo ["_law_box_here","_law_name"] spON):FnOk P w K mg base CX0 3 f fd ["_law_box_here","_law_letters_here","_law_row","_law_spot","_law_at"] spOT:=by
  refine F.ok zr (fun vs H Q E h=>?_) (fun cdv A outer s H vs Q E hr h=>?_)
  · obtain ⟨b,r,z,xs,v,sp,n,wd,rfl,_⟩:=h
    rfl
  · obtain ⟨b,r,z,xs,v,sp,n,wd,rfl,sb,hz,hr0,h0,hv,av,hn,k⟩:=h
    have hu:=hr.units
    have hgd:=hr.gd
    have hsz:sizeLine=16777216:=PySem.sizeLine_eq
    have zl:=hz.lo
    have zh:=hz.hi
    refine exQ (jf (jm (i:=5) zr.nd rfl (by first | exact Or.inl rfl | exact Or.inr rfl) (jq ix_U (qpv 2) (qpv 3) (fun _ _=>rfl)))
    (jf (jw (jo (j8 hu) (jl G0z (hr.mono (by decide)) rfl T.m0z F0z.kp b0z .nil jt (ja (qpv 0) (ja jd jb))) jd (jv _)) (jf (jw (z5 (jn (ke (K:=K) rfl) (by rfl) T.n_isinstance kh (ja (qpv 5) (ja (yu (v:=.ty "int") rfl T.n_int jar rfl) jb)))) (ji (jr (y4 call_strI (by rfl) T.n_str jbo (ja (qpv 5) jb)))) ju)
    (ji (jr (jl G0z (hr.mono (by decide)) rfl T.m0z F0z.kp b0z .nil jt (ja (qpv 0) (ja (jp j6 (qpv 4) jd) jb)))))) ju)
    (jf (jw (z5 (jn (ke (K:=K) rfl) (by rfl) T.n_isinstance kh (ja (qpv 5) (ja (yu (v:=.ty "int") rfl T.n_int jar rfl) jb)))) (ji (jr (jq ix_U (j7 (ja (qpv 4) (ja (jp j6 (qpv 4) jd) (ja (jbn un_neg jd) (ja (jp jag (qpv 5) (qpv 4)) (ja (jp jb5 jd jd) (ja (jbn un_neg (jp jb5 jd jd)) (ja (jl G0z (hr.mono (by decide)) rfl T.m0z F0z.kp b0z .nil jt (ja (qpv 0) (ja (jp j6 (qpv 4) jd) jb))) jb jcl) jbq) ja7) ja7) jbq) ja7) zi)) (jl G0z (hr.mono (by decide)) rfl T.m0z F0z.kp b0z .nil jt (ja (qpv 0) (ja jd jb))) (fun _ _=>rfl)))) ju)
    (jf (jw (QW.pt (jax (jo (j8 hu) (jq ix_U (qpv 2) jd (fun _ _=>rfl)) jg (jv _)) (ja8 (jo (j8 hu) (qpv 3) jd (jv _))))) (jf (jm (i:=6) zr.nd rfl (by first | exact Or.inl rfl | exact Or.inr rfl) (jq ix_U jg (jl G0z (hr.mono (by decide)) rfl T.m0z F0z.kp b0z .nil jt (ja (qpv 0) (ja jd jb))) (fun _ _=>rfl)))
    (jf (jm (i:=7) zr.nd rfl (by first | exact Or.inl rfl | exact Or.inr rfl) (j7 (ja jg (ja (qpv 1) (ja (ku (ja3 (K:=K) rfl) (qpv 1) kz (ya jd)) (ja (ku (ja3 (K:=K) rfl) (qpv 1) (ya jd) kz) (ja (qpe_up (jq ix_U (qpv 1) jd (fun _ _=>rfl))) (ja (jp j6 (jq ix_U (qpv 1) jd (fun _ _=>rfl)) jg) (ja (qpv 6) jb zi) ja7) jcl) jbb) jbb) zi) jk)))
    (ji (jr (jq ix_U (qpv 7) (jl G0z (hr.mono (by decide)) rfl T.m0z F0z.kp b0z .nil jt (ja (qpv 0) (ja jd jb))) (fun _ _=>rfl)))))) ju)
    (ji (jr (jl G25z (hr.mono (by decide)) rfl T.m25z F25z.kp b25z .nil jt (ja (qpv 0) (ja (qpv 5) jb))))))))) ?_
    simp! [hr0]
    refine ⟨_,atI_nat hv,sb.tq (by omega) (by omega) fun d H1 d0 d1 sb1 k1=>?_⟩
    have hr1:=k1.tup _ _ hr0
    simp!
    have l26:(Str.ofString "abcdefghijklmnopqrstuvwxyz").cps.toList.length=26:=by decide +kernel
    have abw:∀ c ∈ (Str.ofString "abcdefghijklmnopqrstuvwxyz").cps.toList,c < 1000:=by decide +kernel
    have l26':(Str.ofString "abcdefghijklmnopqrstuvwxyz").length=26:=by decide +kernel
    have ls:(Str.ofString " ").length=1:=by decide +kernel
    have hzl:z.cps.toList.length=z.length:=by simp [Str.length]
    obtain ⟨c,hc,cm⟩:∃ c,atI z.cps.toList 0=some c/\c ∈ z.cps.toList:=⟨z.cps.toList[0]'(by omega),atI_of (by decide) (by simp),List.getElem_mem _⟩
    have hup:=up_len c (by have:=(hz.az c cm).2;omega) (hz.az c cm).1
    have lc:(⟨#[c]⟩:Str).length=1:=rfl
    have zw:lw z:=fun c hc=>by have:=(hz.az c hc).2;omega
    have upw:lw (Txt.upper ⟨#[c]⟩):=up_lw c (by have:=(hz.az c cm).2;omega) (hz.az c cm).1
    have cw:lw ⟨#[c]⟩:=lw.one (by have:=(hz.az c cm).2;omega)
    have z1:=cut_len z none (some 2)
    have z2:=cut_len z (some 1) none
    rcases av with ⟨x,rfl,hx,xw⟩ | ⟨i,rfl,hi⟩
    · refine ite2 (fun h=>?_) (fun h=>?_)
      · refine ⟨_,TyOf.str _,false,TR.si,?_⟩
        rw [if_neg (by decide)]
        exact sb1.tq (by omega) (by omega) fun d H2 _ _ sb2 _=>k _ _ (At.i d) sb2
      · refine ⟨_,TyOf.str _,false,TR.si,?_⟩
        simp! [hr1]
        have on:spON [.ref b,.str x] H1 Q E0:=⟨b,x,rfl,⟨Kp.refl _ _,sb1.bx⟩,hx,xw,fun y H' hy yw sb'=>k _ _ (At.s hy yw) (sb1.trans sb')⟩
        refine ⟨_,atI_of (by decide) h0,?_⟩
        simp!
        refine ite2 (fun h1=>ite2 (fun h2=>?_) (fun _=>on)) (fun _=>on)
        refine sb1.tq (by omega) (by omega) fun e H2 e0 e1 sb2 k2=>?_
        simp!
        refine ⟨by omega,(Str.ofString "abcdefghijklmnopqrstuvwxyz").cps.toList[e.toNat]'(by omega),atI_of e0 (by simp),?_⟩
        have gw:(Str.ofString "abcdefghijklmnopqrstuvwxyz").cps.toList[e.toNat]'(by omega) < 1000:=abw _ (List.getElem_mem _)
        generalize (Str.ofString "abcdefghijklmnopqrstuvwxyz").cps.toList[e.toNat]'(by omega)=g at gw ⊢
        refine ⟨by omega,by omega,by omega,c,hc,by rw [hup];decide,by omega,c,hc,by omega,by omega,fun p hp=>(sb2.new hp).tq (by omega) (by omega) fun d2 H3 g0 g1 sb3 k3=>?_⟩
        have hp3:=k3.old _ _ jc (by simpa using sb2.ne hp)
        obtain ⟨v,av,y⟩:=at_any (l:=[V.str (Str.ofString ""),V.str z,V.str (cutS z none (some 2)),V.str (cutS z (some 1) none),V.str (Txt.upper ⟨#[c]⟩),V.str (⟨#[c]⟩++Str.ofString " "),V.str ⟨#[g]⟩]) (M:=At) (fun v hv=>by
          simp only [List.mem_cons,List.not_mem_nil,or_false] at hv
          rcases hv with rfl | rfl | rfl | rfl | rfl | rfl | rfl
          · exact At.s (by decide +kernel) (by unfold lw;decide +kernel)
          · exact At.s (by omega) zw
          · exact At.s (by omega) (zw.cut _ _)
          · exact At.s (by omega) (zw.cut _ _)
          · exact At.s (by omega) upw
          · exact At.s (by rw [apl];omega) (cw.app (by unfold lw;decide +kernel))
          · exact At.s (show 1<=100 by decide) (lw.one gw)) g0 (by simpa using g1)
        simp! [hp3]
        exact ⟨_,av,k _ _ y sb3⟩
    · refine ite2 (fun h=>?_) (fun h=>?_)
      · refine ⟨_,TyOf.int _,true,TR.ii,?_⟩
        rw [if_pos rfl]
        simp! [rStrI_int]
        exact ⟨by omega,by omega,k _ _ (At.s (nmS_100 i hi) (nmS_lw i hi)) sb1⟩
      · refine ⟨_,TyOf.int _,true,TR.ii,?_⟩
        rw [if_pos rfl]
        refine ⟨(i:Int),rfl,⟨by decide,by decide,by decide⟩,⟨by decide,by decide,by decide⟩,sb1.tq (by omega) (by omega) fun e H2 e0 e1 sb2 k2=>⟨by omega,fun p hp=>(sb2.new hp).tq (by omega) (by omega) fun d2 H3 g0 g1 sb3 k3=>?_⟩⟩
        have hp3:=k3.old _ _ jc (by simpa using sb2.ne hp)
        obtain ⟨v,av,y⟩:=at_any (l:=[V.int (n:Int),V.int ((n:Int)+1),V.int (-1),V.int ((i:Int) - (n:Int)),V.int (10 ^ Int.toNat 18),V.int (-10 ^ Int.toNat 18),V.int e]) (M:=At) (fun v hv=>by
          simp only [List.mem_cons,List.not_mem_nil,or_false] at hv
          rcases hv with rfl | rfl | rfl | rfl | rfl | rfl | rfl <;> exact At.i _) g0 (by simpa using g1)
        simp! [hp3]
        exact ⟨_,av,k _ _ y sb3⟩
end
structure RowG (xs:List V):Prop where
  at_:∀ v ∈ xs,AtS v
  len:xs.length<=3
  hd:∃ w r,xs=.str w::r
theorem AtS.at {v:V} (h:AtS v):At v:=by
  rcases h with ⟨z,rfl,hz,w⟩ | ⟨i,rfl,_⟩
  · exact At.s (by omega) w
  · exact At.i _
theorem cutV_mem {xs:List V} {lo hi:Option Int} {v:V} (h:v ∈ cutV xs lo hi):v ∈ xs:=by
  exact List.mem_of_mem_drop (List.mem_of_mem_take h)
theorem cutV_len (xs:List V) (lo hi:Option Int):(cutV xs lo hi).length<=xs.length:=by
  unfold cutV
  simp
  try omega
theorem cutV_hd (w:Str) (rest:List V) (hi:Option Int):cutV (V.str w::rest) none hi=[]∨∃ z r,cutV (V.str w::rest) none hi=V.str z::r:=by
  show ((V.str w::rest).drop 0).take _=[]∨∃ z r,((V.str w::rest).drop 0).take _=V.str z::r
  generalize HT.sIx (V.str w::rest).length (V.str w::rest).length hi - HT.sIx (V.str w::rest).length 0 none=k
  cases k with
  | zero=>exact .inl rfl
  | succ k=>exact .inr ⟨w,rest.take k,rfl⟩
theorem cutV_hd1 (w:Str) (rest:List V) (j:Nat):∃ r,cutV (V.str w::rest) none (some ((1+j:Nat):Int))=V.str w::r:=by
  unfold cutV
  rw [HT.sIx_nat,HT.sIx_none]
  exact ⟨rest.take (min j rest.length),by rw [show min (1+j) (V.str w::rest).length - 0=min j rest.length+1 by rw [List.length_cons];omega];rfl⟩
def spOR:Sp:=fun vs H Q _=>∃ (b r:Addr) (z:Str) (xs:List V) (n:Nat),vs=[.ref b,.str z,.ref r,.int (n:Int)]/\SB H b H/\Letters z 4/\H r=some (.tup xs)/\RowG xs/\n<=100/\∀ (q:Addr) (ys:List V) H',RowO ys->H' q=some (.tup ys)->SB H b H'->Q (.ref q) H'
structure TOR (mg:Str->Option Value) (ft fo fp:Addr):Prop where
  n_len:mg "len"=none
  m0z:mg "_law_take"=some (.ref ft)
  m17z:mg "_law_odd_thing"=some (.ref fo)
  m3z:mg "_law_place_names"=some (.ref fp)
section
variable {P:Program} {w:World} {K:PySem.W.Frag} {mg:Str->Option Value} {base:Heap}
abbrev yy:Stmt:=top 40
theorem yp:FnScope ["_law_box_here","_law_letters_here","_law_row","_law_at","_law_way","_law_some","_law_spot","_law_thing"] ["_law_box_here","_law_letters_here","_law_row","_law_at"] (jj yy):=⟨rfl,rfl,rfl,by decide +kernel,rfl,by decide +kernel,by decide +kernel⟩
theorem ok__law_odd_row {f ft fo fp:Addr} {fd fdt fdo fdp:FuncData} (F:Fun K "_law_odd_row" "_law_odd_row" yy f fd) (T:TOR mg ft fo fp) (F0z:Fun K "_law_take" "_law_take" kl ft fdt) (b0z:Binds K fdt ["_law_box_here","_law_wide"] [])
    (G0z:FnOk P w K mg base CX0 1 ft fdt ["_law_box_here","_law_wide"] spTake) (F17z:Fun K "_law_odd_thing" "_law_odd_thing" yj fo fdo) (b17z:Binds K fdo ["_law_box_here","_law_letters_here","_law_row","_law_spot","_law_at"] [])
    (G17z:FnOk P w K mg base CX0 3 fo fdo ["_law_box_here","_law_letters_here","_law_row","_law_spot","_law_at"] spOT) (F3z:Fun K "_law_place_names" "_law_place_names" ki fp fdp) (b3z:Binds K fdp ["_law_box_here","_law_many"] [])
    (G3z:FnOk P w K mg base CX0 2 fp fdp ["_law_box_here","_law_many"] spPN):FnOk P w K mg base CX0 4 f fd ["_law_box_here","_law_letters_here","_law_row","_law_at"] spOR:=by
  refine F.ok yp (fun vs H Q E h=>?_) (fun cdv A outer s H vs Q E hr h=>?_)
  · obtain ⟨b,r,z,xs,n,rfl,_⟩:=h
    rfl
  · obtain ⟨b,r,z,xs,n,rfl,sb,hz,hr0,rg,hn,k⟩:=h
    have hu:=hr.units
    have hsz:sizeLine=16777216:=PySem.sizeLine_eq
    have zl:=hz.lo
    have zh:=hz.hi
    have xl:=rg.len
    refine exQ (jf (jm (i:=4) yp.nd rfl (by first | exact Or.inl rfl | exact Or.inr rfl) (jl G0z (hr.mono (by decide)) rfl T.m0z F0z.kp b0z .nil jt (ja (qpv 0) (ja jd jb))))
    (jf (jw (jo (j8 hu) (qpv 4) jd (jv _)) (ji (jr (kc jb))) ju)
    (jf (jw (jo (j8 hu) (qpv 4) jd (jv _)) (ji (jr (jp jab (qpv 2) (kc (ja (jq ix_U (j7 (ja (jq ix_U (jl G3z (hr.mono (by decide)) rfl T.m3z F3z.kp b3z .nil jt (ja (qpv 0) (ja jd jb))) jd (fun _ _=>rfl)) (ja jd (ja (jq ix_U (qpv 1) jd (fun _ _=>rfl)) jb)))) (jl G0z (hr.mono (by decide)) rfl T.m0z F0z.kp b0z .nil jt (ja (qpv 0) (ja jd jb))) (fun _ _=>rfl)) jb))))) ju)
    (jf (jw (jo (j8 hu) (qpv 4) jd (jv _)) (ji (jr (ku (jaw (K:=K) rfl) (qpv 2) kz (ya (jp jag (jn jy (by rfl) T.n_len j9 (ja (qpv 2) jb)) jd))))) ju)
    (jf (jw (jo (j8 hu) (qpv 4) jd (jv _)) (jf (jm (i:=5) yp.nd rfl (by first | exact Or.inl rfl | exact Or.inr rfl) (j7 (ja jg (ja jg (ja jg (ja jg (ja jg (ja jg (ja jg jb jk) jk) jk) jk) jk) jk) jk)))
    (jf (jm (i:=5) yp.nd rfl (by first | exact Or.inl rfl | exact Or.inr rfl) (jp j6 (qpv 5) (j7 (ja jg (ja jg (ja jg (ja jg (ja jg (ja jg (ja jg jb jk) jk) jk) jk) jk) jk) jk))))
    (ji (jr (jp jab (kc (ja (jq ix_U (qpv 5) (jl G0z (hr.mono (by decide)) rfl T.m0z F0z.kp b0z .nil jt (ja (qpv 0) (ja jd jb))) (fun _ _=>rfl)) jb)) (ku (jaw (K:=K) rfl) (qpv 2) (ya jd) kz)))))) ju)
    (jf (jw (jo (j8 hu) (qpv 4) jd (jv _)) (jf (jm (i:=5) yp.nd rfl (by first | exact Or.inl rfl | exact Or.inr rfl) (j7 (ja jg (ja jg (ja jg (ja jg (ja jg (ja jg (ja jg (ja jg jb jk) jk) jk) jk) jk) jk) jk) jk)))
    (ji (jr (jp jab (kc (ja (jq ix_U (qpv 5) (jl G0z (hr.mono (by decide)) rfl T.m0z F0z.kp b0z .nil jt (ja (qpv 0) (ja jd jb))) (fun _ _=>rfl)) jb)) (ku (jaw (K:=K) rfl) (qpv 2) (ya jd) kz))))) ju)
    (jf (jw (jo (j8 hu) (jn jy (by rfl) T.n_len j9 (ja (qpv 2) jb)) jd (jv _)) (ji (jr (kc (ja (jq ix_U (j7 (ja jg (ja jg (ja jg (ja jg jb))))) (jl G0z (hr.mono (by decide)) rfl T.m0z F0z.kp b0z .nil jt (ja (qpv 0) (ja jd jb))) (fun _ _=>rfl)) jb)))) ju)
    (jf (jm (i:=6) yp.nd rfl (by first | exact Or.inl rfl | exact Or.inr rfl) (jp j6 jd (jl G0z (hr.mono (by decide)) rfl T.m0z F0z.kp b0z .nil jt (ja (qpv 0) (ja (jp jag (jn jy (by rfl) T.n_len j9 (ja (qpv 2) jb)) jd) jb)))))
    (jf (jm (i:=7) yp.nd rfl (by first | exact Or.inl rfl | exact Or.inr rfl) (jl G17z (hr.mono (by decide)) rfl T.m17z F17z.kp b17z .nil jt (ja (qpv 0) (ja (qpv 1) (ja (qpv 2) (ja (qpv 6) (ja (qpv 3) jb zi) zi) zi) zi) zi)))
    (ji (jr (jp jab (jp jab (ku (jaw (K:=K) rfl) (qpv 2) kz (ya (qpv 6))) (kc (ja (qpv 7) jb))) (ku (jaw (K:=K) rfl) (qpv 2) (ya (jp j6 (qpv 6) jd)) kz))))))))))))) ?_
    simp!
    refine sb.tq (by omega) (by omega) fun d H1 d0 d1 sb1 k1=>?_
    have hr1:=k1.tup _ _ hr0
    simp!
    have r1:∀ y:Str,y.length<=100->lw y->RowO [.str y]:=fun y hy yw=>⟨by simp,fun v hv=>by rw [List.mem_singleton.mp hv];exact At.s hy yw,.inr ⟨y,[],rfl⟩⟩
    have atx:∀ v ∈ xs,At v:=fun v hv=>(rg.at_ v hv).at
    have hzl:z.cps.toList.length=z.length:=by simp [Str.length]
    have wrd:∀ (y:Str),y.length<=100->lw y->∀ H2,SB H b H2->∀ p,H2 p=none->rSlV K (.ref r) (some 1) none (upd H2 p (.tup [.str y])) (fun y' H2=>rAddX (.ref p) y' H2 Q):=fun y hy yw H2 sb2 p hp=>by
      have sb3:=sb2.new (x:=.tup [.str y]) hp
      refine rSlV.tup (sb3.kp.tup _ _ hr0) fun p1 H3 h1 k3=>?_
      refine ⟨p,p1,_,_,rfl,rfl,k3.tup _ _ jc,h1,by have:=cutV_len xs (some 1) none;simp;omega,fun q H4 k4 hq=>k q _ H4 ⟨by have:=cutV_len xs (some 1) none;simp;omega,fun v hv=>?_,.inr ⟨y,_,rfl⟩⟩ hq ((sb3.keep k3).keep k4)⟩
      have hv:v=V.str y∨v ∈ cutV xs (some 1) none:=by simpa using hv
      rcases hv with rfl | h
      · exact At.s hy yw
      · exact atx v (cutV_mem h)
    refine ite2 (fun h=>?_) (fun h=>ite2 (fun h'=>?_) (fun h'=>?_))
    · exact ⟨by omega,fun p hp=>k p [] _ ⟨by simp,by simp,.inl rfl⟩ jc (sb1.new hp)⟩
    · obtain ⟨o1,hb1,ho1⟩:=sb1.bx
      refine ⟨b,1,o1,rfl,hb1,ho1,by omega,by omega,fun p zs o' H2 lz nz hp hp2 ho' hb' k2=>?_⟩
      have sb2:SB H b H2:=sb1.trans ⟨k2,o',hb',ho'⟩
      obtain ⟨y,rfl⟩:∃ y,zs=[y]:=one_of lz
      simp! [hp2]
      refine ⟨by omega,z.cps.toList[0]'(by omega),atI_of (by decide) (by simp),by omega,fun t ht=>(sb2.new ht).tq (by omega) (by omega) fun e H3 e0 e1 sb3 k3=>?_⟩
      have cw:z.cps.toList[0]'(by omega) < 1000:=by have:=(hz.az _ (List.getElem_mem (by omega:0 < z.cps.toList.length))).2;omega
      generalize z.cps.toList[0]'(by omega)=c at k3 cw ⊢
      have ht3:=k3.old _ _ jc (by simpa using sb2.ne ht)
      obtain ⟨v,av,aty⟩:=at_any (l:=[V.str y,V.int 0,V.str ⟨#[c]⟩]) (M:=At) (fun v hv=>by
        simp only [List.mem_cons,List.not_mem_nil,or_false] at hv
        rcases hv with rfl | rfl | rfl
        · exact At.s (by have:=(nz y (.head _)).1;omega) (fun c hc=>by have:=((nz y (.head _)).2.1 c hc).2;omega)
        · exact At.i 0
        · exact At.s (show 1<=100 by decide) (lw.one cw)) e0 (by simpa using e1)
      simp! [ht3]
      refine ⟨_,av,by omega,fun u hu'=>?_⟩
      have sb4:=sb3.new (x:=.tup [v]) hu'
      refine ⟨r,u,_,_,rfl,rfl,sb4.kp.tup _ _ hr0,jc,by simp;omega,fun q H5 k5 hq=>k q _ H5 ⟨by simp;omega,fun x hx=>?_,?_⟩ hq (sb4.keep k5)⟩
      · rcases List.mem_append.mp hx with h | h
        · exact atx x h
        · rw [List.mem_singleton.mp h];exact aty
      · obtain ⟨wd,rest,rfl⟩:=rg.hd
        exact .inr ⟨wd,_,rfl⟩
    refine ite2 (fun h2=>?_) (fun h2=>ite2 (fun h3=>?_) (fun h3=>ite2 (fun h4=>?_) (fun h4=>?_)))
    · refine ⟨xs,by rw [hr1];rfl,rSlV.tup hr1 fun p1 H2 hp1 k2=>k p1 _ H2 ⟨by have:=cutV_len xs none (some ((xs.length:Int) - 1));omega,fun v hv=>atx v (cutV_mem hv),?_⟩ hp1 (sb1.keep k2)⟩
      obtain ⟨wd,rest,rfl⟩:=rg.hd
      exact cutV_hd _ _ _
    · have oa:∀ v ∈ [V.str (Str.ofString "Yes"),V.str (Str.ofString "iss"),V.str (Str.ofString "i"),V.str (Str.ofString "aheads"),V.str (Str.ofString "nor"),V.str (Str.ofString "an"),V.str (Str.ofString "orr")],ShS v:=by
        intro v hv
        simp only [List.mem_cons,List.not_mem_nil,or_false] at hv
        rcases hv with rfl | rfl | rfl | rfl | rfl | rfl | rfl <;> exact ⟨_,rfl,by decide +kernel,by unfold lw;decide +kernel⟩
      have ob:∀ v ∈ [V.str (Str.ofString "som"),V.str (Str.ofString "every"),V.str (Str.ofString "eac"),V.str (Str.ofString ""),V.str (Str.ofString " "),V.str (Str.ofString "letter"),V.str (Str.ofString "blank")],ShS v:=by
        intro v hv
        simp only [List.mem_cons,List.not_mem_nil,or_false] at hv
        rcases hv with rfl | rfl | rfl | rfl | rfl | rfl | rfl <;> exact ⟨_,rfl,by decide +kernel,by unfold lw;decide +kernel⟩
      have la:([V.str (Str.ofString "Yes"),V.str (Str.ofString "iss"),V.str (Str.ofString "i"),V.str (Str.ofString "aheads"),V.str (Str.ofString "nor"),V.str (Str.ofString "an"),V.str (Str.ofString "orr")]:List V).length=7:=rfl
      have lb:([V.str (Str.ofString "som"),V.str (Str.ofString "every"),V.str (Str.ofString "eac"),V.str (Str.ofString ""),V.str (Str.ofString " "),V.str (Str.ofString "letter"),V.str (Str.ofString "blank")]:List V).length=7:=rfl
      generalize [V.str (Str.ofString "Yes"),V.str (Str.ofString "iss"),V.str (Str.ofString "i"),V.str (Str.ofString "aheads"),V.str (Str.ofString "nor"),V.str (Str.ofString "an"),V.str (Str.ofString "orr")]=ol at oa la ⊢
      generalize [V.str (Str.ofString "som"),V.str (Str.ofString "every"),V.str (Str.ofString "eac"),V.str (Str.ofString ""),V.str (Str.ofString " "),V.str (Str.ofString "letter"),V.str (Str.ofString "blank")]=ml at ob lb ⊢
      refine ⟨by omega,fun p hp=>⟨by omega,fun p2 hp2=>?_⟩⟩
      have sb2:=sb1.new (x:=.lst ol) hp
      have e1:upd H1 p (.lst ol) p=some (.lst ol):=jc
      generalize upd H1 p (.lst ol)=H2 at sb2 e1 hp2 ⊢
      have sb3:=sb2.new (x:=.lst ml) hp2
      have e2:upd H2 p2 (.lst ml) p=some (.lst ol):=by rw [je (jh e1 hp2)];exact e1
      have e3:upd H2 p2 (.lst ml) p2=some (.lst ml):=jc
      generalize upd H2 p2 (.lst ml)=H3 at sb3 e2 e3 ⊢
      refine rAddW.lst e2 e3 (by omega) fun q hq=>(sb3.new hq).tq (by omega) (by omega) fun e H4 e0 e1' sb4 k4=>?_
      have hq4:=k4.old _ _ jc (by simpa using sb3.ne hq)
      obtain ⟨v,av,y,rfl,hy,yw⟩:=at_any (l:=ol++ml) (M:=ShS) (fun v hv=>(List.mem_append.mp hv).elim (oa v) (ob v)) e0 (by rw [List.length_append];omega)
      simp! [hq4]
      exact ⟨_,av,by omega,fun u hu'=>wrd y hy yw _ sb4 u hu'⟩
    · have oc:∀ v ∈ [V.str (Str.ofString "yes"),V.str (Str.ofString "is"),V.str (Str.ofString "ahead"),V.str (Str.ofString "not"),V.str (Str.ofString "and"),V.str (Str.ofString "or"),V.str (Str.ofString "some"),V.str (Str.ofString "each")],ShS v:=by
        intro v hv
        simp only [List.mem_cons,List.not_mem_nil,or_false] at hv
        rcases hv with rfl | rfl | rfl | rfl | rfl | rfl | rfl | rfl <;> exact ⟨_,rfl,by decide +kernel,by unfold lw;decide +kernel⟩
      refine ⟨by omega,fun p hp=>(sb1.new hp).tq (by omega) (by omega) fun e H2 e0 e1 sb2 k2=>?_⟩
      have hp2:=k2.old _ _ jc (by simpa using sb1.ne hp)
      obtain ⟨v,av,y,rfl,hy,yw⟩:=at_any oc e0 (by simpa using e1)
      simp! [hp2]
      exact ⟨_,av,by omega,fun u hu'=>wrd y hy yw _ sb2 u hu'⟩
    · have od:∀ v ∈ [V.str (Str.ofString "yes "),V.str (Str.ofString "yess"),V.str (Str.ofString "YES"),V.str (Str.ofString "ye")],ShS v:=by
        intro v hv
        simp only [List.mem_cons,List.not_mem_nil,or_false] at hv
        rcases hv with rfl | rfl | rfl | rfl <;> exact ⟨_,rfl,by decide +kernel,by unfold lw;decide +kernel⟩
      refine ⟨xs,by rw [hr1];rfl,ite2 (fun h5=>?_) (fun h5=>?_)⟩
      · refine ⟨by omega,fun p hp=>(sb1.new hp).tq (by omega) (by omega) fun e H2 e0 e1 sb2 k2=>?_⟩
        have hp2:=k2.old _ _ jc (by simpa using sb1.ne hp)
        obtain ⟨v,av,y,rfl,hy,yw⟩:=at_any od e0 (by simpa using e1)
        simp! [hp2]
        exact ⟨_,av,by omega,fun u hu'=>k u _ _ (r1 y hy yw) jc (sb2.new hu')⟩
      · obtain ⟨wd,rest,rfl⟩:=rg.hd
        refine ⟨_,by rw [hr1];rfl,sb1.tq (by simp at h5 ⊢;omega) (by simp at xl ⊢;omega) fun e H2 e0 e1 sb2 k2=>?_⟩
        simp!
        obtain ⟨j,rfl⟩:∃ j:Nat,e=(j:Int):=⟨e.toNat,by omega⟩
        have hj:j < rest.length:=by simp at e1;omega
        have hr2:=k2.tup _ _ hr1
        have hv:(V.str wd::rest)[1+j]?=some rest[j]:=by rw [Nat.add_comm];simp [hj]
        rw [show (1:Int)+(j:Int)=((1+j:Nat):Int) by omega]
        refine ⟨b,r,z,_,_,1+j,n,wd,rfl,⟨Kp.refl _ _,sb2.bx⟩,hz,hr2,rfl,hv,rg.at_ _ (.tail _ (List.getElem_mem hj)),hn,fun y H3 aty sb3=>?_⟩
        have sb3':=sb2.trans sb3
        refine rSlV.tup (sb3'.kp.tup _ _ hr0) fun p1 H4 hp1 k4=>⟨by omega,fun u hu'=>?_⟩
        have sb4:=(sb3'.keep k4).new (x:=.tup [y]) hu'
        have l1:=cutV_len (V.str wd::rest) none (some ((1+j:Nat):Int))
        have l2:=cutV_len (V.str wd::rest) (some (((1+j:Nat):Int)+1)) none
        refine ⟨p1,u,_,_,rfl,rfl,by rw [je (jh hp1 hu')];exact hp1,jc,by simp only [List.length_append,List.length_cons,List.length_nil] at *;omega,fun q1 H5 k5 hq1=>?_⟩
        have sb5:=sb4.keep k5
        refine rSlV.tup (sb5.kp.tup _ _ hr0) fun p2 H6 hp2 k6=>⟨q1,p2,_,_,rfl,rfl,k6.tup _ _ hq1,hp2,by simp only [List.length_append,List.length_cons,List.length_nil] at *;omega,fun q2 H7 k7 hq2=>k q2 _ H7 ⟨by simp only [List.length_append,List.length_cons,List.length_nil] at *;omega,fun x hx=>?_,?_⟩ hq2 ((sb5.keep k6).keep k7)⟩
        · rcases List.mem_append.mp hx with h | h
          · rcases List.mem_append.mp h with h | h
            · exact atx x (cutV_mem h)
            · rw [List.mem_singleton.mp h];exact aty
          · exact atx x (cutV_mem h)
        · obtain ⟨rr,er⟩:=cutV_hd1 wd rest j
          rw [er]
          exact .inr ⟨wd,_,rfl⟩
end
theorem NmOk.nm {z:Str} (h:NmOk z):isNm z=true:=by
  obtain ⟨h1,h2,h3,h4⟩:=h
  have e:inV (.str z) (NN.map V.str)=false:=h4
  have a:z.cps.toList.all azB=true:=List.all_eq_true.mpr fun c hc=>by
    have:=h2 c hc
    simp [azB,this.1,this.2]
  simp only [isNm,e,a,Bool.or_false,Bool.and_true,Bool.not_eq_true',Bool.or_eq_false_iff,decide_eq_false_iff_not]
  omega
theorem RowG.of {z:Str} {zs:List Str} {k:Nat} (hz:Letters z 4) (nz:∀ x ∈ zs,NmOk x) (hk:k<=100):∀ {r:RS},r.ok zs k->r.lt z->RowG (rowV r):=by
  have nm:∀ x ∈ zs,AtS (.str x):=fun x hx=>.inl ⟨x,rfl,by have:=(nz x hx).1;omega,fun c hc=>by have:=((nz x hx).2.1 c hc).2;omega⟩
  have nu:∀ i:Nat,i < k->AtS (.int (i:Int)):=fun i hi=>.inr ⟨i,rfl,by omega⟩
  have cs:∀ x:Str,x.length<=60->lw x->AtS (.str x):=fun x h l=>.inl ⟨x,rfl,h,l⟩
  intro r ok l
  cases r with
  | yes=>exact ⟨fun v hv=>by rw [List.mem_singleton.mp hv];exact cs _ (by decide +kernel) (by unfold lw;decide +kernel),by simp [rowV],_,_,rfl⟩
  | is x a =>
    obtain ⟨c,hc,rfl⟩:=l
    refine ⟨fun v hv=>?_,by simp [rowV],_,_,rfl⟩
    simp only [rowV,List.mem_cons,List.not_mem_nil,or_false] at hv
    rcases hv with rfl | rfl | rfl
    · exact cs _ (by decide +kernel) (by unfold lw;decide +kernel)
    · exact nm x ok
    · exact cs _ (show 1<=60 by decide) (lw.one (by have:=(hz.az c hc).2;omega))
  | ahead x y =>
    refine ⟨fun v hv=>?_,by simp [rowV],_,_,rfl⟩
    simp only [rowV,List.mem_cons,List.not_mem_nil,or_false] at hv
    rcases hv with rfl | rfl | rfl
    · exact cs _ (by decide +kernel) (by unfold lw;decide +kernel)
    · exact nm x ok.1
    · exact nm y ok.2
  | no i =>
    refine ⟨fun v hv=>?_,by simp [rowV],_,_,rfl⟩
    simp only [rowV,List.mem_cons,List.not_mem_nil,or_false] at hv
    rcases hv with rfl | rfl
    · exact cs _ (by decide +kernel) (by unfold lw;decide +kernel)
    · exact nu i ok
  | bin b i j =>
    refine ⟨fun v hv=>?_,by simp [rowV],_,_,rfl⟩
    simp only [rowV,List.mem_cons,List.not_mem_nil,or_false] at hv
    rcases hv with rfl | rfl | rfl
    · cases b <;> exact cs _ (by decide +kernel) (by unfold lw;decide +kernel)
    · exact nu i ok.1
    · exact nu j ok.2
  | qn b x i =>
    refine ⟨fun v hv=>?_,by simp [rowV],_,_,rfl⟩
    simp only [rowV,List.mem_cons,List.not_mem_nil,or_false] at hv
    rcases hv with rfl | rfl | rfl
    · cases b <;> exact cs _ (by decide +kernel) (by unfold lw;decide +kernel)
    · exact nm x ok.1
    · exact nu i ok.2
theorem RowG.o {xs:List V} (h:RowG xs):RowO xs:=⟨by have:=h.len;omega,fun v hv=>(h.at_ v hv).at,.inr h.hd⟩
theorem good_of {z:Str} {zs:List Str} {i:Nat} (nz:∀ x ∈ zs,NmOk x):∀ {r:RS},r.ok zs i->r.lt z->goodB z (i:Int) (rowV r)=true:=by
  have nN:∀ x ∈ zs,fitsB z (i:Int) "name" (.str x)=true:=fun x hx=>(nz x hx).nm
  have nR:∀ j:Nat,j < i->fitsB z (i:Int) "row" (.int (j:Int))=true:=fun j hj=>by
    show (decide (0<=(j:Int)) && decide ((j:Int) < (i:Int)))=true
    simp;omega
  intro r ok l
  cases r with
  | yes=>rfl
  | is x a =>
    obtain ⟨c,hc,rfl⟩:=l
    have nL:fitsB z (i:Int) "letter" (.str ⟨#[c]⟩)=true:=by
      show (decide ((⟨#[c]⟩:Str).length=1) && hasS z ⟨#[c]⟩)=true
      rw [hasS_one]
      simp [hc]
      rfl
    rw [show rowV (.is x ⟨#[c]⟩)=[.str "is",.str x,.str ⟨#[c]⟩] from rfl,goodB_some (ks:=["name","letter"]) rfl]
    simp [nN x ok,nL]
  | ahead x y =>
    rw [show rowV (.ahead x y)=[.str "ahead",.str x,.str y] from rfl,goodB_some (ks:=["name","name"]) rfl]
    simp [nN x ok.1,nN y ok.2]
  | no j =>
    rw [show rowV (.no j)=[.str "not",.int (j:Int)] from rfl,goodB_some (ks:=["row"]) rfl]
    simp [nR j ok]
  | bin b j k =>
    rw [show rowV (.bin b j k)=[.str (bw b),.int (j:Int),.int (k:Int)] from rfl,goodB_some (ks:=["row","row"]) (by cases b <;> rfl)]
    simp [nR j ok.1,nR k ok.2]
  | qn b x k =>
    rw [show rowV (.qn b x k)=[.str (qw b),.str x,.int (k:Int)] from rfl,goodB_some (ks:=["name","row"]) (by cases b <;> rfl)]
    simp [nN x ok.1,nR k ok.2]
theorem Good.fb {z:Str} {zs:List Str} {rs:List RS} (nz:∀ x ∈ zs,NmOk x) (g:Good z zs rs) (h1:1<=rs.length):FBs z (rs.map rowV) none:=by
  obtain ⟨ok,okl,G,cf,g3⟩:=g
  have gl:=cf.len
  have go:∀ m i,i+m=rs.length->FB z ((rs.drop i).map rowV) i (G.take i) none:=by
    intro m
    induction m with
    | zero=>intro i hi;rw [List.drop_of_length_le (by omega)];exact .nil
    | succ m ih =>
      intro i hi
      have hlt:i < rs.length:=by omega
      have hri:rs[i]?=some rs[i]:=List.getElem?_eq_getElem hlt
      have okr:=ok i _ hri
      have gi:∀ j,j < i->G.getD j []=(G.take i).getD j []:=fun j hj=>by rw [List.getD_eq_getElem?_getD,List.getD_eq_getElem?_getD,List.getElem?_take,if_pos hj]
      have c:=cf.at_ i _ hri
      rw [fm_cong gi okr] at c
      have ed:rs.drop i=rs[i]::rs.drop (i+1):=List.drop_eq_getElem_cons hlt
      have et:G.take (i+1)=G.take i++[G.getD i []]:=by
        rw [take_snoc (List.getElem?_eq_getElem (by omega:i < G.length)),List.getD_eq_getElem?_getD,List.getElem?_eq_getElem (by omega:i < G.length)];rfl
      rw [ed,List.map_cons]
      refine .good (good_of nz okr (okl _ (List.getElem_mem hlt))) rfl c (g3 i) ?_
      rw [← et]
      exact ih (i+1) (by omega)
  have:=go rs.length 0 (by omega)
  exact .inr ⟨fun e=>by have:=congrArg List.length e;rw [List.length_map,List.length_nil] at this;omega,this⟩
theorem AR.of {z:Str} {zs:List Str} {H:Hp} {us:List V} {rs:List RS} (hz:Letters z 4) (nz:∀ x ∈ zs,NmOk x) (g:Good z zs rs) (h9:rs.length<=100) (ra:RowsAt H us rs):AR H us (rs.map rowV):=by
  have hg:∀ r ∈ rs,RowG (rowV r):=fun r hr=>by
    obtain ⟨i,hi,e⟩:=List.getElem_of_mem hr
    exact RowG.of hz nz (by omega:i<=100) (g.1 i r (by rw [List.getElem?_eq_getElem hi,e])) (g.2.1 r hr)
  clear g h9
  induction ra with
  | nil=>exact .nil
  | cons h t ih =>
    obtain ⟨a,e1,e2⟩:=h
    exact .cons ⟨a,e1,e2,(hg _ (.head _)).o⟩ (ih fun r hr=>hg r (.tail _ hr))
def pyV:V->PyData
  | .str x=>.str x
  | .int i=>.int i
  | _=>.none
theorem reps_row (H:Hp):∀ {xs:List V},(∀ v ∈ xs,At v)->Reps H xs (xs.map pyV)
  | [],_=>by simp [Reps]
  | v::r,h=>by
    refine ⟨?_,reps_row H fun x hx=>h x (.tail _ hx)⟩
    rcases h v (.head _) with ⟨z,rfl,_⟩ | ⟨i,rfl⟩ <;> rfl
theorem lw_ok {z:Str} (h:lw z):PyData.strOk z=true:=by
  unfold PyData.strOk
  rw [Array.all_eq_true_iff_forall_mem]
  intro c hc
  have:=h c (by simpa using hc)
  simp;omega
theorem lay_row:∀ {xs:List V},(∀ v ∈ xs,At v)->PyData.canLayAll0 (xs.map pyV)=true/\PyData.depthAll (xs.map pyV)<=1
  | [],_=>by simp [PyData.canLayAll0,PyData.depthAll]
  | v::r,h=>by
    have ih:=lay_row (xs:=r) fun x hx=>h x (.tail _ hx)
    rcases h v (.head _) with ⟨z,rfl,_,l⟩ | ⟨i,rfl⟩
    · simp [pyV,PyData.canLayAll0,PyData.canLay0,PyData.depthAll,PyData.depth,ih.1,lw_ok l]
      exact ih.2
    · simp [pyV,PyData.canLayAll0,PyData.canLay0,PyData.depthAll,PyData.depth,ih.1]
      exact ih.2
theorem shaped_row {xs:List V} (h:∀ v ∈ xs,At v):SeqAt.shaped (.tuple (xs.map pyV))=true:=by
  have:=lay_row h
  simp [SeqAt.shaped,PyData.canLay0,PyData.depth,this.1]
  omega
theorem eqv_row:∀ {xs ys:List V},(∀ v ∈ xs,At v)->(∀ v ∈ ys,At v)->PyData.eqvAll (xs.map pyV) (ys.map pyV)=true->xs=ys
  | [],[],_,_,_=>rfl
  | [],_::_,_,_,h=>by simp [PyData.eqvAll] at h
  | _::_,[],_,_,h=>by simp [PyData.eqvAll] at h
  | v::r,u::s,h1,h2,h=>by
    simp only [List.map_cons,PyData.eqvAll,Bool.and_eq_true] at h
    have e:=eqv_row (fun x hx=>h1 x (.tail _ hx)) (fun x hx=>h2 x (.tail _ hx)) h.2
    have a:=h.1
    rcases h1 v (.head _) with ⟨z,rfl,_⟩ | ⟨i,rfl⟩ <;> rcases h2 u (.head _) with ⟨z',rfl,_⟩ | ⟨i',rfl⟩ <;> simp [pyV,PyData.eqv] at a
    · rw [a,e]
    · rw [a,e]
theorem paired_put {α β:Type} {P:α->β->Prop} {us:List α} {R:List β} {x:α} {y:β} (h:Paired P us R) (hx:P x y):∀ j,Paired P (us.take j++[x]++us.drop (j+1)) (R.take j++[y]++R.drop (j+1)):=by
  induction h with
  | nil=>intro j;simp;exact .cons hx .nil
  | cons a t ih =>
    intro j
    cases j with
    | zero=>simpa using Paired.cons hx t
    | succ j=>simpa using Paired.cons a (ih j)
def spCh:Sp:=fun vs H Q _=>∃ (b p:Addr) (z:Str) (zs:List Str) (us:List V) (rs:List RS),vs=[.ref b,.str z,.ref p]/\SB H b H/\Letters z 4/\H p=some (.tup us)/\RowsAt H us rs/\Good z zs rs/\(∀ x ∈ zs,NmOk x)/\1<=rs.length/\rs.length<=63 /\
  ∀ (q:Addr) (us':List V) (R:List (List V)) H',AR H' us' R->R.length<=70->H' q=some (.tup us')->SB H b H'->Q (.ref q) H'
structure TCh (mg:Str->Option Value) (ft fo fp:Addr):Prop where
  n_len:mg "len"=none
  n_range:mg "range"=none
  m0z:mg "_law_take"=some (.ref ft)
  m10z:mg "_law_odd_row"=some (.ref fo)
  m3z:mg "_law_place_names"=some (.ref fp)
section
variable {P:Program} {w:World} {K:PySem.W.Frag} {mg:Str->Option Value} {base:Heap}
abbrev yz:Stmt:=top 41
theorem km:FnScope ["_law_box_here","_law_letters_here","_law_saying","_law_way","_law_names","_law_last","_law_more","_law_word","_law_found","_law_turn","_law_at","_law_row"] ["_law_box_here","_law_letters_here","_law_saying"] (jj yz):=⟨rfl,rfl,rfl,by decide +kernel,rfl,by decide +kernel,by decide +kernel⟩
theorem ok__law_changed {f ft fo fp:Addr} {fd fdt fdo fdp:FuncData} (F:Fun K "_law_changed" "_law_changed" yz f fd) (T:TCh mg ft fo fp) (F0z:Fun K "_law_take" "_law_take" kl ft fdt) (b0z:Binds K fdt ["_law_box_here","_law_wide"] [])
    (G0z:FnOk P w K mg base CX0 1 ft fdt ["_law_box_here","_law_wide"] spTake) (F10z:Fun K "_law_odd_row" "_law_odd_row" yy fo fdo) (b10z:Binds K fdo ["_law_box_here","_law_letters_here","_law_row","_law_at"] [])
    (G10z:FnOk P w K mg base CX0 4 fo fdo ["_law_box_here","_law_letters_here","_law_row","_law_at"] spOR) (F3z:Fun K "_law_place_names" "_law_place_names" ki fp fdp) (b3z:Binds K fdp ["_law_box_here","_law_many"] [])
    (G3z:FnOk P w K mg base CX0 2 fp fdp ["_law_box_here","_law_many"] spPN):FnOk P w K mg base CX0 5 f fd ["_law_box_here","_law_letters_here","_law_saying"] spCh:=by
  refine F.ok km (fun vs H Q E h=>?_) (fun cdv A outer s H vs Q E hr h=>?_)
  · obtain ⟨b,p,z,zs,us,rs,rfl,_⟩:=h
    rfl
  · obtain ⟨b,p,z,zs,us,rs,rfl,sb,hz,hp,ra,gd,nz,l1,l2,k⟩:=h
    have hu:=hr.units
    have hsz:sizeLine=16777216:=PySem.sizeLine_eq
    have ul:us.length=rs.length:=Paired.length ra
    refine exQ (jf (jm (i:=3) km.nd rfl (by first | exact Or.inl rfl | exact Or.inr rfl) (jl G0z (hr.mono (by decide)) rfl T.m0z F0z.kp b0z .nil jt (ja (qpv 0) (ja jd jb))))
    (yd (jw (QW.pt (jax (jo (j8 hu) (qpv 3) jd (jv _)) (ja8 (jo (j8 hu) (jl G0z (hr.mono (by decide)) rfl T.m0z F0z.kp b0z .nil jt (ja (qpv 0) (ja jd jb))) jd (jv _))))) (ji (jr (kc jb))) ju)
    (yd (jw (jo jao (qpv 3) jd (jv _)) (jf (jm (i:=4) km.nd rfl (by first | exact Or.inl rfl | exact Or.inr rfl) (jl G3z (hr.mono (by decide)) rfl T.m3z F3z.kp b3z .nil jt (ja (qpv 0) (ja jd jb))))
    (jf (jm (i:=5) km.nd rfl (by first | exact Or.inl rfl | exact Or.inr rfl) (jq ix_U (qpv 4) (jp j6 jd (jl G0z (hr.mono (by decide)) rfl T.m0z F0z.kp b0z .nil jt (ja (qpv 0) (ja jd jb)))) (fun _ _=>rfl)))
    (jf (jm (i:=6) km.nd rfl (by first | exact Or.inl rfl | exact Or.inr rfl) (kc (ja (kc (ja jg (ja (jq ix_U (qpv 4) jd (fun _ _=>rfl)) (ja (jq ix_U (qpv 4) jd (fun _ _=>rfl)) jb)))) (ja (kc (ja jg (ja (jq ix_U (qpv 4) jd (fun _ _=>rfl)) (ja (qpv 5) jb)))) jb))))
    (jf (jm (i:=7) km.nd rfl (by first | exact Or.inl rfl | exact Or.inr rfl) (jq ix_U (j7 (ja jg (ja jg jb))) (jl G0z (hr.mono (by decide)) rfl T.m0z F0z.kp b0z .nil jt (ja (qpv 0) (ja jd jb))) (fun _ _=>rfl)))
    (ji (jr (jp jab (jp jab (qpv 2) (qpv 6)) (kc (ja (kc (ja (qpv 7) (ja (jn jy (by rfl) T.n_len j9 (ja (qpv 2) jb)) (ja (jp j6 (jn jy (by rfl) T.n_len j9 (ja (qpv 2) jb)) jd) jb)))) jb))))))))) ju)
    (jf (jm (i:=8) km.nd rfl (by first | exact Or.inl rfl | exact Or.inr rfl) (qpv 2))
    (jf (zt PassesOwn.never rfl (jac rfl T.n_range (ja (jp j6 jd (jl G0z (hr.mono (by decide)) rfl T.m0z F0z.kp b0z .nil jt (ja (qpv 0) (ja jd jb)))) jb)) (kj (i:=9) km.nd rfl (by first | exact Or.inl rfl | exact Or.inr rfl)) (jf (jm (i:=10) km.nd rfl (by first | exact Or.inl rfl | exact Or.inr rfl) (jl G0z (hr.mono (by decide)) rfl T.m0z F0z.kp b0z .nil jt (ja (qpv 0) (ja (jn jy (by rfl) T.n_len j9 (ja (qpv 8) jb)) jb))))
    (ji (jw (jo (j8 hu) (jq ix_U (qpv 8) (qpv 10) (fun _ _=>rfl)) (jq ix_U (qpv 2) (qpv 10) (fun _ _=>rfl)) (jv _)) (jf (jm (i:=11) km.nd rfl (by first | exact Or.inl rfl | exact Or.inr rfl) (jl G10z (hr.mono (by decide)) rfl T.m10z F10z.kp b10z .nil jt (ja (qpv 0) (ja (qpv 1) (ja (jq ix_U (qpv 8) (qpv 10) (fun _ _=>rfl)) (ja (qpv 10) jb))))))
    (ji (jm (i:=8) km.nd rfl (by first | exact Or.inl rfl | exact Or.inr rfl) (jp jab (jp jab (ku (jaw (K:=K) rfl) (qpv 8) kz (ya (qpv 10))) (kc (ja (qpv 11) jb))) (ku (jaw (K:=K) rfl) (qpv 8) (ya (jp j6 (qpv 10) jd)) kz))))) ju))))
    (ji (jr (qpv 8)))))))) ?_
    simp!
    refine sb.tq (by omega) (by omega) fun d H1 d0 d1 sb1 k1=>?_
    refine ⟨fun σ H'=>σ=[some (.ref b),some (.str z),some (.ref p),some (.int d),none,none,none,none,none,none,none,none]/\SB H b H',?_,?_⟩
    · simp!
      refine ite2 (fun h=>sb1.tq (by omega) (by omega) fun e H2 e0 e1 sb2 k2=>?_) (fun h=>sb1)
      simp!
      refine ite2 (fun h=>⟨by omega,fun q hq=>k q [] [] _ .nil (by simp) jc (sb2.new hq)⟩) (fun h=>sb2)
    rintro _ H2 ⟨rfl,sb2⟩
    refine ⟨fun σ H'=>σ=[some (.ref b),some (.str z),some (.ref p),some (.int d),none,none,none,none,none,none,none,none]/\SB H b H',?_,?_⟩
    · simp!
      refine ite2 (fun h=>?_) (fun h=>sb2)
      obtain ⟨o2,hb2,ho2⟩:=sb2.bx
      refine ⟨b,4,o2,rfl,hb2,ho2,by omega,by omega,fun c ns o' H3 ln nn hc hc3 ho' hb' k3=>?_⟩
      have sb3:SB H b H3:=sb2.trans ⟨k3,o',hb',ho'⟩
      have ncb:c≠b:=fun e=>by rw [e,hb2] at hc;cases hc
      obtain ⟨n0,n1,n2,n3,rfl⟩:∃ n0 n1 n2 n3,ns=[n0,n1,n2,n3]:=match ns,ln with | [n0,n1,n2,n3],_=>⟨n0,n1,n2,n3,rfl⟩
      have ats:∀ x ∈ [n0,n1,n2,n3],At (.str x):=fun x hx=>At.s (by have:=(nn x hx).1;omega) (fun c hc=>by have:=((nn x hx).2.1 c hc).2;omega)
      refine sb3.tq (by omega) (by omega) fun e H4 e0 e1 sb4 k4=>?_
      have hc4:H4 c=some (.lst ([n0,n1,n2,n3].map V.str)):=k4.old _ _ hc3 (by simpa using ncb)
      obtain ⟨v,av,y,hy,rfl⟩:∃ v,atI ([n0,n1,n2,n3].map V.str) (2+e)=some v/\∃ y,y ∈ [n0,n1,n2,n3]/\v=.str y:=by
        obtain ⟨v,a,y,m,rfl⟩:=at_any (l:=[n0,n1,n2,n3].map V.str) (M:=fun v=>∃ y,y ∈ [n0,n1,n2,n3]/\v=.str y) (fun v hv=>let ⟨y,m,e⟩:=List.mem_map.mp hv;⟨y,m,e.symm⟩) (d:=2+e) (by omega) (by simp;omega)
        exact ⟨_,a,y,m,rfl⟩
      simp! [hc4]
      refine ⟨_,av,?_⟩
      have r3:∀ (wd:Str) (x y:V),At (.str wd)->At x->At y->RowO [.str wd,x,y]:=fun wd x y h1 h2 h3=>⟨by simp,fun v hv=>by
        simp only [List.mem_cons,List.not_mem_nil,or_false] at hv
        rcases hv with rfl | rfl | rfl
        · exact h1
        · exact h2
        · exact h3,.inr ⟨wd,_,rfl⟩⟩
      have aah:At (.str (Str.ofString "ahead")):=At.s (by decide +kernel) (by unfold lw;decide +kernel)
      refine ⟨by omega,fun p1 hp1=>?_⟩
      have sb5:=sb4.new (x:=.tup [V.str (Str.ofString "ahead"),V.str n0,V.str n1]) hp1
      have e51:upd H4 p1 (.tup [V.str (Str.ofString "ahead"),V.str n0,V.str n1]) p1=some (.tup [V.str (Str.ofString "ahead"),V.str n0,V.str n1]):=jc
      have hc5:upd H4 p1 (.tup [V.str (Str.ofString "ahead"),V.str n0,V.str n1]) c=some (.lst ([n0,n1,n2,n3].map V.str)):=by rw [je (jh hc4 hp1)];exact hc4
      generalize upd H4 p1 (.tup [V.str (Str.ofString "ahead"),V.str n0,V.str n1])=H5 at sb5 e51 hc5 ⊢
      refine ⟨_,by rw [hc5];rfl,V.str n2,atI_of (by decide) rfl,by omega,fun p2 hp2=>?_⟩
      have sb6:=sb5.new (x:=.tup [V.str (Str.ofString "ahead"),V.str n2,V.str y]) hp2
      have k6:Kp [] H5 (upd H5 p2 (.tup [V.str (Str.ofString "ahead"),V.str n2,V.str y])):=(Kp.refl [] H5).new hp2
      have e62:upd H5 p2 (.tup [V.str (Str.ofString "ahead"),V.str n2,V.str y]) p2=some (.tup [V.str (Str.ofString "ahead"),V.str n2,V.str y]):=jc
      generalize upd H5 p2 (.tup [V.str (Str.ofString "ahead"),V.str n2,V.str y])=H6 at sb6 k6 e62 ⊢
      refine ⟨by omega,fun p3 hp3=>?_⟩
      have sb7:=sb6.new (x:=.tup [V.ref p1,V.ref p2]) hp3
      have k7:Kp [] H6 (upd H6 p3 (.tup [V.ref p1,V.ref p2])):=(Kp.refl [] H6).new hp3
      have e73:upd H6 p3 (.tup [V.ref p1,V.ref p2]) p3=some (.tup [V.ref p1,V.ref p2]):=jc
      generalize upd H6 p3 (.tup [V.ref p1,V.ref p2])=H7 at sb7 k7 e73 ⊢
      refine ⟨by omega,fun p4 hp4=>(sb7.new hp4).tq (by omega) (by omega) fun g H9 g0 g1 sb9 k9=>?_⟩
      have h94:=k9.old _ _ jc (by simpa using sb7.ne hp4)
      have k79:Kp [b] H7 H9:=((Kp.refl [b] H7).new hp4).trans k9
      obtain ⟨v,av,wd,rfl,aw⟩:=at_any (l:=[V.str (Str.ofString "and"),V.str (Str.ofString "or")]) (M:=fun v=>∃ wd,v=.str wd/\At (.str wd)) (fun v hv=>by
        simp only [List.mem_cons,List.not_mem_nil,or_false] at hv
        rcases hv with rfl | rfl <;> exact ⟨_,rfl,At.s (by decide +kernel) (by unfold lw;decide +kernel)⟩) g0 (by simpa using g1)
      simp! [h94]
      refine ⟨_,av,p,p3,_,_,rfl,rfl,sb9.kp.tup _ _ hp,k79.tup _ _ e73,by simp only [List.length_cons,List.length_nil];omega,fun q1 H10 k10 hq1=>?_⟩
      have sb10:=sb9.keep k10
      have hp10:=sb10.kp.tup _ _ hp
      refine ⟨us,by rw [hp10];rfl,us,by rw [hp10];rfl,by omega,fun p5 hp5=>?_⟩
      have sb11:=sb10.new (x:=.tup [V.str wd,V.int (us.length:Int),V.int ((us.length:Int)+1)]) hp5
      have k11:Kp [] H10 (upd H10 p5 (.tup [V.str wd,V.int (us.length:Int),V.int ((us.length:Int)+1)])):=(Kp.refl [] H10).new hp5
      have e5:upd H10 p5 (.tup [V.str wd,V.int (us.length:Int),V.int ((us.length:Int)+1)]) p5=some (.tup [V.str wd,V.int (us.length:Int),V.int ((us.length:Int)+1)]):=jc
      generalize upd H10 p5 (.tup [V.str wd,V.int (us.length:Int),V.int ((us.length:Int)+1)])=H11 at sb11 k11 e5 ⊢
      refine ⟨by omega,fun p6 hp6=>?_⟩
      have sb12:=sb11.new (x:=.tup [V.ref p5]) hp6
      have k12:Kp [] H11 (upd H11 p6 (.tup [V.ref p5])):=(Kp.refl [] H11).new hp6
      refine ⟨q1,p6,_,_,rfl,rfl,(k11.trans k12).tup _ _ hq1,jc,by simp only [List.length_append,List.length_cons,List.length_nil];omega,fun q2 H13 k13 hq2=>?_⟩
      have sb13:=sb12.keep k13
      have kb:Kp [b] H7 H13:=(k79.trans ((k10.trans (k11.trans (k12.trans k13))).mono (by simp)))
      refine k q2 _ (((rs.map rowV++[[V.str (Str.ofString "ahead"),V.str n0,V.str n1]])++[[V.str (Str.ofString "ahead"),V.str n2,V.str y]])++[[V.str wd,V.int (us.length:Int),V.int ((us.length:Int)+1)]]) H13 ?_ (by simp;omega) hq2 sb13
      rw [show us++[V.ref p1,V.ref p2]++[V.ref p5]=((us++[V.ref p1])++[V.ref p2])++[V.ref p5] by simp]
      refine Paired.snoc (Paired.snoc (Paired.snoc ((AR.of hz nz gd (by omega) ra).kp sb13.kp) ⟨p1,rfl,kb.tup _ _ (k7.tup _ _ (k6.tup _ _ e51)),r3 _ _ _ aah (ats n0 (by simp)) (ats n1 (by simp))⟩) ⟨p2,rfl,kb.tup _ _ (k7.tup _ _ e62),r3 _ _ _ aah (ats n2 (by simp)) (ats y hy)⟩) ⟨p5,rfl,(k12.trans k13).tup _ _ e5,r3 _ _ _ aw (At.i _) (At.i _)⟩
    rintro _ H3 ⟨rfl,sb3⟩
    simp!
    refine sb3.tq (by omega) (by omega) fun e H4 e0 e1 sb4 k4=>?_
    simp!
    refine ⟨by omega,by omega,?_⟩
    refine loop_range (fun i σ H'=>∃ (v9 v10 v11:Option V) (q:Addr) (us':List V) (R:List (List V)),σ=[some (.ref b),some (.str z),some (.ref p),some (.int d),none,none,none,none,some (.ref q),v9,v10,v11]/\SB H b H'/\H' q=some (.tup us')/\AR H' us' R/\R.length=rs.length) ?_ ?_ ?_
    · exact ⟨none,none,none,p,us,rs.map rowV,rfl,sb4,sb4.kp.tup _ _ hp,(AR.of hz nz gd (by omega) ra).kp sb4.kp,by simp⟩
    · rintro i σ H5 hi ⟨v9,v10,v11,q,us',R,rfl,sb5,hq,ar,lR⟩
      have ul':=ar.len
      simp! [hq]
      refine sb5.tq (by omega) (by omega) fun a H6 a0 a1 sb6 k6=>?_
      obtain ⟨j,rfl⟩:∃ j:Nat,a=(j:Int):=⟨a.toNat,by omega⟩
      have hj:j < us'.length:=by omega
      have hq6:=k6.tup _ _ hq
      have hp6:=sb6.kp.tup _ _ hp
      have ar6:=ar.kp k6
      simp! [hq6,hp6]
      obtain ⟨v,hv⟩:∃ v,us'[j]?=some v:=⟨us'[j],List.getElem?_eq_getElem hj⟩
      obtain ⟨xs,t,hxs,rfl,ht,ro⟩:=ar6.get hv
      obtain ⟨u,hu'⟩:∃ u,us[j]?=some u:=⟨us[j]'(by omega),List.getElem?_eq_getElem (by omega)⟩
      obtain ⟨r',t',hr',rfl,ht'⟩:=(ra.kp sb6.kp).get hu'
      have rg:RowG (rowV r'):=RowG.of hz nz (by omega) (gd.1 j r' hr') (gd.2.1 r' (List.mem_of_getElem? hr'))
      refine ⟨_,atI_nat hv,_,atI_nat hu',?_⟩
      refine ⟨.tuple (xs.map pyV),.tuple ((rowV r').map pyV),⟨t,xs,rfl,ht,reps_row H6 ro.at_⟩,⟨t',_,rfl,ht',reps_row H6 rg.o.at_⟩,shaped_row ro.at_,shaped_row rg.o.at_,_,rfl,ite2 (fun he=>?_) (fun he=>?_)⟩
      · have he':PyData.eqvAll (xs.map pyV) ((rowV r').map pyV)=true:=by simpa [PyData.eqv] using he
        obtain rfl:=eqv_row ro.at_ rg.o.at_ he'
        refine ⟨us',by rw [hq6];rfl,_,atI_nat hv,b,t,z,rowV r',j,rfl,⟨Kp.refl _ _,sb6.bx⟩,hz,ht,rg,by omega,fun q2 ys H7 ro' hq2 sb7=>?_⟩
        have sb7':=sb6.trans sb7
        have hq7:=sb7.kp.tup _ _ hq6
        have ar7:=ar6.kp sb7.kp
        refine rSlV.tup hq7 fun p1 H8 h1 k8=>⟨by omega,fun w9 hw9=>?_⟩
        have sb9:=(sb7'.keep k8).new (x:=.tup [.ref q2]) hw9
        have k9:Kp [] H8 (upd H8 w9 (.tup [.ref q2])):=(Kp.refl [] H8).new hw9
        have c1:cutV us' none (some (j:Int))=us'.take j:=by
          unfold cutV
          rw [HT.sIx_nat,HT.sIx_none,List.drop_zero,Nat.sub_zero,Nat.min_eq_left (by omega)]
        have c2:cutV us' (some ((j:Int)+1)) none=us'.drop (j+1):=by
          unfold cutV
          rw [show (j:Int)+1=((j+1:Nat):Int) by omega,HT.sIx_nat,HT.sIx_none,Nat.min_eq_left (by omega),List.take_of_length_le (by rw [List.length_drop];omega)]
        rw [c1] at h1
        refine ⟨p1,w9,_,_,rfl,rfl,k9.tup _ _ h1,jc,by rw [List.length_take];simp only [List.length_cons,List.length_nil];omega,fun q3 H10 k10 hq3=>?_⟩
        have hq10:=(k8.trans (k9.trans k10)).tup _ _ hq7
        refine rSlV.tup hq10 fun p2 H11 h2 k11=>?_
        rw [c2] at h2
        refine ⟨q3,p2,_,_,rfl,rfl,k11.tup _ _ hq3,h2,by rw [List.length_append,List.length_take,List.length_drop];simp only [List.length_cons,List.length_nil];omega,fun q4 H12 k12 hq4=>⟨_,_,_,q4,⟨rfl,rfl,rfl,rfl⟩,((sb9.keep k10).keep k11).keep k12,_,hq4,R.take j++[ys]++R.drop (j+1),?_,?_⟩⟩
        · have kk:Kp [] H7 H12:=k8.trans (k9.trans (k10.trans (k11.trans k12)))
          exact paired_put (ar7.kp kk) ⟨q2,rfl,kk.tup _ _ hq2,ro'⟩ j
        · rw [List.length_append,List.length_append,List.length_take,List.length_drop];simp only [List.length_cons,List.length_nil];omega
      · exact ⟨_,_,_,q,⟨rfl,rfl,rfl,rfl⟩,sb6,us',hq6,R,ar6,lR⟩
    · rintro σ H5 ⟨v9,v10,v11,q,us',R,rfl,sb5,hq,ar,lR⟩
      simp!
      exact k q us' R H5 ar (by omega) hq sb5
end
def spLawT (K:PySem.W.Frag) (Pt:Addr):Sp:=fun vs H Q _=>∃ (a:Addr) (ns:List Int),vs=[.ref a]/\SqL K H a (ns.map V.int)/\ns.length<=63/\a≠Pt/\TabOk H Pt LQ/\∀ H',Q (.bl true) H'
structure TLw (mg:Str->Option Value) (fb ft fl fp fr fs fc fg ff:Addr):Prop where
  n_int:mg "int"=none
  n_tuple:mg "tuple"=none
  m7z:mg "_law_box"=some (.ref fb)
  m0z:mg "_law_take"=some (.ref ft)
  m20z:mg "_law_letters"=some (.ref fl)
  m3z:mg "_law_place_names"=some (.ref fp)
  m22z:mg "_law_rows_to"=some (.ref fr)
  m30z:mg "_law_shut"=some (.ref fs)
  m14z:mg "_law_changed"=some (.ref fc)
  m28z:mg "_law_right"=some (.ref fg)
  m5z:mg "_law_first_bad"=some (.ref ff)
section
variable {P:Program} {w:World} {K:PySem.W.Frag} {mg:Str->Option Value} {base:Heap}
abbrev jav:Stmt:=top 44
theorem z6:FnScope ["_law_script","_law_box_here","_law_letters_here","_law_names","_law_most","_law_shut_here","_law_saying","_law_odd","_law_one"] ["_law_script"] (jj jav):=⟨rfl,rfl,rfl,by decide +kernel,rfl,by decide +kernel,by decide +kernel⟩
theorem ok_law {f fb ft fl fp fr fs fc fg ff Pt:Addr} {fd fdb fdt fdl fdp fdr fds fdc fdg fdf:FuncData} (F:Fun K "law" "law" jav f fd) (T:TLw mg fb ft fl fp fr fs fc fg ff)
    (F7z:Fun K "_law_box" "_law_box" zz fb fdb) (b7z:Binds K fdb ["_law_script","_law_k"] []) (G7z:FnOk P w K mg base CX0 1 fb fdb ["_law_script","_law_k"] (spBox K))
    (F0z:Fun K "_law_take" "_law_take" kl ft fdt) (b0z:Binds K fdt ["_law_box_here","_law_wide"] []) (G0z:FnOk P w K mg base CX0 1 ft fdt ["_law_box_here","_law_wide"] spTake)
    (F20z:Fun K "_law_letters" "_law_letters" yt fl fdl) (b20z:Binds K fdl ["_law_box_here","_law_most"] []) (G20z:FnOk P w K mg base CX0 2 fl fdl ["_law_box_here","_law_most"] spLetters)
    (F3z:Fun K "_law_place_names" "_law_place_names" ki fp fdp) (b3z:Binds K fdp ["_law_box_here","_law_many"] []) (G3z:FnOk P w K mg base CX0 2 fp fdp ["_law_box_here","_law_many"] spPN)
    (F22z:Fun K "_law_rows_to" "_law_rows_to" y0 fr fdr) (b22z:Binds K fdr ["_law_box_here","_law_letters_here","_law_names","_law_most","_law_deep_here"] []) (G22z:FnOk P w K mg base CX0 4 fr fdr ["_law_box_here","_law_letters_here","_law_names","_law_most","_law_deep_here"] spRT)
    (F30z:Fun K "_law_shut" "_law_shut" zq fs fds) (b30z:Binds K fds ["_law_box_here","_law_rows"] []) (G30z:FnOk P w K mg base CX0 3 fs fds ["_law_box_here","_law_rows"] spShut)
    (F14z:Fun K "_law_changed" "_law_changed" yz fc fdc) (b14z:Binds K fdc ["_law_box_here","_law_letters_here","_law_saying"] []) (G14z:FnOk P w K mg base CX0 5 fc fdc ["_law_box_here","_law_letters_here","_law_saying"] spCh)
    (F28z:Fun K "_law_right" "_law_right" ze fg fdg) (b28z:Binds K fdg ["_law_letters_here","_law_saying"] []) (G28z:FnOk P w K mg base CX0 8 fg fdg ["_law_letters_here","_law_saying"] (spRt Pt))
    (F5z:Fun K "_law_first_bad" "_law_first_bad" yc ff fdf) (b5z:Binds K fdf ["_law_letters_here","_law_saying"] []) (G5z:FnOk P w K mg base CX0 4 ff fdf ["_law_letters_here","_law_saying"] spFB):FnOk P w K mg base CX0 9 f fd ["_law_script"] (spLawT K Pt):=by
  refine F.ok z6 (fun vs H Q E h=>?_) (fun cdv A outer s H vs Q E hr h=>?_)
  · obtain ⟨a,ns,rfl,_⟩:=h
    rfl
  · obtain ⟨a,ns,rfl,hS,hn,naP,tb,kQ⟩:=h
    have hu:=hr.units
    have hsz:sizeLine=16777216:=PySem.sizeLine_eq
    refine exQ (jf (jm (i:=1) z6.nd rfl (by first | exact Or.inl rfl | exact Or.inr rfl) (jl G7z (hr.mono (by decide)) rfl T.m7z F7z.kp b7z .nil jt (ja (qpv 0) (ja jd jb))))
    (jf (jm (i:=2) z6.nd rfl (by first | exact Or.inl rfl | exact Or.inr rfl) (jl G20z (hr.mono (by decide)) rfl T.m20z F20z.kp b20z .nil jt (ja (qpv 1) (ja jd jb))))
    (jf (jm (i:=3) z6.nd rfl (by first | exact Or.inl rfl | exact Or.inr rfl) (jl G3z (hr.mono (by decide)) rfl T.m3z F3z.kp b3z .nil jt (ja (qpv 1) (ja (jp j6 jd (jl G0z (hr.mono (by decide)) rfl T.m0z F0z.kp b0z .nil jt (ja (qpv 1) (ja jd jb)))) jb))))
    (jf (jm (i:=4) z6.nd rfl (by first | exact Or.inl rfl | exact Or.inr rfl) (jq ix_U (j7 (ja jd (ja jd jb))) (y4 jby (by rfl) T.n_int jar (ja (zp (j8 hu) (jl G0z (hr.mono (by decide)) rfl T.m0z F0z.kp b0z .nil jt (ja (qpv 1) (ja jd jb))) jd (jv _)) jb)) (fun _ _=>rfl)))
    (jf (jm (i:=5) z6.nd rfl (by first | exact Or.inl rfl | exact Or.inr rfl) (jl G0z (hr.mono (by decide)) rfl T.m0z F0z.kp b0z .nil jt (ja (qpv 1) (ja jd jb))))
    (jf (jm (i:=1) z6.nd rfl (by first | exact Or.inl rfl | exact Or.inr rfl) (jl G7z (hr.mono (by decide)) rfl T.m7z F7z.kp b7z .nil jt (ja (qpv 0) (ja jd jb))))
    (jf (jm (i:=6) z6.nd rfl (by first | exact Or.inl rfl | exact Or.inr rfl) (y4 jaq (by rfl) T.n_tuple ja1 (ja (jl G22z (hr.mono (by decide)) rfl T.m22z F22z.kp b22z .nil jt (ja (qpv 1) (ja (qpv 2) (ja (qpv 3) (ja (qpv 4) (ja jd jb jk) zi) zi) zi) zi)) jb)))
    (yd (jw (jo (j8 hu) (qpv 5) jd (jv _)) (ji (jm (i:=6) z6.nd rfl (by first | exact Or.inl rfl | exact Or.inr rfl) (jl G30z (hr.mono (by decide)) rfl T.m30z F30z.kp b30z .nil jt (ja (qpv 1) (ja (qpv 6) jb))))) ju)
    (jf (jm (i:=7) z6.nd rfl (by first | exact Or.inl rfl | exact Or.inr rfl) (jl G14z (hr.mono (by decide)) rfl T.m14z F14z.kp b14z .nil jt (ja (jl G7z (hr.mono (by decide)) rfl T.m7z F7z.kp b7z .nil jt (ja (qpv 0) (ja jd jb))) (ja (qpv 2) (ja (qpv 6) jb)))))
    (jf (zt PassesOwn.never rfl (zu (K:=K) (j7 (ja (qpv 6) (ja (qpv 7) (ja (qpv 6) (ja (qpv 7) jb))))) rfl) (kj (i:=8) z6.nd rfl (by first | exact Or.inl rfl | exact Or.inr rfl)) (ji (jw (ja5 (z5 (jl G28z (hr.mono (by decide)) rfl T.m28z F28z.kp b28z .nil jt (ja (qpv 2) (ja (qpv 8) jb))))) (ji (jr jal)) ju)))
    (ji (jr (zp jcm (jl G5z (hr.mono (by decide)) rfl T.m5z F5z.kp b5z .nil jt (ja (qpv 2) (ja (qpv 6) jb))) jbf (jv _)))))))))))))) ?_
    simp!
    refine ⟨a,0,ns,rfl,hS,by omega,by omega,fun b o hb ho=>?_⟩
    have inb:∀ x ∈ [b],x ∈ ([]:List Addr)∨H x=none:=fun x hx=>.inr (by cases List.mem_singleton.mp hx;exact hb)
    have k0:Kp [] H (upd H b o):=(Kp.refl [] H).new hb
    refine ⟨b,4,o,rfl,jc,ho,by omega,by omega,fun z o1 H1 hz ho1 hb1 k1=>?_⟩
    have sb1:SB (upd H b o) b H1:=⟨k1,o1,hb1,ho1⟩
    refine sb1.tq (by omega) (by omega) fun d H2 d0 d1 sb2 k2=>?_
    obtain ⟨o2,hb2,ho2⟩:=sb2.bx
    obtain ⟨m,hm⟩:∃ m:Nat,1+d=(m:Int):=⟨(1+d).toNat,by omega⟩
    refine ⟨b,m,o2,by rw [hm],hb2,ho2,by omega,by omega,fun nm zs o3 H3 lz nz hn0 hn3 ho3 hb3 k3=>?_⟩
    have nnb:nm≠b:=fun e=>by rw [e,hb2] at hn0;cases hn0
    have sb3:SB (upd H b o) b H3:=sb2.trans ⟨k3,o3,hb3,ho3⟩
    refine ⟨by omega,fun p hp=>?_⟩
    refine (sb3.new hp).tq (by omega) (by omega) fun e H4 e0 e1 sb4 k4=>?_
    have hp4:=k4.old _ _ jc (by simpa using sb3.ne hp)
    simp! [hp4]
    obtain ⟨v,av,mm,rfl,m1,m2⟩:=at_any (l:=[V.int 12,V.int 52]) (M:=fun v=>∃ m:Nat,v=.int (m:Int)/\1<=m/\m<=52) (fun v hv=>by
      simp only [List.mem_cons,List.not_mem_nil,or_false] at hv
      rcases hv with rfl | rfl
      · exact ⟨12,rfl,by decide,by decide⟩
      · exact ⟨52,rfl,by decide,by decide⟩) (d:=if e=0 then 1 else 0) (by split <;> decide) (by split <;> (simp;try decide))
    refine ⟨_,av,sb4.tq (by omega) (by omega) fun sh H5 s0 s1 sb5 k5=>?_⟩
    have k05:Kp [] H H5:=k0.trans' sb5.kp inb
    have hn5:H5 nm=some (.lst (zs.map V.str)):=k5.old _ _ (k4.old _ _ (by rw [je (jh hn3 hp)];exact hn3) (by simpa using nnb)) (by simpa using nnb)
    refine ⟨a,1,ns,rfl,k05.seq (by simp) hS,by omega,by omega,fun b2 o6 hb6 ho6=>?_⟩
    have k06:Kp [] H (upd H5 b2 o6):=k05.new hb6
    have nb2:b2≠nm:=(jh hn5 hb6).symm
    have h2b:H b2=none:=k05.free hb6
    have inb2:∀ x ∈ [b2],x ∈ ([]:List Addr)∨H x=none:=fun x hx=>.inr (by cases List.mem_singleton.mp hx;exact h2b)
    refine ⟨b2,nm,z,zs,mm,o6,rfl,jc,ho6,hz,by rw [je nb2.symm];exact hn5,by omega,by omega,m1,by omega,nb2,fun q us rs o7 H7 l1 l2 ra okr okl hG hq0 hq7 ho7 hb7 k7=>?_⟩
    refine rTupleU_lst hq7 fun g hg=>?_
    have gd:Good z zs rs:=⟨okr,okl,hG⟩
    have k07:Kp [] H H7:=k06.trans' k7 inb2
    have k08:Kp [] H (upd H7 g (.tup us)):=k07.new hg
    have kg:Kp [] H7 (upd H7 g (.tup us)):=(Kp.refl [] H7).new hg
    have ra8:=ra.kp kg
    have hb8:=kg.old _ _ hb7 (by simp)
    have eg:upd H7 g (.tup us) g=some (.tup us):=jc
    generalize upd H7 g (.tup us)=H8 at k08 ra8 hb8 eg ⊢
    refine ⟨fun σ H'=>∃ (g:Addr) (us:List V) (rs:List RS),σ=[some (.ref a),some (.ref b2),some (.str z),some (.ref nm),some (.int (mm:Int)),some (.int sh),some (.ref g),none,none]/\H' g=some (.tup us)/\RowsAt H' us rs/\Good z zs rs/\1<=rs.length/\rs.length<=63/\Kp [] H H',?_,?_⟩
    · simp!
      refine ite2 (fun h=>?_) (fun h=>?_)
      · refine ⟨b2,g,z,zs,us,rs,o7,rfl,hb8,ho7,eg,ra8,gd,l1,by omega,by omega,fun q2 us' rs' o' H9 l3 l4 ra9 gd9 hq20 hq29 ho9 hb9 k9=>?_⟩
        exact ⟨q2,rfl,us',hq29,rs',ra9,gd9,l3,by omega,k08.trans' k9 inb2⟩
      · exact ⟨us,eg,rs,ra8,gd,l1,by omega,k08⟩
    clear eg hb8 ra8 gd l1 l2 ra okr okl hG hq0 hq7 hb7 k7 k08 kg hg k07
    rintro _ H9 ⟨g,us,rs,rfl,hg,ra,gd,l1,l2,k9⟩
    simp!
    refine ⟨a,2,ns,rfl,k9.seq (by simp) hS,by omega,by omega,fun b3 o10 hb10 ho10=>?_⟩
    have k10:Kp [] H (upd H9 b3 o10):=k9.new hb10
    have kb:Kp [] H9 (upd H9 b3 o10):=(Kp.refl [] H9).new hb10
    have h3b:H b3=none:=k9.free hb10
    have inb3:∀ x ∈ [b3],x ∈ ([]:List Addr)∨H x=none:=fun x hx=>.inr (by cases List.mem_singleton.mp hx;exact h3b)
    refine ⟨b3,g,z,zs,us,rs,rfl,⟨Kp.refl _ _,o10,jc,ho10⟩,hz,kb.tup _ _ hg,ra.kp kb,gd,nz,l1,l2,fun od ou R H11 ar lR hod sb11=>⟨by omega,fun L hL=>?_⟩⟩
    have k11:Kp [] H H11:=k10.trans' sb11.kp inb3
    have kL:Kp [] H11 (upd H11 L (.lst [V.ref g,V.ref od,V.ref g,V.ref od])):=(Kp.refl [] H11).new hL
    have kS:=k11.trans kL
    have gg:upd H11 L (.lst [V.ref g,V.ref od,V.ref g,V.ref od]) g=some (.tup us):=kL.tup _ _ (sb11.kp.tup _ _ (kb.tup _ _ hg))
    have go:upd H11 L (.lst [V.ref g,V.ref od,V.ref g,V.ref od]) od=some (.tup ou):=kL.tup _ _ hod
    have gL:upd H11 L (.lst [V.ref g,V.ref od,V.ref g,V.ref od]) L=some (.lst [V.ref g,V.ref od,V.ref g,V.ref od]):=jc
    have ag:AR (upd H11 L (.lst [V.ref g,V.ref od,V.ref g,V.ref od])) us (rs.map rowV):=((AR.of hz nz gd (by omega) (ra.kp kb)).kp sb11.kp).kp kL
    have ao:AR (upd H11 L (.lst [V.ref g,V.ref od,V.ref g,V.ref od])) ou R:=ar.kp kL
    generalize upd H11 L (.lst [V.ref g,V.ref od,V.ref g,V.ref od])=Hs at kS gg go gL ag ao ⊢
    have tbS:TabOk Hs Pt LQ:=tb.kp kS (by simp) (by simp)
    have nLP:L≠Pt:=fun e=>by obtain ⟨ps,ee,_⟩:=tbS;rw [e,ee] at gL;cases gL
    have zh:=hz.hi
    have lg:(rs.map rowV).length<=63:=by rw [List.length_map];exact l2
    have right:∀ (t:Addr) (us':List V) (R':List (List V)) (H':Hp) (Q':VK),R'.length<=200->H' t=some (.tup us')->AR H' us' R'->TabOk H' Pt LQ->(∀ H2,Kp [Pt] H' H2->TabOk H2 Pt LQ->Q' (.bl true) H2)->spRt Pt [.str z,.ref t] H' Q' E0:=fun t us' R' H' Q' h2 h3 h4 h5 h6=>⟨z,t,us',R',rfl,h3,h4,by omega,h2,h5,h6⟩
    refine loop_list (xs:=[V.ref g,V.ref od,V.ref g,V.ref od]) (fun i σ H'=>∃ v8:Option V,σ=[some (.ref a),some (.ref b2),some (.str z),some (.ref nm),some (.int (mm:Int)),some (.int sh),some (.ref g),some (.ref od),v8]/\Kp [Pt] Hs H'/\TabOk H' Pt LQ) ⟨none,rfl,Kp.refl _ _,tbS⟩ ?_ ?_ ?_
    · rintro i σ H' _ ⟨v8,rfl,kp,_⟩
      exact kp.old _ _ gL (by simpa using nLP)
    · rintro i x σ H' hx ⟨v8,rfl,kp,tb'⟩
      simp!
      have done:∀ H2,Kp [Pt] H' H2->TabOk H2 Pt LQ->∃ c,V.bl true=V.bl c/\if (!c)=true then Q (V.bl false) H2 else Kp [Pt] Hs H2/\TabOk H2 Pt LQ:=fun H2 k2 tb2=>⟨true,rfl,by rw [if_neg (by decide)];exact ⟨kp.trans k2,tb2⟩⟩
      have hx':=List.mem_of_getElem? hx
      simp only [List.mem_cons,List.not_mem_nil,or_false] at hx'
      rcases hx' with rfl | rfl | rfl | rfl
      · exact right g us _ H' _ (by omega) (kp.tup _ _ gg) (ag.kp kp) tb' done
      · exact right od ou R H' _ (by omega) (kp.tup _ _ go) (ao.kp kp) tb' done
      · exact right g us _ H' _ (by omega) (kp.tup _ _ gg) (ag.kp kp) tb' done
      · exact right od ou R H' _ (by omega) (kp.tup _ _ go) (ao.kp kp) tb' done
    · rintro σ H' ⟨v8,rfl,kp,tb'⟩
      simp!
      refine ⟨z,g,us,rs.map rowV,rfl,kp.tup _ _ gg,ag.kp kp,by omega,by omega,fun o H2 hf k2=>?_⟩
      cases hf.one (gd.fb nz l1)
      exact kQ H2
end
theorem c_of {K:PySem.W.Frag} {hh:Heap} (X:K.In hh) {b c:Addr} {fd:FuncData} {oc:Value} {od:Option Addr} {osl:Array (Option Value)} (h3:PySem.W.nsIn K mainGlobals "is_saying_row"=some (some (.ref b))) (h4:K.lookup b=some ⟨oc,od,.func fd,osl⟩) (h5:fd.code=.ref c) (h6:PySem.W.codeHdIn K c 152=true):∃ c,PySem.W.CodeHd hh c 152:=⟨c,PySem.W.codeHd_of_K X h6⟩
theorem kdict_of {P:Program} {w:World} {K:PySem.W.Frag} {a:Addr} {kvs:List (Key × V)} {es:Array DictEntry} {ep:Nat} (lk:K.lookup a=some { cls:=.type "dict",data:=.dict es ep })
    (h:Paired (fun (e:DictEntry) (kv:Key × V)=>∃ x t,e.key=.str x t/\e.hash=PyData.keyHash w.params x/\kv.1=.inr x/\RelV kv.2 e.val) es.toList kvs) (nd:(kvs.map Prod.fst).Nodup):KDict P w K a kvs:=by
  have key:∀ {l:List DictEntry} {kvs:List (Key × V)},Paired (fun (e:DictEntry) (kv:Key × V)=>∃ x t,e.key=.str x t/\e.hash=PyData.keyHash w.params x/\kv.1=.inr x/\RelV kv.2 e.val) l kvs->∃ m:List (Str × Tok × Value),l=m.map (entS w)/\KV kvs (m.map fun p=>((Sum.inr p.1:Key),p.2.2)):=by
    intro l kvs h
    induction h with
    | nil=>exact ⟨[],rfl,.nil⟩
    | cons h _ ih =>
      obtain ⟨x,t,e1,e2,e3,e4⟩:=h
      obtain ⟨m,f1,f2⟩:=ih
      rename_i e kv _ _ _
      refine ⟨(x,t,e.val)::m,?_,.cons ⟨e3,e4⟩ f2⟩
      rw [List.map_cons,← f1]
      obtain ⟨hh,kk,vv⟩:=e
      cases e1
      cases e2
      rfl
  obtain ⟨m,e1,e2⟩:=key h
  exact KDict.of lk e1 e2 nd
theorem us1 {C:List Value->Prop} (h:∀ v0:Value,C [v0]) (us:List Value) (e:us.length=1):C us :=
  match us,e with | [v0],_=>h v0
theorem us3 {C:List Value->Prop} (h:∀ v0 v1 v2:Value,C [v0,v1,v2]) (us:List Value) (e:us.length=3):C us :=
  match us,e with | [v0,v1,v2],_=>h v0 v1 v2
theorem us4 {C:List Value->Prop} (h:∀ v0 v1 v2 v3:Value,C [v0,v1,v2,v3]) (us:List Value) (e:us.length=4):C us :=
  match us,e with | [v0,v1,v2,v3],_=>h v0 v1 v2 v3
theorem us5 {C:List Value->Prop} (h:∀ v0 v1 v2 v3 v4:Value,C [v0,v1,v2,v3,v4]) (us:List Value) (e:us.length=5):C us :=
  match us,e with | [v0,v1,v2,v3,v4],_=>h v0 v1 v2 v3 v4
theorem all_mk {l:PySem.W.OpenLaw} {w:World} {K:PySem.W.Frag} {h:Heap} {mg:Str->Option Value} {fa f1 f2 f3 f4 f5 f6 f7 f8 f9 f10 f11 f12 f13 f14 f15 f16 f17 f18 f19 f20 f21 f22 f23 f24 f25 f26 f27 f28 f29 f30 f31 f32:Addr} (X:K.In h) (G:h.Ns mainGlobals mg) (hfa:mg "law"=some (.ref fa))
    {od1 od2 od3 od4 od5 od6 od7 od8 od9 od10 od11 od12 od13 od14 od15 od16 od17 od18 od19 od20 od21 od22 od23 od24 od25 od26 od27 od28 od29 od30 od31 od32 an1 an2 an3 an4 an5 an6 an7 an8 an9 an10 an11 an12 an13 an14 an15 an16 an17 an18 an19 an20 an21 an22 an23 an24 an25 an26 an27 an28 an29 an30 an31 an32:Option Addr} {sl1 sl2 sl3 sl4 sl5 sl6 sl7 sl8 sl9 sl10 sl11 sl12 sl13 sl14 sl15 sl16 sl17 sl18 sl19 sl20 sl21 sl22 sl23 sl24 sl25 sl26 sl27 sl28 sl29 sl30 sl31 sl32:Array (Option Value)} {oc1 kV1 dc1 pm1 cd1 ct1 oc2 kV2 dc2 pm2 cd2 ct2 oc3 kV3 dc3 pm3 cd3 ct3 oc4 kV4 dc4 pm4 cd4 ct4 oc5 kV5 dc5 pm5 cd5 ct5 oc6 kV6 dc6 pm6 cd6 ct6 oc7 kV7 dc7 pm7 cd7 ct7 oc8 kV8 dc8 pm8 cd8 ct8 oc9 kV9 dc9 pm9 cd9 ct9 oc10 kV10 dc10 pm10 cd10 ct10 oc11 kV11 dc11 pm11 cd11 ct11 oc12 kV12 dc12 pm12 cd12 ct12 oc13 kV13 dc13 pm13 cd13 ct13 oc14 kV14 dc14 pm14 cd14 ct14 oc15 kV15 dc15 pm15 cd15 ct15 oc16 kV16 dc16 pm16 cd16 ct16 oc17 kV17 dc17 pm17 cd17 ct17 oc18 kV18 dc18 pm18 cd18 ct18 oc19 kV19 dc19 pm19 cd19 ct19 oc20 kV20 dc20 pm20 cd20 ct20 oc21 kV21 dc21 pm21 cd21 ct21 oc22 kV22 dc22 pm22 cd22 ct22 oc23 kV23 dc23 pm23 cd23 ct23 oc24 kV24 dc24 pm24 cd24 ct24 oc25 kV25 dc25 pm25 cd25 ct25 oc26 kV26 dc26 pm26 cd26 ct26 oc27 kV27 dc27 pm27 cd27 ct27 oc28 kV28 dc28 pm28 cd28 ct28 oc29 kV29 dc29 pm29 cd29 ct29 oc30 kV30 dc30 pm30 cd30 ct30 oc31 kV31 dc31 pm31 cd31 ct31 oc32 kV32 dc32 pm32 cd32 ct32:Value}
    {af cc D:Addr} {esf:Array DictEntry} {epf:Nat} {a0_ a1_ a2_ a3_ a4_ a5_ a6_ a7_:Addr} {qd0:Option Addr} {qi0:Array Value} {qn0:Nat} {qs0:Array (Option Value)} {qd1:Option Addr} {qi1:Array Value} {qn1:Nat} {qs1:Array (Option Value)} {qd2:Option Addr} {qi2:Array Value} {qn2:Nat} {qs2:Array (Option Value)} {qd3:Option Addr} {qi3:Array Value} {qn3:Nat} {qs3:Array (Option Value)} {qd4:Option Addr} {qi4:Array Value} {qn4:Nat} {qs4:Array (Option Value)} {qd5:Option Addr} {qi5:Array Value} {qn5:Nat} {qs5:Array (Option Value)} {qd6:Option Addr} {qi6:Array Value} {qn6:Nat} {qs6:Array (Option Value)} {qd7:Option Addr} {qi7:Array Value} {qn7:Nat} {qs7:Array (Option Value)} {an:Addr} {odn:Option Addr} {itn:Array Value} {nn:Nat} {sln:Array (Option Value)} {ab:Addr} {odb:Option Addr} {itb:Array Value} {nb:Nat} {slb:Array (Option Value)} {tkm:Tok} {ND:Addr} {nmD qD:Str} {bsD subD:List Value} {snD:List Str} {abD:Bool} {colD:Option Bool} {ddD:Option Addr} {noD:Value} {kgD khD kiD kjD kkD:Option Value} {ndD:Option Addr} {esD:Array DictEntry} {enD:Nat} {nlD:Array (Option Value)} {C0 N0:Addr} {nm0 q0:Str} {bs0 sub0:List Value} {sn0:List Str} {ab0:Bool} {col0:Option Bool} {dd0:Option Addr} {ka0 kb0 kc0 kd0 kf0:Option Value} {C1 N1:Addr} {nm1 q1:Str} {bs1 sub1:List Value} {sn1:List Str} {ab1:Bool} {col1:Option Bool} {dd1:Option Addr} {ka1 kb1 kc1 kd1 kf1:Option Value} {C2 N2:Addr} {nm2 q2:Str} {bs2 sub2:List Value} {sn2:List Str} {ab2:Bool} {col2:Option Bool} {dd2:Option Addr} {ka2 kb2 kc2 kd2 kf2:Option Value} {C3 N3:Addr} {nm3 q3:Str} {bs3 sub3:List Value} {sn3:List Str} {ab3:Bool} {col3:Option Bool} {dd3:Option Addr} {ka3 kb3 kc3 kd3 kf3:Option Value} {no3:Value} {nd3:Option Addr} {es3:Array DictEntry} {en3:Nat} {nl3:Array (Option Value)} {F3:Addr} {vd3 va3:Option Addr} {vs3:Array (Option Value)} {vk3 vo3 vp3 vc3 vt3:Value}
    (a1:PySem.W.nsIn K mainGlobals "has_form"=some (some (.ref f1))) (l1:K.lookup f1=some ⟨oc1,od1,.func (PySem.W.fnOf "has_form" "has_form" (jz zo) (jx zo) (jj zo) .none kV1 dc1 pm1 an1 cd1 ct1),sl1⟩) (c1:PySem.W.codeIn K cd1 "has_form"=true) (k1:PySem.W.keepIn K (.ref f1)=true)
    (a2:PySem.W.nsIn K mainGlobals "is_row_ahead"=some (some (.ref f2))) (l2:K.lookup f2=some ⟨oc2,od2,.func (PySem.W.fnOf "is_row_ahead" "is_row_ahead" (jz y3) (jx y3) (jj y3) .none kV2 dc2 pm2 an2 cd2 ct2),sl2⟩) (c2:PySem.W.codeIn K cd2 "is_row_ahead"=true) (k2:PySem.W.keepIn K (.ref f2)=true)
    (a3:PySem.W.nsIn K mainGlobals "is_one_letter"=some (some (.ref f3))) (l3:K.lookup f3=some ⟨oc3,od3,.func (PySem.W.fnOf "is_one_letter" "is_one_letter" (jz yr) (jx yr) (jj yr) .none kV3 dc3 pm3 an3 cd3 ct3),sl3⟩) (c3:PySem.W.codeIn K cd3 "is_one_letter"=true) (k3:PySem.W.keepIn K (.ref f3)=true)
    (a4:PySem.W.nsIn K mainGlobals "parts_of"=some (some (.ref f4))) (l4:K.lookup f4=some ⟨oc4,od4,.func (PySem.W.fnOf "parts_of" "parts_of" (jz zk) (jx zk) (jj zk) .none kV4 dc4 pm4 an4 cd4 ct4),sl4⟩) (c4:PySem.W.codeIn K cd4 "parts_of"=true) (k4:PySem.W.keepIn K (.ref f4)=true)
    (a5:PySem.W.nsIn K mainGlobals "is_name"=some (some (.ref f5))) (l5:K.lookup f5=some ⟨oc5,od5,.func (PySem.W.fnOf "is_name" "is_name" (jz zy) (jx zy) (jj zy) .none kV5 dc5 pm5 an5 cd5 ct5),sl5⟩) (c5:PySem.W.codeIn K cd5 "is_name"=true) (k5:PySem.W.keepIn K (.ref f5)=true)
    (a6:PySem.W.nsIn K mainGlobals "look_saying"=some (some (.ref f6))) (l6:K.lookup f6=some ⟨oc6,od6,.func (PySem.W.fnOf "look_saying" "look_saying" (jz y9) (jx y9) (jj y9) .none kV6 dc6 pm6 an6 cd6 ct6),sl6⟩) (c6:PySem.W.codeIn K cd6 "look_saying"=true) (k6:PySem.W.keepIn K (.ref f6)=true)
    (a7:PySem.W.nsIn K mainGlobals "is_saying_row"=some (some (.ref f7))) (l7:K.lookup f7=some ⟨oc7,od7,.func (PySem.W.fnOf "is_saying_row" "is_saying_row" (jz yg) (jx yg) (jj yg) .none kV7 dc7 pm7 an7 cd7 ct7),sl7⟩) (c7:PySem.W.codeIn K cd7 "is_saying_row"=true) (k7:PySem.W.keepIn K (.ref f7)=true)
    (a8:PySem.W.nsIn K mainGlobals "fits"=some (some (.ref f8))) (l8:K.lookup f8=some ⟨oc8,od8,.func (PySem.W.fnOf "fits" "fits" (jz jaz) (jx jaz) (jj jaz) .none kV8 dc8 pm8 an8 cd8 ct8),sl8⟩) (c8:PySem.W.codeIn K cd8 "fits"=true) (k8:PySem.W.keepIn K (.ref f8)=true)
    (a9:PySem.W.nsIn K mainGlobals "names_of_row"=some (some (.ref f9))) (l9:K.lookup f9=some ⟨oc9,od9,.func (PySem.W.fnOf "names_of_row" "names_of_row" (jz yn) (jx yn) (jj yn) .none kV9 dc9 pm9 an9 cd9 ct9),sl9⟩) (c9:PySem.W.codeIn K cd9 "names_of_row"=true) (k9:PySem.W.keepIn K (.ref f9)=true)
    (a10:PySem.W.nsIn K mainGlobals "_law_box"=some (some (.ref f10))) (l10:K.lookup f10=some ⟨oc10,od10,.func (PySem.W.fnOf "_law_box" "_law_box" (jz zz) (jx zz) (jj zz) .none kV10 dc10 pm10 an10 cd10 ct10),sl10⟩) (c10:PySem.W.codeIn K cd10 "_law_box"=true) (k10:PySem.W.keepIn K (.ref f10)=true)
    (a11:PySem.W.nsIn K mainGlobals "_law_take"=some (some (.ref f11))) (l11:K.lookup f11=some ⟨oc11,od11,.func (PySem.W.fnOf "_law_take" "_law_take" (jz kl) (jx kl) (jj kl) .none kV11 dc11 pm11 an11 cd11 ct11),sl11⟩) (c11:PySem.W.codeIn K cd11 "_law_take"=true) (k11:PySem.W.keepIn K (.ref f11)=true)
    (a12:PySem.W.nsIn K mainGlobals "_law_letters"=some (some (.ref f12))) (l12:K.lookup f12=some ⟨oc12,od12,.func (PySem.W.fnOf "_law_letters" "_law_letters" (jz yt) (jx yt) (jj yt) .none kV12 dc12 pm12 an12 cd12 ct12),sl12⟩) (c12:PySem.W.codeIn K cd12 "_law_letters"=true) (k12:PySem.W.keepIn K (.ref f12)=true)
    (a13:PySem.W.nsIn K mainGlobals "_law_row_at"=some (some (.ref f13))) (l13:K.lookup f13=some ⟨oc13,od13,.func (PySem.W.fnOf "_law_row_at" "_law_row_at" (jz y8) (jx y8) (jj y8) .none kV13 dc13 pm13 an13 cd13 ct13),sl13⟩) (c13:PySem.W.codeIn K cd13 "_law_row_at"=true) (k13:PySem.W.keepIn K (.ref f13)=true)
    (a14:PySem.W.nsIn K mainGlobals "_law_place_names"=some (some (.ref f14))) (l14:K.lookup f14=some ⟨oc14,od14,.func (PySem.W.fnOf "_law_place_names" "_law_place_names" (jz ki) (jx ki) (jj ki) .none kV14 dc14 pm14 an14 cd14 ct14),sl14⟩) (c14:PySem.W.codeIn K cd14 "_law_place_names"=true) (k14:PySem.W.keepIn K (.ref f14)=true)
    (a15:PySem.W.nsIn K mainGlobals "_law_saying_rows"=some (some (.ref f15))) (l15:K.lookup f15=some ⟨oc15,od15,.func (PySem.W.fnOf "_law_saying_rows" "_law_saying_rows" (jz yb) (jx yb) (jj yb) .none kV15 dc15 pm15 an15 cd15 ct15),sl15⟩) (c15:PySem.W.codeIn K cd15 "_law_saying_rows"=true) (k15:PySem.W.keepIn K (.ref f15)=true)
    (a16:PySem.W.nsIn K mainGlobals "_law_names_of"=some (some (.ref f16))) (l16:K.lookup f16=some ⟨oc16,od16,.func (PySem.W.fnOf "_law_names_of" "_law_names_of" (jz kt) (jx kt) (jj kt) .none kV16 dc16 pm16 an16 cd16 ct16),sl16⟩) (c16:PySem.W.codeIn K cd16 "_law_names_of"=true) (k16:PySem.W.keepIn K (.ref f16)=true)
    (a17:PySem.W.nsIn K mainGlobals "_law_frees"=some (some (.ref f17))) (l17:K.lookup f17=some ⟨oc17,od17,.func (PySem.W.fnOf "_law_frees" "_law_frees" (jz zf) (jx zf) (jj zf) .none kV17 dc17 pm17 an17 cd17 ct17),sl17⟩) (c17:PySem.W.codeIn K cd17 "_law_frees"=true) (k17:PySem.W.keepIn K (.ref f17)=true)
    (a18:PySem.W.nsIn K mainGlobals "_law_deep"=some (some (.ref f18))) (l18:K.lookup f18=some ⟨oc18,od18,.func (PySem.W.fnOf "_law_deep" "_law_deep" (jz zc) (jx zc) (jj zc) .none kV18 dc18 pm18 an18 cd18 ct18),sl18⟩) (c18:PySem.W.codeIn K cd18 "_law_deep"=true) (k18:PySem.W.keepIn K (.ref f18)=true)
    (a19:PySem.W.nsIn K mainGlobals "_law_rows_to"=some (some (.ref f19))) (l19:K.lookup f19=some ⟨oc19,od19,.func (PySem.W.fnOf "_law_rows_to" "_law_rows_to" (jz y0) (jx y0) (jj y0) .none kV19 dc19 pm19 an19 cd19 ct19),sl19⟩) (c19:PySem.W.codeIn K cd19 "_law_rows_to"=true) (k19:PySem.W.keepIn K (.ref f19)=true)
    (a20:PySem.W.nsIn K mainGlobals "_law_shut"=some (some (.ref f20))) (l20:K.lookup f20=some ⟨oc20,od20,.func (PySem.W.fnOf "_law_shut" "_law_shut" (jz zq) (jx zq) (jj zq) .none kV20 dc20 pm20 an20 cd20 ct20),sl20⟩) (c20:PySem.W.codeIn K cd20 "_law_shut"=true) (k20:PySem.W.keepIn K (.ref f20)=true)
    (a21:PySem.W.nsIn K mainGlobals "_law_whole"=some (some (.ref f21))) (l21:K.lookup f21=some ⟨oc21,od21,.func (PySem.W.fnOf "_law_whole" "_law_whole" (jz zg) (jx zg) (jj zg) .none kV21 dc21 pm21 an21 cd21 ct21),sl21⟩) (c21:PySem.W.codeIn K cd21 "_law_whole"=true) (k21:PySem.W.keepIn K (.ref f21)=true)
    (a22:PySem.W.nsIn K mainGlobals "_law_is_name"=some (some (.ref f22))) (l22:K.lookup f22=some ⟨oc22,od22,.func (PySem.W.fnOf "_law_is_name" "_law_is_name" (jz ym) (jx ym) (jj ym) .none kV22 dc22 pm22 an22 cd22 ct22),sl22⟩) (c22:PySem.W.codeIn K cd22 "_law_is_name"=true) (k22:PySem.W.keepIn K (.ref f22)=true)
    (a23:PySem.W.nsIn K mainGlobals "_law_thing_fits"=some (some (.ref f23))) (l23:K.lookup f23=some ⟨oc23,od23,.func (PySem.W.fnOf "_law_thing_fits" "_law_thing_fits" (jz yf) (jx yf) (jj yf) .none kV23 dc23 pm23 an23 cd23 ct23),sl23⟩) (c23:PySem.W.codeIn K cd23 "_law_thing_fits"=true) (k23:PySem.W.keepIn K (.ref f23)=true)
    (a24:PySem.W.nsIn K mainGlobals "_law_row_fits"=some (some (.ref f24))) (l24:K.lookup f24=some ⟨oc24,od24,.func (PySem.W.fnOf "_law_row_fits" "_law_row_fits" (jz ky) (jx ky) (jj ky) .none kV24 dc24 pm24 an24 cd24 ct24),sl24⟩) (c24:PySem.W.codeIn K cd24 "_law_row_fits"=true) (k24:PySem.W.keepIn K (.ref f24)=true)
    (a25:PySem.W.nsIn K mainGlobals "_law_first_bad"=some (some (.ref f25))) (l25:K.lookup f25=some ⟨oc25,od25,.func (PySem.W.fnOf "_law_first_bad" "_law_first_bad" (jz yc) (jx yc) (jj yc) .none kV25 dc25 pm25 an25 cd25 ct25),sl25⟩) (c25:PySem.W.codeIn K cd25 "_law_first_bad"=true) (k25:PySem.W.keepIn K (.ref f25)=true)
    (a26:PySem.W.nsIn K mainGlobals "_law_odd_name"=some (some (.ref f26))) (l26:K.lookup f26=some ⟨oc26,od26,.func (PySem.W.fnOf "_law_odd_name" "_law_odd_name" (jz yq) (jx yq) (jj yq) .none kV26 dc26 pm26 an26 cd26 ct26),sl26⟩) (c26:PySem.W.codeIn K cd26 "_law_odd_name"=true) (k26:PySem.W.keepIn K (.ref f26)=true)
    (a27:PySem.W.nsIn K mainGlobals "_law_odd_thing"=some (some (.ref f27))) (l27:K.lookup f27=some ⟨oc27,od27,.func (PySem.W.fnOf "_law_odd_thing" "_law_odd_thing" (jz yj) (jx yj) (jj yj) .none kV27 dc27 pm27 an27 cd27 ct27),sl27⟩) (c27:PySem.W.codeIn K cd27 "_law_odd_thing"=true) (k27:PySem.W.keepIn K (.ref f27)=true)
    (a28:PySem.W.nsIn K mainGlobals "_law_odd_row"=some (some (.ref f28))) (l28:K.lookup f28=some ⟨oc28,od28,.func (PySem.W.fnOf "_law_odd_row" "_law_odd_row" (jz yy) (jx yy) (jj yy) .none kV28 dc28 pm28 an28 cd28 ct28),sl28⟩) (c28:PySem.W.codeIn K cd28 "_law_odd_row"=true) (k28:PySem.W.keepIn K (.ref f28)=true)
    (a29:PySem.W.nsIn K mainGlobals "_law_changed"=some (some (.ref f29))) (l29:K.lookup f29=some ⟨oc29,od29,.func (PySem.W.fnOf "_law_changed" "_law_changed" (jz yz) (jx yz) (jj yz) .none kV29 dc29 pm29 an29 cd29 ct29),sl29⟩) (c29:PySem.W.codeIn K cd29 "_law_changed"=true) (k29:PySem.W.keepIn K (.ref f29)=true)
    (a30:PySem.W.nsIn K mainGlobals "_law_answer"=some (some (.ref f30))) (l30:K.lookup f30=some ⟨oc30,od30,.func (PySem.W.fnOf "_law_answer" "_law_answer" (jz y6) (jx y6) (jj y6) .none kV30 dc30 pm30 an30 cd30 ct30),sl30⟩) (c30:PySem.W.codeIn K cd30 "_law_answer"=true) (k30:PySem.W.keepIn K (.ref f30)=true)
    (a31:PySem.W.nsIn K mainGlobals "_law_right"=some (some (.ref f31))) (l31:K.lookup f31=some ⟨oc31,od31,.func (PySem.W.fnOf "_law_right" "_law_right" (jz ze) (jx ze) (jj ze) .none kV31 dc31 pm31 an31 cd31 ct31),sl31⟩) (c31:PySem.W.codeIn K cd31 "_law_right"=true) (k31:PySem.W.keepIn K (.ref f31)=true)
    (a32:PySem.W.nsIn K mainGlobals "law"=some (some (.ref f32))) (l32:K.lookup f32=some ⟨oc32,od32,.func (PySem.W.fnOf "law" "law" (jz jav) (jx jav) (jj jav) .none kV32 dc32 pm32 an32 cd32 ct32),sl32⟩) (c32:PySem.W.codeIn K cd32 "law"=true) (k32:PySem.W.keepIn K (.ref f32)=true)
    (z_len:PySem.W.nsIn K mainGlobals "len"=some none)
    (z_int:PySem.W.nsIn K mainGlobals "int"=some none)
    (z_range:PySem.W.nsIn K mainGlobals "range"=some none)
    (z_list:PySem.W.nsIn K mainGlobals "list"=some none)
    (z_tuple:PySem.W.nsIn K mainGlobals "tuple"=some none)
    (z_isinstance:PySem.W.nsIn K mainGlobals "isinstance"=some none)
    (z_str:PySem.W.nsIn K mainGlobals "str"=some none)
    (z_bool:PySem.W.nsIn K mainGlobals "bool"=some none)
    (z_max:PySem.W.nsIn K mainGlobals "max"=some none)
    (z_all:PySem.W.nsIn K mainGlobals "all"=some none)
    (z_zip:PySem.W.nsIn K mainGlobals "zip"=some none)
    (z_enumerate:PySem.W.nsIn K mainGlobals "enumerate"=some none)
    (z_sorted:PySem.W.nsIn K mainGlobals "sorted"=some none)
    (z_set:PySem.W.nsIn K mainGlobals "set"=some none)
    (z_ValueError:PySem.W.nsIn K mainGlobals "ValueError"=some none)
    (ef:PySem.W.nsIn K mainGlobals "FORMS"=some (some (.ref af)))
    (lf:K.lookup af=some { cls:=.type "dict",data:=.dict esf epf })
    (vf:Paired (fun (e:DictEntry) (kv:Key × V)=>∃ x t,e.key=.str x t/\e.hash=PyData.keyHash w.params x/\kv.1=.inr x/\RelV kv.2 e.val) esf.toList (KF a0_ a1_ a2_ a3_ a4_ a5_ a6_ a7_))
    (nf:((KF a0_ a1_ a2_ a3_ a4_ a5_ a6_ a7_).map Prod.fst).Nodup)
    (sm:(af == sysModules)=false)
    (qk0:K.lookup a0_=some ⟨.type "tuple",qd0,.seq qi0 qn0,qs0⟩)
    (qv0:Vals [] qi0.toList)
    (qz0:qi0.size<=sizeLine)
    (qk1:K.lookup a1_=some ⟨.type "tuple",qd1,.seq qi1 qn1,qs1⟩)
    (qv1:Vals [.str "name",.str "letter"] qi1.toList)
    (qz1:qi1.size<=sizeLine)
    (qk2:K.lookup a2_=some ⟨.type "tuple",qd2,.seq qi2 qn2,qs2⟩)
    (qv2:Vals [.str "name",.str "name"] qi2.toList)
    (qz2:qi2.size<=sizeLine)
    (qk3:K.lookup a3_=some ⟨.type "tuple",qd3,.seq qi3 qn3,qs3⟩)
    (qv3:Vals [.str "row"] qi3.toList)
    (qz3:qi3.size<=sizeLine)
    (qk4:K.lookup a4_=some ⟨.type "tuple",qd4,.seq qi4 qn4,qs4⟩)
    (qv4:Vals [.str "row",.str "row"] qi4.toList)
    (qz4:qi4.size<=sizeLine)
    (qk5:K.lookup a5_=some ⟨.type "tuple",qd5,.seq qi5 qn5,qs5⟩)
    (qv5:Vals [.str "row",.str "row"] qi5.toList)
    (qz5:qi5.size<=sizeLine)
    (qk6:K.lookup a6_=some ⟨.type "tuple",qd6,.seq qi6 qn6,qs6⟩)
    (qv6:Vals [.str "name",.str "row"] qi6.toList)
    (qz6:qi6.size<=sizeLine)
    (qk7:K.lookup a7_=some ⟨.type "tuple",qd7,.seq qi7 qn7,qs7⟩)
    (qv7:Vals [.str "name",.str "row"] qi7.toList)
    (qz7:qi7.size<=sizeLine)
    (en:PySem.W.nsIn K mainGlobals "NO_NAMES"=some (some (.ref an)))
    (ln:K.lookup an=some ⟨.type "tuple",odn,.seq itn nn,sln⟩)
    (vn:Vals (NN.map V.str) itn.toList)
    (eb:PySem.W.nsIn K mainGlobals "BINDING"=some (some (.ref ab)))
    (lb:K.lookup ab=some ⟨.type "tuple",odb,.seq itb nb,slb⟩)
    (vb:Vals BN itb.toList)
    (em:PySem.W.nsIn K mainGlobals "MOST_NAMES"=some (some (.int 3 tkm)))
    (ecd:cd7=.ref cc)
    (hcin:PySem.W.codeHdIn K cc 152=true)
    (aD:PySem.W.nsIn K mainGlobals "CalmError"=some (some (.ref D)))
    (lD:K.lookup D=some (excClassObj nmD qD D ND bsD bmVE true snD subD abD colD ddD kgD khD kiD kjD kkD "ValueError.__new__"))
    (lnD:K.lookup ND=some ⟨noD,ndD,.dict esD enD,nlD⟩)
    (eoD:(esD.all fun e=>match e.key with | .str _ _=>true | _=>false)=true)
    (inD:PySem.W.nsIn K ND "__init__"=some none)
    (spD:PySem.W.specialIn K (.ref D) "__getattribute__"=some (some (.builtin "type.__getattribute__")))
    (rdD:PySem.W.readsIn K D (.type "type")=true)
    (fcD:PySem.W.findCls K (.ref D) (.type "type") "__init__"=some (.val (.builtin "ValueError.__init__")))
    (ac0:PySem.W.nsIn K mainGlobals "BadText"=some (some (.ref C0)))
    (lc0:K.lookup C0=some (excClassObj nm0 q0 C0 N0 bs0 (.ref D::bmVE) true sn0 sub0 ab0 col0 dd0 ka0 kb0 kc0 kd0 kf0 "ValueError.__new__"))
    (ty0:PySem.W.typeIn K (.ref C0)=some (.type "type"))
    (ac1:PySem.W.nsIn K mainGlobals "NoLetter"=some (some (.ref C1)))
    (lc1:K.lookup C1=some (excClassObj nm1 q1 C1 N1 bs1 (.ref D::bmVE) true sn1 sub1 ab1 col1 dd1 ka1 kb1 kc1 kd1 kf1 "ValueError.__new__"))
    (ty1:PySem.W.typeIn K (.ref C1)=some (.type "type"))
    (ac2:PySem.W.nsIn K mainGlobals "TooMany"=some (some (.ref C2)))
    (lc2:K.lookup C2=some (excClassObj nm2 q2 C2 N2 bs2 (.ref D::bmVE) true sn2 sub2 ab2 col2 dd2 ka2 kb2 kc2 kd2 kf2 "ValueError.__new__"))
    (ty2:PySem.W.typeIn K (.ref C2)=some (.type "type"))
    (ac3:PySem.W.nsIn K mainGlobals "BadRow"=some (some (.ref C3)))
    (lc3:K.lookup C3=some (excClassObj nm3 q3 C3 N3 bs3 (.ref D::bmVE) true sn3 sub3 ab3 col3 dd3 ka3 kb3 kc3 kd3 kf3 "ValueError.__new__"))
    (ln3:K.lookup N3=some ⟨no3,nd3,.dict es3 en3,nl3⟩)
    (eo3:(es3.all fun e=>match e.key with | .str _ _=>true | _=>false)=true)
    (sa3:PySem.W.findIn K (.ref C3) "__setattr__"=some (some (.builtin "object.__setattr__")))
    (ga3:PySem.W.findIn K (.ref C3) "__getattribute__"=some (some (.builtin "BaseException.__getattribute__")))
    (gx3:PySem.W.findIn K (.ref C3) "__getattr__"=some none)
    (kp3:PySem.W.keepIn K (.ref C3)=true)
    (cc3:PySem.W.findIn K (.ref C3) "__class__"=some (some (.builtin "object.__class__")))
    (ob3:PySem.W.mroIn K C3 (.type "object")=some true)
    (in3:PySem.W.nsIn K N3 "__init__"=some (some (.ref F3)))
    (lf3:K.lookup F3=some ⟨.type "function",vd3,.func (PySem.W.fnOf "__init__" "BadRow.__init__" (jz yv) (jx yv) (jj yv) .none vk3 vo3 vp3 va3 vc3 vt3),vs3⟩)
    (cf3:PySem.W.codeIn K vc3 "BadRow.__init__"=true)
    (kq3:PySem.W.keepIn K (.ref F3)=true)
    (qf:PySem.W.findIn K (.ref C3) "at"=some none)
    (ne0:C3≠C0)
    (nd_0:C0≠D)
    (ne1:C3≠C1)
    (nd_1:C1≠D)
    (ne2:C3≠C2)
    (nd_2:C2≠D)
    : ∃ fd:FuncData,(∀ (s:Shared) (v:Value),BindsTo s fd ⟨[v],[]⟩ [("_law_script",v)])/\∀ base:Heap,K.In base->base.Ns mainGlobals mg->(∀ t ∈ [152],base.BuiltinsAt mg t)->FnOk l.prog w K mg base CX0 9 fa fd ["_law_script"] (spLawT K 152):=by
  have e:=hfa.symm.trans (PySem.W.mg_of X G a32)
  cases e
  have F15z:=fun_mk (st:=zo) l1 c1 k1
  have m15z:=PySem.W.mg_of X G a1
  have b15z:=F15z.binds (ps:=["row","form","fits"]) fun _ _ _ _ _ _=>us3 fun _ _ _=>rfl
  have F18z:=fun_mk (st:=y3) l2 c2 k2
  have m18z:=PySem.W.mg_of X G a2
  have b18z:=F18z.binds (ps:=["thing","at"]) fun _ _ _ _ _ _=>us2 fun _ _=>rfl
  have F27z:=fun_mk (st:=yr) l3 c3 k3
  have m27z:=PySem.W.mg_of X G a3
  have b27z:=F27z.binds (ps:=["thing","letters"]) fun _ _ _ _ _ _=>us2 fun _ _=>rfl
  have F9z:=fun_mk (st:=zk) l4 c4 k4
  have m9z:=PySem.W.mg_of X G a4
  have b9z:=F9z.binds (ps:=["row"]) fun _ _ _ _ _ _=>us1 fun _=>rfl
  have F4z:=fun_mk (st:=zy) l5 c5 k5
  have m4z:=PySem.W.mg_of X G a5
  have b4z:=F4z.binds (ps:=["text"]) fun _ _ _ _ _ _=>us1 fun _=>rfl
  have F26z:=fun_mk (st:=y9) l6 c6 k6
  have m26z:=PySem.W.mg_of X G a6
  have b26z:=F26z.binds (ps:=["letters","saying"]) fun _ _ _ _ _ _=>us2 fun _ _=>rfl
  have F21z:=fun_mk (st:=yg) l7 c7 k7
  have m21z:=PySem.W.mg_of X G a7
  have b21z:=F21z.binds (ps:=["letters","row","at"]) fun _ _ _ _ _ _=>us3 fun _ _ _=>rfl
  have F1z:=fun_mk (st:=jaz) l8 c8 k8
  have m1z:=PySem.W.mg_of X G a8
  have b1z:=F1z.binds (ps:=["letters","at","kind","thing"]) fun _ _ _ _ _ _=>us4 fun _ _ _ _=>rfl
  have F23z:=fun_mk (st:=yn) l9 c9 k9
  have m23z:=PySem.W.mg_of X G a9
  have b23z:=F23z.binds (ps:=["row","names"]) fun _ _ _ _ _ _=>us2 fun _ _=>rfl
  have F7z:=fun_mk (st:=zz) l10 c10 k10
  have m7z:=PySem.W.mg_of X G a10
  have b7z:=F7z.binds (ps:=["_law_script","_law_k"]) fun _ _ _ _ _ _=>us2 fun _ _=>rfl
  have F0z:=fun_mk (st:=kl) l11 c11 k11
  have m0z:=PySem.W.mg_of X G a11
  have b0z:=F0z.binds (ps:=["_law_box_here","_law_wide"]) fun _ _ _ _ _ _=>us2 fun _ _=>rfl
  have F20z:=fun_mk (st:=yt) l12 c12 k12
  have m20z:=PySem.W.mg_of X G a12
  have b20z:=F20z.binds (ps:=["_law_box_here","_law_most"]) fun _ _ _ _ _ _=>us2 fun _ _=>rfl
  have F6z:=fun_mk (st:=y8) l13 c13 k13
  have m6z:=PySem.W.mg_of X G a13
  have b6z:=F6z.binds (ps:=["_law_box_here","_law_k"]) fun _ _ _ _ _ _=>us2 fun _ _=>rfl
  have F3z:=fun_mk (st:=ki) l14 c14 k14
  have m3z:=PySem.W.mg_of X G a14
  have b3z:=F3z.binds (ps:=["_law_box_here","_law_many"]) fun _ _ _ _ _ _=>us2 fun _ _=>rfl
  have F13z:=fun_mk (st:=yb) l15 c15 k15
  have m13z:=PySem.W.mg_of X G a15
  have b13z:=F13z.binds (ps:=["_law_box_here","_law_letters_here","_law_names","_law_most"]) fun _ _ _ _ _ _=>us4 fun _ _ _ _=>rfl
  have F2z:=fun_mk (st:=kt) l16 c16 k16
  have m2z:=PySem.W.mg_of X G a16
  have b2z:=F2z.binds (ps:=["_law_row","_law_frees_here"]) fun _ _ _ _ _ _=>us2 fun _ _=>rfl
  have F19z:=fun_mk (st:=zf) l17 c17 k17
  have m19z:=PySem.W.mg_of X G a17
  have b19z:=F19z.binds (ps:=["_law_saying"]) fun _ _ _ _ _ _=>us1 fun _=>rfl
  have F8z:=fun_mk (st:=zc) l18 c18 k18
  have m8z:=PySem.W.mg_of X G a18
  have b8z:=F8z.binds (ps:=["_law_row","_law_depths"]) fun _ _ _ _ _ _=>us2 fun _ _=>rfl
  have F22z:=fun_mk (st:=y0) l19 c19 k19
  have m22z:=PySem.W.mg_of X G a19
  have b22z:=F22z.binds (ps:=["_law_box_here","_law_letters_here","_law_names","_law_most","_law_deep_here"]) fun _ _ _ _ _ _=>us5 fun _ _ _ _ _=>rfl
  have F30z:=fun_mk (st:=zq) l20 c20 k20
  have m30z:=PySem.W.mg_of X G a20
  have b30z:=F30z.binds (ps:=["_law_box_here","_law_rows"]) fun _ _ _ _ _ _=>us2 fun _ _=>rfl
  have F16z:=fun_mk (st:=zg) l21 c21 k21
  have m16z:=PySem.W.mg_of X G a21
  have b16z:=F16z.binds (ps:=["_law_found"]) fun _ _ _ _ _ _=>us1 fun _=>rfl
  have F29z:=fun_mk (st:=ym) l22 c22 k22
  have m29z:=PySem.W.mg_of X G a22
  have b29z:=F29z.binds (ps:=["_law_text"]) fun _ _ _ _ _ _=>us1 fun _=>rfl
  have F11z:=fun_mk (st:=yf) l23 c23 k23
  have m11z:=PySem.W.mg_of X G a23
  have b11z:=F11z.binds (ps:=["_law_letters_here","_law_want","_law_thing","_law_at"]) fun _ _ _ _ _ _=>us4 fun _ _ _ _=>rfl
  have F24z:=fun_mk (st:=ky) l24 c24 k24
  have m24z:=PySem.W.mg_of X G a24
  have b24z:=F24z.binds (ps:=["_law_letters_here","_law_row","_law_at"]) fun _ _ _ _ _ _=>us3 fun _ _ _=>rfl
  have F5z:=fun_mk (st:=yc) l25 c25 k25
  have m5z:=PySem.W.mg_of X G a25
  have b5z:=F5z.binds (ps:=["_law_letters_here","_law_saying"]) fun _ _ _ _ _ _=>us2 fun _ _=>rfl
  have F25z:=fun_mk (st:=yq) l26 c26 k26
  have m25z:=PySem.W.mg_of X G a26
  have b25z:=F25z.binds (ps:=["_law_box_here","_law_name"]) fun _ _ _ _ _ _=>us2 fun _ _=>rfl
  have F17z:=fun_mk (st:=yj) l27 c27 k27
  have m17z:=PySem.W.mg_of X G a27
  have b17z:=F17z.binds (ps:=["_law_box_here","_law_letters_here","_law_row","_law_spot","_law_at"]) fun _ _ _ _ _ _=>us5 fun _ _ _ _ _=>rfl
  have F10z:=fun_mk (st:=yy) l28 c28 k28
  have m10z:=PySem.W.mg_of X G a28
  have b10z:=F10z.binds (ps:=["_law_box_here","_law_letters_here","_law_row","_law_at"]) fun _ _ _ _ _ _=>us4 fun _ _ _ _=>rfl
  have F14z:=fun_mk (st:=yz) l29 c29 k29
  have m14z:=PySem.W.mg_of X G a29
  have b14z:=F14z.binds (ps:=["_law_box_here","_law_letters_here","_law_saying"]) fun _ _ _ _ _ _=>us3 fun _ _ _=>rfl
  have F12z:=fun_mk (st:=y6) l30 c30 k30
  have m12z:=PySem.W.mg_of X G a30
  have b12z:=F12z.binds (ps:=["_law_letters_here","_law_saying"]) fun _ _ _ _ _ _=>us2 fun _ _=>rfl
  have F28z:=fun_mk (st:=ze) l31 c31 k31
  have m28z:=PySem.W.mg_of X G a31
  have b28z:=F28z.binds (ps:=["_law_letters_here","_law_saying"]) fun _ _ _ _ _ _=>us2 fun _ _=>rfl
  have F_law:=fun_mk (st:=jav) l32 c32 k32
  have m_law:=PySem.W.mg_of X G a32
  have b_law:=F_law.binds (ps:=["_law_script"]) fun _ _ _ _ _ _=>us1 fun _=>rfl
  have n_len:=PySem.W.mg_none_of X G z_len
  have n_int:=PySem.W.mg_none_of X G z_int
  have n_range:=PySem.W.mg_none_of X G z_range
  have n_list:=PySem.W.mg_none_of X G z_list
  have n_tuple:=PySem.W.mg_none_of X G z_tuple
  have n_isinstance:=PySem.W.mg_none_of X G z_isinstance
  have n_str:=PySem.W.mg_none_of X G z_str
  have n_bool:=PySem.W.mg_none_of X G z_bool
  have n_max:=PySem.W.mg_none_of X G z_max
  have n_all:=PySem.W.mg_none_of X G z_all
  have n_zip:=PySem.W.mg_none_of X G z_zip
  have n_enumerate:=PySem.W.mg_none_of X G z_enumerate
  have n_sorted:=PySem.W.mg_none_of X G z_sorted
  have n_set:=PySem.W.mg_none_of X G z_set
  have n_ValueError:=PySem.W.mg_none_of X G z_ValueError
  refine ⟨PySem.W.fnOf "law" "law" (jz jav) (jx jav) (jj jav) .none kV32 dc32 pm32 an32 cd32 ct32,fun s v=>.of_eq rfl,fun base kb _ hbt=>?_⟩
  have hd:PySem.W.CodeHd base cc 152:=PySem.W.codeHd_of_K kb hcin
  have nsD:PySem.W.nsOkIn K ND=true:=ns_ok lnD eoD
  have tl:PySem.W.tailIn K bmVE (.ref D::bmVE)=true:=tail_ok lD nsD inD
  have nsR:PySem.W.nsOkIn K N3=true:=ns_ok ln3 eo3
  have cX:XC K C3 D N3:=⟨⟨_,_,_,_,_,_,_,_,_,_,_,_,_,lc3⟩,tl,nsR,sa3,ga3,gx3,kp3⟩
  have xt:XT K D:=⟨_,_,_,_,_,_,_,_,_,_,_,_,_,_,_,_,_,lD,by decide⟩
  have m_CalmError:=PySem.W.mg_of X G aD
  have m_BadText:=PySem.W.mg_of X G ac0
  have m_NoLetter:=PySem.W.mg_of X G ac1
  have m_TooMany:=PySem.W.mg_of X G ac2
  have m_BadRow:=PySem.W.mg_of X G ac3
  have F_B:=fun_mk (st:=yv) lf3 cf3 kq3
  have b_B:=F_B.binds (ps:=["self","at"]) fun _ _ _ _ _ _ us hl=>match us,hl with | [_,_],_=>rfl
  have G_B:=ok_BadRow__init__ (P:=l.prog) (w:=w) (base:=base) F_B ⟨m_CalmError,⟨spD,rdD,fcD⟩⟩
  have ss:PySem.W.kitOne K (.type "str") (.type "str")=some true:=if_pos (by simp)
  have ii:PySem.W.kitOne K (.type "int") (.type "int")=some true:=if_pos (by simp)
  have tt:PySem.W.kitOne K (.type "tuple") (.type "tuple")=some true:=if_pos (by simp)
  have is_:PySem.W.kitOne K (.type "int") (.type "str")=some false:=by
    unfold PySem.W.kitOne
    rw [if_neg (by decide)]
    unfold PySem.W.kitCls
    first | rfl | decide +kernel | simp
  have si:PySem.W.kitOne K (.type "str") (.type "int")=some false:=by
    unfold PySem.W.kitOne
    rw [if_neg (by decide)]
    unfold PySem.W.kitCls
    first | rfl | decide +kernel | simp
  have ib:PySem.W.kitOne K (.type "int") (.type "bool")=some false:=by
    unfold PySem.W.kitOne
    rw [if_neg (by decide)]
    unfold PySem.W.kitCls
    first | rfl | decide +kernel | simp
  have kF:KDict l.prog w K af (KF a0_ a1_ a2_ a3_ a4_ a5_ a6_ a7_):=kdict_of lf vf nf
  have mF:=PySem.W.mg_of X G ef
  have t0:∀ H:Hp,SqT K H a0_ []:=fun H=>.inr ⟨_,_,_,qk0,rfl,rfl,qz0,qv0⟩
  have t1:∀ H:Hp,SqT K H a1_ [.str "name",.str "letter"]:=fun H=>.inr ⟨_,_,_,qk1,rfl,rfl,qz1,qv1⟩
  have t2:∀ H:Hp,SqT K H a2_ [.str "name",.str "name"]:=fun H=>.inr ⟨_,_,_,qk2,rfl,rfl,qz2,qv2⟩
  have t3:∀ H:Hp,SqT K H a3_ [.str "row"]:=fun H=>.inr ⟨_,_,_,qk3,rfl,rfl,qz3,qv3⟩
  have t4:∀ H:Hp,SqT K H a4_ [.str "row",.str "row"]:=fun H=>.inr ⟨_,_,_,qk4,rfl,rfl,qz4,qv4⟩
  have t5:∀ H:Hp,SqT K H a5_ [.str "row",.str "row"]:=fun H=>.inr ⟨_,_,_,qk5,rfl,rfl,qz5,qv5⟩
  have t6:∀ H:Hp,SqT K H a6_ [.str "name",.str "row"]:=fun H=>.inr ⟨_,_,_,qk6,rfl,rfl,qz6,qv6⟩
  have t7:∀ H:Hp,SqT K H a7_ [.str "name",.str "row"]:=fun H=>.inr ⟨_,_,_,qk7,rfl,rfl,qz7,qv7⟩
  have kn:∀ H,SqT K H an (NN.map V.str):=fun H=>.inr ⟨_,itn,nn,ln,rfl,rfl,by have:=vn.length;simp [NN] at this;have hs:sizeLine=16777216:=PySem.sizeLine_eq;omega,vn⟩
  have kbn:∀ H,SqT K H ab BN:=fun H=>.inr ⟨_,itb,nb,lb,rfl,rfl,by have:=vb.length;simp [BN] at this;have hs:sizeLine=16777216:=PySem.sizeLine_eq;omega,vb⟩
  have ko:∀ o ∈ [C0,C1,C2],PySem.W.kitOne K (.ref C3) (.ref o)=some false:=fun o ho=>by
    simp only [List.mem_cons,List.not_mem_nil,or_false] at ho
    rcases ho with rfl | rfl | rfl
    · exact kit_ne lc3 lc0 ty0 ne0 nd_0
    · exact kit_ne lc3 lc1 ty1 ne1 nd_1
    · exact kit_ne lc3 lc2 ty2 ne2 nd_2
  have g0z:=ok__law_take (P:=l.prog) (w:=w) (mg:=mg) (base:=base) F0z
  have g7z:=ok__law_box (P:=l.prog) (w:=w) (base:=base) F7z ⟨n_len,n_int⟩
  have g20z:=ok__law_letters (P:=l.prog) (w:=w) (base:=base) F20z ⟨n_len,n_list,n_range,m0z⟩ F0z b0z g0z
  have g6z:=ok__law_row_at (P:=l.prog) (w:=w) (base:=base) F6z ⟨m0z⟩ F0z b0z g0z
  have g3z:=ok__law_place_names (P:=l.prog) (w:=w) (base:=base) F3z ⟨n_range,m0z⟩ F0z b0z g0z
  have g13z:=ok__law_saying_rows (P:=l.prog) (w:=w) (base:=base) F13z ⟨n_range,n_len,m0z,m6z⟩ F0z b0z g0z F6z b6z g6z
  have g9z:=ok_parts_of (P:=l.prog) (w:=w) (base:=base) F9z ⟨n_isinstance,n_int,si,ii⟩
  have g23z:=ok_names_of_row (P:=l.prog) (w:=w) (base:=base) F23z ⟨n_tuple,n_sorted,n_set,m9z,PySem.W.mg_of X G eb,kbn⟩ F9z b9z g9z
  have g2z:=ok__law_names_of (P:=l.prog) (w:=w) (base:=base) F2z ⟨n_sorted,n_set⟩
  have g19z:=ok__law_frees (P:=l.prog) (w:=w) (base:=base) F19z ⟨m2z⟩ F2z b2z g2z
  have g8z:=ok__law_deep (P:=l.prog) (w:=w) (base:=base) F8z ⟨n_max⟩
  have g22z:=ok__law_rows_to (P:=l.prog) (w:=w) (base:=base) F22z ⟨n_len,m13z,m2z,m8z⟩ F13z b13z g13z F2z b2z g2z F8z b8z g8z
  have g16z:=ok__law_whole (P:=l.prog) (w:=w) (base:=base) F16z ⟨n_isinstance,n_int,n_bool,ib⟩
  have g30z:=ok__law_shut (P:=l.prog) (w:=w) (base:=base) F30z ⟨n_len,n_list,n_tuple,m0z,m19z⟩ F0z b0z g0z F19z b19z g19z
  have g4z:=ok_is_name (P:=l.prog) (w:=w) (base:=base) F4z ⟨n_len,n_all,PySem.W.mg_of X G en,kn⟩
  have g29z:=ok__law_is_name (P:=l.prog) (w:=w) (base:=base) F29z ⟨n_len,n_all⟩
  have hT:TRA K mg:=⟨n_isinstance,n_int,n_bool,n_str,n_len,ii,si,ib,ss,is_⟩
  have g18z:=ok_is_row_ahead (P:=l.prog) (w:=w) (base:=base) F18z hT
  have g27z:=ok_is_one_letter (P:=l.prog) (w:=w) (base:=base) F27z hT
  have g1z:=ok_fits (P:=l.prog) (w:=w) (base:=base) F1z ⟨n_isinstance,n_str,m18z,m27z,m4z⟩ hT F18z b18z g18z F27z b27z g27z F4z b4z g4z
  have g11z:=ok__law_thing_fits (P:=l.prog) (w:=w) (base:=base) F11z ⟨n_isinstance,n_str,n_int,n_len,m29z⟩ hT F29z b29z g29z
  have g15z:=ok_has_form (P:=l.prog) (w:=w) (base:=base) F15z ⟨n_len,n_all,n_zip⟩
  have g21z:=ok_is_saying_row (P:=l.prog) (w:=w) (base:=base) (Pt:=152) F21z ⟨n_len,mF,m15z,m1z,kF,sm,t0,t1,t2,t3,t4,t5,t6,t7,rfl,hd,hbt 152 (.head _)⟩ ecd F15z b15z g15z F1z b1z g1z
  have g26z:=ok_look_saying (P:=l.prog) (w:=w) (base:=base) F26z ⟨n_len,n_enumerate,m21z,m23z,m_BadRow,cX,in3,⟨_,lf3,rfl⟩,qf,PySem.W.mg_of X G em⟩ b_B G_B F21z b21z g21z F23z b23z g23z
  have g24z:=ok__law_row_fits (P:=l.prog) (w:=w) (base:=base) F24z ⟨n_len,n_all,n_zip,m11z⟩ F11z b11z g11z
  have g5z:=ok__law_first_bad (P:=l.prog) (w:=w) (base:=base) F5z ⟨n_len,n_range,m24z,m2z⟩ F24z b24z g24z F2z b2z g2z
  have g12z:=ok__law_answer (P:=l.prog) (w:=w) (base:=base) F12z ⟨n_isinstance,n_ValueError,m26z,m_BadRow,xt,m_CalmError,m_BadText,m_NoLetter,m_TooMany,cX,⟨cc3,ob3⟩,ko,if_pos (by simp),kit_V lc3,qf⟩ F26z b26z g26z
  have g28z:=ok__law_right (P:=l.prog) (w:=w) (base:=base) F28z ⟨n_isinstance,n_tuple,m5z,m12z,m16z,tt⟩ F5z b5z g5z F12z b12z g12z F16z b16z g16z
  have g25z:=ok__law_odd_name (P:=l.prog) (w:=w) (base:=base) F25z ⟨n_len,m0z⟩ F0z b0z g0z
  have g17z:=ok__law_odd_thing (P:=l.prog) (w:=w) (base:=base) F17z ⟨n_isinstance,n_int,n_str,m0z,m25z⟩ hT F0z b0z g0z F25z b25z g25z
  have g10z:=ok__law_odd_row (P:=l.prog) (w:=w) (base:=base) F10z ⟨n_len,m0z,m17z,m3z⟩ F0z b0z g0z F17z b17z g17z F3z b3z g3z
  have g14z:=ok__law_changed (P:=l.prog) (w:=w) (base:=base) F14z ⟨n_len,n_range,m0z,m10z,m3z⟩ F0z b0z g0z F10z b10z g10z F3z b3z g3z
  exact ok_law F_law ⟨n_int,n_tuple,m7z,m0z,m20z,m3z,m22z,m30z,m14z,m28z,m5z⟩ F7z b7z g7z F0z b0z g0z F20z b20z g20z F3z b3z g3z F22z b22z g22z F30z b30z g30z F14z b14z g14z F28z b28z g28z F5z b5z g5z
theorem sq_ne {K:PySem.W.Frag} {H:Hp} {a t:Addr} {xs:List V} {ps:Array Value} (hS:SqL K H a xs) (hT:H t=some (.tbl ps)) (hK:K.lookup t=none):a≠t:=by
  rintro rfl
  rcases hS with (h | ⟨o,h⟩) | ⟨o,its,n,h,_⟩
  · rw [hT] at h;cases h
  · rw [hT] at h;cases h
  · rw [hK] at h;cases h
theorem walk {l:PySem.W.OpenLaw} {q:Program} {loose:List Str} {XP:(Str->Option Value)->Heap->Prop} {YP:World->Heap->Prop} {d:DefRec} {K:Params->PySem.W.Frag} (hn:l.most=some 63) (hdf:d.params.defaults=[])
    (hY:∀ (w:World) (h:Heap),YP w h->(K w.params).In h) (hT:∀ (w:World) (h:Heap),YP w h->∀ t ∈ [152],h.get? t=some (PySem.W.tabObj #[]))
    (hC:∀ (w:World) (h:Heap),(K w.params).In h->∀ t ∈ [152],∃ c,PySem.W.CodeHd h c t) (hN:∀ w:World,∀ t ∈ [152],(K w.params).lookup t=none)
    (F:∀ (w:World) (mg:Str->Option Value) (fa:Addr) (h:Heap),(K w.params).In h->h.Ns mainGlobals mg->mg d.name=some (.ref fa) ->
      ∃ fd:FuncData,(∀ (s:Shared) (u:Value),BindsTo s fd ⟨[u],[]⟩ [("_law_script",u)])/\∀ base:Heap,(K w.params).In base->base.Ns mainGlobals mg->(∀ t ∈ [152],base.BuiltinsAt mg t)->FnOk l.prog w (K w.params) mg base CX0 9 fa fd ["_law_script"] (spLawT (K w.params) 152)) :
    PySem.W.WalkO q loose XP YP l.row.toRowW d [] (fun f vs=>PySem.call f vs) :=
  L2.walk_ofT (n:=63) (k:=9) (x:="_law_script") (ts:=[152]) (CX:=fun _=>CX0) (sp:=fun w=>spLawT (K w.params) 152) hn (by decide) hdf ⟨rfl,by decide,by decide,rfl⟩ hY hT hC hN F (fun w _ a ns hl hS hT=>⟨a,ns,rfl,hS,hl,sq_ne hS (hT 152 (.head _)) (hN w 152 (.head _)),⟨#[],hT 152 (.head _),trivial,fun p cv e=>by cases e⟩,fun _=>rfl⟩) fun _ _ _ _ _ z=>z
end My
namespace PySem.W.Fast
theorem tw10751148344589474290:True:=trivial
theorem tw5292971260694796336:True:=trivial
theorem tw15869385509887161143:True:=trivial
theorem tw417367915273921233:True:=trivial
theorem tw16650938192143049959:True:=trivial
theorem tw5241302109736326748:True:=trivial
theorem tw12757210989633510447:True:=trivial
theorem tw15922214733332468725:True:=trivial
theorem tw12479867731176788783:True:=trivial
theorem tw8670012344513076884:True:=trivial
theorem tw8155255927435012065:True:=trivial
theorem tw16467286485178218535:True:=trivial
theorem tw17908237514805333160:True:=trivial
theorem tw11330501206093282385:True:=trivial
theorem tw12808190819873195077:True:=trivial
theorem tw4138571061335191073:True:=trivial
theorem tw10050141917834382038:True:=trivial
theorem tw409905516923761834:True:=trivial
theorem tw3659805359850818598:True:=trivial
theorem tw8779995635259870850:True:=trivial
theorem tw8758604273116348007:True:=trivial
theorem tw13827677503076049778:True:=trivial
theorem tw15187039743135219941:True:=trivial
theorem tw14552774999372274738:True:=trivial
theorem tw4871790334343872380:True:=trivial
theorem tw2921118865157528031:True:=trivial
theorem tw2738944867770957720:True:=trivial
theorem tw8691253478886622349:True:=trivial
theorem tw8683818604936022075:True:=trivial
theorem tw221476574183111110:True:=trivial
end PySem.W.Fast
open PySem PySem.W PyProof.Rows
set_option maxRecDepth 100000 in
set_option maxHeartbeats 0 in
theorem PySem.Challenge.cw_calmword_k32_sayings_looked_at_holds : PySem.Challenge.rw_calmword_k32_sayings_looked_at.Holds := by
  w_on;o_law;k_head;(case hw=>w_witness2)
  k_fill
  refine My.walk (l:=PySem.Challenge.rw_calmword_k32_sayings_looked_at) rfl rfl (fun w h Y=>PySem.W.km_in_of Y) (fun w h Y=>PySem.W.km_tabs_of Y) ?cC ?cN ?F
  case cC=>intro w h X t ht;cases List.mem_singleton.mp ht;refine' My.c_of X ?h3 ?h4 ?h5 ?h6;(case h3=>k_is);(case h4=>k_is);(case h5=>rfl);(case h6=>kernel_rfl)
  case cN=>exact fun w t ht=>by cases List.mem_singleton.mp ht;rfl
  case F =>
    intro w mg fa h KX G hmg
    refine' My.all_mk KX G hmg ?a1 ?l1 ?c1 ?k1 ?a2 ?l2 ?c2 ?k2 ?a3 ?l3 ?c3 ?k3 ?a4 ?l4 ?c4 ?k4 ?a5 ?l5 ?c5 ?k5 ?a6 ?l6 ?c6 ?k6 ?a7 ?l7 ?c7 ?k7 ?a8 ?l8 ?c8 ?k8 ?a9 ?l9 ?c9 ?k9 ?a10 ?l10 ?c10 ?k10 ?a11 ?l11 ?c11 ?k11 ?a12 ?l12 ?c12 ?k12 ?a13 ?l13 ?c13 ?k13 ?a14 ?l14 ?c14 ?k14 ?a15 ?l15 ?c15 ?k15 ?a16 ?l16 ?c16 ?k16 ?a17 ?l17 ?c17 ?k17 ?a18 ?l18 ?c18 ?k18 ?a19 ?l19 ?c19 ?k19 ?a20 ?l20 ?c20 ?k20 ?a21 ?l21 ?c21 ?k21 ?a22 ?l22 ?c22 ?k22 ?a23 ?l23 ?c23 ?k23 ?a24 ?l24 ?c24 ?k24 ?a25 ?l25 ?c25 ?k25 ?a26 ?l26 ?c26 ?k26 ?a27 ?l27 ?c27 ?k27 ?a28 ?l28 ?c28 ?k28 ?a29 ?l29 ?c29 ?k29 ?a30 ?l30 ?c30 ?k30 ?a31 ?l31 ?c31 ?k31 ?a32 ?l32 ?c32 ?k32 ?z_len ?z_int ?z_range ?z_list ?z_tuple ?z_isinstance ?z_str ?z_bool ?z_max ?z_all ?z_zip ?z_enumerate ?z_sorted ?z_set ?z_ValueError ?ef ?lf ?vf ?nf ?sm ?qk0 ?qv0 ?qz0 ?qk1 ?qv1 ?qz1 ?qk2 ?qv2 ?qz2 ?qk3 ?qv3 ?qz3 ?qk4 ?qv4 ?qz4 ?qk5 ?qv5 ?qz5 ?qk6 ?qv6 ?qz6 ?qk7 ?qv7 ?qz7 ?en ?ln ?vn ?eb ?lb ?vb ?em ?ecd ?hcin ?aD ?lD ?lnD ?eoD ?inD ?spD ?rdD ?fcD ?ac0 ?lc0 ?ty0 ?ac1 ?lc1 ?ty1 ?ac2 ?lc2 ?ty2 ?ac3 ?lc3 ?ln3 ?eo3 ?sa3 ?ga3 ?gx3 ?kp3 ?cc3 ?ob3 ?in3 ?lf3 ?cf3 ?kq3 ?qf ?ne0 ?nd_0 ?ne1 ?nd_1 ?ne2 ?nd_2
    (case a1=>k_is)
    (case l1=>k_is)
    (case c1=>k_is)
    (case k1=>k_is)
    (case a2=>k_is)
    (case l2=>k_is)
    (case c2=>k_is)
    (case k2=>k_is)
    (case a3=>k_is)
    (case l3=>k_is)
    (case c3=>k_is)
    (case k3=>k_is)
    (case a4=>k_is)
    (case l4=>k_is)
    (case c4=>k_is)
    (case k4=>k_is)
    (case a5=>k_is)
    (case l5=>k_is)
    (case c5=>k_is)
    (case k5=>k_is)
    (case a6=>k_is)
    (case l6=>k_is)
    (case c6=>k_is)
    (case k6=>k_is)
    (case a7=>k_is)
    (case l7=>k_is)
    (case c7=>k_is)
    (case k7=>k_is)
    (case a8=>k_is)
    (case l8=>k_is)
    (case c8=>k_is)
    (case k8=>k_is)
    (case a9=>k_is)
    (case l9=>k_is)
    (case c9=>k_is)
    (case k9=>k_is)
    (case a10=>k_is)
    (case l10=>k_is)
    (case c10=>k_is)
    (case k10=>k_is)
    (case a11=>k_is)
    (case l11=>k_is)
    (case c11=>k_is)
    (case k11=>k_is)
    (case a12=>k_is)
    (case l12=>k_is)
    (case c12=>k_is)
    (case k12=>k_is)
    (case a13=>k_is)
    (case l13=>k_is)
    (case c13=>k_is)
    (case k13=>k_is)
    (case a14=>k_is)
    (case l14=>k_is)
    (case c14=>k_is)
    (case k14=>k_is)
    (case a15=>k_is)
    (case l15=>k_is)
    (case c15=>k_is)
    (case k15=>k_is)
    (case a16=>k_is)
    (case l16=>k_is)
    (case c16=>k_is)
    (case k16=>k_is)
    (case a17=>k_is)
    (case l17=>k_is)
    (case c17=>k_is)
    (case k17=>k_is)
    (case a18=>k_is)
    (case l18=>k_is)
    (case c18=>k_is)
    (case k18=>k_is)
    (case a19=>k_is)
    (case l19=>k_is)
    (case c19=>k_is)
    (case k19=>k_is)
    (case a20=>k_is)
    (case l20=>k_is)
    (case c20=>k_is)
    (case k20=>k_is)
    (case a21=>k_is)
    (case l21=>k_is)
    (case c21=>k_is)
    (case k21=>k_is)
    (case a22=>k_is)
    (case l22=>k_is)
    (case c22=>k_is)
    (case k22=>k_is)
    (case a23=>k_is)
    (case l23=>k_is)
    (case c23=>k_is)
    (case k23=>k_is)
    (case a24=>k_is)
    (case l24=>k_is)
    (case c24=>k_is)
    (case k24=>k_is)
    (case a25=>k_is)
    (case l25=>k_is)
    (case c25=>k_is)
    (case k25=>k_is)
    (case a26=>k_is)
    (case l26=>k_is)
    (case c26=>k_is)
    (case k26=>k_is)
    (case a27=>k_is)
    (case l27=>k_is)
    (case c27=>k_is)
    (case k27=>k_is)
    (case a28=>k_is)
    (case l28=>k_is)
    (case c28=>k_is)
    (case k28=>k_is)
    (case a29=>k_is)
    (case l29=>k_is)
    (case c29=>k_is)
    (case k29=>k_is)
    (case a30=>k_is)
    (case l30=>k_is)
    (case c30=>k_is)
    (case k30=>k_is)
    (case a31=>k_is)
    (case l31=>k_is)
    (case c31=>k_is)
    (case k31=>k_is)
    (case a32=>k_is)
    (case l32=>k_is)
    (case c32=>k_is)
    (case k32=>k_is)
    (case z_len=>k_is)
    (case z_int=>k_is)
    (case z_range=>k_is)
    (case z_list=>k_is)
    (case z_tuple=>k_is)
    (case z_isinstance=>k_is)
    (case z_str=>k_is)
    (case z_bool=>k_is)
    (case z_max=>k_is)
    (case z_all=>k_is)
    (case z_zip=>k_is)
    (case z_enumerate=>k_is)
    (case z_sorted=>k_is)
    (case z_set=>k_is)
    (case z_ValueError=>k_is)
    (case ef=>k_is)
    (case lf=>k_is)
    (case vf=>exact (.cons ⟨_,_,rfl,rfl,rfl,rfl⟩ (.cons ⟨_,_,rfl,rfl,rfl,rfl⟩ (.cons ⟨_,_,rfl,rfl,rfl,rfl⟩ (.cons ⟨_,_,rfl,rfl,rfl,rfl⟩ (.cons ⟨_,_,rfl,rfl,rfl,rfl⟩ (.cons ⟨_,_,rfl,rfl,rfl,rfl⟩ (.cons ⟨_,_,rfl,rfl,rfl,rfl⟩ (.cons ⟨_,_,rfl,rfl,rfl,rfl⟩ .nil)))))))))
    (case nf=>(show List.Nodup [(Sum.inr (Str.ofString "yes"):L2.Key),Sum.inr (Str.ofString "is"),Sum.inr (Str.ofString "ahead"),Sum.inr (Str.ofString "not"),Sum.inr (Str.ofString "and"),Sum.inr (Str.ofString "or"),Sum.inr (Str.ofString "some"),Sum.inr (Str.ofString "each")];decide +kernel))
    (case sm=>first | rfl | decide)
    (case qk0=>k_is)
    (case qv0=>exact .nil)
    (case qz0=>first | decide | simp)
    (case qk1=>k_is)
    (case qv1=>exact (.cons ⟨_,rfl⟩ (.cons ⟨_,rfl⟩ .nil)))
    (case qz1=>first | decide | simp)
    (case qk2=>k_is)
    (case qv2=>exact (.cons ⟨_,rfl⟩ (.cons ⟨_,rfl⟩ .nil)))
    (case qz2=>first | decide | simp)
    (case qk3=>k_is)
    (case qv3=>exact (.cons ⟨_,rfl⟩ .nil))
    (case qz3=>first | decide | simp)
    (case qk4=>k_is)
    (case qv4=>exact (.cons ⟨_,rfl⟩ (.cons ⟨_,rfl⟩ .nil)))
    (case qz4=>first | decide | simp)
    (case qk5=>k_is)
    (case qv5=>exact (.cons ⟨_,rfl⟩ (.cons ⟨_,rfl⟩ .nil)))
    (case qz5=>first | decide | simp)
    (case qk6=>k_is)
    (case qv6=>exact (.cons ⟨_,rfl⟩ (.cons ⟨_,rfl⟩ .nil)))
    (case qz6=>first | decide | simp)
    (case qk7=>k_is)
    (case qv7=>exact (.cons ⟨_,rfl⟩ (.cons ⟨_,rfl⟩ .nil)))
    (case qz7=>first | decide | simp)
    (case en=>k_is)
    (case ln=>k_is)
    (case vn=>exact .cons ⟨_,rfl⟩ (.cons ⟨_,rfl⟩ (.cons ⟨_,rfl⟩ (.cons ⟨_,rfl⟩ (.cons ⟨_,rfl⟩ .nil)))))
    (case eb=>k_is)
    (case lb=>k_is)
    (case vb=>exact .cons ⟨_,rfl⟩ (.cons ⟨_,rfl⟩ .nil))
    (case em=>k_is)
    (case ecd=>rfl)
    (case hcin=>kernel_rfl)
    (case aD=>k_is)
    (case lD=>k_is)
    (case lnD=>k_is)
    (case eoD=>first | (simp;done) | rfl)
    (case inD=>k_is)
    (case spD=>k_is)
    (case rdD=>k_is)
    (case fcD=>k_is)
    (case ac0=>k_is)
    (case lc0=>k_is)
    (case ty0=>k_is)
    (case ac1=>k_is)
    (case lc1=>k_is)
    (case ty1=>k_is)
    (case ac2=>k_is)
    (case lc2=>k_is)
    (case ty2=>k_is)
    (case ac3=>k_is)
    (case lc3=>k_is)
    (case ln3=>k_is)
    (case eo3=>first | (simp;done) | rfl)
    (case sa3=>k_is)
    (case ga3=>k_is)
    (case gx3=>k_is)
    (case kp3=>k_is)
    (case cc3=>k_is)
    (case ob3=>k_is)
    (case in3=>k_is)
    (case lf3=>k_is)
    (case cf3=>k_is)
    (case kq3=>k_is)
    (case qf=>k_is)
    (case ne0=>decide)
    (case nd_0=>decide)
    (case ne1=>decide)
    (case nd_1=>decide)
    (case ne2=>decide)
    (case nd_2=>decide)