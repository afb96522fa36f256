import PyProof.Rows.All
import Wide.All
import OpenK.AllK
import Wide.FinOn
import Lean
import PyProof.EqAt
import PyProof.EqKinds
import PyProof.TupleCall
import PySem.Challenge.RW_calmword_k11_the_first_texts
set_option Elab.async false
set_option linter.all false
set_option maxRecDepth 100000
set_option maxHeartbeats 4000000
namespace L2
open PySem PySem.Spec PyProof.Rows
abbrev Key:=Sum Int Str
def keyIs:Key->Value->Bool
 | .inl k,v=>Value.isInt k v
 | .inr x,v=>Value.isStrOf x v
def keyH (w:World):Key->Int
 | .inl k=>hashInt k
 | .inr x=>hashStr w x
theorem keyIs_shape:∀ {k:Key} {v:Value},keyIs k v=true->(∃ i t,k=Sum.inl i/\v=Value.int i t)∨(∃ x t,k=Sum.inr x/\v=Value.str x t)
 | .inl i,v,h=>by
  obtain ⟨t,e⟩:=Value.isInt_shape (k:=i) (v:=v) h
  exact .inl ⟨i,t,rfl,e⟩
 | .inr x,v,h=>by
  obtain ⟨t,e⟩:=Value.isStrOf_shape (x:=x) (v:=v) h
  exact .inr ⟨x,t,rfl,e⟩
theorem keyIs_int (i:Int) (t:Tok):keyIs (.inl i) (.int i t)=true:=by simp [keyIs,Value.isInt]
theorem keyIs_str (x:Str) (t:Tok):keyIs (.inr x) (.str x t)=true:=by simp [keyIs,Value.isStrOf]
theorem key_ll (a b:Int):decide ((Sum.inl a:Key)=Sum.inl b)=(a == b):=by
 by_cases e:a=b
 ·subst e;simp
 ·have h:¬ (Sum.inl a:Key)=Sum.inl b:=fun q=>e (Sum.inl.inj q)
  rw [decide_eq_false h]
  exact (beq_eq_false_iff_ne.mpr e).symm
theorem key_rr (a b:Str):decide ((Sum.inr a:Key)=Sum.inr b)=decide (a=b):=by
 by_cases e:a=b
 ·subst e;simp
 ·have h:¬ (Sum.inr a:Key)=Sum.inr b:=fun q=>e (Sum.inr.inj q)
  rw [decide_eq_false h,decide_eq_false e]
theorem key_lr (a:Int) (b:Str):decide ((Sum.inl a:Key)=Sum.inr b)=false:=decide_eq_false (fun q=>nomatch q)
theorem key_rl (a:Str) (b:Int):decide ((Sum.inr a:Key)=Sum.inl b)=false:=decide_eq_false (fun q=>nomatch q)
def mixKind (prog:Program) (w:World):PySem.KeyKind prog w Key where
 is:=keyIs
 hash:=keyH w
 inj:=fun v a b ha hb=>by
  rcases keyIs_shape ha with ⟨i,t,rfl,rfl⟩ | ⟨x,t,rfl,rfl⟩
  ·rcases keyIs_shape hb with ⟨j,u,rfl,e⟩ | ⟨y,u,rfl,e⟩
   ·injection e with e1 _;rw [e1]
   ·exact nomatch e
  ·rcases keyIs_shape hb with ⟨j,u,rfl,e⟩ | ⟨y,u,rfl,e⟩
   ·exact nomatch e
   ·injection e with e1 _;rw [e1]
 byValue:=fun k v h=>by
  rcases keyIs_shape h with ⟨i,t,rfl,rfl⟩ | ⟨x,t,rfl,rfl⟩ <;> rfl
 pyHash:=fun hv h=>by
  rcases keyIs_shape hv with ⟨i,t,rfl,rfl⟩ | ⟨x,t,rfl,rfl⟩
  ·exact wpAny_pyHash_int h
  ·exact wpAny_pyHash_str h
 eqBool:=fun hu hv h=>by
  rcases keyIs_shape hu with ⟨i,t,rfl,rfl⟩ | ⟨x,t,rfl,rfl⟩
  ·rcases keyIs_shape hv with ⟨j,u,rfl,rfl⟩ | ⟨y,u,rfl,rfl⟩
   ·rw [key_ll] at h;exact wpAny_eqBool_int h
   ·rw [key_lr] at h;exact SeqAt.EqAt.int_str i t y u _ _ _ _ h
  ·rcases keyIs_shape hv with ⟨j,u,rfl,rfl⟩ | ⟨y,u,rfl,rfl⟩
   ·rw [key_rl] at h;exact SeqAt.EqAt.str_int x t j u _ _ _ _ h
   ·rw [key_rr] at h;exact wpAny_eqBool_str h
 «strs»:=fun k x t v h=>by
  rcases keyIs_shape h with ⟨i,u,rfl,e⟩ | ⟨y,u,rfl,e⟩
  ·exact nomatch e
  ·injection e with e1 _
   subst e1
   cases v <;> rfl
theorem mixKind_int (prog:Program) (w:World) (i:Int) (t:Tok):(mixKind prog w).is (.inl i) (.int i t)=true:=keyIs_int i t
theorem mixKind_str (prog:Program) (w:World) (x:Str) (t:Tok):(mixKind prog w).is (.inr x) (.str x t)=true:=keyIs_str x t
end L2
namespace L2
open PySem PySem.Spec PyProof.Rows
inductive V where
 | non | bl (b:Bool) | int (i:Int) | str (x:Str) | byt (b:Array UInt8) | flt (b:UInt64) | ref (a:Addr) | ty (n:String)
 deriving DecidableEq
def RelV:V->Value->Prop
 | .non,u=>u=Value.none
 | .bl b,u=>u=Value.bool b
 | .int i,u=>∃ t,u=Value.int i t
 | .str x,u=>∃ t,u=Value.str x t
 | .byt b,u=>∃ t,u=Value.bytes b t
 | .flt b,u=>∃ t,u=Value.float b t
 | .ref a,u=>u=Value.ref a
 | .ty n,u=>u=Value.type n
abbrev Vals:List V->List Value->Prop:=Paired RelV
theorem Vals.length {xs:List V} {us:List Value} (r:Vals xs us):xs.length=us.length:=Paired.length r
theorem Vals.get:∀ {xs:List V} {us:List Value} {i:Nat} {x:V},Vals xs us->xs[i]?=some x->∃ u,us[i]?=some u/\RelV x u
 | _,_,_,_,.nil,e=>by simp at e
 | _,_,0,_,.cons r _,e=>by simp at e;subst e;exact ⟨_,rfl,r⟩
 | _,_,i+1,x,.cons _ t,e=>by
  obtain ⟨u,h1,h2⟩:=Vals.get (i:=i) (x:=x) t (by simpa using e)
  exact ⟨u,by simpa using h1,h2⟩
theorem Vals.set {x:V} {u:Value} (r:RelV x u):∀ {xs:List V} {us:List Value} (i:Nat),Vals xs us->Vals (xs.set i x) (us.set i u)
 | _,_,_,.nil=>.nil
 | _,_,0,.cons _ t=>.cons r t
 | _,_,i+1,.cons q t=>.cons q (Vals.set r i t)
theorem Vals.append:∀ {xs ys:List V} {us ws:List Value},Vals xs us->Vals ys ws->Vals (xs++ys) (us++ws)
 | _,_,_,_,.nil,s=>s
 | _,_,_,_,.cons r t,s=>.cons r (Vals.append t s)
theorem Vals.take:∀ {xs:List V} {us:List Value} (n:Nat),Vals xs us->Vals (xs.take n) (us.take n)
 | _,_,0,_=>.nil
 | _,_,_+1,.nil=>.nil
 | _,_,n+1,.cons r t=>.cons r (Vals.take n t)
theorem Vals.drop:∀ {xs:List V} {us:List Value} (n:Nat),Vals xs us->Vals (xs.drop n) (us.drop n)
 | _,_,0,r=>r
 | _,_,_+1,.nil=>.nil
 | _,_,n+1,.cons _ t=>Vals.drop n t
def RelO:Option V->Option Value->Prop
 | some v,some u=>RelV v u
 | none,none=>True
 | _,_=>False
def KV {κ:Type}:List (κ × V)->List (κ × Value)->Prop:=Paired fun (p:κ × V) (q:κ × Value)=>p.1=q.1/\RelV p.2 q.2
def kV:Key->V
 | .inl i=>.int i
 | .inr x=>.str x
inductive HO where
  | lst (xs:List V)
  | tup (xs:List V)
  | dK (kvs:List (Key × V)) | dT (kvs:List (List Key × V))
  | set (S:Int->Bool) (n:Nat)
  | ins (C dx:Addr) (fs:List (Str × V))
  | own (x:Addr)
  | xd (fs:List (Str × V))
  | met (f x:Addr)
  | rng (lo hi:Int)
  | frz (o:Obj) (u:HO)
  | tbl (ps:Array Value)
  | ext (φ:Heap->Prop)
abbrev Hp:=Addr->Option HO
def upd (H:Hp) (a:Addr) (o:HO):Hp:=fun b=>if b=a then some o else H b
theorem jb {H:Hp} {a:Addr} {o:HO}:upd H a o a=some o:=by unfold upd;rw [if_pos rfl]
theorem jc {H:Hp} {a b:Addr} {o:HO} (h:b≠a):upd H a o b=H b:=by unfold upd;rw [if_neg h]
theorem upd_upd {H:Hp} {a:Addr} {o u:HO}:upd (upd H a o) a u=upd H a u:=by
 funext b;unfold upd;split <;> rfl
theorem ne_of {H:Hp} {a b:Addr} {o u:HO} (h:H a=some o) (h':H b=some u) (d:o≠u):a≠b:=by
 intro e;subst e;rw [h] at h';exact d (Option.some.inj h')
theorem je {H:Hp} {a b:Addr} {o:HO} (h:H a=some o) (h':H b=none):a≠b:=by
 intro e;subst e;rw [h] at h';cases h'
section
variable (P:Program) (w:World)
def ObjOk (H:Hp) (h:Heap) (a:Addr):HO->Prop
 | .lst xs=>xs.length<=sizeLine/\∃ (its:List Value) (n:Nat),Vals xs its/\h.get? a=some { cls:=.type "list",data:=.seq its.toArray n }
 | .tup xs=>xs.length<=sizeLine/\∃ its:List Value,Vals xs its/\IsTup h a its.toArray
 | .dK kvs=>kvs.length<=sizeLine/\(a == sysModules)=false/\∃ vs,KV kvs vs/\h.DictOf (mixKind P w) a vs
 | .dT kvs=>kvs.length<=sizeLine/\(a == sysModules)=false/\∃ xs:List (List Key × Addr × Value),
   Paired (fun (p:List Key × V) (q:List Key × Addr × Value)=>p.1=q.1/\H q.2.1=some (.tup (p.1.map kV))/\RelV p.2 q.2.2) kvs xs /\
   ∃ o es ep,h.get? a=some o/\o.ExactDict/\o.data=.dict es ep/\es.toList=xs.map (entryOfKey (tupleKind (mixKind P w)))/\(xs.map (·.1)).Nodup
 | .set S n=>h.SetOf (intKind P w) a S n
 | .ins C dx fs=>H dx=some (.own a)/\fs.length<=1000/\dx≠a/\h.get? a=some (PySem.W.instObj C dx) /\
   ∃ mA,h.Ns1 dx mA/\(∀ f,RelO (fs.lookup f) (mA f))/\PySem.Within mA (fs.map (·.1))
 | .own _=>∃ o,h.get? a=some o
 | .xd fs=>∃ mA,h.Ns1 a mA/\∀ f,RelO (fs.lookup f) (mA f)
 | .rng lo hi=>∃ t u v,h.get? a=some { cls:=.type "range",data:=.fields #[.int lo t,.int hi u,.int 1 v] }
 | .frz o u=>h.get? a=some o/\ObjOk H h a u
 | .tbl ps=>h.get? a=some { cls:=.none,data:=.fields ps }
 | .met f x=>h.get? a=some (PySem.W.methodObj (.ref f) (.ref x))
 | .ext φ=>φ h/\(∃ o,h.get? a=some o)/\∀ h1 h2:Heap,φ h1->(∀ o,h1.get? a=some o->h2.get? a=some o)->φ h2
def HOk (H:Hp) (h:Heap):Prop:=∀ a o,H a=some o->ObjOk P w H h a o
end
section
variable {P:Program} {w:World} {H H':Hp} {h h':Heap} {a:Addr} {o:HO}
theorem ObjOk.lt (x:ObjOk P w H h a o):a < h.objs.size:=by
 cases o with
 | lst xs=>obtain ⟨_,_,_,_,e⟩:=x;exact Heap.lt_size e
 | tup xs=>obtain ⟨_,_,_,p⟩:=x;exact p.lt
 | dK kvs=>obtain ⟨_,_,_,_,o,_,_,e,_⟩:=x;exact Heap.lt_size e
 | dT kvs=>obtain ⟨_,_,_,_,o,_,_,e,_⟩:=x;exact Heap.lt_size e
 | set S n=>obtain ⟨o,_,_,_,e,_⟩:=x;exact Heap.lt_size e
 | ins C dx fs=>obtain ⟨_,_,_,e,_⟩:=x;exact Heap.lt_size e
 | own y=>obtain ⟨_,e⟩:=x;exact Heap.lt_size e
 | xd fs=>obtain ⟨_,⟨_,_,_,e,_⟩,_⟩:=x;exact Heap.lt_size e
 | rng lo hi=>obtain ⟨_,_,_,e⟩:=x;exact Heap.lt_size e
 | frz ob u=>obtain ⟨e,_⟩:=x;exact Heap.lt_size e
 | tbl ps=>exact Heap.lt_size (show h.get? a=some _ from x)
 | met f y=>exact Heap.lt_size (show h.get? a=some _ from x)
 | ext φ=>obtain ⟨_,⟨_,e⟩,_⟩:=x;exact Heap.lt_size e
theorem Paired.mapP {α β:Type} {F G:α->β->Prop}:∀ {l₁:List α} {l₂:List β},Paired F l₁ l₂->(∀ a b,F a b->G a b)->Paired G l₁ l₂
 | _,_,.nil,_=>.nil
 | _,_,.cons r t,f=>.cons (f _ _ r) (Paired.mapP t f)
theorem ObjOk.stay (x:ObjOk P w H h a o) (k:∀ b u,(b=a∨H b=some (.own a))->h.get? b=some u->h'.get? b=some u)
  (ho:∀ b,H b=some (.own a)->H' b=some (.own a)) (ht:∀ b xs,H b=some (.tup xs)->H' b=some (.tup xs)):ObjOk P w H' h' a o:=by
 induction o with
 | lst xs=>obtain ⟨z,its,n,r,e⟩:=x;exact ⟨z,its,n,r,k _ _ (.inl rfl) e⟩
 | tup xs=>obtain ⟨z,its,r,ob,e,c⟩:=x;exact ⟨z,its,r,ob,k _ _ (.inl rfl) e,c⟩
 | dK kvs=>obtain ⟨z,y,vs,r,ob,es,ep,e,c⟩:=x;exact ⟨z,y,vs,r,ob,es,ep,k _ _ (.inl rfl) e,c⟩
 | dT kvs =>
  obtain ⟨z,y,xs,r,ob,es,ep,e,c⟩:=x
  exact ⟨z,y,xs,Paired.mapP r fun p q z=>⟨z.1,ht _ _ z.2.1,z.2.2⟩,ob,es,ep,k _ _ (.inl rfl) e,c⟩
 | set S n=>obtain ⟨ob,es,ep,t,e,c⟩:=x;exact ⟨ob,es,ep,t,k _ _ (.inl rfl) e,c⟩
 | ins C dx fs =>
  obtain ⟨d,z,ne,e,mA,⟨od,es,ep,e2,c⟩,r⟩:=x
  exact ⟨ho _ d,z,ne,k _ _ (.inl rfl) e,mA,⟨od,es,ep,k _ _ (.inr d) e2,c⟩,r⟩
 | own y=>obtain ⟨ob,e⟩:=x;exact ⟨ob,k _ _ (.inl rfl) e⟩
 | xd fs=>obtain ⟨mA,⟨od,es,ep,e,c⟩,r⟩:=x;exact ⟨mA,⟨od,es,ep,k _ _ (.inl rfl) e,c⟩,r⟩
 | rng lo hi=>obtain ⟨t,u,v,e⟩:=x;exact ⟨t,u,v,k _ _ (.inl rfl) e⟩
 | frz ob u ih=>obtain ⟨e,q⟩:=x;exact ⟨k _ _ (.inl rfl) e,ih q⟩
 | tbl ps =>
  have e:h.get? a=some { cls:=.none,data:=.fields ps }:=x
  show h'.get? a=some { cls:=.none,data:=.fields ps }
  exact k a _ (.inl rfl) e
 | met f y =>
  have e:h.get? a=some (PySem.W.methodObj (.ref f) (.ref y)):=x
  show h'.get? a=some (PySem.W.methodObj (.ref f) (.ref y))
  exact k a _ (.inl rfl) e
 | ext φ=>obtain ⟨p,⟨o,e⟩,st⟩:=x;exact ⟨st _ _ p fun o q=>k _ _ (.inl rfl) q,⟨o,k _ _ (.inl rfl) e⟩,st⟩
theorem HOk.lt (x:HOk P w H h) (e:H a=some o):a < h.objs.size:=(x a o e).lt
theorem HOk.fresh (x:HOk P w H h) (e:h.objs.size<=a):H a=none:=by
 cases q:H a with
 | none=>rfl
 | some u=>exact absurd (Nat.lt_of_lt_of_le (x.lt q) e) (Nat.lt_irrefl _)
theorem HOk.kept (x:HOk P w H h) (k:∀ b u,h.get? b=some u->h'.get? b=some u):HOk P w H h':=fun a o e =>
 (x a o e).stay (fun b u _ q=>k b u q) (fun _ q=>q) fun _ _ q=>q
theorem HOk.laid (x:HOk P w H h) (k:∀ b u,h.get? b=some u->h'.get? b=some u) (hp:h.objs.size<=a) (new:ObjOk P w (upd H a o) h' a o):HOk P w (upd H a o) h':=fun b u e=>by
 have hn:=x.fresh hp
 by_cases hb:b=a
 ·subst hb;rw [jb] at e;cases e;exact new
 ·rw [jc hb] at e
  exact (x b u e).stay (fun c v _ q=>k c v q) (fun c q=>by rw [jc (je q hn)];exact q) fun c xs q=>by rw [jc (je q hn)];exact q
end
def Rd (H:Hp) (a:Addr) (u:HO):Prop:=H a=some u∨∃ o,H a=some (.frz o u)
theorem Rd.ok {P:Program} {w:World} {H:Hp} {h:Heap} {a:Addr} {u:HO} (r:Rd H a u) (x:HOk P w H h):ObjOk P w H h a u:=by
 rcases r with r | ⟨o,r⟩
 ·exact x a u r
 ·obtain ⟨_,q⟩:=x a _ r
  exact q
def Mut:Option HO->Prop
 | some (.lst _)=>True
 | some (.dK _)=>True
 | some (.dT _)=>True
 | some (.set _ _)=>True
 | some (.ins _ _ _)=>True
 | some (.ext _)=>True
 | _=>False
section
variable {P:Program} {w:World} {H:Hp} {h h':Heap} {x e:Addr} {o':HO}
theorem HOk.write (ok:HOk P w H h) (mu:Mut (H x)) (he:e=x∨H e=some (.own x)) (k:∀ b u,b≠e->h.get? b=some u->h'.get? b=some u) (heo:∃ u,h'.get? e=some u)
  (new:ObjOk P w (upd H x o') h' x o'):HOk P w (upd H x o') h':=fun b u q=>by
 have nown:∀ c y,H c=some (.own y)->c≠x:=fun c y r z=>by subst z;rw [r] at mu;exact mu
 have ntup:∀ c xs,H c=some (.tup xs)->c≠x:=fun c xs r z=>by subst z;rw [r] at mu;exact mu
 by_cases hb:b=x
 ·subst hb;rw [jb] at q;cases q;exact new
 ·rw [jc hb] at q
  by_cases hbe:b=e
  ·have q':H b=some (.own x):=by
    rcases he with z | z
    ·exact absurd (hbe.trans z) hb
    ·rw [hbe];exact z
   rw [q] at q';cases q'
   obtain ⟨v,hv⟩:=heo
   exact ⟨v,by rw [hbe];exact hv⟩
  ·refine (ok b u q).stay (fun c v hc r=>k c v ?_ r) (fun c r=>by rw [jc (nown c b r)];exact r) fun c xs r=>by rw [jc (ntup c xs r)];exact r
   rcases hc with rfl | hc
   ·exact hbe
   ·rintro rfl
    rcases he with z | z
    ·exact nown c b hc z
    ·rw [hc] at z;cases z;exact hb rfl
end
structure Un (fs ex:List Addr) (H H':Hp) (h h':Heap):Prop where
 keep:∀ b o,h.get? b=some o->H b=none->b ∉ fs->b ∉ ex->h'.get? b=some o
 slot:∀ b o,h.get? b=some o->H b=none->b ∈ fs->b ∉ ex->∃ sl,h'.get? b=some { o with slots:=sl }
 free:∀ b o,h.get? b=some o->H b=none->b ∉ ex->H' b=none
 there:∀ b o,h.get? b=some o->b ∉ ex->∃ o',h'.get? b=some o'
 tups:∀ b xs,H b=some (.tup xs)->H' b=some (.tup xs)
 frzs:∀ b o u,H b=some (.frz o u)->H' b=some (.frz o u)
 tbls:∀ b ps,H b=some (.tbl ps)->∃ more,H' b=some (.tbl (ps++more))
section
variable {fs fs' ex ex':List Addr} {H H1 H2:Hp} {h h1 h2 h':Heap} {a x e:Addr} {o:HO}
theorem Un.any (u:Un fs ex H H1 h h1) {b:Addr} {ob:Obj} (q:h.get? b=some ob) (n:H b=none) (hx:b ∉ ex):∃ sl,h1.get? b=some { ob with slots:=sl }:=by
 by_cases hb:b ∈ fs
 ·exact u.slot b ob q n hb hx
 ·exact ⟨ob.slots,u.keep b ob q n hb hx⟩
theorem Un.kept (k:∀ b u,h.get? b=some u->h'.get? b=some u):Un fs ex H H h h' :=
 ⟨fun b ob q _ _ _=>k b ob q,fun b ob q _ _ _=>⟨ob.slots,k b ob q⟩,fun _ _ _ n _=>n,fun b ob q _=>⟨ob,k b ob q⟩,fun _ _ q=>q,fun _ _ _ q=>q,fun _ ps q=>⟨#[],by rw [q];simp⟩⟩
theorem Un.refl:Un fs ex H H h h:=Un.kept fun _ _ q=>q
theorem Un.laid (k:∀ b u,h.get? b=some u->h'.get? b=some u) (hp:h.objs.size<=a) (hn:H a=none):Un fs ex H (upd H a o) h h' where
 keep:=fun b u q _ _ _=>k b u q
 slot:=fun b u q _ _ _=>⟨u.slots,k b u q⟩
 free:=fun b u q n _=>by rw [jc (Nat.ne_of_lt (Nat.lt_of_lt_of_le (Heap.lt_size q) hp))];exact n
 there:=fun b u q _=>⟨u,k b u q⟩
 tups:=fun b xs q=>by rw [jc (je q hn)];exact q
 frzs:=fun b u xs q=>by rw [jc (je q hn)];exact q
 tbls:=fun b ps q=>⟨#[],by rw [jc (je q hn),q];simp⟩
theorem Un.write (mu:Mut (H x)) (he:e=x∨H e=some (.own x)) (k:∀ b u,b≠e->h.get? b=some u->h'.get? b=some u) (heo:∃ u,h'.get? e=some u):Un fs ex H (upd H x o) h h':=by
 have hx:∀ b,H b=none->b≠x:=fun b n z=>by subst z;rw [n] at mu;exact mu
 have hb:∀ b,H b=none->b≠e:=fun b n z=>by
  subst z
  rcases he with r | r
  ·exact hx b n r
  ·rw [n] at r;cases r
 have hm:∀ b u,H b=some u->¬ Mut (some u)->b≠x:=fun b u q nm z=>by subst z;rw [q] at mu;exact nm mu
 refine ⟨fun b u q n _ _=>k b u (hb b n) q,fun b u q n _ _=>⟨u.slots,k b u (hb b n) q⟩,fun b u q n _=>by rw [jc (hx b n)];exact n,fun b u q _=>?_,
  fun b xs q=>by rw [jc (hm b _ q fun z=>z)];exact q,fun b u xs q=>by rw [jc (hm b _ q fun z=>z)];exact q,fun b ps q=>⟨#[],by rw [jc (hm b _ q fun z=>z),q];simp⟩⟩
 by_cases hbe:b=e
 ·subst hbe;exact heo
 ·exact ⟨u,k b u hbe q⟩
end
def trk (h:Heap) (H:Hp):List Addr:=(List.range h.objs.size).filter fun a=>(H a).isSome
def hidT (h:Heap) (H:Hp):Heap:=PySem.W.hideAll h (trk h H)
theorem hidT_size (h:Heap) (H:Hp):(hidT h H).objs.size=h.objs.size:=PySem.W.hideAll_size _ _
theorem hidT_get {h:Heap} {H:Hp} {b:Addr} {o:Obj} (e:h.get? b=some o) (n:H b=none):(hidT h H).get? b=some o :=
 PySem.W.hideAll_get _ e fun hm=>by
  have q:(H b).isSome=true:=(List.mem_filter.mp hm).2
  rw [n] at q;simp at q
theorem of_hidT {h:Heap} {H:Hp} {b:Addr} {o:Obj} (e:(hidT h H).get? b=some o):h.get? b=some o/\H b=none:=by
 have e':h.get? b=some o:=PySem.W.of_hideAll (trk h H) e
 refine ⟨e',?_⟩
 cases q:H b with
 | none=>rfl
 | some x =>
  have hm:b ∈ trk h H:=List.mem_filter.mpr ⟨List.mem_range.mpr (Heap.lt_size e'),by simp [q]⟩
  have z:(hidT h H).get? b=none:=PySem.W.hideAll_none (trk h H) hm
  rw [z] at e;cases e
end L2
namespace L2
open PySem PySem.Spec PyProof.Rows
structure Mod (K:PySem.W.Frag) (mg:Str->Option Value) (base:Heap):Prop where
 kin:K.In base
 glob:base.Ns mainGlobals mg
 blt:∃ mb,base.Ns builtinsNs mb/\∀ x:Str,x≠"__name__"->mb x=bootBuiltins x
 nolimit:base.NoLimit
structure Cx where
 prog:Program
 w:World
 K:PySem.W.Frag
 mg:Str->Option Value
 base:Heap
 A:Around
 N:List Str
 s₀:Shared
 H₀:Hp
 env:Env
 outer:List Env
 stack:List Env
 ex:List Addr
 fn:Str->Bool
 calm:Bool
 pn:List (Addr × Obj)
 xe:Value->Shared->Prop
def frs (l:List Env):List Addr:=l.filterMap (·.frame)
abbrev Cx.fs (X:Cx):List Addr:=frs X.outer
def Vis (sc:Scope) (x:Str):Prop:=sc.names.lookup x=some .local∨sc.names.lookup x=some .cell∨sc.names.lookup x=some .free
def Loc (sc:Scope) (x:Str):Prop:=sc.names.lookup x=some .local∨sc.names.lookup x=some .cell
def Look (env:Env) (h:Heap) (m:Str->Option Value) (x:Str) (u:Value):Prop :=
 (env.kindOf x=some .local/\m x=some u)∨((env.kindOf x=some .cell∨env.kindOf x=some .free)/\∃ c,env.cells.lookup x=some c/\h.IsCell c (some u))
structure Cx.Ok (X:Cx):Prop where
 mod:Mod X.K X.mg X.base
 kind:X.env.scope.kind=.function
 glob:X.env.globals=mainGlobals
 blt:X.env.builtins=builtinsNs
 above:X.s₀.heap.objs.size<=X.env.locals
 inj:∀ x y c,X.env.cells.lookup x=some c->X.env.cells.lookup y=some c->x=y
 has:∀ x,(X.env.kindOf x=some .cell∨X.env.kindOf x=some .free)->∃ c,X.env.cells.lookup x=some c
 cab:∀ x c,X.fn x=true->X.env.cells.lookup x=some c->X.s₀.heap.objs.size<=c
 hd:X.calm=true->X.A.handled=none
 frames:X.A.frames=some X.stack
 stk:X.stack=X.outer∨(X.stack=X.env::X.outer/\X.env.frame=some X.env.locals)
 exf:∀ b ∈ X.ex,b≠X.env.locals/\∀ x c,X.env.cells.lookup x=some c->c≠b
 bs:∀ b o,X.base.get? b=some o->X.s₀.heap.get? b=some o/\X.H₀ b=none
 bsz:X.base.objs.size<=X.s₀.heap.objs.size
 noex:∀ b o,X.base.get? b=some o->b ∉ X.ex
 exfs:∀ b ∈ X.ex,b ∉ X.fs
 funs:X.s₀.heap.FunFrames X.base X.outer
 frf:∀ b ∈ X.fs,X.H₀ b=none
structure Inv (X:Cx) (pins:List (Addr × Obj)) (σ:List (Option V)) (H:Hp) (s:Shared):Prop where
 ok:X.Ok
 os:s.os=X.s₀.os
 bare:AllBare s.gens
 base:Un X.fs X.ex X.H₀ H X.s₀.heap s.heap
 loc:∃ m,s.heap.Ns X.env.locals m/\∀ (i:Nat) (x:Str) (v:V),X.N[i]?=some x->σ[i]?=some (some v)->Vis X.env.scope x->∃ u,RelV v u/\Look X.env s.heap m x u
 cell:∀ x c,X.env.cells.lookup x=some c->∃ v,s.heap.IsCell c v
 free:H X.env.locals=none
 freeC:∀ x c,X.env.cells.lookup x=some c->H c=none
 pin:∀ p ∈ X.pn++pins,s.heap.get? p.1=some p.2/\H p.1=none/\p.1≠X.env.locals/\p.1 ∉ X.fs/\∀ v,p.2.data≠.cell v
 hok:HOk X.prog X.w H s.heap
 len:σ.length=X.N.length
section
variable {X:Cx} {pins:List (Addr × Obj)} {σ:List (Option V)} {H H':Hp} {s:Shared} {h':Heap}
theorem Cx.Ok.nofr (ok:X.Ok) {b:Addr} {o:Obj} (e:X.base.get? b=some o):b ∉ X.fs:=fun hb=>by
 have:=(ok.funs.mem hb).1
 rw [e] at this;cases this
theorem Inv.bs (I:Inv X pins σ H s):∀ b o,X.base.get? b=some o->s.heap.get? b=some o/\H b=none:=fun b o e =>
 ⟨I.base.keep b o (I.ok.bs b o e).1 (I.ok.bs b o e).2 (I.ok.nofr e) (I.ok.noex b o e),I.base.free b o (I.ok.bs b o e).1 (I.ok.bs b o e).2 (I.ok.noex b o e)⟩
theorem Inv.bk (I:Inv X pins σ H s):∀ b o,X.base.get? b=some o->s.heap.get? b=some o:=fun b o e=>(I.bs b o e).1
theorem Inv.mod (I:Inv X pins σ H s):Mod X.K X.mg X.base:=I.ok.mod
theorem Inv.kIn (I:Inv X pins σ H s):X.K.In s.heap:=I.ok.mod.kin.keeps I.bk
theorem Inv.lt (I:Inv X pins σ H s):X.env.locals < s.heap.objs.size:=let ⟨_,hn,_⟩:=I.loc;hn.lt
theorem Inv.sz (I:Inv X pins σ H s):X.s₀.heap.objs.size<=s.heap.objs.size:=Nat.le_trans I.ok.above (Nat.le_of_lt I.lt)
theorem Inv.nofs (I:Inv X pins σ H s) {a:Addr} (h:s.heap.objs.size<=a):a ∉ X.fs:=fun hb=>by
 obtain ⟨_,o,ho,_⟩:=I.ok.funs.mem hb
 exact absurd (Nat.lt_of_lt_of_le (Heap.lt_size ho) (Nat.le_trans I.sz h)) (Nat.lt_irrefl _)
theorem Inv.cne (I:Inv X pins σ H s):∀ x c,X.env.cells.lookup x=some c->c≠X.env.locals:=fun x c e z=>by
 obtain ⟨v,o,ho,hd⟩:=I.cell x c e
 obtain ⟨m,⟨o',es,ep,ho',hd',_⟩,_⟩:=I.loc
 rw [z,ho'] at ho;cases ho;rw [hd'] at hd;cases hd
theorem Inv.funs (I:Inv X pins σ H s):s.heap.FunFrames X.base X.outer:=by
 have all:∀ (l:List Env),(∀ b ∈ frs l,b ∈ X.fs)->X.s₀.heap.FunFrames X.base l->s.heap.FunFrames X.base l:=by
  intro l
  induction l with
  | nil=>intro _ _;trivial
  | cons env r ih =>
   intro hs hl
   obtain ⟨hk,⟨L,o,hf,hn,ho,hd⟩,hr⟩:=hl
   have hL:L ∈ X.fs:=hs L (by unfold frs;rw [List.filterMap_cons,hf];exact List.mem_cons_self)
   obtain ⟨sl,e⟩:=I.base.slot L o ho (I.ok.frf L hL) hL fun z=>I.ok.exfs L z hL
   exact ⟨hk,⟨L,_,hf,hn,e,hd⟩,ih (fun b hb=>hs b (by unfold frs;rw [List.filterMap_cons,hf];exact List.mem_cons_of_mem _ hb)) hr⟩
 exact all X.outer (fun _ hb=>hb) I.ok.funs
theorem Inv.stack (I:Inv X pins σ H s):s.heap.FunFrames X.base X.stack:=by
 rcases I.ok.stk with e | ⟨e,hf⟩
 ·rw [e];exact I.funs
 ·rw [e]
  obtain ⟨m,hn,_⟩:=I.loc
  refine .cons (by rw [I.ok.kind];decide) hf hn ?_ I.funs
  exact Heap.get?_none_of_le (Nat.le_trans I.ok.bsz I.ok.above)
theorem Inv.stkSub (I:Inv X pins σ H s):∀ b ∈ frs X.stack,b ∈ X.env.locals::X.fs:=fun b hb=>by
 rcases I.ok.stk with e | ⟨e,hf⟩
 ·rw [e] at hb;exact List.mem_cons_of_mem _ hb
 ·rw [e] at hb
  unfold frs at hb
  rw [List.filterMap_cons,hf] at hb
  exact hb
theorem Inv.stkFree (I:Inv X pins σ H s):∀ b ∈ frs X.stack,H b=none:=fun b hb=>by
 rcases List.mem_cons.mp (I.stkSub b hb) with e | hb
 ·rw [e];exact I.free
 ·obtain ⟨_,o,ho,_⟩:=I.ok.funs.mem hb
  exact I.base.free b o ho (I.ok.frf b hb) fun z=>I.ok.exfs b z hb
theorem Inv.step {g':Array GenState} {t':Nat} {d':Drawn} {ch:List Addr} (I:Inv X pins σ H s)
  (hch:∀ b ∈ ch,(b ∈ X.ex∨X.s₀.heap.objs.size<=b)/\b≠X.env.locals/\(∀ x c,X.env.cells.lookup x=some c->c≠b)/\∀ p ∈ X.pn++pins,p.1≠b)
  (keep:∀ b o,b≠X.env.locals->b ∉ X.fs->b ∉ ch->s.heap.get? b=some o->H b=none->h'.get? b=some o)
  (slot:∀ b o,b≠X.env.locals->b ∈ X.fs->b ∉ ch->s.heap.get? b=some o->H b=none->∃ sl,h'.get? b=some { o with slots:=sl }) (free:∀ b o,b ∉ ch->s.heap.get? b=some o->H b=none->H' b=none)
  (there:∀ b o,b ∉ ch->s.heap.get? b=some o->∃ o',h'.get? b=some o')
  (tups:∀ b xs,H b=some (.tup xs)->H' b=some (.tup xs)) (frzs:∀ b o u,H b=some (.frz o u)->H' b=some (.frz o u)) (tbls:∀ b ps,H b=some (.tbl ps)->∃ more,H' b=some (.tbl (ps++more)))
  (ns:∀ m,s.heap.Ns X.env.locals m->h'.Ns X.env.locals m) (hok:HOk X.prog X.w H' h') (hg:AllBare g') :
  Inv X pins σ H' { s with heap:=h',gens:=g',drawn:=d',toks:=t' }:=by
 have neL:∀ b o,X.s₀.heap.get? b=some o->b≠X.env.locals:=fun b o e=>Nat.ne_of_lt (Nat.lt_of_lt_of_le (Heap.lt_size e) I.ok.above)
 have neC:∀ b o,X.s₀.heap.get? b=some o->b ∉ X.ex->b ∉ ch:=fun b o e hx hb=>by
  rcases (hch b hb).1 with z | z
  ·exact hx z
  ·exact absurd (Nat.lt_of_lt_of_le (Heap.lt_size e) z) (Nat.lt_irrefl _)
 have cellK:∀ x c,X.env.cells.lookup x=some c->∀ v,s.heap.IsCell c v->h'.IsCell c v:=fun x c e v ⟨o,ho,hd⟩=>by
  have nch:c ∉ ch:=fun z=>(hch c z).2.2.1 x c e rfl
  by_cases hc:c ∈ X.fs
  ·obtain ⟨sl,q⟩:=slot c o (I.cne x c e) hc nch ho (I.freeC x c e)
   exact ⟨_,q,hd⟩
  ·exact ⟨o,keep c o (I.cne x c e) hc nch ho (I.freeC x c e),hd⟩
 refine ⟨I.ok,I.os,hg,⟨fun b o e n hb hx=>?_,fun b o e n hb hx=>?_,fun b o e n hx=>?_,fun b o e hx=>?_,fun b xs e=>tups b xs (I.base.tups b xs e),fun b o xs e=>frzs b o xs (I.base.frzs b o xs e),fun b ps e=>?_⟩,?_,fun x c e=>?_,?_,fun x c e=>?_,fun p hp=>?_,hok,I.len⟩
 ·exact keep b o (neL b o e) hb (neC b o e hx) (I.base.keep b o e n hb hx) (I.base.free b o e n hx)
 ·obtain ⟨sl,e1⟩:=I.base.slot b o e n hb hx
  obtain ⟨sl',e2⟩:=slot b _ (neL b o e) hb (neC b o e hx) e1 (I.base.free b o e n hx)
  exact ⟨sl',e2⟩
 ·obtain ⟨o',e1⟩:=I.base.there b o e hx
  exact free b o' (neC b o e hx) e1 (I.base.free b o e n hx)
 ·obtain ⟨o',e1⟩:=I.base.there b o e hx
  exact there b o' (neC b o e hx) e1
 ·obtain ⟨m1,e1⟩:=I.base.tbls b ps e
  obtain ⟨m2,e2⟩:=tbls b _ e1
  exact ⟨m1++m2,by rw [e2,Array.append_assoc]⟩
 ·obtain ⟨m,hn,hl⟩:=I.loc
  refine ⟨m,ns m hn,fun i x v e1 e2 e3=>?_⟩
  obtain ⟨u,r,l⟩:=hl i x v e1 e2 e3
  refine ⟨u,r,?_⟩
  rcases l with l | ⟨k,c,e,z⟩
  ·exact .inl l
  ·exact .inr ⟨k,c,e,cellK x c e _ z⟩
 ·obtain ⟨v,z⟩:=I.cell x c e
  exact ⟨v,cellK x c e v z⟩
 ·obtain ⟨m,⟨o,_,_,ho,_⟩,_⟩:=I.loc
  exact free _ o (fun z=>(hch _ z).2.1 rfl) ho I.free
 ·obtain ⟨v,o,ho,hd⟩:=I.cell x c e
  exact free c o (fun z=>(hch c z).2.2.1 x c e rfl) ho (I.freeC x c e)
 ·obtain ⟨e,n,ne,nf,d⟩:=I.pin p hp
  have nch:p.1 ∉ ch:=fun z=>(hch p.1 z).2.2.2 p hp rfl
  exact ⟨keep p.1 p.2 ne nf nch e n,free p.1 p.2 nch e n,ne,nf,d⟩
theorem Inv.un {t':Nat} (I:Inv X pins σ H s) (u:Un X.fs [] H H' s.heap h') (hok:HOk X.prog X.w H' h'):Inv X pins σ H' { s with heap:=h',toks:=t' }:=by
 obtain ⟨m,⟨o,es,ep,ho,r⟩,_⟩:=id I.loc
 obtain ⟨sl,hL⟩:=u.any ho I.free (by simp)
 exact I.step (g':=s.gens) (d':=s.drawn) (ch:=[]) (fun _ z=>nomatch z) (fun b o _ hb _ e n=>u.keep b o e n hb (by simp)) (fun b o _ hb _ e n=>u.slot b o e n hb (by simp)) (fun b o _ e n=>u.free b o e n (by simp)) (fun b o _ e=>u.there b o e (by simp)) u.tups u.frzs u.tbls (fun m' hm=>by
  obtain ⟨o',es',ep',ho',r'⟩:=hm
  rw [ho] at ho';cases ho'
  exact ⟨_,es',ep',hL,r'⟩) hok I.bare
theorem Inv.call {g':Array GenState} {t':Nat} {d':Drawn} {ch:List Addr} (I:Inv X pins σ H s) (u:Un (frs X.stack) ch H H' s.heap h') (hok:HOk X.prog X.w H' h') (hg:AllBare g')
  (hch:∀ b ∈ ch,(b ∈ X.ex∨X.s₀.heap.objs.size<=b)/\b≠X.env.locals/\(∀ x c,X.env.cells.lookup x=some c->c≠b)/\∀ p ∈ X.pn++pins,p.1≠b) :
  Inv X pins σ H' { s with heap:=h',gens:=g',drawn:=d',toks:=t' }:=by
 obtain ⟨m,⟨o,es,ep,ho,r⟩,_⟩:=id I.loc
 obtain ⟨sl,hL⟩:=u.any ho I.free fun z=>(hch _ z).2.1 rfl
 exact I.step (ch:=ch) hch (fun b o hL hb hc e n=>u.keep b o e n (fun z=>(List.mem_cons.mp (I.stkSub b z)).elim hL hb) hc) (fun b o _ _ hc e n=>u.any e n hc) (fun b o hc e n=>u.free b o e n hc) (fun b o hc e=>u.there b o e hc) u.tups u.frzs u.tbls (fun m' hm=>by
  obtain ⟨o',es',ep',ho',r'⟩:=hm
  rw [ho] at ho';cases ho'
  exact ⟨_,es',ep',hL,r'⟩) hok hg
theorem Inv.turned {t':Nat} {it:Addr} (I:Inv X pins σ H s) (k:∀ b o,b≠it->s.heap.get? b=some o->h'.get? b=some o) (hn:H it=none) (hL:it≠X.env.locals)
  (h1:it ∈ X.ex∨X.s₀.heap.objs.size<=it) (h2:∀ x c,X.env.cells.lookup x=some c->c≠it) (h3:∀ p ∈ X.pn++pins,p.1≠it):Inv X pins σ H { s with heap:=h',toks:=t' }:=by
 have nit:∀ b u,H b=some u->b≠it:=fun b u e z=>by rw [z,hn] at e;cases e
 refine I.step (g':=s.gens) (d':=s.drawn) (ch:=[it]) (fun b hb=>?_) (fun b o _ _ hc e _=>k b o (fun z=>hc (by simp [z])) e) (fun b o _ _ hc e _=>⟨o.slots,k b o (fun z=>hc (by simp [z])) e⟩) (fun _ _ _ _ n=>n)
  (fun b o hc e=>⟨o,k b o (fun z=>hc (by simp [z])) e⟩) (fun _ _ e=>e) (fun _ _ _ e=>e) (fun b ps e=>⟨#[],by rw [e];simp⟩) (fun m hm=>?_) (fun b u e=>?_) I.bare
 ·have e:b=it:=by simpa using hb
  subst e
  exact ⟨h1,hL,h2,h3⟩
 ·obtain ⟨o,es,ep,ho,r⟩:=hm
  exact ⟨o,es,ep,k _ o (Ne.symm hL) ho,r⟩
 ·refine (I.hok b u e).stay (fun c v hc q=>k c v ?_ q) (fun _ q=>q) fun _ _ q=>q
  rcases hc with z | z
  ·rw [z];exact nit b u e
  ·exact nit c _ z
theorem Inv.tok (I:Inv X pins σ H s) (t:Nat):Inv X pins σ H { s with toks:=t }:=I.un (h':=s.heap) (t':=t) Un.refl I.hok
theorem Inv.kept {t':Nat} (I:Inv X pins σ H s) (k:∀ b u,s.heap.get? b=some u->h'.get? b=some u):Inv X pins σ H { s with heap:=h',toks:=t' }:=I.un (Un.kept k) (I.hok.kept k)
theorem Inv.laid {a:Addr} {o:HO} {t':Nat} (I:Inv X pins σ H s) (k:∀ b u,s.heap.get? b=some u->h'.get? b=some u) (hp:s.heap.objs.size<=a) (new:ObjOk X.prog X.w (upd H a o) h' a o) :
  Inv X pins σ (upd H a o) { s with heap:=h',toks:=t' }:=I.un (Un.laid k hp (I.hok.fresh hp)) (I.hok.laid k hp new)
theorem Inv.write {x e:Addr} {o:HO} {t':Nat} (I:Inv X pins σ H s) (mu:Mut (H x)) (he:e=x∨H e=some (.own x)) (k:∀ b u,b≠e->s.heap.get? b=some u->h'.get? b=some u) (heo:∃ u,h'.get? e=some u)
  (new:ObjOk X.prog X.w (upd H x o) h' x o):Inv X pins σ (upd H x o) { s with heap:=h',toks:=t' }:=I.un (Un.write mu he k heo) (I.hok.write mu he k heo new)
theorem Inv.pins_of {pins':List (Addr × Obj)} (I:Inv X pins σ H s) (h:∀ p ∈ pins',s.heap.get? p.1=some p.2/\H p.1=none/\p.1≠X.env.locals/\p.1 ∉ X.fs/\∀ v,p.2.data≠.cell v):Inv X pins' σ H s :=
 ⟨I.ok,I.os,I.bare,I.base,I.loc,I.cell,I.free,I.freeC,fun p hp=>(List.mem_append.mp hp).elim (fun z=>I.pin p (List.mem_append_left _ z)) (h p),I.hok,I.len⟩
theorem nodup_ix {N:List Str} (hN:N.Nodup) {i j:Nat} {x:Str} (a:N[i]?=some x) (b:N[j]?=some x):i=j:=by
 obtain ⟨h1,e1⟩:=List.getElem?_eq_some_iff.mp a
 obtain ⟨h2,e2⟩:=List.getElem?_eq_some_iff.mp b
 exact (List.getElem_inj hN).mp (e1.trans e2.symm)
theorem store_ok2 {M:Model} {A:Around} {E:Value->Shared->Prop} {i:Nat} {x:Str} {v:V} {u:Value} {Q:Unit->Shared->Prop} (I:Inv X pins σ H s) (hN:X.N.Nodup) (hi:X.N[i]?=some x) (hx:Loc X.env.scope x) (r:RelV v u)
  (h:∀ s',Inv X pins (σ.set i (some v)) H s'->(∃ a,Heap.SameBut a s.heap s'.heap/\(a=X.env.locals∨X.env.cells.lookup x=some a))->Q () s') (hf:X.fn x=true∨X.env.scope.names.lookup x=some .local:=by first | exact .inl rfl | exact .inr rfl | assumption):wpAny M A (storeName X.env x u) Q E s:=by
 obtain ⟨m,hn,hl⟩:=id I.loc
 have hcls:(X.env.scope.kind == .class || (X.env.scope.kind == .module && X.env.locals != X.env.globals))=false:=by rw [I.ok.kind];rfl
 have hiσ:i < σ.length:=by rw [I.len];exact (List.getElem?_eq_some_iff.mp hi).1
 have cne:=I.cne
 have tracked:∀ {a:Addr} {h':Heap},(∃ o,s.heap.get? a=some o/\H a=none)->Heap.SameBut a s.heap h'->HOk X.prog X.w H h':=fun {a h'} ha hs b ob e=>by
  obtain ⟨_,_,hfree⟩:=ha
  refine (I.hok b ob e).stay (fun c w' hc q=>(hs.2 c ?_).trans q) (fun _ q=>q) fun _ _ q=>q
  rintro rfl
  rcases hc with rfl | hc
  ·rw [hfree] at e;cases e
  ·rw [hfree] at hc;cases hc
 rcases hx with hk | hk
 ·refine wpAny_storeName_local hk hn (fun h' hn' hs=>?_) hcls
  obtain ⟨oL,_,_,hoL,_⟩:=id hn
  refine h _ ⟨I.ok,I.os,I.bare,⟨fun b o e n hb hx=>?_,fun b o e n hb hx=>?_,I.base.free,fun b o e hx=>?_,I.base.tups,I.base.frzs,I.base.tbls⟩,⟨_,hn',fun j y v' e1 e2 e3=>?_⟩,fun y c e=>?_,I.free,I.freeC,fun p hp=>?_,tracked ⟨oL,hoL,I.free⟩ hs,by simpa using I.len⟩ ⟨_,hs,.inl rfl⟩
  ·exact (hs.2 b (Nat.ne_of_lt (Nat.lt_of_lt_of_le (Heap.lt_size e) I.ok.above))).trans (I.base.keep b o e n hb hx)
  ·obtain ⟨sl,e1⟩:=I.base.slot b o e n hb hx
   exact ⟨sl,(hs.2 b (Nat.ne_of_lt (Nat.lt_of_lt_of_le (Heap.lt_size e) I.ok.above))).trans e1⟩
  ·obtain ⟨o',e1⟩:=I.base.there b o e hx
   exact ⟨o',(hs.2 b (Nat.ne_of_lt (Nat.lt_of_lt_of_le (Heap.lt_size e) I.ok.above))).trans e1⟩
  ·by_cases hj:j=i
   ·subst hj
    rw [hi] at e1;cases e1
    rw [List.getElem?_set_self hiσ] at e2
    cases e2
    exact ⟨u,r,.inl ⟨hk,by simp⟩⟩
   ·rw [List.getElem?_set_ne (Ne.symm hj)] at e2
    obtain ⟨u',r',q⟩:=hl j y v' e1 e2 e3
    refine ⟨u',r',?_⟩
    rcases q with ⟨k,e⟩ | ⟨k,c,e,z⟩
    ·refine .inl ⟨k,?_⟩
     have:y≠x:=fun e=>hj (nodup_ix hN e1 (e ▸ hi))
     simp [this,e]
    ·exact .inr ⟨k,c,e,z.sameBut hs (cne y c e)⟩
  ·obtain ⟨w',z⟩:=I.cell y c e
   exact ⟨w',z.sameBut hs (cne y c e)⟩
  ·obtain ⟨e,n,ne,nf,d⟩:=I.pin p hp
   exact ⟨(hs.2 p.1 ne).trans e,n,ne,nf,d⟩
 ·have hfn:X.fn x=true:=by
   rcases hf with z | z
   ·exact z
   ·rw [z] at hk;cases hk
  obtain ⟨c,hc⟩:=I.ok.has x (.inl hk)
  obtain ⟨w',z⟩:=I.cell x c hc
  refine wpAny_storeName_cell I.ok.kind hk hc z (fun h' hc' hs=>?_)
  obtain ⟨oc,hoc,hocd⟩:=id z
  refine h { s with heap:=h' } ⟨I.ok,I.os,I.bare,⟨fun b o e n hb hx=>?_,fun b o e n hb hx=>?_,I.base.free,fun b o e hx=>?_,I.base.tups,I.base.frzs,I.base.tbls⟩,⟨m,hn.sameBut hs (Ne.symm (cne x c hc)),fun j y v' e1 e2 e3=>?_⟩,fun y c' e=>?_,I.free,I.freeC,fun p hp=>?_,tracked ⟨oc,hoc,I.freeC x c hc⟩ hs,by simpa using I.len⟩ ⟨c,hs,.inr hc⟩
  ·exact (hs.2 b (Nat.ne_of_lt (Nat.lt_of_lt_of_le (Heap.lt_size e) (I.ok.cab x c hfn hc)))).trans (I.base.keep b o e n hb hx)
  ·obtain ⟨sl,e1⟩:=I.base.slot b o e n hb hx
   exact ⟨sl,(hs.2 b (Nat.ne_of_lt (Nat.lt_of_lt_of_le (Heap.lt_size e) (I.ok.cab x c hfn hc)))).trans e1⟩
  ·obtain ⟨o',e1⟩:=I.base.there b o e hx
   exact ⟨o',(hs.2 b (Nat.ne_of_lt (Nat.lt_of_lt_of_le (Heap.lt_size e) (I.ok.cab x c hfn hc)))).trans e1⟩
  ·by_cases hj:j=i
   ·subst hj
    rw [hi] at e1;cases e1
    rw [List.getElem?_set_self hiσ] at e2
    cases e2
    exact ⟨u,r,.inr ⟨.inl hk,c,hc,hc'⟩⟩
   ·rw [List.getElem?_set_ne (Ne.symm hj)] at e2
    obtain ⟨u',r',q⟩:=hl j y v' e1 e2 e3
    refine ⟨u',r',?_⟩
    rcases q with q | ⟨k,c',e,z'⟩
    ·exact .inl q
    ·refine .inr ⟨k,c',e,z'.sameBut hs ?_⟩
     rintro rfl
     exact hj (nodup_ix hN e1 (I.ok.inj _ _ _ e hc ▸ hi))
  ·by_cases hcc:c'=c
   ·subst hcc;exact ⟨_,hc'⟩
   ·obtain ⟨w2,z2⟩:=I.cell y c' e
    exact ⟨w2,z2.sameBut hs hcc⟩
  ·obtain ⟨e,n,ne,nf,d⟩:=I.pin p hp
   refine ⟨(hs.2 p.1 ?_).trans e,n,ne,nf,d⟩
   intro q
   rw [q,hoc] at e
   have q':oc=p.2:=Option.some.inj e
   exact d w' (by rw [← q'];exact hocd)
theorem store_ok {M:Model} {A:Around} {E:Value->Shared->Prop} {i:Nat} {x:Str} {v:V} {u:Value} {Q:Unit->Shared->Prop} (I:Inv X pins σ H s) (hN:X.N.Nodup) (hi:X.N[i]?=some x) (hx:Loc X.env.scope x) (r:RelV v u)
  (h:∀ s',Inv X pins (σ.set i (some v)) H s'->Q () s') (hf:X.fn x=true∨X.env.scope.names.lookup x=some .local:=by first | exact .inl rfl | exact .inr rfl | assumption):wpAny M A (storeName X.env x u) Q E s :=
 store_ok2 I hN hi hx r (fun s' I' _=>h s' I') hf
theorem Inv.call' {s':Shared} {ch:List Addr} (I:Inv X pins σ H s) (ho:s'.os=s.os) (u:Un (frs X.stack) ch H H' s.heap s'.heap) (hok:HOk X.prog X.w H' s'.heap) (hg:AllBare s'.gens)
  (hch:∀ b ∈ ch,(b ∈ X.ex∨X.s₀.heap.objs.size<=b)/\b≠X.env.locals/\(∀ x c,X.env.cells.lookup x=some c->c≠b)/\∀ p ∈ X.pn++pins,p.1≠b):Inv X pins σ H' s':=by
 obtain ⟨h',g',d',t',o'⟩:=s'
 have e:o'=s.os:=ho
 subst e
 exact I.call (g':=g') (t':=t') (d':=d') u hok hg hch
end
abbrev XK:=Value->Option Addr->Hp->Prop
abbrev St:=List (Option V)
abbrev VK:=V->Hp->Prop
abbrev TE:=St->Hp->VK->Prop
abbrev TT:=St->Hp->(Bool->Hp->Prop)->Prop
abbrev TA:=St->Hp->(List V->Hp->Prop)->Prop
structure Ends where
 nx:St->Hp->Prop
 rt:VK
 bk:St->Hp->Prop:=fun _ _=>False
 ct:St->Hp->Prop:=fun _ _=>False
abbrev TS:=Ends->St->Hp->Prop
def EP (X:Cx) (pins:List (Addr × Obj)) (σ:St) (Q:VK) (u:Value) (s':Shared):Prop:=∃ v H',Inv X pins σ H' s'/\RelV v u/\Q v H'
def TP (X:Cx) (pins:List (Addr × Obj)) (σ:St) (Q:Bool->Hp->Prop) (b:Bool) (s':Shared):Prop:=∃ H',Inv X pins σ H' s'/\Q b H'
def AP (X:Cx) (pins:List (Addr × Obj)) (σ:St) (Q:List V->Hp->Prop) (us:List Value) (s':Shared):Prop:=∃ vs H',Inv X pins σ H' s'/\Vals vs us/\Q vs H'
def SP (X:Cx) (pins:List (Addr × Obj)) (D:Ends) (f:Flow) (s':Shared):Prop :=
 match f with
 | .next=>∃ σ' H',Inv X pins σ' H' s'/\D.nx σ' H'
 | .brk=>∃ σ' H',Inv X pins σ' H' s'/\D.bk σ' H'
 | .cont=>∃ σ' H',Inv X pins σ' H' s'/\D.ct σ' H'
 | .ret u=>∃ v σ' H',Inv X pins σ' H' s'/\RelV v u/\D.rt v H'
def PE (X:Cx) (e:Expr) (t:TE):Prop :=
 ∀ (pins:List (Addr × Obj)) (s:Shared) (σ:St) (H:Hp) (Q:VK),Inv X pins σ H s->t σ H Q->wpAny (model X.prog X.w) X.A (eval e X.env) (EP X pins σ Q) X.xe s
def PT (X:Cx) (e:Expr) (t:TT):Prop :=
 ∀ (pins:List (Addr × Obj)) (s:Shared) (σ:St) (H:Hp) (Q:Bool->Hp->Prop),Inv X pins σ H s->t σ H Q->wpAny (model X.prog X.w) X.A (isTrue e X.env (eval e X.env)) (TP X pins σ Q) X.xe s
def PW (X:Cx) (e:Expr) (t:TT):Prop :=
 ∀ (whole:Sem Value) (pins:List (Addr × Obj)) (s:Shared) (σ:St) (H:Hp) (Q:Bool->Hp->Prop),Inv X pins σ H s->t σ H Q->wpAny (model X.prog X.w) X.A (isTrue e X.env whole) (TP X pins σ Q) X.xe s
theorem PW.pt {X:Cx} {e:Expr} {t:TT} (h:PW X e t):PT X e t:=h _
def PA (X:Cx) (es:List Expr) (t:TA):Prop :=
 ∀ (pos:Pos) (pins:List (Addr × Obj)) (s:Shared) (σ:St) (H:Hp) (Q:List V->Hp->Prop),Inv X pins σ H s->t σ H Q->wpAny (model X.prog X.w) X.A (spliced (backTo pos (starEach es X.env))) (AP X pins σ Q) X.xe s
def PS (X:Cx) (st:Stmt) (t:TS):Prop :=
 ∀ (pins:List (Addr × Obj)) (s:Shared) (σ:St) (H:Hp) (D:Ends),Inv X pins σ H s->t D σ H->wpAny (model X.prog X.w) X.A (exec st X.env) (SP X pins D) X.xe s
def PSs (X:Cx) (st:List Stmt) (t:TS):Prop :=
 ∀ (pins:List (Addr × Obj)) (s:Shared) (σ:St) (H:Hp) (D:Ends),Inv X pins σ H s->t D σ H->wpAny (model X.prog X.w) X.A (execs st X.env) (SP X pins D) X.xe s
theorem thn {α:Type} {t:Sem α} {Q Q':α->Shared->Prop} {M:Model} {A:Around} {E:Value->Shared->Prop} {s:Shared} (h:wpAny M A t Q E s) (hQ:∀ a s,Q a s->Q' a s):wpAny M A t Q' E s:=wpAny_mono h hQ fun _ _ x=>x
end L2
namespace L2
open PySem PySem.Spec PyProof.Rows
section
variable {X:Cx}
def tVar (i:Nat):TE:=fun σ H Q=>∃ v,σ[i]?=some (some v)/\Q v H
def tC (v:V):TE:=fun _ H Q=>Q v H
theorem jcj {i:Nat} {x:Str} {pos:Pos} (hN:X.N[i]?=some x) (hv:Vis X.env.scope x) (hd:(x == ("__debug__":Str))=false:=by decide) (hcd:(x == ("__classdict__":Str))=false:=by decide):PE X (.Name x pos) (tVar i):=by
 intro pins s σ H Q I h
 obtain ⟨v,e,h⟩:=h
 obtain ⟨m,hn,hl⟩:=I.loc
 obtain ⟨u,r,l⟩:=hl i x v hN e hv
 have fin:EP X pins σ Q u s:=⟨v,H,I,r,h⟩
 rcases l with ⟨hk,hm⟩ | ⟨hk,c,hc,hcell⟩
 ·exact wpAny_Name (wpAny_loadName_local I.ok.kind hk hn hm fin) hd
 ·rcases hk with hk | hk
  ·exact wpAny_Name (wpAny_loadName_cell I.ok.kind hk hc hcell fin) hd
  ·exact wpAny_Name (wpAny_loadName_free I.ok.kind hk hc hcell fin hcd) hd
theorem pe_int {i j pos}:PE X (.Constant (.int i) j pos) (tC (.int i)):=fun _ _ _ H _ I h=>wpAny_Constant_int ⟨.int i,H,I.tok _,⟨_,rfl⟩,h⟩
theorem pe_bl {b j pos}:PE X (.Constant (.bool b) j pos) (tC (.bl b)):=fun _ _ _ H _ I h=>Constant_bool ⟨.bl b,H,I,rfl,h⟩
theorem pe_non {j pos}:PE X (.Constant .none j pos) (tC .non):=fun _ _ _ H _ I h=>Constant_none ⟨.non,H,I,rfl,h⟩
theorem pe_str {x j pos}:PE X (.Constant (.str x) j pos) (tC (.str x)):=fun _ _ _ H _ I h=>Calls.Constant_str ⟨.str x,H,I.tok _,⟨_,rfl⟩,h⟩
def Gl (X:Cx) (x:Str):Prop:=X.env.kindOf x=some .globalImplicit
theorem ld_glob {E:Value->Shared->Prop} {pins:List (Addr × Obj)} {s:Shared} {σ:St} {H:Hp} {x:Str} {u:Value} {pos:Pos} {Q:Value->Shared->Prop} (I:Inv X pins σ H s) (hg:Gl X x) (hm:X.mg x=some u) (h:Q u s)
  (hd:(x == ("__debug__":Str))=false:=by decide):wpAny (model X.prog X.w) X.A (eval (.Name x pos) X.env) Q E s :=
 Calls.Name_function_global I.ok.kind hg (Calls.loadGlobal_global (by rw [I.ok.glob];exact I.mod.glob.keeps I.bk) hm h) hd
theorem ld_blt {E:Value->Shared->Prop} {pins:List (Addr × Obj)} {s:Shared} {σ:St} {H:Hp} {x:Str} {u:Value} {pos:Pos} {Q:Value->Shared->Prop} (I:Inv X pins σ H s) (hg:Gl X x) (hm:X.mg x=none) (hv:bootBuiltins x=some u) (h:Q u s)
  (hn:x≠"__name__":=by decide) (hd:(x == ("__debug__":Str))=false:=by decide):wpAny (model X.prog X.w) X.A (eval (.Name x pos) X.env) Q E s:=by
 obtain ⟨mb,h1,h2⟩:=I.mod.blt
 exact Calls.Name_function_global I.ok.kind hg (Calls.loadGlobal_builtin (by rw [I.ok.glob];exact I.mod.glob.keeps I.bk) hm (by rw [I.ok.blt];exact h1.keeps I.bk) ((h2 x hn).trans hv) h) hd
theorem pe_bltn {x:Str} {v:V} {u:Value} {pos:Pos} (hg:Gl X x) (hm:X.mg x=none) (hv:bootBuiltins x=some u) (r:RelV v u) (hn:x≠"__name__":=by decide) (hd:(x == ("__debug__":Str))=false:=by decide):PE X (.Name x pos) (tC v) :=
 fun _ _ _ H _ I h=>ld_blt I hg hm hv ⟨v,H,I,r,h⟩ hn hd
variable {a b:Expr} {ta tb:TE} {pos:Pos}
def PC (X:Cx) (op:CmpOp) (a b:Expr) (t:TE):Prop :=
 ∀ (pins:List (Addr × Obj)) (s:Shared) (σ:St) (H:Hp) (Q:VK),Inv X pins σ H s->t σ H Q ->
  wpAny (model X.prog X.w) X.A (eval a X.env) (fun v s₁=>wpAny (model X.prog X.w) X.A (eval b X.env) (fun u s₂=>wpAny (model X.prog X.w) X.A (compareOp op v u) (EP X pins σ Q) X.xe s₂) X.xe s₁) X.xe s
def tB (t:TE):TT:=fun σ H Q=>t σ H fun x H1=>∃ c,x=.bl c/\Q c H1
theorem pt_cmp {op:CmpOp} {t:TE} (h:PC X op a b t) (h1:behindInMarks op b=false:=by first | exact nobehind _ (by decide) (by decide) | rfl):PT X (.Compare a [op] [b] pos) (tB t):=by
 intro pins s σ H Q I hw
 refine wpAny_isTrue_Compare1 (thn (h pins s σ H _ I hw) fun v s1 h1=>thn h1 fun u s2 h2=>thn h2 fun c s3 ⟨x,H1,I1,r1,q1⟩=>?_) h1
 obtain ⟨d,rfl,q⟩:=q1
 cases r1
 exact wpAny_truthy_bool ⟨H1,I1,q⟩
theorem pt_val {e:Expr} {t:TE} (h:PE X e t) (he:∀ whole,isTrue e X.env whole=(do let v ← whole;standAt e.pos;holding [v] (truthy v)):=by intro _;rfl):PT X e (tB t):=by
 intro pins s σ H Q I hw
 refine isTrue_plain (thn (h pins s σ H _ I hw) fun v s1 ⟨x,H1,I1,r1,q1⟩=>?_) (he _)
 obtain ⟨d,rfl,q⟩:=q1
 cases r1
 exact wpAny_truthy_bool ⟨H1,I1,q⟩
variable {tA tB':TT} {rest:List Expr}
def tAnd (t u:TT):TT:=fun σ H Q=>t σ H fun c H1=>if c=true then u σ H1 Q else Q false H1
def tOr (t u:TT):TT:=fun σ H Q=>t σ H fun c H1=>if c=true then Q true H1 else u σ H1 Q
def tNot (t:TT):TT:=fun σ H Q=>t σ H fun c H1=>Q (!c) H1
theorem pw_and1 (ha:PT X a tA):PW X (.BoolOp .And [a] pos) tA:=by
 intro wh pins s σ H Q I h
 refine isTrue_and (thn (ha pins s σ H Q I h) fun c s1 e=>?_)
 cases c with
 | true=>exact isTrue_and_nil e
 | false=>exact e
theorem pw_or1 (ha:PT X a tA):PW X (.BoolOp .Or [a] pos) tA:=by
 intro wh pins s σ H Q I h
 refine isTrue_or (thn (ha pins s σ H Q I h) fun c s1 e=>?_)
 cases c with
 | false=>exact isTrue_or_nil e
 | true=>exact e
theorem pw_and (ha:PT X a tA) (hb:PW X (.BoolOp .And (b::rest) pos) tB'):PW X (.BoolOp .And (a::b::rest) pos) (tAnd tA tB'):=by
 intro wh pins s σ H Q I h
 refine isTrue_and (thn (ha pins s σ H _ I h) fun c s1 ⟨H1,I1,q1⟩=>?_)
 cases c with
 | true=>exact hb wh pins s1 σ H1 Q I1 q1
 | false=>exact ⟨H1,I1,q1⟩
theorem pw_or (ha:PT X a tA) (hb:PW X (.BoolOp .Or (b::rest) pos) tB'):PW X (.BoolOp .Or (a::b::rest) pos) (tOr tA tB'):=by
 intro wh pins s σ H Q I h
 refine isTrue_or (thn (ha pins s σ H _ I h) fun c s1 ⟨H1,I1,q1⟩=>?_)
 cases c with
 | true=>exact ⟨H1,I1,q1⟩
 | false=>exact hb wh pins s1 σ H1 Q I1 q1
theorem pt_not (ha:PT X a tA):PT X (.UnaryOp .Not a pos) (tNot tA):=by
 intro pins s σ H Q I h
 exact isTrue_not (ha pins s σ H (fun c H1=>Q (!c) H1) I h)
def tAndV (ta tb:TE):TE:=fun σ H Q=>ta σ H fun x H1=>∃ c,x=.bl c/\if c=true then tb σ H1 Q else Q (.bl false) H1
def tOrV (ta tb:TE):TE:=fun σ H Q=>ta σ H fun x H1=>∃ c,x=.bl c/\if c=true then Q (.bl true) H1 else tb σ H1 Q
theorem pe_one {op} {t:TE} (h:PE X a t):PE X (.BoolOp op [a] pos) t:=fun pins s σ H Q I hw=>BoolOp_one (h pins s σ H Q I hw)
theorem pe_and (ha:PE X a ta) (hb:PE X (.BoolOp .And (b::rest) pos) tb):PE X (.BoolOp .And (a::b::rest) pos) (tAndV ta tb):=by
 intro pins s σ H Q I h
 refine BoolOp_and (thn (ha pins s σ H _ I h) fun v s1 ⟨x,H1,I1,r1,q1⟩=>?_)
 obtain ⟨c,rfl,q1⟩:=q1
 cases r1
 refine wpAny_truthy_bool ?_
 cases c with
 | true=>exact hb pins s1 σ H1 Q I1 q1
 | false=>exact ⟨.bl false,H1,I1,rfl,q1⟩
theorem pe_or (ha:PE X a ta) (hb:PE X (.BoolOp .Or (b::rest) pos) tb):PE X (.BoolOp .Or (a::b::rest) pos) (tOrV ta tb):=by
 intro pins s σ H Q I h
 refine BoolOp_or (thn (ha pins s σ H _ I h) fun v s1 ⟨x,H1,I1,r1,q1⟩=>?_)
 obtain ⟨c,rfl,q1⟩:=q1
 cases r1
 refine wpAny_truthy_bool ?_
 cases c with
 | false=>exact hb pins s1 σ H1 Q I1 q1
 | true=>exact ⟨.bl true,H1,I1,rfl,q1⟩
def tIf (t:TT) (ta tb:TE):TE:=fun σ H Q=>t σ H fun c H1=>if c=true then ta σ H1 Q else tb σ H1 Q
theorem pe_ifExp {c:Expr} (hc:PT X c tA) (ha:PE X a ta) (hb:PE X b tb):PE X (.IfExp c a b pos) (tIf tA ta tb):=by
 intro pins s σ H Q I h
 refine wpAny_IfExp (thn (hc pins s σ H _ I h) fun d s1 ⟨H1,I1,q1⟩=>?_)
 cases d with
 | true=>exact ha pins s1 σ H1 Q I1 q1
 | false=>exact hb pins s1 σ H1 Q I1 q1
end
end L2
namespace L2
open PySem PySem.Spec PyProof.Rows
def SqL (K:PySem.W.Frag) (H:Hp) (a:Addr) (xs:List V):Prop :=
 Rd H a (.lst xs) ∨
  ∃ (o:Obj) (its:Array Value) (n:Nat),K.lookup a=some o/\o.cls=.type "list"/\o.dict=none/\o.data=.seq its n/\its.size<=sizeLine/\Vals xs its.toList
def SqT (K:PySem.W.Frag) (H:Hp) (a:Addr) (xs:List V):Prop :=
 Rd H a (.tup xs) ∨
  ∃ (o:Obj) (its:Array Value) (n:Nat),K.lookup a=some o/\o.cls=.type "tuple"/\o.data=.seq its n/\its.size<=sizeLine/\Vals xs its.toList
def absV:Value->Option V
 | .none=>some .non
 | .bool b=>some (.bl b)
 | .int i _=>some (.int i)
 | .str x _=>some (.str x)
 | .bytes b _=>some (.byt b)
 | .float b _=>some (.flt b)
 | .ref a=>some (.ref a)
 | .type n=>some (.ty n)
 | _=>none
theorem RelV.abs {x:V} {u:Value} (r:RelV x u):absV u=some x:=by
 cases x with
 | non=>cases r;rfl
 | bl _=>cases r;rfl
 | int _=>obtain ⟨t,rfl⟩:=r;rfl
 | str _=>obtain ⟨t,rfl⟩:=r;rfl
 | byt _=>obtain ⟨t,rfl⟩:=r;rfl
 | flt _=>obtain ⟨t,rfl⟩:=r;rfl
 | ref _=>cases r;rfl
 | ty _=>cases r;rfl
theorem RelV.inj {x y:V} {u:Value} (r:RelV x u) (q:RelV y u):x=y:=Option.some.inj (r.abs.symm.trans q.abs)
theorem Vals.inj:∀ {xs ys:List V} {us:List Value},Vals xs us->Vals ys us->xs=ys
 | _,_,_,.nil,.nil=>rfl
 | _,_,_,.cons r t,.cons r' t'=>by rw [r.inj r',Vals.inj t t']
section
variable {X:Cx} {pins:List (Addr × Obj)} {σ:St} {H:Hp} {s:Shared} {a:Addr} {xs ys:List V}
theorem SqL.of {K:PySem.W.Frag} (h:H a=some (.lst xs)):SqL K H a xs:=.inl (.inl h)
theorem SqT.of {K:PySem.W.Frag} (h:H a=some (.tup xs)):SqT K H a xs:=.inl (.inl h)
theorem Inv.list (I:Inv X pins σ H s) (h:SqL X.K H a xs):∃ its:List Value,Vals xs its/\PlainL s.heap a its.toArray/\xs.length<=sizeLine:=by
 rcases h with h | ⟨o,its,n,hk,hc,hd,hs,hz,r⟩
 ·obtain ⟨z,its,n,r,e⟩:=h.ok I.hok
  exact ⟨its,r,⟨_,n,e,rfl,rfl,rfl⟩,z⟩
 ·refine ⟨its.toList,r,⟨o,n,I.kIn a o hk,hc,hd,by simpa using hs⟩,?_⟩
  have e:=r.length
  simp only [Array.length_toList] at e
  omega
theorem Inv.tuple (I:Inv X pins σ H s) (h:SqT X.K H a xs):∃ its:List Value,Vals xs its/\IsTup s.heap a its.toArray/\xs.length<=sizeLine:=by
 rcases h with h | ⟨o,its,n,hk,hc,hs,hz,r⟩
 ·obtain ⟨z,its,r,p⟩:=h.ok I.hok
  exact ⟨its,r,p,z⟩
 ·refine ⟨its.toList,r,⟨o,I.kIn a o hk,hc,n,by simpa using hs⟩,?_⟩
  have e:=r.length
  simp only [Array.length_toList] at e
  omega
theorem Inv.list_inj (I:Inv X pins σ H s) (h:SqL X.K H a xs) (h':SqL X.K H a ys):xs=ys:=by
 obtain ⟨its,r,⟨o,n,e,_,_,d⟩,_⟩:=I.list h
 obtain ⟨its',r',⟨o',n',e',_,_,d'⟩,_⟩:=I.list h'
 rw [e] at e';cases e'
 rw [d] at d'
 injection d' with d1 _
 have:its=its':=by simpa using congrArg Array.toList d1
 subst this
 exact r.inj r'
theorem Inv.tuple_inj (I:Inv X pins σ H s) (h:SqT X.K H a xs) (h':SqT X.K H a ys):xs=ys:=by
 obtain ⟨its,r,⟨o,e,_,n,d⟩,_⟩:=I.tuple h
 obtain ⟨its',r',⟨o',e',_,n',d'⟩,_⟩:=I.tuple h'
 rw [e] at e';cases e'
 rw [d] at d'
 injection d' with d1 _
 have:its=its':=by simpa using congrArg Array.toList d1
 subst this
 exact r.inj r'
end
abbrev Cx.wish (X:Cx) (E:Value->Shared->Prop):Cx:={ X with xe:=E }
abbrev Cx.nox (X:Cx):Cx:=X.wish fun _ _=>False
theorem Cx.Ok.wish {X:Cx} (ok:X.Ok) (E:Value->Shared->Prop):(X.wish E).Ok :=
 ⟨ok.mod,ok.kind,ok.glob,ok.blt,ok.above,ok.inj,ok.has,ok.cab,ok.hd,ok.frames,ok.stk,ok.exf,ok.bs,ok.bsz,ok.noex,ok.exfs,ok.funs,ok.frf⟩
theorem Cx.Ok.unwish {X:Cx} {E:Value->Shared->Prop} (ok:(X.wish E).Ok):X.Ok :=
 ⟨ok.mod,ok.kind,ok.glob,ok.blt,ok.above,ok.inj,ok.has,ok.cab,ok.hd,ok.frames,ok.stk,ok.exf,ok.bs,ok.bsz,ok.noex,ok.exfs,ok.funs,ok.frf⟩
section
variable {X:Cx} {pins:List (Addr × Obj)} {σ:St} {H:Hp} {s:Shared} {E:Value->Shared->Prop}
theorem Inv.wish (I:Inv X pins σ H s) (E:Value->Shared->Prop):Inv (X.wish E) pins σ H s:=⟨I.ok.wish E,I.os,I.bare,I.base,I.loc,I.cell,I.free,I.freeC,I.pin,I.hok,I.len⟩
theorem Inv.unwish (I:Inv (X.wish E) pins σ H s):Inv X pins σ H s:=⟨I.ok.unwish,I.os,I.bare,I.base,I.loc,I.cell,I.free,I.freeC,I.pin,I.hok,I.len⟩
theorem SP.unwish {D:Ends} {f:Flow} {s':Shared} (h:SP (X.wish E) pins D f s'):SP X pins D f s':=by
 cases f with
 | next=>obtain ⟨σ',H',I,q⟩:=h;exact ⟨σ',H',I.unwish,q⟩
 | brk=>obtain ⟨σ',H',I,q⟩:=h;exact ⟨σ',H',I.unwish,q⟩
 | cont=>obtain ⟨σ',H',I,q⟩:=h;exact ⟨σ',H',I.unwish,q⟩
 | ret u=>obtain ⟨v,σ',H',I,r,q⟩:=h;exact ⟨v,σ',H',I.unwish,r,q⟩
theorem PSs.nox {st:List Stmt} {t:TS} (h:PSs X.nox st t):PSs X st t:=fun pins s σ H D I hw =>
 wpAny_mono (h pins s σ H D (I.wish _) hw) (fun _ _ q=>q.unwish) fun _ _ z=>False.elim z
end
section
variable {X:Cx} {st:Stmt} {rest:List Stmt} {t u:TS} {e:Expr} {te:TE} {pos:Pos}
def tNext:TS:=fun D σ H=>D.nx σ H
def tSeq (t u:TS):TS:=fun D σ H=>t { D with nx:=u D } σ H
theorem pss_nil:PSs X [] tNext:=fun _ _ σ H _ I h=>wpAny_execs_nil ⟨σ,H,I,h⟩
theorem pss_cons (h1:PS X st t) (h2:PSs X rest u):PSs X (st::rest) (tSeq t u):=by
 intro pins s σ H D I h
 refine wpAny_execs_cons (thn (h1 pins s σ H { D with nx:=u D } I h) fun f s1 q=>?_)
 cases f with
 | next =>
  obtain ⟨σ',H',I',q⟩:=q
  exact h2 pins s1 σ' H' D I' q
 | ret v=>exact q
 | brk=>exact q
 | cont=>exact q
theorem pss_one (h1:PS X st t):PSs X [st] t:=by
 intro pins s σ H D I h
 refine wpAny_execs_cons (thn (h1 pins s σ H D I h) fun f s1 q=>?_)
 cases f with
 | next=>exact wpAny_execs_nil q
 | ret v=>exact q
 | brk=>exact q
 | cont=>exact q
theorem Inv.quiet {pins:List (Addr × Obj)} {σ:St} {H:Hp} {s:Shared} (I:Inv X pins σ H s):interactive X.env=false:=by simp [interactive,I.ok.kind]
def tDrop (te:TE):TS:=fun D σ H=>te σ H fun _ H1=>D.nx σ H1
theorem ps_expr (he:PE X e te) (hs:swapsWith e none pos.line X.env=pure false:=by rfl):PS X (.Expr e pos) (tDrop te):=by
 intro pins s σ H D I h
 exact wpAny_Expr_any (thn (he pins s σ H _ I h) fun v s1 ⟨x,H1,I1,r1,q1⟩=>⟨σ,H1,I1,q1⟩) I.quiet hs
def tRet (te:TE):TS:=fun D σ H=>te σ H D.rt
theorem ps_ret (he:PE X e te):PS X (.Return (some e) pos) (tRet te):=by
 intro pins s σ H D I h
 exact wpAny_Return_some (thn (he pins s σ H _ I h) fun v s1 ⟨x,H1,I1,r1,q1⟩=>⟨x,σ,H1,I1,r1,q1⟩)
def tIfS (c:TT) (t u:TS):TS:=fun D σ H=>c σ H fun b H1=>if b=true then t D σ H1 else u D σ H1
theorem ps_if {c:Expr} {a b:List Stmt} {tc:TT} (hc:PT X c tc) (ha:PSs X a t) (hb:PSs X b u):PS X (.If c a b pos) (tIfS tc t u):=by
 intro pins s σ H D I h
 refine wpAny_If (thn (hc pins s σ H _ I h) fun d s1 ⟨H1,I1,q1⟩=>?_)
 cases d with
 | true=>exact ha pins s1 σ H1 D I1 q1
 | false=>exact hb pins s1 σ H1 D I1 q1
def tNever:TS:=fun _ _ _=>False
theorem ps_never:PS X st tNever:=fun _ _ _ _ _ _ h=>h.elim
end
abbrev TG:=V->St->Hp->(St->Hp->Prop)->Prop
abbrev TGs:=List V->St->Hp->(St->Hp->Prop)->Prop
def PG (X:Cx) (target:Expr) (t:TG):Prop :=
 ∀ (pins:List (Addr × Obj)) (s:Shared) (σ:St) (H:Hp) (v:V) (u:Value) (Q:St->Hp->Prop),Inv X pins σ H s->RelV v u->t v σ H Q ->
  wpAny (model X.prog X.w) X.A (assign target X.env u) (fun _ s'=>∃ σ' H',Inv X pins σ' H' s'/\Q σ' H') X.xe s
def PGs (X:Cx) (ts:List Expr) (t:TGs):Prop :=
 ∀ (pins:List (Addr × Obj)) (s:Shared) (σ:St) (H:Hp) (vs:List V) (us:List Value) (Q:St->Hp->Prop),Inv X pins σ H s->Vals vs us->t vs σ H Q ->
  wpAny (model X.prog X.w) X.A (assignInOrder ((assignEach ts X.env).map (·.2)) us) (fun _ s'=>∃ σ' H',Inv X pins σ' H' s'/\Q σ' H') X.xe s
abbrev TSet:=V->V->V->Hp->(Hp->Prop)->Prop
def PSet (X:Cx) (t:TSet):Prop :=
 ∀ (pins:List (Addr × Obj)) (s:Shared) (σ:St) (H:Hp) (o i v:V) (ov iv u:Value) (Q:Hp->Prop),Inv X pins σ H s->RelV o ov->RelV i iv->RelV v u->t o i v H Q ->
  wpAny (model X.prog X.w) X.A (setItem ov iv u) (fun _ s'=>∃ H',Inv X pins σ H' s'/\Q H') X.xe s
abbrev TIp:=V->V->Hp->VK->Prop
def PIp (X:Cx) (op:Operator) (t:TIp):Prop :=
 ∀ (pins:List (Addr × Obj)) (s:Shared) (σ:St) (H:Hp) (x y:V) (v u:Value) (Q:VK),Inv X pins σ H s->RelV x v->RelV y u->t x y H Q ->
  wpAny (model X.prog X.w) X.A (inplaceOp op v u) (EP X pins σ Q) X.xe s
section
variable {X:Cx} {pos:Pos}
def gName (i:Nat):TG:=fun v σ H Q=>Q (σ.set i (some v)) H
theorem pg_name {i:Nat} {x:Str} (hN:X.N.Nodup) (hi:X.N[i]?=some x) (hx:Loc X.env.scope x) (hf:X.fn x=true∨X.env.scope.names.lookup x=some .local:=by first | exact .inl rfl | exact .inr rfl | assumption):PG X (.Name x pos) (gName i):=by
 intro pins s σ H v u Q I r h
 exact wpAny_assign_Name (store_ok I hN hi hx r (fun s' I'=>⟨_,H,I',h⟩) hf)
def gNil:TGs:=fun vs σ H Q=>vs=[]/\Q σ H
def gCons (t:TG) (u:TGs):TGs:=fun vs σ H Q=>∃ v r,vs=v::r/\t v σ H fun σ' H'=>u r σ' H' Q
theorem pgs_nil:PGs X [] gNil:=by
 intro pins s σ H vs us Q I r h
 obtain ⟨e,h⟩:=h
 subst e
 cases r
 exact assignInOrder_nil ⟨σ,H,I,h⟩
theorem pgs_cons {e:Expr} {es:List Expr} {t:TG} {u:TGs} (h1:PG X e t) (h2:PGs X es u)
  (hs:(assignEach (e::es) X.env).map (·.2)=assign e X.env::(assignEach es X.env).map (·.2):=by rfl):PGs X (e::es) (gCons t u):=by
 intro pins s σ H vs us Q I r h
 obtain ⟨v,vr,e1,h⟩:=h
 subst e1
 cases r with
 | cons r rr =>
  rw [hs]
  refine assignInOrder_cons (thn (h1 pins s σ H _ _ _ I r h) fun _ s1 ⟨σ1,H1,I1,q1⟩=>?_)
  exact h2 pins s1 σ1 H1 _ _ Q I1 rr q1
def gTup (K:PySem.W.Frag) (n:Nat) (t:TGs):TG:=fun v σ H Q=>∃ a xs,v=.ref a/\SqT K H a xs/\xs.length=n/\t xs σ H Q
theorem pg_tup {es:List Expr} {k:Nat} {t:TGs} {n:Nat} (hc:X.calm=true) (h:PGs X es t)
  (hn:(assignEach es X.env).length=n:=by rfl) (hst:(assignEach es X.env).findIdx? (·.1)=none:=by rfl):PG X (.Tuple es k pos) (gTup X.K n t):=by
 intro pins s σ H v u Q I r hw
 obtain ⟨a,xs,e1,hq,hl,hw⟩:=hw
 subst e1
 cases r
 obtain ⟨its,rv,ht,hz⟩:=I.tuple hq
 refine assign_Tuple_tuple (I.ok.hd hc) ht (by simp [hn,← hl,rv.length]) hst fun h' hx=>?_
 have I1:Inv X pins σ H { s with heap:=h' }:=I.kept (t':=s.toks) fun b o e=>hx b o (Nat.ne_of_lt (Heap.lt_size e)) e
 exact h pins _ σ H xs _ Q I1 (by simpa using rv) hw
def gSub (to ti:TE) (t:TSet):TG:=fun v σ H Q=>to σ H fun o H1=>ti σ H1 fun i H2=>t o i v H2 fun H3=>Q σ H3
theorem pg_sub {o i:Expr} {to ti:TE} {t:TSet} (ho:PE X o to) (hi:PE X i ti) (hs:PSet X t)
  (ha:∀ v,assign (.Subscript o i pos) X.env v=(do
   let ov ← holding [v] (eval o X.env)
   let iv ← holding [v,ov] (eval i X.env)
   standAt pos
   holding [v,ov,iv] (setItem ov iv v)
   release [v,ov,iv] []):=by intro _;rfl):PG X (.Subscript o i pos) (gSub to ti t):=by
 intro pins s σ H v u Q I r h
 rw [ha]
 refine wpAny_bind (wpAny_holding (thn (ho pins s σ H _ I h) fun ov s1 ⟨x,H1,I1,r1,q1⟩=>?_))
 refine wpAny_bind (wpAny_holding (thn (hi pins s1 σ H1 _ I1 q1) fun iv s2 ⟨y,H2,I2,r2,q2⟩=>?_))
 refine wpAny_bind (wpAny_standAt (wpAny_bind (wpAny_holding (thn (hs pins s2 σ H2 x y v ov iv u _ I2 r1 r2 r q2) fun _ s3 ⟨H3,I3,q3⟩=>?_))))
 exact wpAny_release ⟨σ,H3,I3,q3⟩
def tAsg (te:TE) (g:TG):TS:=fun D σ H=>te σ H fun x H1=>g x σ H1 D.nx
theorem ps_asg {tg e:Expr} {te:TE} {g:TG} (he:PE X e te) (hg:PG X tg g) (hs:swapsWithSole [tg] e pos.line X.env=pure false:=by rfl) (hw:swappedStores [tg] e X.env=pure none:=by rfl)
  (h1:(assignEach [tg] X.env).map (·.2)=[assign tg X.env]:=by rfl):PS X (.Assign [tg] e pos) (tAsg te g):=by
 intro pins s σ H D I h
 refine wpAny_Assign_stores (thn (he pins s σ H _ I h) fun v s1 ⟨x,H1,I1,r1,q1⟩=>?_) hs hw
 rw [h1]
 exact thn (hg pins s1 σ H1 x v _ I1 r1 q1) fun _ s2 q=>q
theorem ps_set {i:Nat} {x:Str} {e:Expr} {te:TE} {pos':Pos} (hN:X.N.Nodup) (hi:X.N[i]?=some x) (hx:Loc X.env.scope x) (he:PE X e te) (hs:swapsWith e (some (.Name x pos')) pos.line X.env=pure false:=by rfl) (hf:X.fn x=true∨X.env.scope.names.lookup x=some .local:=by first | exact .inl rfl | exact .inr rfl | assumption) :
  PS X (.Assign [.Name x pos'] e pos) (tAsg te (gName i)):=by
 intro pins s σ H D I h
 refine wpAny_Assign_Name (thn (he pins s σ H _ I h) fun v s1 ⟨y,H1,I1,r1,q1⟩=>?_) hs
 exact store_ok I1 hN hi hx r1 (fun s2 I2=>⟨_,H1,I2,q1⟩) hf
def tAug (i:Nat) (te:TE) (ti:TIp):TS:=fun D σ H=>∃ x,σ[i]?=some (some x)/\te σ H fun y H1=>ti x y H1 fun z H2=>D.nx (σ.set i (some z)) H2
theorem ps_aug {i:Nat} {x:Str} {e:Expr} {te:TE} {op:Operator} {ti:TIp} {pos':Pos} (hN:X.N.Nodup) (hi:X.N[i]?=some x) (hx:Loc X.env.scope x) (he:PE X e te) (ho:PIp X op ti) (hf:X.fn x=true∨X.env.scope.names.lookup x=some .local:=by first | exact .inl rfl | exact .inr rfl | assumption) :
  PS X (.AugAssign (.Name x pos') op e pos) (tAug i te ti):=by
 intro pins s σ H D I h
 obtain ⟨v,e1,h⟩:=h
 obtain ⟨m,hn,hl⟩:=I.loc
 have vis:Vis X.env.scope x:=by rcases hx with k | k;exact .inl k;exact .inr (.inl k)
 obtain ⟨u,r,l⟩:=hl i x v hi e1 vis
 refine wpAny_AugAssign_Name ?_
 have go:wpAny (model X.prog X.w) X.A (eval e X.env) (fun w s₂=>wpAny (model X.prog X.w) X.A (inplaceOp op u w) (fun r s₃=>wpAny (model X.prog X.w) X.A (storeName X.env x r) (fun _=>SP X pins D .next) X.xe s₃) X.xe s₂) X.xe s:=by
  refine thn (he pins s σ H _ I h) fun w s1 ⟨y,H1,I1,r1,q1⟩=>?_
  refine thn (ho pins s1 σ H1 v y u w _ I1 r r1 q1) fun z s2 ⟨zv,H2,I2,r2,q2⟩=>?_
  exact store_ok I2 hN hi hx r2 (fun s3 I3=>⟨_,H2,I3,q2⟩) hf
 rcases l with ⟨hk,hm⟩ | ⟨hk,c,hc,hcell⟩
 ·exact wpAny_loadName_local I.ok.kind hk hn hm go
 ·rcases hk with hk | hk
  ·exact wpAny_loadName_cell I.ok.kind hk hc hcell go
  ·rcases hx with k | k
   ·have:X.env.scope.names.lookup x=some .free:=hk
    rw [k] at this;cases this
   ·have:X.env.scope.names.lookup x=some .free:=hk
    rw [k] at this;cases this
def ipI (f:Int->Int->Int):TIp:=fun x y H Q=>∃ i j,x=.int i/\y=.int j/\Q (.int (f i j)) H
theorem ip_add:PIp X .Add (ipI fun i j=>i+j):=by
 intro pins s σ H x y v u Q I r1 r2 h
 obtain ⟨i,j,e1,e2,q⟩:=h
 subst e1;subst e2
 obtain ⟨t,rfl⟩:=r1
 obtain ⟨t',rfl⟩:=r2
 exact iadd_int ⟨.int _,H,I.tok _,⟨_,rfl⟩,q⟩
theorem ip_sub:PIp X .Sub (ipI fun i j=>i - j):=by
 intro pins s σ H x y v u Q I r1 r2 h
 obtain ⟨i,j,e1,e2,q⟩:=h
 subst e1;subst e2
 obtain ⟨t,rfl⟩:=r1
 obtain ⟨t',rfl⟩:=r2
 exact isub_int ⟨.int _,H,I.tok _,⟨_,rfl⟩,q⟩
end
section
variable {X:Cx} {pos:Pos}
def tWhile (c:TT) (tb:TS):TS:=fun D σ H=>∃ W:Nat->St->Hp->Prop,(∃ m,W m σ H)/\∀ m σ H,W m σ H ->
 c σ H fun b H1=>if b=true then ∃ N:St->Hp->Prop,(∀ σ' H',N σ' H'->∃ m',m' < m/\W m' σ' H')/\tb { D with nx:=N,ct:=N,bk:=D.nx } σ H1 else D.nx σ H1
theorem ps_while {c:Expr} {body:List Stmt} {tc:TT} {tb:TS} (hp:PassesOwn (model X.prog X.w) X.A X.env X.xe) (hc:PT X c tc) (hb:PSs X body tb):PS X (.While c body [] pos) (tWhile tc tb):=by
 intro pins s σ H D I h
 obtain ⟨W,⟨m0,w0⟩,turn⟩:=h
 refine wpAny_While (codeAny_whileLoop (fun n s'=>∃ σ' H',Inv X pins σ' H' s'/\W n σ' H') ?_ m0 ⟨σ,H,I,w0⟩)
 rintro n s1 ⟨σ1,H1,I1,w1⟩
 refine wpAny_passesOwn hp (thn (hc pins s1 σ1 H1 _ I1 (turn n σ1 H1 w1)) fun b s2 ⟨H2,I2,q2⟩=>?_)
 cases b with
 | true =>
  obtain ⟨N,hN,q2⟩:=q2
  rw [if_pos rfl]
  refine wpAny_passesOwn hp (thn (hb pins s2 σ1 H2 _ I2 q2) fun f s3 q3=>?_)
  cases f with
  | next =>
   obtain ⟨σ3,H3,I3,n3⟩:=q3
   obtain ⟨m',hm,w3⟩:=hN σ3 H3 n3
   exact ⟨m',hm,σ3,H3,I3,w3⟩
  | cont =>
   obtain ⟨σ3,H3,I3,n3⟩:=q3
   obtain ⟨m',hm,w3⟩:=hN σ3 H3 n3
   exact ⟨m',hm,σ3,H3,I3,w3⟩
  | brk=>exact q3
  | ret v=>exact q3
 | false =>
  rw [if_neg Bool.false_ne_true]
  exact wpAny_execs_nil ⟨σ1,H2,I2,q2⟩
end
structure It where
 go:Nat->Hp->Prop
 yld:Nat->Hp->V->Hp->Prop
 stop:Nat->Hp->Prop
def FpOk (X:Cx) (pins:List (Addr × Obj)) (H:Hp) (b:Addr):Prop :=
 H b=none/\b≠X.env.locals/\b ∉ X.fs/\(b ∈ X.ex∨X.s₀.heap.objs.size<=b)/\(∀ x c,X.env.cells.lookup x=some c->c≠b)/\∀ p ∈ X.pn++pins,p.1≠b
theorem Inv.fpOk {X:Cx} {pins:List (Addr × Obj)} {σ:St} {H H':Hp} {s:Shared} {b:Addr} (I:Inv X pins σ H s) (hb:s.heap.objs.size<=b) (hn:H' b=none):FpOk X pins H' b:=by
 refine ⟨hn,Nat.ne_of_gt (Nat.lt_of_lt_of_le I.lt hb),I.nofs hb,.inr (Nat.le_trans I.sz hb),fun x c e z=>?_,fun p hp z=>?_⟩
 ·obtain ⟨v,q⟩:=I.cell x c e
  exact absurd (Nat.lt_of_lt_of_le q.lt (by rw [z];exact hb)) (Nat.lt_irrefl _)
 ·exact absurd (Nat.lt_of_lt_of_le (Heap.lt_size (I.pin p hp).1) (by rw [z];exact hb)) (Nat.lt_irrefl _)
structure Turn (P:Program) (w:World) (K:PySem.W.Frag) (tg:Expr) (J:It) (fp:List Addr) (it:Addr) (tn:Nat->Heap->Prop):Prop where
 mem:it ∈ fp
 obj:∀ i h,tn i h->∀ b ∈ fp,∃ o,h.get? b=some o/\∀ v,o.data≠.cell v
 keep:∀ i h h',tn i h->(∀ b ∈ fp,∀ o,h.get? b=some o->h'.get? b=some o)->tn i h'
 item:∀ (X:Cx),X.prog=P->X.w=w->X.K=K->X.calm=true->∀ (i:Nat) (pins:List (Addr × Obj)) (s:Shared) (σ:St) (H:Hp) (E:Value->Shared->Prop),Inv X pins σ H s->(∀ b ∈ fp,FpOk X pins H b)->tn i s.heap->J.go i H ->
  wpAny (model P w) X.A (pyNext (.ref it)) (fun r s1=>∃ u,r=some u /\
   wpAny (model P w) X.A (letOwnedTupleGo tg (.ref it) u) (fun _ s2=>∃ x H',Inv X pins σ H' s2/\RelV x u/\J.yld i H x H'/\tn (i+1) s2.heap/\∀ b ∈ fp,H' b=none) E s1) E s
 done:∀ (X:Cx),X.prog=P->X.w=w->X.K=K->X.calm=true->∀ (i:Nat) (pins:List (Addr × Obj)) (s:Shared) (σ:St) (H:Hp) (E:Value->Shared->Prop),Inv X pins σ H s->(∀ b ∈ fp,FpOk X pins H b)->tn i s.heap->J.stop i H ->
  wpAny (model P w) X.A (pyNext (.ref it)) (fun r s1=>r=none/\Inv X pins σ H s1) E s
 self:∀ (A:Around) (i:Nat) (s:Shared) (Q:Value->Shared->Prop) (E:Value->Shared->Prop),tn i s.heap->Q (.ref it) s->wpAny (model P w) A (pyIter (.ref it)) Q E s
abbrev TI:=St->Hp->(It->Hp->Prop)->Prop
def PIE (X:Cx) (pins:List (Addr × Obj)) (σ:St) (tg:Expr) (R:It->Hp->Prop) (itv:Value) (s2:Shared):Prop :=
 ∃ (it:Addr) (fp:List Addr) (tn:Nat->Heap->Prop) (J:It) (H':Hp),itv=.ref it/\Inv X pins σ H' s2/\Turn X.prog X.w X.K tg J fp it tn/\tn 0 s2.heap/\(∀ b ∈ fp,FpOk X pins H' b)/\R J H'
def PI (X:Cx) (tg iter:Expr) (wi:TI):Prop :=
 ∀ (pins:List (Addr × Obj)) (s:Shared) (σ:St) (H:Hp) (R:It->Hp->Prop),Inv X pins σ H s->wi σ H R ->
  wpAny (model X.prog X.w) X.A (eval iter X.env) (fun v s1=>wpAny (model X.prog X.w) X.A (pyIter v) (PIE X pins σ tg R) X.xe s1) X.xe s
theorem go_of {M:Model} {A:Around} {E:Value->Shared->Prop} {s:Shared} {tg:Expr} {it:Addr} {u:Value} {o:Obj} {n:String} {vs:Array Value} {Q:Unit->Shared->Prop} (ho:s.heap.get? it=some o) (hc:o.cls=.type n) (hd:o.data=.fields vs)
  (hn:["enumerate","zip","dict_itemiterator","dict_reverseitemiterator","odict_iterator","itertools.zip_longest","itertools.pairwise"].contains n=false) (hQ:Q () s):wpAny M A (letOwnedTupleGo tg (.ref it) u) Q E s:=by
 unfold letOwnedTupleGo
 cases tg <;> first
  | exact wpAny_pure hQ
  | (cases u <;> first
    | exact wpAny_pure hQ
    | (refine wpAny_bind (wpAny_load ho ?_)
       rw [hc,hd]
       show wpAny M A (if (["enumerate","zip","dict_itemiterator","dict_reverseitemiterator","odict_iterator","itertools.zip_longest","itertools.pairwise"].contains n && vs[0]? == some (rawInt _))=true then _ else _) Q E s
       rw [if_neg (by intro h;rw [hn,Bool.false_and] at h;cases h)]
       exact wpAny_pure hQ))
def Itl (K:PySem.W.Frag) (a:Addr):It :=
 ⟨fun i H=>∃ xs x,SqL K H a xs/\xs[i]?=some x,fun i H x H'=>H'=H/\∀ xs,SqL K H a xs->xs[i]?=some x,fun i H=>∃ xs,SqL K H a xs/\xs.length<=i⟩
def Itt (K:PySem.W.Frag) (a:Addr):It :=
 ⟨fun i H=>∃ xs x,SqT K H a xs/\xs[i]?=some x,fun i H x H'=>H'=H/\∀ xs,SqT K H a xs->xs[i]?=some x,fun i H=>∃ xs,SqT K H a xs/\xs.length<=i⟩
def Itr (lo:Int) (n:Nat):It:=⟨fun i _=>i < n,fun i H x H'=>H'=H/\x=.int (lo+i),fun i _=>n<=i⟩
theorem turn_list {P:Program} {w:World} {K:PySem.W.Frag} {tg:Expr} (a it:Addr):Turn P w K tg (Itl K a) [it] it (fun i h=>h.IsListIter it a i) where
 mem:=by simp
 obj:=fun i h st b hb=>by
  have e:b=it:=by simpa using hb
  subst e
  obtain ⟨o,e,c,d⟩:=st
  exact ⟨o,e,fun v z=>by rw [d] at z;cases z⟩
 keep:=fun i h h' st k=>st.at fun o e=>k it (by simp) o e
 item:=by
  intro X hP hw hK hc i pins s σ H E I hf st hg
  subst hP hw hK
  obtain ⟨xs,x,hq,hx⟩:=hg
  obtain ⟨its,rv,p,hz⟩:=I.list hq
  obtain ⟨u,hu,ru⟩:=rv.get hx
  obtain ⟨f0,f1,f2,f3,f4,f5⟩:=hf it (by simp)
  refine wpAny_pyNext_list_item st p.isList (x:=u) (by simpa using hu) fun h' st' sb=>?_
  have I1:Inv X pins σ H { s with heap:=h' }:=I.turned (t':=s.toks) (fun b o hb e=>(sb.2 b hb).trans e) f0 f1 f3 f4 f5
  obtain ⟨o,e,c,d⟩:=id st'
  exact ⟨u,rfl,go_of (s:={ s with heap:=h' }) e c d (by decide) ⟨x,H,I1,ru,⟨rfl,fun ys hy=>by rw [I.list_inj hy hq];exact hx⟩,st',fun b hb=>(hf b hb).1⟩⟩
 done:=by
  intro X hP hw hK hc i pins s σ H E I hf st hg
  subst hP hw hK
  obtain ⟨xs,hq,hx⟩:=hg
  obtain ⟨its,rv,p,hz⟩:=I.list hq
  obtain ⟨f0,f1,f2,f3,f4,f5⟩:=hf it (by simp)
  have hl:=rv.length
  exact wpAny_pyNext_list_end (I.ok.hd hc) st p.isList (by simp;omega) fun h' eb=>⟨rfl,I.turned (t':=s.toks) (fun b o hb e=>eb b o hb e) f0 f1 f3 f4 f5⟩
 self:=fun _ _ _ _ _ st h=>wpAny_pyIter_listiter st h
theorem turn_tuple {P:Program} {w:World} {K:PySem.W.Frag} {tg:Expr} (a it:Addr):Turn P w K tg (Itt K a) [it] it (fun i h=>h.IsTupleIter it a i) where
 mem:=by simp
 obj:=fun i h st b hb=>by
  have e:b=it:=by simpa using hb
  subst e
  obtain ⟨o,e,c,d⟩:=st
  exact ⟨o,e,fun v z=>by rw [d] at z;cases z⟩
 keep:=fun i h h' st k=>st.at fun o e=>k it (by simp) o e
 item:=by
  intro X hP hw hK hc i pins s σ H E I hf st hg
  subst hP hw hK
  obtain ⟨xs,x,hq,hx⟩:=hg
  obtain ⟨its,rv,p,hz⟩:=I.tuple hq
  obtain ⟨u,hu,ru⟩:=rv.get hx
  obtain ⟨f0,f1,f2,f3,f4,f5⟩:=hf it (by simp)
  refine wpAny_pyNext_tuple_item st (show s.heap.IsTuple a its.toArray from p) (x:=u) (by simpa using hu) fun h' st' sb=>?_
  have I1:Inv X pins σ H { s with heap:=h' }:=I.turned (t':=s.toks) (fun b o hb e=>(sb.2 b hb).trans e) f0 f1 f3 f4 f5
  obtain ⟨o,e,c,d⟩:=id st'
  exact ⟨u,rfl,go_of (s:={ s with heap:=h' }) e c d (by decide) ⟨x,H,I1,ru,⟨rfl,fun ys hy=>by rw [I.tuple_inj hy hq];exact hx⟩,st',fun b hb=>(hf b hb).1⟩⟩
 done:=by
  intro X hP hw hK hc i pins s σ H E I hf st hg
  subst hP hw hK
  obtain ⟨xs,hq,hx⟩:=hg
  obtain ⟨its,rv,p,hz⟩:=I.tuple hq
  obtain ⟨f0,f1,f2,f3,f4,f5⟩:=hf it (by simp)
  have hl:=rv.length
  exact wpAny_pyNext_tuple_end (I.ok.hd hc) st (show s.heap.IsTuple a its.toArray from p) (by simp;omega) fun h' eb=>⟨rfl,I.turned (t':=s.toks) (fun b o hb e=>eb b o hb e) f0 f1 f3 f4 f5⟩
 self:=fun _ _ _ _ _ st h=>wpAny_pyIter_tupleiter st h
theorem turn_range {P:Program} {w:World} {K:PySem.W.Frag} {tg:Expr} (it:Addr) (lo:Int) (n:Nat):Turn P w K tg (Itr lo n) [it] it (fun i h=>IsRangeIter h it (lo+(i:Nat) * 1) ((n:Int) - (i:Nat)) 1) where
 mem:=by simp
 obj:=fun i h st b hb=>by
  have e:b=it:=by simpa using hb
  subst e
  exact ⟨_,st,fun v z=>by
   have z':Data.fields _=Data.cell v:=z
   cases z'⟩
 keep:=fun i h h' st k=>k it (by simp) _ st
 item:=by
  intro X hP hw hK hc i pins s σ H E I hf st hg
  subst hP hw hK
  obtain ⟨f0,f1,f2,f3,f4,f5⟩:=hf it (by simp)
  have W:=Walks.range (prog:=X.prog) (w:=X.w) (I.ok.hd hc) it lo 1 n
  refine W.item i s _ _ hg st fun v h' tk hv st' kk=>?_
  obtain ⟨t,rfl⟩:=hv
  have I1:Inv X pins σ H { s with heap:=h',toks:=tk }:=I.turned (fun b o hb e=>kk b o (by simpa using hb) e) f0 f1 f3 f4 f5
  refine ⟨_,rfl,go_of (s:={ s with heap:=h',toks:=tk }) (n:="range_iterator") st' rfl rfl (by decide) ⟨.int (lo+i),H,I1,⟨t,?_⟩,⟨rfl,rfl⟩,st',fun b hb=>(hf b hb).1⟩⟩
  rw [Int.mul_one]
 done:=by
  intro X hP hw hK hc i pins s σ H E I hf st hg
  subst hP hw hK
  obtain ⟨f0,f1,f2,f3,f4,f5⟩:=hf it (by simp)
  exact wpAny_pyNext_range_end (I.ok.hd hc) st (by have:n<=i:=hg;omega) fun h' eb=>⟨rfl,I.turned (t':=s.toks) (fun b o hb e=>eb b o hb e) f0 f1 f3 f4 f5⟩
 self:=fun _ _ _ _ _ st h=>wpAny_pyIter_rangeiter st h
end L2
namespace L2
open PySem PySem.Spec PyProof.Rows
section
variable {X:Cx} {tg:Expr}
theorem range_it {pins:List (Addr × Obj)} {σ:St} {H:Hp} {s:Shared} {R:It->Hp->Prop} {E:Value->Shared->Prop} {lo hi:Int} {t u v:Tok} {tk:Nat} (I:Inv X pins σ H s) (h1:-(2 ^ 62)<=lo) (h2:lo < 2 ^ 62) (h3:-(2 ^ 62)<=hi) (h4:hi < 2 ^ 62)
  (q:R (Itr lo (hi - lo).toNat) H):wpAny (model X.prog X.w) X.A (pyIter (.ref s.heap.objs.size)) (PIE X pins σ tg R) E { s with heap:=s.heap.push { cls:=.type "range",data:=.fields #[.int lo t,.int hi u,.int 1 v] },toks:=tk }:=by
 refine wpAny_pyIter_range (IsRange.new ..) (small_one h1 h2 h3 h4) ?_
 have I1:Inv X pins σ H { s with heap:=s.heap.push { cls:=.type "range",data:=.fields #[.int lo t,.int hi u,.int 1 v] },toks:=tk }:=I.kept fun b o e=>Heap.get?_push_of_some _ e
 refine ⟨(s.heap.push { cls:=.type "range",data:=.fields #[.int lo t,.int hi u,.int 1 v] }).objs.size,[(s.heap.push { cls:=.type "range",data:=.fields #[.int lo t,.int hi u,.int 1 v] }).objs.size],_,_,H,rfl,
  I1.kept (t':=tk) fun b o e=>Heap.get?_push_of_some _ e,turn_range _ lo (hi - lo).toNat,?_,fun b hb=>?_,q⟩
 ·have e1:lo+((0:Nat):Int) * 1=lo:=by simp
  have e2:(((hi - lo).toNat:Nat):Int) - ((0:Nat):Int)=Builtin.Range.rangeSize lo hi 1:=by rw [rangeSize_one];split <;> omega
  show IsRangeIter _ _ (lo+((0:Nat):Int) * 1) ((((hi - lo).toNat:Nat):Int) - ((0:Nat):Int)) 1
  rw [e1,e2]
  exact Heap.get?_push_size _ rfl
 ·have e:b=(s.heap.push { cls:=.type "range",data:=.fields #[.int lo t,.int hi u,.int 1 v] }).objs.size:=by simpa using hb
  subst e
  exact I1.fpOk (Nat.le_refl _) (I1.hok.fresh (Nat.le_refl _))
def iRng1 (ta:TA):TI:=fun σ H R=>ta σ H fun vs H1=>∃ j:Int,vs=[.int j]/\-(2 ^ 62)<=j/\j < 2 ^ 62/\R (Itr 0 j.toNat) H1
def iRng2 (ta:TA):TI:=fun σ H R=>ta σ H fun vs H1=>∃ i j:Int,vs=[.int i,.int j]/\(-(2 ^ 62)<=i/\i < 2 ^ 62/\-(2 ^ 62)<=j/\j < 2 ^ 62)/\R (Itr i (j - i).toNat) H1
theorem pi_range1 {a:Expr} {ta:TA} {p pos:Pos} (hg:Gl X "range") (hm:X.mg "range"=none) (ha:PA X [a] ta) (hs:starEach [a] X.env=[(false,eval a X.env)]:=by rfl):PI X tg (.Call (.Name "range" p) [a] [] pos) (iRng1 ta):=by
 intro pins s σ H R I h
 refine Call_ (ld_blt I hg hm boot_range (PyProof.Rows.callWith_type1 (thn (ha pos pins s σ H _ I h) fun us s1 ⟨vs,H1,I1,r1,q1⟩=>?_) hs rfl))
 obtain ⟨j,e,q1,q2,q⟩:=q1
 subst e
 cases r1 with
 | cons r rr =>
  cases rr
  obtain ⟨t,rfl⟩:=r
  exact call_range_1 (range_it I1 (by omega) (by omega) q1 q2 (by simpa using q))
theorem pi_range2 {a b:Expr} {ta:TA} {p pos:Pos} (hg:Gl X "range") (hm:X.mg "range"=none) (ha:PA X [a,b] ta) (hs:starEach [a,b] X.env=[(false,eval a X.env),(false,eval b X.env)]:=by rfl) (hs2:starEach [b] X.env=[(false,eval b X.env)]:=by rfl) :
  PI X tg (.Call (.Name "range" p) [a,b] [] pos) (iRng2 ta):=by
 intro pins s σ H R I h
 refine Call_ (ld_blt I hg hm boot_range (PyProof.Rows.callWith_type1 (thn (ha pos pins s σ H _ I h) fun us s1 ⟨vs,H1,I1,r1,q1⟩=>?_) (by rw [hs,hs2]) (by rw [hs2];rfl)))
 obtain ⟨i,j,e,⟨q1,q2,q3,q4⟩,q⟩:=q1
 subst e
 cases r1 with
 | cons r rr =>
  cases rr with
  | cons r' rr =>
   cases rr
   obtain ⟨t,rfl⟩:=r
   obtain ⟨t',rfl⟩:=r'
   exact call_range_2 (range_it I1 q1 q2 q3 q4 q)
def tFor (wi:TI) (g:TG) (tb:TS):TS:=fun D σ H=>wi σ H fun J H1=>∃ W:Nat->Nat->St->Hp->Prop,(∃ m,W 0 m σ H1)/\∀ i m σ H,W i m σ H ->
 (J.stop i H/\D.nx σ H)∨(J.go i H/\∃ N:St->Hp->Prop,(∀ σ' H',N σ' H'->∃ m',m' < m/\W (i+1) m' σ' H')/\∀ x H',J.yld i H x H'->g x σ H' fun σ2 H2=>tb { D with nx:=N,ct:=N,bk:=D.nx } σ2 H2)
def pinsAt (fp:List Addr) (h:Heap):List (Addr × Obj):=fp.filterMap fun b=>(h.get? b).map fun o=>(b,o)
theorem mem_pinsAt {fp:List Addr} {h:Heap} {b:Addr} {o:Obj} (hb:b ∈ fp) (e:h.get? b=some o):(b,o) ∈ pinsAt fp h:=List.mem_filterMap.mpr ⟨b,hb,by rw [e];rfl⟩
theorem of_pinsAt {fp:List Addr} {h:Heap} {p:Addr × Obj} (hp:p ∈ pinsAt fp h):p.1 ∈ fp/\h.get? p.1=some p.2:=by
 obtain ⟨b,hb,e⟩:=List.mem_filterMap.mp hp
 cases q:h.get? b with
 | none=>rw [q] at e;cases e
 | some o =>
  rw [q] at e
  have e':(b,o)=p:=Option.some.inj e
  subst e'
  exact ⟨hb,q⟩
theorem Inv.pinned {pins:List (Addr × Obj)} {σ:St} {H:Hp} {s:Shared} {fp:List Addr} (I:Inv X pins σ H s) (hf:∀ b ∈ fp,FpOk X pins H b) (ho:∀ b ∈ fp,∃ o,s.heap.get? b=some o/\∀ v,o.data≠.cell v):Inv X (pins++pinsAt fp s.heap) σ H s :=
 I.pins_of fun p hp=>(List.mem_append.mp hp).elim (fun z=>I.pin p (List.mem_append_right _ z)) fun z=>by
  obtain ⟨hb,e⟩:=of_pinsAt z
  obtain ⟨f0,f1,f2,_⟩:=hf p.1 hb
  obtain ⟨o,e',d⟩:=ho p.1 hb
  rw [e] at e';cases e'
  exact ⟨e,f0,f1,f2,d⟩
theorem Inv.unpinned {pins pl:List (Addr × Obj)} {σ:St} {H:Hp} {s:Shared} (I:Inv X (pins++pl) σ H s):Inv X pins σ H s:=I.pins_of fun p hp=>I.pin p (List.mem_append_right _ (List.mem_append_left _ hp))
theorem ps_for {iter:Expr} {body:List Stmt} {wi:TI} {g:TG} {tb:TS} {pos:Pos} (hp:PassesOwn (model X.prog X.w) X.A X.env X.xe) (hc:X.calm=true) (hi:PI X tg iter wi) (hg:PG X tg g) (hb:PSs X body tb)
  (hs:∀ x,foldedSetIterable iter X.env x=pure x:=by intro _;rfl):PS X (.For tg iter body [] pos) (tFor wi g tb):=by
 intro pins s σ H D I h
 refine wpAny_For (thn (hi pins s σ H _ I h) fun v s1 h1=>thn h1 fun itv s2 h2=>?_) hs
 obtain ⟨it,fp,tn,J,H2,e,I2,T,st2,f2,W,⟨m0,w0⟩,turn⟩:=h2
 subst e
 have stat:∀ {H':Hp},(∀ b ∈ fp,H' b=none)->∀ b ∈ fp,FpOk X pins H' b:=fun hn b hb=>⟨hn b hb,(f2 b hb).2⟩
 refine codeAny_forLoop_any (fun n s'=>∃ i σ' H',Inv X pins σ' H' s'/\tn i s'.heap/\(∀ b ∈ fp,H' b=none)/\W i n σ' H') ?_ m0 ⟨0,σ,H2,I2,st2,fun b hb=>(f2 b hb).1,w0⟩
 rintro n s3 ⟨i,σ3,H3,I3,st3,fr3,w3⟩
 rcases turn i n σ3 H3 w3 with ⟨stop,qn⟩ | ⟨go,N,hN,step⟩
 ·refine wpAny_passesOwn hp (thn (T.done X rfl rfl rfl hc i pins s3 σ3 H3 X.xe I3 (stat fr3) st3 stop) fun r s4 ⟨hr,I4⟩=>?_)
  subst hr
  exact wpAny_execs_nil ⟨σ3,H3,I4,qn⟩
 ·refine wpAny_passesOwn hp (thn (T.item X rfl rfl rfl hc i pins s3 σ3 H3 X.xe I3 (stat fr3) st3 go) fun r s4 ⟨u,hr,h4⟩=>?_)
  subst hr
  refine wpAny_passesOwn hp (thn h4 fun _ s5 ⟨x,H5,I5,r5,y5,st5,fr5⟩=>?_)
  have I5':=I5.pinned (stat fr5) (T.obj _ _ st5)
  refine wpAny_passesOwn hp (thn (hg _ s5 σ3 H5 x u _ I5' r5 (step x H5 y5)) fun _ s6 ⟨σ6,H6,I6,q6⟩=>?_)
  refine wpAny_passesOwn hp (thn (hb _ s6 σ6 H6 _ I6 q6) fun f s7 q7=>?_)
  have again:∀ {σ7:St} {H7:Hp},Inv X (pins++pinsAt fp s5.heap) σ7 H7 s7->N σ7 H7->∃ m,m < n/\∃ i σ' H',Inv X pins σ' H' s7/\tn i s7.heap/\(∀ b ∈ fp,H' b=none)/\W i m σ' H':=fun {σ7 H7} I7 n7=>by
   obtain ⟨m',hm,w7⟩:=hN σ7 H7 n7
   refine ⟨m',hm,i+1,σ7,H7,I7.unpinned,T.keep _ _ _ st5 fun b hb o e=>(I7.pin (b,o) (List.mem_append_right _ (List.mem_append_right _ (mem_pinsAt hb e)))).1,fun b hb=>?_,w7⟩
   obtain ⟨o,e,d⟩:=T.obj _ _ st5 b hb
   exact (I7.pin (b,o) (List.mem_append_right _ (List.mem_append_right _ (mem_pinsAt hb e)))).2.1
  cases f with
  | next=>obtain ⟨σ7,H7,I7,n7⟩:=q7;exact again I7 n7
  | cont=>obtain ⟨σ7,H7,I7,n7⟩:=q7;exact again I7 n7
  | brk=>obtain ⟨σ7,H7,I7,q7⟩:=q7;exact ⟨σ7,H7,I7.unpinned,q7⟩
  | ret v=>obtain ⟨x7,σ7,H7,I7,r7,q7⟩:=q7;exact ⟨x7,σ7,H7,I7.unpinned,r7,q7⟩
end
theorem for_list {K:PySem.W.Frag} {a:Addr} {xs:List V} {g:TG} {tb:TS} {D:Ends} {σ:St} {H:Hp} (Pv:Nat->St->Hp->Prop) (h0:Pv 0 σ H) (hl:∀ i σ H,i<=xs.length->Pv i σ H->SqL K H a xs)
  (hs:∀ i x σ H,xs[i]?=some x->Pv i σ H->g x σ H fun σ2 H2=>tb { D with nx:=Pv (i+1),ct:=Pv (i+1),bk:=D.nx } σ2 H2) (hd:∀ σ H,Pv xs.length σ H->D.nx σ H) :
  ∃ W:Nat->Nat->St->Hp->Prop,(∃ m,W 0 m σ H)/\∀ i m σ H,W i m σ H ->
   ((Itl K a).stop i H/\D.nx σ H)∨((Itl K a).go i H/\∃ N:St->Hp->Prop,(∀ σ' H',N σ' H'->∃ m',m' < m/\W (i+1) m' σ' H')/\∀ x H',(Itl K a).yld i H x H'->g x σ H' fun σ2 H2=>tb { D with nx:=N,ct:=N,bk:=D.nx } σ2 H2):=by
 refine ⟨fun i m σ H=>m=xs.length - i/\i<=xs.length/\Pv i σ H,⟨xs.length,by simp,Nat.zero_le _,h0⟩,?_⟩
 rintro i m σ H ⟨rfl,hi,p⟩
 have q:=hl i σ H hi p
 by_cases hlt:i < xs.length
 ·refine .inr ⟨⟨xs,xs[i],q,by simp [hlt]⟩,Pv (i+1),fun σ' H' p'=>⟨xs.length - (i+1),by omega,rfl,hlt,p'⟩,fun x H' y=>?_⟩
  obtain ⟨e,y⟩:=y
  subst e
  exact hs i x σ _ (y xs q) p
 ·have e:i=xs.length:=by omega
  subst e
  exact .inl ⟨⟨xs,q,Nat.le_refl _⟩,hd σ H p⟩
theorem for_tup {K:PySem.W.Frag} {a:Addr} {xs:List V} {g:TG} {tb:TS} {D:Ends} {σ:St} {H:Hp} (Pv:Nat->St->Hp->Prop) (h0:Pv 0 σ H) (hl:∀ i σ H,i<=xs.length->Pv i σ H->SqT K H a xs)
  (hs:∀ i x σ H,xs[i]?=some x->Pv i σ H->g x σ H fun σ2 H2=>tb { D with nx:=Pv (i+1),ct:=Pv (i+1),bk:=D.nx } σ2 H2) (hd:∀ σ H,Pv xs.length σ H->D.nx σ H) :
  ∃ W:Nat->Nat->St->Hp->Prop,(∃ m,W 0 m σ H)/\∀ i m σ H,W i m σ H ->
   ((Itt K a).stop i H/\D.nx σ H)∨((Itt K a).go i H/\∃ N:St->Hp->Prop,(∀ σ' H',N σ' H'->∃ m',m' < m/\W (i+1) m' σ' H')/\∀ x H',(Itt K a).yld i H x H'->g x σ H' fun σ2 H2=>tb { D with nx:=N,ct:=N,bk:=D.nx } σ2 H2):=by
 refine ⟨fun i m σ H=>m=xs.length - i/\i<=xs.length/\Pv i σ H,⟨xs.length,by simp,Nat.zero_le _,h0⟩,?_⟩
 rintro i m σ H ⟨rfl,hi,p⟩
 have q:=hl i σ H hi p
 by_cases hlt:i < xs.length
 ·refine .inr ⟨⟨xs,xs[i],q,by simp [hlt]⟩,Pv (i+1),fun σ' H' p'=>⟨xs.length - (i+1),by omega,rfl,hlt,p'⟩,fun x H' y=>?_⟩
  obtain ⟨e,y⟩:=y
  subst e
  exact hs i x σ _ (y xs q) p
 ·have e:i=xs.length:=by omega
  subst e
  exact .inl ⟨⟨xs,q,Nat.le_refl _⟩,hd σ H p⟩
theorem for_range {lo:Int} {n:Nat} {g:TG} {tb:TS} {D:Ends} {σ:St} {H:Hp} (Pv:Nat->St->Hp->Prop) (h0:Pv 0 σ H)
  (hs:∀ i σ H,i < n->Pv i σ H->g (.int (lo+i)) σ H fun σ2 H2=>tb { D with nx:=Pv (i+1),ct:=Pv (i+1),bk:=D.nx } σ2 H2) (hd:∀ σ H,Pv n σ H->D.nx σ H) :
  ∃ W:Nat->Nat->St->Hp->Prop,(∃ m,W 0 m σ H)/\∀ i m σ H,W i m σ H ->
   ((Itr lo n).stop i H/\D.nx σ H)∨((Itr lo n).go i H/\∃ N:St->Hp->Prop,(∀ σ' H',N σ' H'->∃ m',m' < m/\W (i+1) m' σ' H')/\∀ x H',(Itr lo n).yld i H x H'->g x σ H' fun σ2 H2=>tb { D with nx:=N,ct:=N,bk:=D.nx } σ2 H2):=by
 refine ⟨fun i m σ H=>m=n - i/\i<=n/\Pv i σ H,⟨n,by simp,Nat.zero_le _,h0⟩,?_⟩
 rintro i m σ H ⟨rfl,hi,p⟩
 by_cases hlt:i < n
 ·refine .inr ⟨hlt,Pv (i+1),fun σ' H' p'=>⟨n - (i+1),by omega,rfl,hlt,p'⟩,fun x H' y=>?_⟩
  obtain ⟨e,y⟩:=y
  subst e y
  exact hs i σ _ hlt p
 ·have e:i=n:=by omega
  subst e
  exact .inl ⟨Nat.le_refl _,hd σ H p⟩
end L2
namespace L2
open PySem PySem.Spec PyProof.Rows
abbrev R2:=V->V->Hp->VK->Prop
def OpR (X:Cx) (f:Value->Value->Sem Value) (r:R2):Prop :=
 ∀ (pins:List (Addr × Obj)) (s:Shared) (σ:St) (H:Hp) (x y:V) (v u:Value) (Q:VK),Inv X pins σ H s->RelV x v->RelV y u->r x y H Q ->
  wpAny (model X.prog X.w) X.A (f v u) (EP X pins σ Q) X.xe s
def UnR (X:Cx) (f:Value->Sem Value) (r:V->Hp->VK->Prop):Prop :=
 ∀ (pins:List (Addr × Obj)) (s:Shared) (σ:St) (H:Hp) (x:V) (v:Value) (Q:VK),Inv X pins σ H s->RelV x v->r x H Q ->
  wpAny (model X.prog X.w) X.A (f v) (EP X pins σ Q) X.xe s
def CallR (X:Cx) (f:Value) (r:List V->Hp->VK->Prop):Prop :=
 ∀ (pins:List (Addr × Obj)) (s:Shared) (σ:St) (H:Hp) (xs:List V) (us:List Value) (Q:VK),Inv X pins σ H s->Vals xs us->r xs H Q ->
  wpAny (model X.prog X.w) X.A (call f us) (EP X pins σ Q) X.xe s
def TruR (X:Cx) (r:V->Hp->(Bool->Hp->Prop)->Prop):Prop :=
 ∀ (pins:List (Addr × Obj)) (s:Shared) (σ:St) (H:Hp) (x:V) (v:Value) (Q:Bool->Hp->Prop),Inv X pins σ H s->RelV x v->r x H Q ->
  wpAny (model X.prog X.w) X.A (truthy v) (TP X pins σ Q) X.xe s
def tOp (r:R2) (ta tb:TE):TE:=fun σ H Q=>ta σ H fun x H1=>tb σ H1 fun y H2=>r x y H2 Q
def tUn (r:V->Hp->VK->Prop) (ta:TE):TE:=fun σ H Q=>ta σ H fun x H1=>r x H1 Q
def rI (C:Int->Int->Prop) (g:Int->Int->V):R2:=fun x y H Q=>∃ i j,x=.int i/\y=.int j/\C i j/\Q (g i j) H
def rI0 (g:Int->Int->V):R2:=fun x y H Q=>∃ i j,x=.int i/\y=.int j/\Q (g i j) H
def rU (g:Int->V):V->Hp->VK->Prop:=fun x H Q=>∃ i,x=.int i/\Q (g i) H
section
variable {X:Cx} {a b c:Expr} {ta tb tc:TE} {pos:Pos}
theorem binT (ha:PE X a ta) (hb:PE X b tb) {pins:List (Addr × Obj)} {s:Shared} {σ:St} {H:Hp} {R:V->V->Hp->Prop} (I:Inv X pins σ H s)
  (h:ta σ H fun x H1=>tb σ H1 fun y H2=>R x y H2) {Q:Value->Shared->Prop} {f:Value->Value->Sem Value}
  (hf:∀ v u s2 x y H2,Inv X pins σ H2 s2->RelV x v->RelV y u->R x y H2->wpAny (model X.prog X.w) X.A (f v u) Q X.xe s2) :
  wpAny (model X.prog X.w) X.A (eval a X.env) (fun v s₁=>wpAny (model X.prog X.w) X.A (eval b X.env) (fun u s₂=>wpAny (model X.prog X.w) X.A (f v u) Q X.xe s₂) X.xe s₁) X.xe s:=by
 refine thn (ha pins s σ H _ I h) fun v s1 ⟨x,H1,I1,r1,q1⟩=>?_
 refine thn (hb pins s1 σ H1 _ I1 q1) fun u s2 ⟨y,H2,I2,r2,q2⟩=>?_
 exact hf v u s2 x y H2 I2 r1 r2 q2
theorem pe_op {op:Operator} {r:R2} (ho:OpR X (binaryOp op) r) (ha:PE X a ta) (hb:PE X b tb):PE X (.BinOp a op b pos) (tOp r ta tb):=by
 intro pins s σ H Q I h
 exact wpAny_BinOp (binT ha hb I h fun v u s2 x y H2 I2 rx ry q=>ho pins s2 σ H2 x y v u Q I2 rx ry q)
theorem pe_un {op:UnaryOp} {r:V->Hp->VK->Prop} (ho:UnR X (unaryOp op) r) (ha:PE X a ta):PE X (.UnaryOp op a pos) (tUn r ta):=by
 intro pins s σ H Q I h
 exact UnaryOp_ (thn (ha pins s σ H _ I h) fun v s1 ⟨x,H1,I1,r1,q1⟩=>ho pins s1 σ H1 x v Q I1 r1 q1)
theorem opI {f:Value->Value->Sem Value} {C:Int->Int->Prop} {g:Int->Int->Int}
  (rule:∀ (i j:Int) (t u:Tok) (s:Shared) (Q:Value->Shared->Prop) (E:Value->Shared->Prop),C i j->Q (.int (g i j) s.toks) { s with toks:=s.toks+1 }->wpAny (model X.prog X.w) X.A (f (.int i t) (.int j u)) Q E s) :
  OpR X f (rI C fun i j=>.int (g i j)):=by
 intro pins s σ H x y v u Q I rx ry h
 obtain ⟨i,j,rfl,rfl,hc,q⟩:=h
 obtain ⟨t,rfl⟩:=rx
 obtain ⟨t',rfl⟩:=ry
 exact rule i j t t' s _ _ hc ⟨.int (g i j),H,I.tok _,⟨_,rfl⟩,q⟩
theorem opI0 {f:Value->Value->Sem Value} {g:Int->Int->Int}
  (rule:∀ (i j:Int) (t u:Tok) (s:Shared) (Q:Value->Shared->Prop) (E:Value->Shared->Prop),Q (.int (g i j) s.toks) { s with toks:=s.toks+1 }->wpAny (model X.prog X.w) X.A (f (.int i t) (.int j u)) Q E s) :
  OpR X f (rI0 fun i j=>.int (g i j)):=by
 intro pins s σ H x y v u Q I rx ry h
 obtain ⟨i,j,rfl,rfl,q⟩:=h
 obtain ⟨t,rfl⟩:=rx
 obtain ⟨t',rfl⟩:=ry
 exact rule i j t t' s _ _ ⟨.int (g i j),H,I.tok _,⟨_,rfl⟩,q⟩
theorem opB0 {f:Value->Value->Sem Value} {g:Int->Int->Bool}
  (rule:∀ (i j:Int) (t u:Tok) (s:Shared) (Q:Value->Shared->Prop) (E:Value->Shared->Prop),Q (.bool (g i j)) s->wpAny (model X.prog X.w) X.A (f (.int i t) (.int j u)) Q E s) :
  OpR X f (rI0 fun i j=>.bl (g i j)):=by
 intro pins s σ H x y v u Q I rx ry h
 obtain ⟨i,j,rfl,rfl,q⟩:=h
 obtain ⟨t,rfl⟩:=rx
 obtain ⟨t',rfl⟩:=ry
 exact rule i j t t' s _ _ ⟨.bl (g i j),H,I,rfl,q⟩
def CDiv (i j:Int):Prop:=0 < j/\j < 1073741824
def CPow (i j:Int):Prop:=0<=j/\j<=1000000/\i.natAbs < 2 ^ 64
def CMul (i j:Int):Prop:=(-(2 ^ 64) < i/\i < 2 ^ 64)∨(-(2 ^ 64) < j/\j < 2 ^ 64)
theorem CMul.ok {i j:Int} (h:CMul i j):IntMulOk i j:=by
 rcases h with ⟨h1,h2⟩ | ⟨h1,h2⟩
 ·exact .of_left (intBits_le_64 h1 h2)
 ·exact .of_right (intBits_le_64 h1 h2)
theorem op_add:OpR X (binaryOp .Add) (rI0 fun i j=>.int (i+j)):=opI0 fun _ _ _ _ _ _ _ q=>add_int q
theorem jay:OpR X (binaryOp .Sub) (rI0 fun i j=>.int (i - j)):=opI0 fun _ _ _ _ _ _ _ q=>sub_int q
theorem op_mul:OpR X (binaryOp .Mult) (rI CMul fun i j=>.int (i * j)):=opI fun _ _ _ _ _ _ _ hc q=>mul_int q hc.ok
theorem jbf:OpR X (binaryOp .FloorDiv) (rI CDiv fun i j=>.int (i / j)):=opI fun i j _ _ _ _ _ hc q=>by
 have h1:(0:Int) < j:=hc.1
 have h2:j < 1073741824:=hc.2
 exact floordiv_int (by omega) (by rw [Int.fdiv_eq_ediv_of_nonneg i (by omega)];exact q) (.inl (PyProof.noPylong_small (by omega)))
theorem jac:OpR X (binaryOp .Mod) (rI (fun _ j=>0 < j) fun i j=>.int (i % j)):=opI fun i j _ _ _ _ _ hc q=>by
 have h1:(0:Int) < j:=hc
 exact mod_int' (by omega) (by rw [Int.fmod_eq_emod_of_nonneg i (by omega)];exact q)
theorem op_pow:OpR X (binaryOp .Pow) (rI CPow fun i j=>.int (i ^ j.toNat)):=opI fun _ _ _ _ _ _ _ hc q=>pow_int_small hc.1 hc.2.1 hc.2.2 q
theorem unI {f:Value->Sem Value} {g:Int->Int}
  (rule:∀ (i:Int) (t:Tok) (s:Shared) (Q:Value->Shared->Prop) (E:Value->Shared->Prop),Q (.int (g i) s.toks) { s with toks:=s.toks+1 }->wpAny (model X.prog X.w) X.A (f (.int i t)) Q E s) :
  UnR X f (rU fun i=>.int (g i)):=by
 intro pins s σ H x v Q I rx h
 obtain ⟨i,rfl,q⟩:=h
 obtain ⟨t,rfl⟩:=rx
 exact rule i t s _ _ ⟨.int (g i),H,I.tok _,⟨_,rfl⟩,q⟩
theorem un_neg:UnR X (unaryOp .USub) (rU fun i=>.int (-i)):=unI fun _ _ _ _ _ q=>neg_int q
end
def scal:V->V->Bool
 | .non,.non=>true | .non,.int _=>true | .int _,.non=>true | .non,.bl _=>true | .bl _,.non=>true | .non,.str _=>true | .str _,.non=>true
 | .int _,.int _=>true | .bl _,.bl _=>true | .str _,.str _=>true | .byt _,.byt _=>true
 | .int _,.str _=>true | .str _,.int _=>true | .bl _,.str _=>true | .str _,.bl _=>true
 | _,_=>false
def rEq:R2:=fun x y H Q=>scal x y=true/\Q (.bl (decide (x=y))) H
def rNe:R2:=fun x y H Q=>scal x y=true/\Q (.bl (!decide (x=y))) H
theorem dec_int {i j:Int}:decide (V.int i=V.int j)=(i == j):=by
 rw [Bool.eq_iff_iff]
 simp
theorem dec_bl {i j:Bool}:decide (V.bl i=V.bl j)=(i == j):=by
 rw [Bool.eq_iff_iff]
 simp
theorem dec_str {i j:Str}:decide (V.str i=V.str j)=(i == j):=by
 rw [Bool.eq_iff_iff]
 simp
theorem dec_byt {i j:Array UInt8}:decide (V.byt i=V.byt j)=(i.toList == j.toList):=by
 rw [Bool.eq_iff_iff]
 cases i
 cases j
 simp
section
variable {X:Cx} {a b c:Expr} {ta tb tc:TE} {pos:Pos}
theorem fin_bl {pins:List (Addr × Obj)} {σ:St} {H:Hp} {s:Shared} {Q:VK} {k k':Bool} (I:Inv X pins σ H s) (q:Q (.bl k) H) (e:k=k'):EP X pins σ Q (.bool k') s:=by
 subst e
 exact ⟨.bl k,H,I,rfl,q⟩
theorem jb2:OpR X (compareOp .Eq) rEq:=by
 intro pins s σ H x y v u Q I rx ry h
 obtain ⟨hs,q⟩:=h
 cases x with
 | non =>
  cases rx
  cases y with
  | non=>cases ry;exact PySem.EqNone.eq_none_none (fin_bl I q (by simp))
  | bl j=>cases ry;exact PySem.EqNone.eq_none_bool (fin_bl I q (by simp))
  | int j=>obtain ⟨t',rfl⟩:=ry;exact PySem.EqNone.eq_none_int (fin_bl I q (by simp))
  | str j=>obtain ⟨t',rfl⟩:=ry;exact PySem.EqNone.eq_none_str (fin_bl I q (by simp))
  | _=>exact absurd (show false=true from hs) Bool.false_ne_true
 | bl i =>
  cases rx
  cases y with
  | non=>cases ry;exact PySem.EqNone.eq_bool_none (fin_bl I q (by simp))
  | bl j=>cases ry;exact eq_bool (fin_bl I q dec_bl)
  | str j=>obtain ⟨t',rfl⟩:=ry;exact PySem.EqMixed.eq_bool_str (fin_bl I q (by simp))
  | _=>exact absurd (show false=true from hs) Bool.false_ne_true
 | int i =>
  obtain ⟨t,rfl⟩:=rx
  cases y with
  | non=>cases ry;exact PySem.EqNone.eq_int_none (fin_bl I q (by simp))
  | int j=>obtain ⟨t',rfl⟩:=ry;exact eq_int (fin_bl I q dec_int)
  | str j=>obtain ⟨t',rfl⟩:=ry;exact PySem.EqMixed.eq_int_str (fin_bl I q (by simp))
  | _=>exact absurd (show false=true from hs) Bool.false_ne_true
 | str i =>
  obtain ⟨t,rfl⟩:=rx
  cases y with
  | non=>cases ry;exact PySem.EqNone.eq_str_none (fin_bl I q (by simp))
  | bl j=>cases ry;exact PySem.EqMixed.eq_str_bool (fin_bl I q (by simp))
  | int j=>obtain ⟨t',rfl⟩:=ry;exact PySem.EqMixed.eq_str_int (fin_bl I q (by simp))
  | str j=>obtain ⟨t',rfl⟩:=ry;exact eq_str (fin_bl I q dec_str)
  | _=>exact absurd (show false=true from hs) Bool.false_ne_true
 | byt i =>
  obtain ⟨t,rfl⟩:=rx
  cases y with
  | byt j=>obtain ⟨t',rfl⟩:=ry;exact PySem.W.eq_bytes (fin_bl I q dec_byt)
  | _=>exact absurd (show false=true from hs) Bool.false_ne_true
 | _=>cases y <;> exact absurd (show false=true from hs) Bool.false_ne_true
theorem jb3:OpR X (compareOp .NotEq) rNe:=by
 intro pins s σ H x y v u Q I rx ry h
 obtain ⟨hs,q⟩:=h
 cases x with
 | non =>
  cases rx
  cases y with
  | non=>cases ry;exact PySem.EqNone.ne_none_none (fin_bl I q (by simp))
  | bl j=>cases ry;exact PySem.EqNone.ne_none_bool (fin_bl I q (by simp))
  | int j=>obtain ⟨t',rfl⟩:=ry;exact PySem.EqNone.ne_none_int (fin_bl I q (by simp))
  | str j=>obtain ⟨t',rfl⟩:=ry;exact PySem.EqNone.ne_none_str (fin_bl I q (by simp))
  | _=>exact absurd (show false=true from hs) Bool.false_ne_true
 | bl i =>
  cases rx
  cases y with
  | non=>cases ry;exact PySem.EqNone.ne_bool_none (fin_bl I q (by simp))
  | bl j=>cases ry;exact ne_bool (fin_bl I q (congrArg not dec_bl))
  | str j=>obtain ⟨t',rfl⟩:=ry;exact PySem.EqMixed.ne_bool_str (fin_bl I q (by simp))
  | _=>exact absurd (show false=true from hs) Bool.false_ne_true
 | int i =>
  obtain ⟨t,rfl⟩:=rx
  cases y with
  | non=>cases ry;exact PySem.EqNone.ne_int_none (fin_bl I q (by simp))
  | int j=>obtain ⟨t',rfl⟩:=ry;exact ne_int (fin_bl I q (congrArg not dec_int))
  | str j=>obtain ⟨t',rfl⟩:=ry;exact PySem.EqMixed.ne_int_str (fin_bl I q (by simp))
  | _=>exact absurd (show false=true from hs) Bool.false_ne_true
 | str i =>
  obtain ⟨t,rfl⟩:=rx
  cases y with
  | non=>cases ry;exact PySem.EqNone.ne_str_none (fin_bl I q (by simp))
  | bl j=>cases ry;exact PySem.EqMixed.ne_str_bool (fin_bl I q (by simp))
  | int j=>obtain ⟨t',rfl⟩:=ry;exact PySem.EqMixed.ne_str_int (fin_bl I q (by simp))
  | str j=>obtain ⟨t',rfl⟩:=ry;exact ne_str (fin_bl I q (congrArg not dec_str))
  | _=>exact absurd (show false=true from hs) Bool.false_ne_true
 | byt i =>
  obtain ⟨t,rfl⟩:=rx
  cases y with
  | byt j=>obtain ⟨t',rfl⟩:=ry;exact PySem.W.ne_bytes (fin_bl I q (congrArg not dec_byt))
  | _=>exact absurd (show false=true from hs) Bool.false_ne_true
 | _=>cases y <;> exact absurd (show false=true from hs) Bool.false_ne_true
theorem op_lt:OpR X (compareOp .Lt) (rI0 fun i j=>.bl (decide (i < j))):=opB0 fun _ _ _ _ _ _ _ q=>lt_int q
theorem op_le:OpR X (compareOp .LtE) (rI0 fun i j=>.bl (decide (i<=j))):=opB0 fun _ _ _ _ _ _ _ q=>le_int q
theorem jbm:OpR X (compareOp .Gt) (rI0 fun i j=>.bl (decide (j < i))):=opB0 fun _ _ _ _ _ _ _ q=>gt_int q
theorem op_ge:OpR X (compareOp .GtE) (rI0 fun i j=>.bl (decide (j<=i))):=opB0 fun _ _ _ _ _ _ _ q=>ge_int q
theorem op_lt_str:OpR X (compareOp .Lt) (fun x y H Q=>∃ i j,x=.str i/\y=.str j/\Q (.bl (decide (i.cps.toList < j.cps.toList))) H):=by
 intro pins s σ H x y v u Q I rx ry h
 obtain ⟨i,j,rfl,rfl,q⟩:=h
 obtain ⟨t,rfl⟩:=rx
 obtain ⟨t',rfl⟩:=ry
 exact lt_str (fin_bl I q rfl)
theorem op_isN:OpR X (compareOp .Is) (fun x y H Q=>y=.non/\Q (.bl (decide (x=.non))) H):=by
 intro pins s σ H x y v u Q I rx ry h
 obtain ⟨rfl,q⟩:=h
 cases ry
 refine is_none_gen (fin_bl I q ?_)
 cases x <;> first
  | (cases rx;rfl)
  | (obtain ⟨t,rfl⟩:=rx;rfl)
theorem j8 (b:Expr) {op:CmpOp} (h:op≠.In:=by decide) (h2:op≠.NotIn:=by decide):behindInMarks op b=false:=by
 have e1:(op == CmpOp.In)=false:=by cases op <;> first | rfl | exact absurd rfl h
 have e2:(op == CmpOp.NotIn)=false:=by cases op <;> first | rfl | exact absurd rfl h2
 cases b <;> simp [behindInMarks,e1,e2]
theorem pe_cmpR {op:CmpOp} {r:R2} (ho:OpR X (compareOp op) r) (ha:PE X a ta) (hb:PE X b tb) (hm:behindInMarks op b=false):PE X (.Compare a [op] [b] pos) (tOp r ta tb):=by
 intro pins s σ H Q I h
 exact wpAny_Compare1 (binT ha hb I h fun v u s2 x y H2 I2 rx ry q=>ho pins s2 σ H2 x y v u Q I2 rx ry q) hm
def tTest (t:TE):TT:=fun σ H Q=>t σ H fun x H'=>∃ k,x=.bl k/\Q k H'
theorem pt_cmpR {op:CmpOp} {r:R2} (ho:OpR X (compareOp op) r) (ha:PE X a ta) (hb:PE X b tb) (hm:behindInMarks op b=false):PT X (.Compare a [op] [b] pos) (tTest (tOp r ta tb)):=by
 intro pins s σ H Q I h
 refine wpAny_isTrue_Compare1 (thn (ha pins s σ H _ I h) fun v s1 ⟨x,H1,I1,r1,q1⟩=>thn (hb pins s1 σ H1 _ I1 q1) fun u s2 ⟨y,H2,I2,r2,q2⟩ =>
  thn (ho pins s2 σ H2 x y v u _ I2 r1 r2 q2) fun c s3 ⟨z,H3,I3,r3,k,e,q3⟩=>?_) hm
 subst e
 cases r3
 exact wpAny_truthy_bool ⟨H3,I3,q3⟩
def TruV (K:PySem.W.Frag) (x:V) (H:Hp) (k:Bool):Prop :=
 match x with
 | .non=>k=false
 | .bl b=>k=b
 | .int i=>k=(i != 0)
 | .str y=>y.length<=sizeLine/\k=((y.length:Int) != 0)
 | .byt y=>y.size<=sizeLine/\k=((y.size:Int) != 0)
 | .ref p=>(∃ xs,SqL K H p xs/\k=!xs.isEmpty)∨(∃ xs,SqT K H p xs/\k=!xs.isEmpty)∨∃ kvs,H p=some (.dK kvs)/\k=!kvs.isEmpty
 | _=>False
theorem isEmpty_kv {κ:Type} {kvs:List (κ × V)} {vs:List (κ × Value)} (r:KV kvs vs):(!vs.isEmpty)=!kvs.isEmpty:=by
 cases r <;> rfl
theorem isEmpty_of {xs:List V} {its:List Value} (r:Vals xs its):(!its.toArray.isEmpty)=!xs.isEmpty:=by
 cases r <;> simp
theorem line63:(sizeLine:Nat) < 2 ^ 63:=by rw [sizeLine_eq];decide
theorem tru_ok:TruR X (fun x H Q=>∃ k,TruV X.K x H k/\Q k H):=by
 intro pins s σ H x v Q I rx h
 obtain ⟨k,e,q⟩:=h
 have hl:=line63
 have hs:sizeLine=16777216:=sizeLine_eq
 cases x with
 | non =>
  cases rx
  have e':k=false:=e
  subst e'
  exact truthy_none ⟨H,I,q⟩
 | bl b =>
  cases rx
  have e':k=b:=e
  subst e'
  exact wpAny_truthy_bool ⟨H,I,q⟩
 | int i =>
  obtain ⟨t,rfl⟩:=rx
  have e':k=(i != 0):=e
  subst e'
  exact PySem.P.truthy_int ⟨H,I,q⟩
 | str y =>
  obtain ⟨t,rfl⟩:=rx
  obtain ⟨hy,e'⟩:y.length<=sizeLine/\k=((y.length:Int) != 0):=e
  subst e'
  exact PySem.P.truthy_str (by omega) ⟨H,I.tok _,q⟩
 | byt y =>
  obtain ⟨t,rfl⟩:=rx
  obtain ⟨hy,e'⟩:y.size<=sizeLine/\k=((y.size:Int) != 0):=e
  subst e'
  exact PySem.W.truthy_bytes (by omega) ⟨H,I.tok _,q⟩
 | ref p =>
  cases rx
  have e':(∃ xs,SqL X.K H p xs/\k=!xs.isEmpty)∨(∃ xs,SqT X.K H p xs/\k=!xs.isEmpty)∨∃ kvs,H p=some (.dK kvs)/\k=!kvs.isEmpty:=e
  rcases e' with ⟨xs,hx,e'⟩ | ⟨xs,hx,e'⟩ | ⟨kvs,hx,e'⟩
  ·subst e'
   obtain ⟨its,r,pl,hz⟩:=I.list hx
   have hlen:=r.length
   exact wpAny_truthy_list pl.isList (by simp only [List.size_toArray];omega) ⟨H,I.tok _,by rw [isEmpty_of r];exact q⟩
  ·subst e'
   obtain ⟨its,r,pl,hz⟩:=I.tuple hx
   have hlen:=r.length
   exact truthy_tuple pl (by simp only [List.size_toArray];omega) ⟨H,I.tok _,by rw [isEmpty_of r];exact q⟩
  ·subst e'
   obtain ⟨hz,hS,vs,r,m⟩:kvs.length<=sizeLine/\(p == sysModules)=false/\∃ vs,KV kvs vs/\s.heap.DictOf (mixKind X.prog X.w) p vs:=I.hok p _ hx
   have hlen:kvs.length=vs.length:=Paired.length r
   exact wpAny_truthy_dict hS m (by omega) ⟨H,I.tok _,by rw [isEmpty_kv r];exact q⟩
 | _=>exact (show False from e).elim
theorem op_add_str:OpR X (binaryOp .Add) (fun x y H Q=>∃ i j,x=.str i/\y=.str j/\i.length+j.length<=sizeLine/\Q (.str (i++j)) H):=by
 intro pins s σ H x y v u Q I rx ry h
 obtain ⟨i,j,rfl,rfl,hz,q⟩:=h
 obtain ⟨t,rfl⟩:=rx
 obtain ⟨t',rfl⟩:=ry
 exact add_str (fun t' tk=>⟨.str (i++j),H,I.tok _,⟨_,rfl⟩,q⟩) hz
theorem vals1 {x:V} {us:List Value} (r:Vals [x] us):∃ u,us=[u]/\RelV x u:=by
 cases r with
 | cons r1 r2=>cases r2;exact ⟨_,rfl,r1⟩
theorem vals2 {x y:V} {us:List Value} (r:Vals [x,y] us):∃ u w',us=[u,w']/\RelV x u/\RelV y w':=by
 cases r with
 | cons r1 r2 =>
  cases r2 with
  | cons r3 r4=>cases r4;exact ⟨_,_,rfl,r1,r3⟩
theorem call_max2 (hc:X.calm=true):CallR X (.builtin "max") (fun xs H Q=>∃ i j,xs=[.int i,.int j]/\Q (.int (if j > i then j else i)) H):=by
 intro pins s σ H xs us Q I r h
 obtain ⟨i,j,rfl,q⟩:=h
 obtain ⟨u,w',rfl,⟨t,rfl⟩,⟨t',rfl⟩⟩:=vals2 r
 refine max_two_ints (I.ok.hd hc) fun h' tk k=>⟨_,H,I.kept k,?_,q⟩
 by_cases hj:j > i
 ·rw [if_pos hj,if_pos hj];exact ⟨_,rfl⟩
 ·rw [if_neg hj,if_neg hj];exact ⟨_,rfl⟩
theorem call_min2 (hc:X.calm=true):CallR X (.builtin "min") (fun xs H Q=>∃ i j,xs=[.int i,.int j]/\Q (.int (if j < i then j else i)) H):=by
 intro pins s σ H xs us Q I r h
 obtain ⟨i,j,rfl,q⟩:=h
 obtain ⟨u,w',rfl,⟨t,rfl⟩,⟨t',rfl⟩⟩:=vals2 r
 refine min_two_ints (I.ok.hd hc) fun h' tk k=>⟨_,H,I.kept k,?_,q⟩
 by_cases hj:j < i
 ·rw [if_pos hj,if_pos hj];exact ⟨_,rfl⟩
 ·rw [if_neg hj,if_neg hj];exact ⟨_,rfl⟩
theorem jbx:CallR X (.type "int") (fun xs H Q=>(∃ i,xs=[.int i]/\Q (.int i) H)∨∃ k,xs=[.bl k]/\Q (.int (if k then 1 else 0)) H):=by
 intro pins s σ H xs us Q I r h
 rcases h with ⟨i,rfl,q⟩ | ⟨k,rfl,q⟩
 ·obtain ⟨u,rfl,t,rfl⟩:=vals1 r
  exact call_int_int ⟨.int i,H,I,⟨_,rfl⟩,q⟩
 ·obtain ⟨u,rfl,r1⟩:=vals1 r
  cases r1
  exact call_int_bool ⟨.int (if k then 1 else 0),H,I.tok _,⟨_,rfl⟩,q⟩
end
end L2
namespace L2
open PySem PySem.Spec PyProof.Rows
structure ObjM (h:Heap) (x dx C:Addr) (mA:Str->Option Value):Prop where
 obj:h.get? x=some (PySem.W.instObj C dx)
 ns:h.Ns1 dx mA
 ne:dx≠x
theorem lookIn_ns {h:Heap} {dx:Addr} {mA:Str->Option Value} (n:h.Ns1 dx mA):∃ od,h.get? dx=some od/\∀ name,PySem.W.lookIn name od=some (mA name):=by
 obtain ⟨o,es,ep,ho,hd,hk,_,hm⟩:=n
 refine ⟨o,ho,fun name=>?_⟩
 have e:=hm name
 unfold nsFind findBy at e
 rw [← Array.find?_toList] at e
 unfold PySem.W.lookIn
 rw [hd]
 dsimp only
 split
 ·rename_i y q
  rw [q] at e
  exact congrArg some e
 ·rename_i q
  rw [q] at e
  have a:es.toList.any (·.refKey)=false:=by
   rw [List.any_eq_false]
   intro y hy
   obtain ⟨z,t,hkey⟩:=hk y (Array.mem_toList_iff.mp hy)
   simp [DictEntry.refKey,hkey]
  have a':¬ es.toList.any (·.refKey)=true:=by rw [a];exact Bool.false_ne_true
  rw [if_neg a']
  exact congrArg some e
theorem ObjM.look {h:Heap} {x dx C:Addr} {mA:Str->Option Value} (I:ObjM h x dx C mA):∃ od,PySem.W.InstAt h x (PySem.W.instObj C dx) C (some od)/\∀ name,PySem.W.lookIn name od=some (mA name) :=
 let ⟨od,ho,hl⟩:=lookIn_ns I.ns
 ⟨od,⟨I.obj,rfl,rfl,ho⟩,hl⟩
section
variable {prog:Program} {w:World} {A:Around} {E:Value->Shared->Prop} {s:Shared} {K:PySem.W.Frag} {x dx C f:Addr} {mA:Str->Option Value} {name:Str} {v:Value}
end
theorem RelO.some_of {v:V} {o:Option Value} (r:RelO (some v) o):∃ u,o=some u/\RelV v u:=by
 cases o with
 | none=>exact (show False from r).elim
 | some u=>exact ⟨u,rfl,r⟩
section
variable {P:Program} {w:World} {H H':Hp} {h h':Heap} {a C dx:Addr} {fs fs':List (Str × V)}
theorem ins_get (hok:HOk P w H h) (e:H a=some (.ins C dx fs)):∃ mA,ObjM h a dx C mA/\(∀ f,RelO (fs.lookup f) (mA f))/\PySem.Within mA (fs.map (·.1))/\fs.length<=1000/\H dx=some (.own a):=by
 obtain ⟨d,z,ne,ob,mA,n,r,q⟩:=(show ObjOk P w H h a (.ins C dx fs) from hok a _ e)
 exact ⟨mA,⟨ob,n,ne⟩,r,q,z,d⟩
end
structure Cls (K:PySem.W.Frag) (C:Addr):Prop where
 pg:PySem.W.plainGet K C Str.empty=true
 hd:PySem.W.hasDictIn K C=true
 po:PySem.W.plainOver K C=true
 sa:PySem.W.findIn K (.ref C) "__setattr__"=some (some (.builtin "object.__setattr__"))
theorem Cls.get {K:PySem.W.Frag} {C:Addr} (c:Cls K C) (f:Str):PySem.W.plainGet K C f=true:=c.pg
section
variable {X:Cx} {pins:List (Addr × Obj)} {σ:St} {H:Hp} {s:Shared} {a C dx:Addr} {fs:List (Str × V)} {f:Str} {v:V} {A:Around} {E:Value->Shared->Prop}
end
def InOp (X:Cx) (op:Operator) (rd:V->V->Hp->VK->Prop):Prop :=
 ∀ (pins:List (Addr × Obj)) (s:Shared) (σ:St) (H:Hp) (x y:V) (u v:Value) (Q:VK),Inv X pins σ H s->RelV x u->RelV y v->rd x y H Q->wpAny (model X.prog X.w) X.A (inplaceOp op u v) (EP X pins σ Q) X.xe s
section
variable {X:Cx} {o e value:Expr} {f:Str} {pos pos' tpos:Pos} {ta tv:TE}
end
section
variable {X:Cx} {pins:List (Addr × Obj)} {σ:St} {H:Hp} {s:Shared} {A:Around} {E:Value->Shared->Prop} {Q:Value->Shared->Prop} {c:Value} {b:Bool}
inductive TyOf (K:PySem.W.Frag) (H:Hp):V->Value->Prop where
 | non:TyOf K H .non (.type "NoneType")
 | bl (x:Bool):TyOf K H (.bl x) (.type "bool")
 | int (i:Int):TyOf K H (.int i) (.type "int")
 | str (x:Str):TyOf K H (.str x) (.type "str")
 | flt (x:UInt64):TyOf K H (.flt x) (.type "float")
 | lst {a:Addr} {xs:List V} (e:H a=some (.lst xs)):TyOf K H (.ref a) (.type "list")
 | frz {a:Addr} {o:Obj} {xs:List V} (e:H a=some (.frz o (.lst xs))):TyOf K H (.ref a) (.type "list")
 | tup {a:Addr} {xs:List V} (e:H a=some (.tup xs)):TyOf K H (.ref a) (.type "tuple")
 | dK {a:Addr} {kvs:List (Key × V)} (e:H a=some (.dK kvs)):TyOf K H (.ref a) (.type "dict")
 | dT {a:Addr} {kvs:List (List Key × V)} (e:H a=some (.dT kvs)):TyOf K H (.ref a) (.type "dict")
 | ins {a C dx:Addr} {fs:List (Str × V)} (e:H a=some (.ins C dx fs)) (cl:Cls K C) (ha:PySem.W.findIn K (.ref C) "__class__"=some (some (.builtin "object.__class__")))
   (hn:PySem.W.specialIn K (.builtin "object.__class__") "__get__"=some (some (.builtin "getset_descriptor.__get__"))) (htk:PySem.W.takesIn K (.builtin "object.__class__")=some true)
   (hm:PySem.W.mroIn K C (.type "object")=some true):TyOf K H (.ref a) (.ref C)
theorem isinst_ok {x:V} {u t:Value} (I:Inv X pins σ H s) (rx:RelV x u) (ty:TyOf X.K H x t) (e:PySem.W.kitOne X.K t c=some b) (h:∀ tk,Q (.bool b) { s with toks:=tk }) :
  wpAny (model X.prog X.w) A (call (.builtin "isinstance") [u,c]) Q E s:=by
 cases ty with
 | non=>cases (show u=Value.none from rx);exact PySem.W.kia_one PySem.W.kitx_none I.kIn True.intro e (fun z=>nomatch z) h
 | bl y=>cases (show u=Value.bool y from rx);exact PySem.W.kia_one PySem.W.kitx_bool I.kIn True.intro e (fun z=>nomatch z) h
 | int i=>obtain ⟨t,q⟩:=(show ∃ t,u=Value.int i t from rx);cases q;exact PySem.W.kia_one PySem.W.kitx_int I.kIn True.intro e (fun z=>nomatch z) h
 | str y=>obtain ⟨t,q⟩:=(show ∃ t,u=Value.str y t from rx);cases q;exact PySem.W.kia_one PySem.W.kitx_str I.kIn True.intro e (fun z=>nomatch z) h
 | flt y=>obtain ⟨t,q⟩:=(show ∃ t,u=Value.float y t from rx);cases q;exact PySem.W.kia_one PySem.W.kitx_float I.kIn True.intro e (fun z=>nomatch z) h
 | @lst a xs ea =>
  cases (show u=Value.ref a from rx)
  obtain ⟨_,_,n,_,h1⟩:=(show ObjOk X.prog X.w H s.heap a (.lst xs) from I.hok a _ ea)
  exact PySem.W.kia_one PySem.W.kitx_list I.kIn ⟨_,h1,rfl⟩ e (fun z=>nomatch z) h
 | @frz a ob xs ea =>
  cases (show u=Value.ref a from rx)
  obtain ⟨_,_,_,n,_,h1⟩:=(show ObjOk X.prog X.w H s.heap a (.frz ob (.lst xs)) from I.hok a _ ea)
  exact PySem.W.kia_one PySem.W.kitx_list I.kIn ⟨_,h1,rfl⟩ e (fun z=>nomatch z) h
 | @tup a xs ea =>
  cases (show u=Value.ref a from rx)
  obtain ⟨_,_,_,p⟩:=(show ObjOk X.prog X.w H s.heap a (.tup xs) from I.hok a _ ea)
  obtain ⟨o,h1,h2,_⟩:=p
  exact PySem.W.kia_one PySem.W.kitx_tuple I.kIn ⟨o,h1,h2⟩ e (fun z=>nomatch z) h
 | @dK a kvs ea =>
  cases (show u=Value.ref a from rx)
  obtain ⟨_,_,vs,_,p⟩:=(show ObjOk X.prog X.w H s.heap a (.dK kvs) from I.hok a _ ea)
  obtain ⟨o,es,ep,h1,h2,_⟩:=p
  exact PySem.W.kia_one PySem.W.kitx_dict I.kIn ⟨o,h1,h2.1⟩ e (fun z=>nomatch z) h
 | @dT a kvs ea =>
  cases (show u=Value.ref a from rx)
  obtain ⟨_,_,xs,_,o,es,ep,h1,h2,_⟩:=(show ObjOk X.prog X.w H s.heap a (.dT kvs) from I.hok a _ ea)
  exact PySem.W.kia_one PySem.W.kitx_dict I.kIn ⟨o,h1,h2.1⟩ e (fun z=>nomatch z) h
 | @ins a C dx fs ea cl ha hn htk hm =>
  cases (show u=Value.ref a from rx)
  obtain ⟨mA,O,_⟩:=ins_get I.hok ea
  obtain ⟨od,J,_⟩:=O.look
  exact PySem.W.kia_one (PySem.W.kitx_own (cl.get _) cl.hd ha hn htk hm) I.kIn J e (fun z=>nomatch z) h
end
end L2
namespace L2
open PySem PySem.Spec PyProof.Rows
structure Room (k:Nat) (A:Around):Prop where
 hd:A.handled=none
 dp:A.depth+3 * k+5 < recursionLimit
 un:A.units+16 * k+200 < cLine
 gd:A.guards=some []
theorem Room.mono {j k:Nat} {A:Around} (r:Room k A) (h:j<=k):Room j A:=⟨r.hd,by have:=r.dp;omega,by have:=r.un;omega,r.gd⟩
theorem Room.deeper {k:Nat} {A:Around} (r:Room (k+1) A) (env:Env):Room k (A.deeper env) :=
 ⟨r.hd,by have:=r.dp;show A.depth+1+3 * k+5 < _;omega,by have:=r.un;show A.units+3+16 * k+200 < _;omega,r.gd⟩
theorem Room.depth {k:Nat} {A:Around} (r:Room k A):A.depth < recursionLimit:=by have:=r.dp;omega
theorem Room.units {k:Nat} {A:Around} (r:Room k A):A.units+64 < cLine:=by have:=r.un;omega
def tNil:TA:=fun _ H Q=>Q [] H
def tCons (ta:TE) (tr:TA):TA:=fun σ H Q=>ta σ H fun x H1=>tr σ H1 fun xs H2=>Q (x::xs) H2
section
variable {X:Cx} {e:Expr} {es:List Expr} {te:TE} {t:TA} {pos:Pos}
theorem pa_nil:PA X [] tNil:=fun _ _ _ _ H Q I h=>Calls.spliced_nil ⟨[],H,I,.nil,h⟩
theorem pa_cons (ha:PE X e te) (hr:PA X es t) (hs:starEach (e::es) X.env=(false,eval e X.env)::starEach es X.env:=by rfl):PA X (e::es) (tCons te t):=by
 intro pos pins s σ H Q I h
 rw [hs]
 show wpAny _ _ (spliced ((false,eval e X.env)::backTo pos (starEach es X.env))) _ _ s
 refine Calls.spliced_cons (thn (ha pins s σ H _ I h) fun u s1 ⟨x,H1,I1,r1,q1⟩=>?_)
 exact thn (hr pos pins s1 σ H1 _ I1 q1) fun us s2 ⟨xs,H2,I2,r2,q2⟩=>⟨x::xs,H2,I2,.cons r1 r2,q2⟩
def tTup (t:TA):TE:=fun σ H Q=>t σ H fun xs H1=>xs.length<=sizeLine/\∀ p,H1 p=none->Q (.ref p) (upd H1 p (.tup xs))
def tLst (t:TA):TE:=fun σ H Q=>t σ H fun xs H1=>xs.length<=sizeLine/\∀ p,H1 p=none->Q (.ref p) (upd H1 p (.lst xs))
theorem pe_tup {x1} (h:PA X es t):PE X (.Tuple es x1 pos) (tTup t):=by
 intro pins s σ H Q I hq
 refine wpAny_Tuple_spliced (thn (h pos pins s σ H _ I hq) fun us s1 ⟨xs,H1,I1,r,z,q⟩=>⟨by rw [← r.length];exact z,?_⟩)
 have hf:H1 s1.heap.objs.size=none:=I1.hok.fresh (Nat.le_refl _)
 refine ⟨.ref s1.heap.objs.size,upd H1 s1.heap.objs.size (.tup xs),I1.laid (t':=s1.toks) (fun b u e=>Heap.get?_push_of_some _ e) (Nat.le_refl _) ?_,rfl,q _ hf⟩
 exact ⟨z,us,r,⟨_,Heap.get?_push_size _ rfl,rfl,_,rfl⟩⟩
theorem pe_lst (h:PA X es t):PE X (.List es pos) (tLst t):=by
 intro pins s σ H Q I hq
 refine wpAny_List_spliced (thn (h pos pins s σ H _ I hq) fun us s1 ⟨xs,H1,I1,r,z,q⟩=>⟨by rw [← r.length];exact z,?_⟩)
 have hf:H1 s1.heap.objs.size=none:=I1.hok.fresh (Nat.le_refl _)
 refine ⟨.ref s1.heap.objs.size,upd H1 s1.heap.objs.size (.lst xs),I1.laid (t':=s1.toks) (fun b u e=>Heap.get?_push_of_some _ e) (Nat.le_refl _) ?_,rfl,q _ hf⟩
 exact ⟨z,us,0,r,Heap.get?_push_size _ rfl⟩
end
abbrev Sp:=List V->Hp->VK->XK->Prop
abbrev CXT:=List Env->Hp->Shared->XK->Value->Shared->Prop
structure Env0 (P:Program) (w:World) (K:PySem.W.Frag) (mg:Str->Option Value) (base:Heap) (A:Around) (outer:List Env) (s:Shared) (H:Hp):Prop where
 frames:A.frames=some outer
 mod:Mod K mg base
 bs:∀ b o,base.get? b=some o->s.heap.get? b=some o/\H b=none
 bsz:base.objs.size<=s.heap.objs.size
 funs:s.heap.FunFrames base outer
 frf:∀ b ∈ frs outer,H b=none
 hok:HOk P w H s.heap
 bare:AllBare s.gens
def CE (outer:List Env) (P:Program) (w:World) (H:Hp) (s:Shared) (Q:VK) (u:Value) (s':Shared):Prop :=
 ∃ v H',s'.os=s.os/\AllBare s'.gens/\Un (frs outer) [] H H' s.heap s'.heap/\HOk P w H' s'.heap/\RelV v u/\Q v H'
def CR (CX:CXT) (outer:List Env) (P:Program) (w:World) (H:Hp) (s:Shared) (Q:VK) (E:XK) (r:Result) (s':Shared):Prop :=
 match r with
 | .ok (.ret u)=>CE outer P w H s Q u s'
 | .ok _=>False
 | .error e=>CX outer H s E e s'
structure FnOk (P:Program) (w:World) (K:PySem.W.Frag) (mg:Str->Option Value) (base:Heap) (CX:CXT) (k:Nat) (f:Addr) (fd:FuncData) (ps:List Str) (sp:Sp):Prop where
 len:∀ vs H Q E,sp vs H Q E->vs.length=ps.length
 run:∀ (A:Around) (outer:List Env) (s:Shared) (H:Hp) (args:Args) (us:List Value) (vs:List V) (Q:VK) (E:XK),Room k A->Env0 P w K mg base A outer s H->BindsTo s fd args (ps.zip us)->Vals vs us->sp vs H Q E ->
  codeAny (model P w) A (.call (.ref f) args) (CR CX outer P w H s Q E) s
section
variable {X:Cx} {pins:List (Addr × Obj)} {σ:St} {H:Hp} {s s':Shared}
theorem Inv.env0 (I:Inv X pins σ H s):Env0 X.prog X.w X.K X.mg X.base X.A X.stack s H :=
 ⟨I.ok.frames,I.ok.mod,I.bs,Nat.le_trans I.ok.bsz I.sz,I.stack,I.stkFree,I.hok,I.bare⟩
theorem Inv.after {Q:VK} {u:Value} (I:Inv X pins σ H s) (h:CE X.stack X.prog X.w H s Q u s'):EP X pins σ Q u s':=by
 obtain ⟨v,H',os,bare,un,hok,r,q⟩:=h
 obtain ⟨hh,g,d,t,os'⟩:=s'
 obtain rfl:os'=s.os:=os
 exact ⟨v,H',I.call (h':=hh) (g':=g) (d':=d) (t':=t) (ch:=[]) un hok bare (fun b z=>absurd z (by simp)),r,q⟩
end
def tCall (sp:Sp) (dvs:List V) (E:XK) (t:TA):TE:=fun σ H Q=>t σ H fun vs H1=>sp (vs++dvs) H1 Q E
def Binds (K:PySem.W.Frag) (fd:FuncData) (ps:List Str) (ds:List Value):Prop :=
 ∀ (s:Shared) (us:List Value),K.In s.heap->(us++ds).length=ps.length->BindsTo s fd ⟨us,[]⟩ (ps.zip (us++ds))
theorem Binds.all {K:PySem.W.Frag} {fd:FuncData} {ps:List Str} (h:∀ us:List Value,us.length=ps.length->bindArgs fd ⟨us,[]⟩=pure (ps.zip us)):Binds K fd ps []:=fun s us _ hl=>by
 rw [List.append_nil] at hl ⊢
 exact .of_eq (h us hl)
def Passes (CX:CXT) (X:Cx) (E:XK):Prop:=∀ (pins:List (Addr × Obj)) (σ:St) (H:Hp) (s:Shared) (e:Value) (s':Shared),Inv X pins σ H s->CX X.stack H s E e s'->X.xe e s'
section
variable {X:Cx} {CX:CXT} {k:Nat} {f C:Addr} {fd:FuncData} {ps:List Str} {sp:Sp} {dvs:List V} {ds:List Value} {E:XK} {x m:Str} {p pos apos:Pos} {e o:Expr} {es:List Expr} {ta:TE} {t:TA}
theorem run_fn {pins:List (Addr × Obj)} {σ:St} {H:Hp} {s:Shared} {Q:VK} {us:List Value} {vs:List V} (F:FnOk X.prog X.w X.K X.mg X.base CX k f fd ps sp) (hr:Room k X.A) (hb:Binds X.K fd ps ds) (hd:Vals dvs ds) (hx:Passes CX X E)
  (I:Inv X pins σ H s) (r:Vals vs us) (h:sp (vs++dvs) H Q E):wpAny (model X.prog X.w) X.A (call (.ref f) us) (EP X pins σ Q) X.xe s:=by
 have r2:Vals (vs++dvs) (us++ds):=r.append hd
 have hl:(us++ds).length=ps.length:=by rw [← r2.length];exact F.len _ _ _ _ h
 refine wpAny_call (codeAny_mono (F.run X.A X.stack s H ⟨us,[]⟩ (us++ds) (vs++dvs) Q E hr I.env0 (hb s us I.kIn hl) r2 h) fun r s' hq=>?_)
 cases r with
 | error e=>exact hx pins σ H s e s' I hq
 | ok fl =>
  cases fl with
  | ret u=>exact I.after hq
  | next=>exact False.elim hq
  | brk=>exact False.elim hq
  | cont=>exact False.elim hq
theorem pe_call (F:FnOk X.prog X.w X.K X.mg X.base CX k f fd ps sp) (hr:Room k X.A) (hg:Gl X x) (hm:X.mg x=some (.ref f)) (hk:PySem.W.keepIn X.K (.ref f)=true) (hb:Binds X.K fd ps ds) (hd:Vals dvs ds) (hx:Passes CX X E)
  (ha:PA X (e::es) t) (hdb:(x == ("__debug__":Str))=false:=by decide) (he:starEach (e::es) X.env=(false,eval e X.env)::starEach es X.env:=by rfl) (hpl:(backTo pos (starEach es X.env)).any (·.1)=false:=by rfl) :
  PE X (.Call (.Name x p) (e::es) [] pos) (tCall sp dvs E t):=by
 intro pins s σ H Q I h
 refine wpAny_Call_Name_kw (ld_glob I hg hm ?_ hdb)
 refine PySem.W.callWith_K (h₀:=X.base) I.ok.mod.kin hk (thn (ha pos pins s σ H _ I h) fun us s1 ⟨vs,H1,I1,r,q⟩=>⟨I1.kIn,?_⟩) he hpl
 exact run_fn F hr hb hd hx I1 r q
end
section
variable {X:Cx} {CX:CXT} {k:Nat} {f C:Addr} {fd:FuncData} {ps ks:List Str} {sp:Sp} {E:XK} {x m:Str} {p pos apos kpos:Pos} {e o:Expr} {es:List Expr} {kws:List Keyword} {te ta:TE} {t tk:TA} {nm:Option Str}
variable {g:List Value->List Value->List Value} {gV:List V->List V->List V}
end
structure FnScope (N P:List Str) (sc:Scope):Prop where
 kind:sc.kind=.function
 co:sc.isCoroutine=false
 gen:sc.isGenerator=false
 nd:N.Nodup
 pre:N.take P.length=P
 par:∀ x ∈ P,sc.names.lookup x=some .local∨sc.names.lookup x=some .cell
 nofree:∀ y ∈ sc.names,y.2≠.free
theorem bindL_out {kindOf:Str->Option NameKind} {x:Str}:∀ {binds:List (Str × Value)} {m:Str->Option Value},(∀ v,(x,v) ∉ binds)->bindL kindOf binds m x=m x
 | [],_,_=>rfl
 | (n,v)::r,m,h=>by
  unfold bindL
  rw [bindL_out fun w hw=>h w (List.mem_cons_of_mem _ hw)]
  split
  ·have:x≠n:=by rintro rfl;exact h v List.mem_cons_self
   simp [this]
  ·rfl
theorem bindC_out {kindOf:Str->Option NameKind} {x:Str}:∀ {binds:List (Str × Value)} {m:Str->Option Value},(∀ v,(x,v) ∉ binds)->bindC kindOf binds m x=m x
 | [],_,_=>rfl
 | (n,v)::r,m,h=>by
  unfold bindC
  rw [bindC_out fun w hw=>h w (List.mem_cons_of_mem _ hw)]
  split
  ·rfl
  ·have:x≠n:=by rintro rfl;exact h v List.mem_cons_self
   simp [this]
theorem bindL_get {kindOf:Str->Option NameKind} {x:Str} {v:Value}:∀ {P:List Str} {vs:List Value} {i:Nat} {m:Str->Option Value},P.Nodup->P[i]?=some x->vs[i]?=some v->kindOf x=some .local ->
  bindL kindOf (P.zip vs) m x=some v
 | [],_,_,_,_,h,_,_=>by simp at h
 | _::_,[],_,_,_,_,h,_=>by simp at h
 | p::P,w::vs,0,m,nd,h1,h2,hk=>by
  simp at h1 h2;subst h1;subst h2
  show bindL kindOf ((p,w)::P.zip vs) m p=_
  unfold bindL
  rw [bindL_out fun v hv=>(List.nodup_cons.mp nd).1 (List.of_mem_zip hv).1,if_pos hk]
  simp
 | p::P,w::vs,i+1,m,nd,h1,h2,hk=>by
  show bindL kindOf ((p,w)::P.zip vs) m x=_
  unfold bindL
  exact bindL_get (i:=i) (List.nodup_cons.mp nd).2 (by simpa using h1) (by simpa using h2) hk
theorem bindC_get {kindOf:Str->Option NameKind} {x:Str} {v:Value}:∀ {P:List Str} {vs:List Value} {i:Nat} {m:Str->Option Value},P.Nodup->P[i]?=some x->vs[i]?=some v->kindOf x≠some .local ->
  bindC kindOf (P.zip vs) m x=some v
 | [],_,_,_,_,h,_,_=>by simp at h
 | _::_,[],_,_,_,_,h,_=>by simp at h
 | p::P,w::vs,0,m,nd,h1,h2,hk=>by
  simp at h1 h2;subst h1;subst h2
  show bindC kindOf ((p,w)::P.zip vs) m p=_
  unfold bindC
  rw [bindC_out fun v hv=>(List.nodup_cons.mp nd).1 (List.of_mem_zip hv).1,if_neg hk]
  simp
 | p::P,w::vs,i+1,m,nd,h1,h2,hk=>by
  show bindC kindOf ((p,w)::P.zip vs) m x=_
  unfold bindC
  exact bindC_get (i:=i) (List.nodup_cons.mp nd).2 (by simpa using h1) (by simpa using h2) hk
def start (N:List Str) (vs:List V):St:=vs.map some++List.replicate (N.length - vs.length) none
def cxOf (CX:CXT) (P:Program) (w:World) (K:PySem.W.Frag) (mg:Str->Option Value) (base:Heap) (N:List Str) (qual:Str) (scope:Scope) (f:Addr) (cd:Value) (A:Around) (outer:List Env) (s:Shared) (H:Hp) (E:XK):Cx where
 prog:=P
 w:=w
 K:=K
 mg:=mg
 base:=base
 A:=A.deeper (envOfC qual scope s.heap.objs.size f cd)
 N:=N
 s₀:=s
 H₀:=H
 env:=envOfC qual scope s.heap.objs.size f cd
 outer:=outer
 stack:=envOfC qual scope s.heap.objs.size f cd::outer
 ex:=[]
 calm:=true
 fn:=fun _=>true
 pn:=[]
 xe:=fun e s'=>wpAny (model P w) (A.deeper (envOfC qual scope s.heap.objs.size f cd)) (leaving (envOfC qual scope s.heap.objs.size f cd) e) (fun _ s''=>CX outer H s E e s'') (fun e' s''=>CX outer H s E e' s'') s'
theorem cell_has {sc:Scope} {n:Nat} {x:Str} (h:sc.names.lookup x=some .cell):∃ c,(cellsFrom n sc.names []).lookup x=some c:=by
 have q:=PySem.W.cellsFrom_some sc.names n [] (.inl h)
 exact Option.isSome_iff_exists.mp q
theorem inv_start {CX:CXT} {P:Program} {w:World} {K:PySem.W.Frag} {mg:Str->Option Value} {base:Heap} {N ps:List Str} {qual:Str} {scope:Scope} {f:Addr} {cd:Value} {A:Around} {outer:List Env} {s s1:Shared} {H:Hp} {E:XK} {us:List Value} {vs:List V}
  (S:FnScope N ps scope) (hd:A.handled=none) (e0:Env0 P w K mg base A outer s H) (hl:vs.length=ps.length) (r:Vals vs us)
  (x:InCallC s s.heap.objs.size (bindL (envOfC qual scope s.heap.objs.size f cd).kindOf (ps.zip us) fun _=>none) (cellsFrom (s.heap.objs.size+1) scope.names []) (bindC (envOfC qual scope s.heap.objs.size f cd).kindOf (ps.zip us) fun _=>none) s1) :
  Inv (cxOf CX P w K mg base N qual scope f cd A outer s H E) [] (start N vs) H s1:=by
 have hpl:ps.length<=N.length:=by have:=congrArg List.length S.pre;rw [List.length_take] at this;omega
 obtain ⟨h1,tk,rfl,hk⟩:=x.done
 have noA:∀ b:Addr,b ∉ (cxOf CX P w K mg base N qual scope f cd A outer s H E).ex:=fun b z=>absurd (show b ∈ ([]:List Addr) from z) (by simp)
 refine ⟨⟨e0.mod,S.kind,rfl,rfl,Nat.le_refl _,fun y z c h1 h2=>?_,fun y hy=>?_,fun y c _ h=>?_,fun _=>hd,Around.frames_deeper e0.frames,.inr ⟨rfl,rfl⟩,fun b z=>absurd z (noA b),e0.bs,e0.bsz,fun b _ _=>noA b,fun b z=>absurd z (noA b),e0.funs,e0.frf⟩,
  rfl,e0.bare,Un.kept hk,⟨_,x.toInCall.ns,fun i y v h1 h2 h3=>?_⟩,fun y c h=>⟨_,x.cell y c h⟩,e0.hok.fresh (Nat.le_refl _),fun y c h=>?_,fun p hp=>absurd (show p ∈ ([]:List (Addr × Obj)) from hp) (by simp),e0.hok.kept hk,?_⟩
 ·exact name_of_addr x.apart (PySem.mem_of_lookup h1) (PySem.mem_of_lookup h2)
 ·have hy:scope.names.lookup y=some .cell∨scope.names.lookup y=some .free:=hy
  rcases hy with hy | hy
  ·exact cell_has hy
  ·exact absurd rfl (S.nofree _ (PySem.mem_of_lookup hy))
 ·exact Nat.le_of_lt (x.above y c (PySem.mem_of_lookup h))
 ·have hi:i < vs.length:=by
   unfold start at h2
   by_cases hi:i < vs.length
   ·exact hi
   ·rw [List.getElem?_append_right (by simpa using hi)] at h2
    rw [List.getElem?_replicate] at h2
    split at h2 <;> cases h2
  have ha:vs[i]?=some v:=by
   unfold start at h2
   rw [List.getElem?_append_left (by simpa using hi),List.getElem?_map] at h2
   cases e:vs[i]? with
   | none=>rw [e] at h2;cases h2
   | some a=>rw [e] at h2;cases h2;rfl
  obtain ⟨u,hu,rv⟩:=r.get ha
  have hp:ps[i]?=some y:=by
   rw [← S.pre,List.getElem?_take_of_lt (by omega)];exact h1
  have ndP:ps.Nodup:=by rw [← S.pre];exact S.nd.sublist (List.take_sublist _ _)
  refine ⟨u,rv,?_⟩
  rcases S.par y (List.mem_of_getElem? hp) with k | k
  ·exact .inl ⟨k,bindL_get ndP hp hu k⟩
  ·obtain ⟨c,e⟩:=cell_has (n:=s.heap.objs.size+1) k
   refine .inr ⟨.inl k,c,e,?_⟩
   have q:=x.cell y c e
   rw [bindC_get ndP hp hu (by show scope.names.lookup y≠_;rw [k];decide)] at q
   exact q
 ·exact e0.hok.fresh (Nat.le_of_lt (x.above y c (PySem.mem_of_lookup h)))
 ·unfold start
  show _=N.length
  rw [List.length_append,List.length_map,List.length_replicate]
  omega
theorem fn_of {CX:CXT} {P:Program} {w:World} {K:PySem.W.Frag} {mg:Str->Option Value} {base:Heap} {k:Nat} {f:Addr} {name qual:Str} {params:Arguments} {body:List Stmt} {scope:Scope} {dV kV doc pm cdv ct oc:Value} {an od:Option Addr}
  {osl:Array (Option Value)} {N ps:List Str} {sp:Sp} (lk:K.lookup f=some ⟨oc,od,.func (PySem.W.fnOf name qual params body scope dV kV doc pm an cdv ct),osl⟩) (hcd:PySem.W.codeIn K cdv qual=true) (S:FnScope N ps scope)
  (len:∀ vs H Q E,sp vs H Q E->vs.length=ps.length)
  (hbody:∀ (A:Around) (outer:List Env) (s:Shared) (H:Hp) (vs:List V) (Q:VK) (E:XK),Room k (A.deeper (envOfC qual scope s.heap.objs.size f cdv))->sp vs H Q E ->
   ∃ t,PSs (cxOf CX P w K mg base N qual scope f cdv A outer s H E) body t/\t { nx:=fun _ H'=>Q .non H',rt:=Q } (start N vs) H) :
  FnOk P w K mg base CX (k+1) f (PySem.W.fnOf name qual params body scope dV kV doc pm an cdv ct) ps sp:=by
 refine ⟨len,fun A outer s H args us vs Q E hr e0 hb r hsp=>?_⟩
 have hl:=len _ _ _ _ hsp
 have KX:K.In s.heap:=e0.mod.kin.keeps fun b o e=>(e0.bs b o e).1
 have lim:s.heap.NoLimit:=e0.mod.nolimit.keeps fun b o e=>(e0.bs b o e).1
 have hkind:∀ y ∈ ps.zip us,scope.names.lookup y.1=some .local∨(scope.names.lookup y.1=some .cell/\((cellsFrom (s.heap.objs.size+1) scope.names []).lookup y.1).isSome=true):=fun ⟨n,v⟩ hy=>by
  rcases S.par n (List.of_mem_zip hy).1 with q | q
  ·exact .inl q
  ·exact .inr ⟨q,PySem.W.cellsFrom_some _ _ _ (.inl q)⟩
 refine codeAny_call_function hr.depth (KX _ _ lk) rfl S.co S.gen rfl (PySem.W.codeRec_of KX hcd) (hb _ _ _ _ ?_)
 refine wpAny_newFunctionEnv_cells S.kind hkind fun env he s1 x=>?_
 subst he
 refine ⟨lim.keeps x.toInCall.keep,codeAny_func ?_⟩
 obtain ⟨t,ht,hq⟩:=hbody A outer s H vs Q E (hr.deeper _) hsp
 have I:Inv (cxOf CX P w K mg base N qual scope f cdv A outer s H E) [] (start N vs) H s1:=inv_start S hr.hd e0 hl r x
 refine wpAny_mono (ht [] s1 (start N vs) H _ I hq) (fun fl s' hs=>?_) fun e s' hs=>hs
 have fin:∀ {σ':St} {H':Hp} {v:V} {u:Value},Inv (cxOf CX P w K mg base N qual scope f cdv A outer s H E) [] σ' H' s'->RelV v u->Q v H'->CE outer P w H s Q u s' :=
  fun {σ' H' v u} J rv q=>⟨v,H',J.os,J.bare,J.base,J.hok,rv,q⟩
 cases fl with
 | ret u =>
  obtain ⟨v,σ',H',J,rv,q⟩:=hs
  exact fin J rv q
 | next =>
  obtain ⟨σ',H',J,q⟩:=hs
  exact fin (v:=V.non) (u:=Value.none) J rfl q
 | brk =>
  obtain ⟨_,_,_,q⟩:=hs
  exact False.elim q
 | cont =>
  obtain ⟨_,_,_,q⟩:=hs
  exact False.elim q
end L2
namespace L2
open PySem PySem.Spec PyProof.Rows
section
variable {X:Cx} {x:Str} {p pos:Pos} {e:Expr} {es:List Expr} {t:TA} {id T:String} {r:List V->Hp->VK->Prop}
def tCB (r:List V->Hp->VK->Prop) (t:TA):TE:=fun σ H Q=>t σ H fun vs H1=>r vs H1 Q
theorem pe_callB (hc:CallR X (.builtin id) r) (hg:Gl X x) (hm:X.mg x=none) (hv:bootBuiltins x=some (.builtin id)) (ha:PA X (e::es) t) (hn:x≠"__name__":=by decide) (hdb:(x == ("__debug__":Str))=false:=by decide)
  (he:starEach (e::es) X.env=(false,eval e X.env)::starEach es X.env:=by rfl) (hpl:(backTo pos (starEach es X.env)).any (·.1)=false:=by rfl):PE X (.Call (.Name x p) (e::es) [] pos) (tCB r t):=by
 intro pins s σ H Q I h
 refine wpAny_Call_Name_kw (ld_blt I hg hm hv ?_ hn hdb)
 exact PyProof.Rows.callWith_builtin1 (thn (ha pos pins s σ H _ I h) fun us s1 ⟨vs,H1,I1,r1,q1⟩=>hc pins s1 σ H1 vs us Q I1 r1 q1) he hpl
theorem pe_callTy (hc:CallR X (.type T) r) (hg:Gl X x) (hm:X.mg x=none) (hv:bootBuiltins x=some (.type T)) (ha:PA X (e::es) t) (hn:x≠"__name__":=by decide) (hdb:(x == ("__debug__":Str))=false:=by decide)
  (he:starEach (e::es) X.env=(false,eval e X.env)::starEach es X.env:=by rfl) (hpl:(backTo pos (starEach es X.env)).any (·.1)=false:=by rfl):PE X (.Call (.Name x p) (e::es) [] pos) (tCB r t):=by
 intro pins s σ H Q I h
 refine wpAny_Call_Name_kw (ld_blt I hg hm hv ?_ hn hdb)
 exact PyProof.Rows.callWith_type1 (thn (ha pos pins s σ H _ I h) fun us s1 ⟨vs,H1,I1,r1,q1⟩=>hc pins s1 σ H1 vs us Q I1 r1 q1) he hpl
end
end L2
namespace HT
open PySem PyProof.Rows
section
open PySem.SeqAt
open PySem.AutoSeq1 (wpAny_loadPart')
open PySem.MeetsSeq PySem.MeetsSeq2 PySem.MeetsSeq3
end
section
variable {prog:Program} {w:World} {A:Around} {E:Value->Shared->Prop} {s:Shared}
theorem cat_tup {t b:Addr} {vs ws:List Value} {Q:Value->Shared->Prop} (ht:IsTup s.heap t vs.toArray) (hb:IsTup s.heap b ws.toArray) (hv:vs≠[])
  (h1:ws=[]->Q (.ref t) s) (h2:ws≠[]->Q (.ref s.heap.objs.size) { s with heap:=s.heap.push { cls:=.type "tuple",data:=.seq (vs++ws).toArray } })
  (hsz:vs.length+ws.length<=sizeLine):wpAny (model prog w) A (binaryOp .Add (.ref t) (.ref b)) Q E s:=by
 obtain ⟨⟨cls,dd,data,sl⟩,ho,hc,n,hd⟩:=id ht
 obtain ⟨⟨cls2,dd2,data2,sl2⟩,ho2,hc2,n2,hd2⟩:=id hb
 simp only at hc hd hc2 hd2
 subst hc hd hc2 hd2
 have e:vs.toArray++ws.toArray=(vs++ws).toArray:=by simp
 by_cases hw:ws=[]
 ·exact concat_meets ⟨_,ho,rfl⟩ ⟨_,ho2,rfl⟩ noFill_tuple_add seq_tuple_add PySem.F.slot_tuple_add PySem.F.entry_tuple_add (PySem.F.args_tuple_add_2 _ _)
   (tuple_addW1 t b vs.toArray ws.toArray n n2 dd dd2 sl sl2 (by simpa using hv) (by simp [hw])) ⟨ho,ho2,h1 hw⟩
 ·refine concat_meets ⟨_,ho,rfl⟩ ⟨_,ho2,rfl⟩ noFill_tuple_add seq_tuple_add PySem.F.slot_tuple_add PySem.F.entry_tuple_add (PySem.F.args_tuple_add_2 _ _)
   (tuple_addW2 t b vs.toArray ws.toArray n n2 dd dd2 sl sl2 (by simpa using hv) (by simpa using hw) (by rw [List.size_toArray,List.size_toArray];exact hsz)) ⟨ho,ho2,?_⟩
  rw [e]
  exact h2 hw
def sIx (n d:Nat):Option Int->Nat
 | none=>d
 | some v=>if v < 0 then (v+(n:Int)).toNat else min v.toNat n
theorem sIx_none (n d:Nat):sIx n d none=d:=rfl
theorem sIx_nat (n d k:Nat):sIx n d (some (k:Int))=min k n:=by
 show (if (k:Int) < 0 then ((k:Int)+(n:Int)).toNat else min (k:Int).toNat n)=min k n
 rw [if_neg (by omega),Int.toNat_natCast]
theorem sIx_le (n d:Nat) (hd:d<=n) (o:Option Int):sIx n d o<=n:=by
 cases o with
 | none=>exact hd
 | some v =>
  show (if v < 0 then (v+(n:Int)).toNat else min v.toNat n)<=n
  by_cases hv:v < 0
  ·rw [if_pos hv];omega
  ·rw [if_neg hv];exact Nat.min_le_right _ _
theorem clip_eq (v:Int) (n d:Nat):(if v < 0 then max (v+(n:Int)) 0 else min v (n:Int))=((sIx n d (some v):Nat):Int):=by
 show (if v < 0 then max (v+(n:Int)) 0 else min v (n:Int))=(((if v < 0 then (v+(n:Int)).toNat else min v.toNat n):Nat):Int)
 by_cases hv:v < 0
 ·simp only [if_pos hv];omega
 ·simp only [if_neg hv];omega
theorem adjust_gen (lo hi:Option Int) (n:Nat):Builtin.Slice.sliceAdjust lo hi 1 (n:Int)=(((sIx n 0 lo:Nat):Int),((sIx n n hi:Nat):Int)):=by
 have h1:¬ ((1:Int) < 0):=by omega
 unfold Builtin.Slice.sliceAdjust
 simp only [h1,if_false]
 refine Prod.ext ?_ ?_
 ·cases lo with
  | none=>rfl
  | some v=>exact clip_eq v n 0
 ·cases hi with
  | none=>rfl
  | some v=>exact clip_eq v n n
theorem places_gen (i j:Nat):Builtin.Slice.slicePlaces (i:Int) (j:Int) 1=j - i:=by
 unfold Builtin.Slice.slicePlaces
 have h1:(1:Int) > 0:=by omega
 simp only [h1,if_true,Int.ediv_one]
 split <;> omega
theorem slicePart_ {v:Value} {o:Option Int} {Q:Option Int->Shared->Prop} (p:IsPart v o) (h:Q o s):wpAny (model prog w) A (Builtin.Slice.slicePartIndex v) Q E s:=by
 cases p with
 | none=>exact slicePart_none h
 | int i t=>exact slicePart_int h
theorem sliceApplied_gen {sl:Addr} {vl vu:Value} {lo hi:Option Int} {n:Nat} {Q:Int × Int × Nat->Shared->Prop} (hs:s.heap.IsSliceOf sl vl vu .none) (pl:IsPart vl lo) (pu:IsPart vu hi)
  (h:Q (((sIx n 0 lo:Nat):Int),1,sIx n n hi - sIx n 0 lo) s):wpAny (model prog w) A (Builtin.Slice.sliceApplied (.ref sl) (pure (n:Int))) Q E s:=by
 obtain ⟨os,hos,hcs,hds⟩:=id hs
 unfold Builtin.Slice.sliceApplied Builtin.Slice.sliceFields
 refine wpAny_bind (wpAny_bind (wpAny_field hos hds (x:=vl) rfl (wpAny_bind (wpAny_field hos hds (x:=vu) rfl (wpAny_bind (wpAny_field hos hds (x:=.none) rfl (wpAny_pure ?_)))))))
 refine wpAny_bind (slicePart_none ?_)
 show wpAny _ _ (if ((1:Int) == 0)=true then _ else _) _ _ s
 rw [if_neg (by decide)]
 refine wpAny_bind (slicePart_ pl (wpAny_bind (slicePart_ pu (wpAny_bind (wpAny_pure ?_)))))
 show wpAny _ _ (match Builtin.Slice.sliceAdjust lo hi 1 (n:Int) with | (lo,hi)=>pure (lo,(1:Int),Builtin.Slice.slicePlaces lo hi 1)) _ _ s
 rw [adjust_gen lo hi n]
 show wpAny _ _ (pure (((sIx n 0 lo:Nat):Int),(1:Int),Builtin.Slice.slicePlaces ((sIx n 0 lo:Nat):Int) ((sIx n n hi:Nat):Int) 1)) _ _ s
 rw [places_gen]
 exact wpAny_pure h
theorem pick_gen (xs:Array Value) (i k:Nat):((List.range k).filterMap fun (m:Nat)=>xs[((i:Int)+(m:Int) * 1).toNat]?).toArray=((xs.toList.drop i).take k).toArray:=by
 have e:(fun (m:Nat)=>xs[((i:Int)+(m:Int) * 1).toNat]?)=fun m=>xs[i+m]?:=by
  funext m
  have:((i:Int)+(m:Int) * 1).toNat=i+m:=by omega
  rw [this]
 rw [e]
 have:=pick_run xs i k
 rw [List.filterMap_map] at this
 have e2:((fun x=>xs[x]?) ∘ fun x=>i+x)=fun m=>xs[i+m]?:=rfl
 rw [e2] at this
 rw [this]
theorem getItem_tuple_cut {t sl:Addr} {items:Array Value} {vl vu:Value} {lo hi:Option Int} {Q:Value->Shared->Prop} (ht:IsTup s.heap t items) (hs:s.heap.IsSliceOf sl vl vu .none) (pl:IsPart vl lo) (pu:IsPart vu hi)
  (hw:¬ (sIx items.size 0 lo=0/\sIx items.size items.size hi=items.size))
  (h:Q (.ref s.heap.objs.size) { s with heap:=s.heap.push { cls:=.type "tuple",data:=.seq ((items.toList.drop (sIx items.size 0 lo)).take (sIx items.size items.size hi - sIx items.size 0 lo)).toArray } })
  (hsz:items.size<=sizeLine):wpAny (model prog w) A (getItem (.ref t) (.ref sl)) Q E s:=by
 have htake:sizeOk (.seq ((items.toList.drop (sIx items.size 0 lo)).take (sIx items.size items.size hi - sIx items.size 0 lo)).toArray):=by
  show ((items.toList.drop (sIx items.size 0 lo)).take (sIx items.size items.size hi - sIx items.size 0 lo)).toArray.size<=sizeLine
  rw [List.size_toArray,List.length_take,List.length_drop,Array.length_toList]
  omega
 have hj:sIx items.size items.size hi<=items.size:=sIx_le _ _ (Nat.le_refl _) hi
 obtain ⟨os,hos,hcs,hds⟩:=id hs
 have hTs:s.TypeIs (.ref sl) "slice":=⟨os,hos,hcs⟩
 unfold getItem
 try with_reducible refine wpAny_holding ?_
 first | refine wpAny_bind (wpAny_pure ?_) | skip
 refine wpAny_bind (wpAny_sequenceKey ht.typeIs (by decide) ?_)
 refine wpAny_bind (wpAny_callSpecial?_slot (name:=Str.ofString "__getitem__") ht.typeIs PyProof.Rows.slot_tuple_getitem
  (wpAny_call_entry PyProof.Rows.slot_tuple_getitem ht.typeIs entry_tuple_getitem ?_ (args_tuple_getitem _ _)))
 show wpAny _ _ (Builtin.Tuple.tupleItemsOf (.ref t) >>= _) _ _ s
 refine wpAny_bind (tupleItemsOf_ ht ?_)
 refine wpAny_bind (wpAny_typeOf hTs ?_)
 rw [if_pos (by decide)]
 refine wpAny_bind (sliceApplied_gen hs pl pu ?_)
 have hno:¬ ((((sIx items.size 0 lo:Nat):Int) == 0 && (1:Int) == 1 && (sIx items.size items.size hi - sIx items.size 0 lo) == items.size)=true):=by
  intro q
  rw [Bool.and_eq_true,Bool.and_eq_true] at q
  have q1:((sIx items.size 0 lo:Nat):Int)=0:=eq_of_beq q.1.1
  have q2:sIx items.size items.size hi - sIx items.size 0 lo=items.size:=eq_of_beq q.2
  exact hw ⟨by omega,by omega⟩
 show wpAny _ _ (if (((sIx items.size 0 lo:Nat):Int) == 0 && (1:Int) == 1 && (sIx items.size items.size hi - sIx items.size 0 lo) == items.size)=true then _ else _) _ _ s
 rw [if_neg hno,pick_gen]
 first
  | exact wpAny_bind (m:=Builtin.Tuple.tupleExact _) (wpAny_newObj_type (wpAny_pure ⟨_,rfl,wpAny_pure h⟩) htake)
  | exact wpAny_bind (m:=Builtin.Tuple.tupleExact _) (wpAny_newObj_type (wpAny_bind (wpAny_pure (wpAny_pure ⟨_,rfl,wpAny_pure h⟩))) htake)
  | exact wpAny_bind (wpAny_bind (m:=Builtin.Tuple.tupleExact _) (wpAny_newObj_type (wpAny_pure (wpAny_pure ⟨_,rfl,wpAny_pure h⟩)) htake))
  | exact wpAny_bind (wpAny_bind (m:=Builtin.Tuple.tupleExact _) (wpAny_newObj_type (wpAny_pure ⟨_,rfl,wpAny_pure h⟩) htake))
end
end HT
namespace L2
open PySem PySem.Spec PyProof.Rows
abbrev TO:=St->Hp->(Option Int->Hp->Prop)->Prop
def PO (X:Cx) (e:Option Expr) (t:TO):Prop :=
 ∀ (pins:List (Addr × Obj)) (s:Shared) (σ:St) (H:Hp) (Q:Option Int->Hp->Prop),Inv X pins σ H s->t σ H Q ->
  wpAny (model X.prog X.w) X.A (evalPart e X.env) (fun u s'=>∃ o H',Inv X pins σ H' s'/\IsPart u o/\Q o H') X.xe s
def tNoPart:TO:=fun _ H Q=>Q none H
def tPart (t:TE):TO:=fun σ H Q=>t σ H fun x H1=>∃ i,x=.int i/\Q (some i) H1
section
variable {X:Cx} {e:Expr} {te:TE} {lo hi:Option Expr} {tl th:TO} {pos p2:Pos}
theorem po_none:PO X none tNoPart:=by
 intro pins s σ H Q I h
 rw [evalPart_none]
 exact wpAny_pure ⟨none,H,I,.none,h⟩
theorem po_some (h:PE X e te):PO X (some e) (tPart te):=by
 intro pins s σ H Q I hw
 rw [evalPart_some]
 refine thn (h pins s σ H _ I hw) fun u s1 ⟨x,H1,I1,r1,q1⟩=>?_
 obtain ⟨i,rfl,q⟩:=q1
 obtain ⟨t,rfl⟩:=r1
 exact ⟨some i,H1,I1,.int i t,q⟩
def SlR (X:Cx) (r:V->Option Int->Option Int->Hp->VK->Prop):Prop :=
 ∀ (pins:List (Addr × Obj)) (s:Shared) (σ:St) (H:Hp) (x:V) (v vl vu:Value) (lo hi:Option Int) (sl:Addr) (Q:VK),Inv X pins σ H s->RelV x v->s.heap.IsSliceOf sl vl vu .none->IsPart vl lo->IsPart vu hi->r x lo hi H Q ->
  ∃ T id,typeLookup (.type T) "__getitem__"=pure (some (.builtin id))/\s.TypeIs v T/\wpAny (model X.prog X.w) X.A (getItem v (.ref sl)) (EP X pins σ Q) X.xe s
def tSl (r:V->Option Int->Option Int->Hp->VK->Prop) (te:TE) (tl th:TO):TE:=fun σ H Q=>te σ H fun x H1=>tl σ H1 fun l H2=>th σ H2 fun u H3=>r x l u H3 Q
theorem pe_slice {r:V->Option Int->Option Int->Hp->VK->Prop} (hr:SlR X r) (he:PE X e te) (hl:PO X lo tl) (hu:PO X hi th):PE X (.Subscript e (.Slice lo hi none p2) pos) (tSl r te tl th):=by
 intro pins s σ H Q I h
 refine Subscript_ (thn (he pins s σ H _ I h) fun v s1 ⟨x,H1,I1,r1,q1⟩=>?_)
 refine wpAny_Slice (thn (hl pins s1 σ H1 _ I1 q1) fun vl s2 ⟨l,H2,I2,pl,q2⟩=>thn (hu pins s2 σ H2 _ I2 q2) fun vu s3 ⟨u,H3,I3,pu,q3⟩=>?_)
 rw [evalPart_none]
 refine wpAny_pure ?_
 have I4:Inv X pins σ H3 { s3 with heap:=s3.heap.push { cls:=.type "slice",data:=.fields #[vl,vu,.none] } }:=I3.kept (t':=s3.toks) fun b ob q=>Heap.get?_push_of_some _ q
 obtain ⟨T,id,hT,ht,hg⟩:=hr pins { s3 with heap:=s3.heap.push { cls:=.type "slice",data:=.fields #[vl,vu,.none] } } σ H3 x v vl vu l u s3.heap.objs.size Q I4 r1 (Heap.IsSliceOf.new ..) pl pu q3
 show wpAny (model X.prog X.w) X.A (subscriptTail e (.Slice lo hi none p2) v (.ref s3.heap.objs.size)) (EP X pins σ Q) X.xe { s3 with heap:=s3.heap.push { cls:=.type "slice",data:=.fields #[vl,vu,.none] } }
 exact tail_any (ops:=[.ref s3.heap.objs.size,v]) ht hT hg (by with_unfolding_all rfl)
def cutV (xs:List V) (lo hi:Option Int):List V:=(xs.drop (HT.sIx xs.length 0 lo)).take (HT.sIx xs.length xs.length hi - HT.sIx xs.length 0 lo)
theorem cutV_length (xs:List V) (lo hi:Option Int):(cutV xs lo hi).length<=xs.length:=by
 unfold cutV
 rw [List.length_take,List.length_drop]
 omega
def rSlT (K:PySem.W.Frag):V->Option Int->Option Int->Hp->VK->Prop:=fun x lo hi H Q=>∃ a xs,x=.ref a/\SqT K H a xs /\
 ¬ (HT.sIx xs.length 0 lo=0/\HT.sIx xs.length xs.length hi=xs.length)/\∀ p,H p=none->Q (.ref p) (upd H p (.tup (cutV xs lo hi)))
theorem sl_tup:SlR X (rSlT X.K):=by
 intro pins s σ H x v vl vu lo hi sl Q I rx hs pl pu h
 obtain ⟨a,xs,rfl,hx,hw,q⟩:=h
 cases rx
 obtain ⟨its,r,ht,hz⟩:=I.tuple hx
 have hlen:its.toArray.size=xs.length:=by rw [List.size_toArray];exact r.length.symm
 refine ⟨"tuple",_,PyProof.Rows.slot_tuple_getitem.lookup,ht.typeIs,?_⟩
 refine HT.getItem_tuple_cut ht hs pl pu (by rw [hlen];exact hw) ?_ (by rw [hlen];exact hz)
 rw [hlen]
 refine ⟨.ref s.heap.objs.size,_,I.laid (t':=s.toks) (o:=.tup (cutV xs lo hi)) (fun b ob q=>Heap.get?_push_of_some _ q) (Nat.le_refl _) ?_,rfl,q _ (I.hok.fresh (Nat.le_refl _))⟩
 exact ⟨Nat.le_trans (cutV_length xs lo hi) hz,_,(r.drop (HT.sIx xs.length 0 lo)).take (HT.sIx xs.length xs.length hi - HT.sIx xs.length 0 lo),IsTup.new _ _⟩
def rCatT (K:PySem.W.Frag):R2:=fun x y H Q=>∃ a b xs ys,x=.ref a/\y=.ref b/\SqT K H a xs/\SqT K H b ys/\xs≠[]/\xs.length+ys.length<=sizeLine /\
 (ys=[]->Q (.ref a) H)/\(ys≠[]->∀ p,H p=none->Q (.ref p) (upd H p (.tup (xs++ys))))
theorem Vals.nil_iff {xs:List V} {us:List Value} (r:Vals xs us):us=[]↔xs=[]:=by
 cases r with
 | nil=>simp
 | cons _ _=>simp
theorem op_catT:OpR X (binaryOp .Add) (rCatT X.K):=by
 intro pins s σ H x y v u Q I rx ry h
 obtain ⟨a,b,xs,ys,rfl,rfl,ha,hb,hx,hz,q1,q2⟩:=h
 cases rx
 cases ry
 obtain ⟨its,r1,p1,_⟩:=I.tuple ha
 obtain ⟨its2,r2,p2,_⟩:=I.tuple hb
 refine HT.cat_tup p1 p2 (fun z=>hx (r1.nil_iff.mp z)) (fun z=>⟨.ref a,H,I,rfl,q1 (r2.nil_iff.mp z)⟩) (fun z=>?_) (by rw [← r1.length,← r2.length];exact hz)
 refine ⟨.ref s.heap.objs.size,_,I.laid (t':=s.toks) (o:=.tup (xs++ys)) (fun b ob q=>Heap.get?_push_of_some _ q) (Nat.le_refl _) ?_,rfl,q2 (fun w=>z (r2.nil_iff.mpr w)) _ (I.hok.fresh (Nat.le_refl _))⟩
 exact ⟨by rw [List.length_append];exact hz,_,r1.append r2,IsTup.new _ _⟩
end
end L2
namespace L2
open PySem PySem.Spec PyProof.Rows
def ixN (n:Nat) (i:Int):Option Nat:=if 0<=i then (if i < n then some i.toNat else none) else if -(n:Int)<=i then some (i+n).toNat else none
def atI {α:Type} (xs:List α) (i:Int):Option α:=(ixN xs.length i).bind fun j=>xs[j]?
theorem ixN_seq {n:Nat} {i:Int} {j:Nat} (h:ixN n i=some j):seqIndex? i n=some j/\j < n/\-(n:Int)<=i/\i < n:=by
 unfold ixN at h
 by_cases h0:0<=i
 ·rw [if_pos h0] at h
  by_cases h1:i < n
  ·rw [if_pos h1] at h
   have e:i.toNat=j:=Option.some.inj h
   exact ⟨by rw [seqIndex_of h0 h1,e],by omega,by omega,h1⟩
  ·rw [if_neg h1] at h;cases h
 ·rw [if_neg h0] at h
  by_cases h1:-(n:Int)<=i
  ·rw [if_pos h1] at h
   have e:(i+n).toNat=j:=Option.some.inj h
   exact ⟨by rw [seqIndex_neg (by omega) h1,e],by omega,h1,by omega⟩
  ·rw [if_neg h1] at h;cases h
theorem atI_get {α:Type} {xs:List α} {i:Int} {v:α} (h:atI xs i=some v):∃ j,seqIndex? i xs.length=some j/\xs[j]?=some v/\j < xs.length/\-(xs.length:Int)<=i/\i < xs.length:=by
 unfold atI at h
 cases e:ixN xs.length i with
 | none=>rw [e] at h;cases h
 | some j =>
  rw [e] at h
  obtain ⟨h1,h2,h3,h4⟩:=ixN_seq e
  exact ⟨j,h1,h,h2,h3,h4⟩
theorem atI_nat {α:Type} {xs:List α} {j:Nat} {v:α} (h:xs[j]?=some v):atI xs (j:Int)=some v:=by
 have hj:j < xs.length:=(List.getElem?_eq_some_iff.mp h).1
 have e:ixN xs.length (j:Int)=some j:=by
  unfold ixN
  rw [if_pos (by omega),if_pos (by omega)];simp
 unfold atI;rw [e];exact h
theorem atI_last {α:Type} (xs:List α) (v:α):atI (xs++[v]) (-1)=some v:=by
 have hl:(xs++[v]).length=xs.length+1:=by simp
 have e:ixN (xs++[v]).length (-1)=some xs.length:=by
  unfold ixN
  rw [hl,if_neg (by decide),if_pos (by omega)]
  congr 1
  omega
 unfold atI
 rw [e]
 show (xs++[v])[xs.length]?=some v
 simp
def PlainIx (b:Expr):Prop:=∀ o i,subscripted b false o i=operate [o,i] (getItem o i)
def IxR (X:Cx) (r:R2):Prop :=
 ∀ (value slice:Expr) (pins:List (Addr × Obj)) (s:Shared) (σ:St) (H:Hp) (x y:V) (v u:Value) (Q:VK),Inv X pins σ H s->RelV x v->RelV y u->r x y H Q ->
  subscripted slice false v u=operate [v,u] (getItem v u)->wpAny (model X.prog X.w) X.A (subscriptTail value slice v u) (EP X pins σ Q) X.xe s
def MtR (X:Cx) (id:String) (r:V->List V->Hp->VK->Prop):Prop :=
 ∀ (pins:List (Addr × Obj)) (s:Shared) (σ:St) (H:Hp) (x:V) (xs:List V) (v:Value) (us:List Value) (Q:VK),Inv X pins σ H s->RelV x v->Vals xs us->r x xs H Q ->
  wpAny (model X.prog X.w) X.A (call (.builtin id) (v::us)) (EP X pins σ Q) X.xe s
section
variable {X:Cx} {a b:Expr} {ta tb:TE} {pos:Pos}
theorem pe_ix {r:R2} (hr:IxR X r) (ha:PE X a ta) (hb:PE X b tb) (hs:PlainIx b):PE X (.Subscript a b pos) (tOp r ta tb):=by
 intro pins s σ H Q I h
 exact Subscript_ (binT ha hb I h fun v u s2 x y H2 I2 rx ry q=>hr a b pins s2 σ H2 x y v u Q I2 rx ry q (hs _ _))
def rIxL (K:PySem.W.Frag):R2:=fun x y H Q=>∃ p xs i v,x=.ref p/\y=.int i/\SqL K H p xs/\atI xs i=some v/\Q v H
def rIxT (K:PySem.W.Frag):R2:=fun x y H Q=>∃ p xs i v,x=.ref p/\y=.int i/\SqT K H p xs/\atI xs i=some v/\Q v H
def rIxS:R2:=fun x y H Q=>∃ z i c,x=.str z/\y=.int i/\z.length<=sizeLine/\atI z.cps.toList i=some c/\Q (.str ⟨#[c]⟩) H
theorem jbq:IxR X (rIxL X.K):=by
 intro value slice pins s σ H x y v u Q I rx ry h hs
 obtain ⟨p,xs,i,z,rfl,rfl,hq,he,q⟩:=h
 cases rx
 obtain ⟨t,rfl⟩:=ry
 obtain ⟨its,r,pl,hz⟩:=I.list hq
 obtain ⟨j,h1,h2,h3,h4,h5⟩:=atI_get he
 obtain ⟨w,ew,rw'⟩:=r.get h2
 have hl:=r.length
 have hn:=line63
 have fin:EP X pins σ Q w s:=⟨z,H,I,rw',q⟩
 by_cases h0:0<=i
 ·have hj:i.toNat=j:=by
   rw [seqIndex_of h0 h5] at h1
   exact Option.some.inj h1
  exact item_listR pl.isList h0 (by omega) (by rw [hj];simpa using ew) fin hs
 ·have hj:(i+(its.toArray.size:Int)).toNat=j:=by
   rw [seqIndex_neg (by omega) h4] at h1
   rw [List.size_toArray,← hl]
   exact Option.some.inj h1
  exact subscriptTail_builtinR (x:=w) pl.isList.typeIs slot_list_getitem.lookup
   (wpAny_getItem_list_neg (Q:=fun r s'=>r=w/\EP X pins σ Q r s') pl.isList (by omega) (by rw [List.size_toArray] <;> omega) (by omega) (by rw [hj];simpa using ew) ⟨rfl,fin⟩) hs
theorem ix_tup:IxR X (rIxT X.K):=by
 intro value slice pins s σ H x y v u Q I rx ry h hs
 obtain ⟨p,xs,i,z,rfl,rfl,hq,he,q⟩:=h
 cases rx
 obtain ⟨t,rfl⟩:=ry
 obtain ⟨its,r,pl,hz⟩:=I.tuple hq
 obtain ⟨j,h1,h2,h3,h4,h5⟩:=atI_get he
 obtain ⟨w,ew,rw'⟩:=r.get h2
 have hl:=r.length
 have hn:=line63
 have fin:EP X pins σ Q w s:=⟨z,H,I,rw',q⟩
 exact subscriptTail_builtinR (x:=w) pl.typeIs slot_tuple_getitem.lookup
  (getItem_tuple (j:=j) (Q:=fun r s'=>r=w/\EP X pins σ Q r s') pl (by omega) (by omega) (by rw [List.size_toArray,← hl];exact h1) (by simpa using ew) ⟨rfl,fin⟩) hs
theorem ix_str:IxR X rIxS:=by
 intro value slice pins s σ H x y v u Q I rx ry h hs
 obtain ⟨z,i,c,rfl,rfl,hz,he,q⟩:=h
 obtain ⟨t,rfl⟩:=rx
 obtain ⟨t',rfl⟩:=ry
 obtain ⟨j,h1,h2,h3,h4,h5⟩:=atI_get he
 have hl:z.cps.toList.length=z.length:=by simp [Str.length]
 rw [hl] at h1 h4 h5
 have hn:=line63
 exact tail_any (typeIs_str s z t) slot_str_getitem.lookup (getItem_str (c:=c) (by
  have e1:decide (i < -(2 ^ 63:Int))=false:=decide_eq_false (by omega)
  have e2:decide (i ≥ 2 ^ 63)=false:=decide_eq_false (by omega)
  rw [e1,e2,Bool.or_false]) (by rw [h1];simpa using h2) ⟨.str ⟨#[c]⟩,H,I.tok _,⟨_,rfl⟩,q⟩) hs
theorem mapSeq_set (its:List Value) (n j:Nat) (u:Value):Obj.mapSeq (·.setIfInBounds j u) { cls:=.type "list",data:=.seq its.toArray n }={ cls:=.type "list",data:=.seq (its.set j u).toArray n }:=by
 simp [Obj.mapSeq]
theorem Inv.lst {pins:List (Addr × Obj)} {σ:St} {H:Hp} {s:Shared} {p:Addr} {xs:List V} (I:Inv X pins σ H s) (h:H p=some (.lst xs)) :
  ∃ (its:List Value) (n:Nat),Vals xs its/\s.heap.get? p=some { cls:=.type "list",data:=.seq its.toArray n }/\xs.length<=sizeLine:=by
 obtain ⟨z,its,n,r,e⟩:=I.hok p _ h
 exact ⟨its,n,r,e,z⟩
theorem Inv.lstUpd {pins:List (Addr × Obj)} {σ:St} {H:Hp} {s:Shared} {p:Addr} {xs ys:List V} {its its':List Value} {n n':Nat} {f:Obj->Obj} (I:Inv X pins σ H s) (h:H p=some (.lst xs))
  (ho:s.heap.get? p=some { cls:=.type "list",data:=.seq its.toArray n }) (hf:f { cls:=.type "list",data:=.seq its.toArray n }={ cls:=.type "list",data:=.seq its'.toArray n' }) (r:Vals ys its') (hz:ys.length<=sizeLine) (t:Nat) :
  Inv X pins σ (upd H p (.lst ys)) { s with heap:=s.heap.update p f,toks:=t }:=by
 have e:(s.heap.update p f).get? p=some { cls:=.type "list",data:=.seq its'.toArray n' }:=by
  rw [Heap.get?_update_self f ho (by rw [hf] <;> rfl),hf]
 refine I.write (x:=p) (e:=p) (by rw [h];trivial) (.inl rfl) (fun b u hb q=>(Heap.get?_update_other _ _ (Ne.symm hb)).trans q) ⟨_,e⟩ ?_
 exact ⟨hz,its',n',r,e⟩
def rSetL:V->V->V->Hp->(Hp->Prop)->Prop:=fun o i v H Q=>∃ p xs k j,o=.ref p/\i=.int k/\H p=some (.lst xs)/\ixN xs.length k=some j/\Q (upd H p (.lst (xs.set j v)))
theorem set_list:PSet X rSetL:=by
 intro pins s σ H o i v ov iv u Q I ro ri rv h
 obtain ⟨p,xs,k,j,rfl,rfl,hp,hj,q⟩:=h
 cases ro
 obtain ⟨t,rfl⟩:=ri
 obtain ⟨its,n,r,ho,hz⟩:=I.lst hp
 obtain ⟨h1,h2,h3,h4⟩:=ixN_seq hj
 have hl:=r.length
 have hn:=line63
 have I':Inv X pins σ (upd H p (.lst (xs.set j v))) { s with heap:=s.heap.update p (Obj.mapSeq (·.setIfInBounds j u)) } :=
  I.lstUpd hp ho (mapSeq_set its n j u) (r.set rv j) (by rw [List.length_set];exact hz) s.toks
 by_cases h0:0<=k
 ·have hk:k.toNat=j:=by
   rw [seqIndex_of h0 h4] at h1
   exact Option.some.inj h1
  exact PySem.W.ki_setAt ho h0 (by omega) (by rw [List.size_toArray,← hl];exact h4) (by rw [hk];exact ⟨_,I',q⟩)
 ·have hk:(k+(its.toArray.size:Int)).toNat=j:=by
   rw [seqIndex_neg (by omega) h3] at h1
   rw [List.size_toArray,← hl]
   exact Option.some.inj h1
  exact PySem.W.ki_setBack ho (by omega) (by rw [List.size_toArray,← hl];exact h3) (by omega) (by rw [hk];exact ⟨_,I',q⟩)
theorem slice_bounds (lo hi:Option Int) (n:Nat):(sliceBounds lo hi none n).1=((HT.sIx n 0 lo:Nat):Int)/\(sliceBounds lo hi none n).2.1=((HT.sIx n n hi:Nat):Int)/\(sliceBounds lo hi none n).2.2=1:=by
 refine ⟨?_,?_,rfl⟩
 ·cases lo with
  | none=>simp [sliceBounds,HT.sIx]
  | some i =>
   simp only [sliceBounds,HT.sIx,Option.getD_none,show (1:Int) > 0 by decide,if_true]
   by_cases h:i < 0
   ·simp only [h,if_true] <;> omega
   ·simp only [h,if_false] <;> omega
 ·cases hi with
  | none=>simp [sliceBounds,HT.sIx]
  | some i =>
   simp only [sliceBounds,HT.sIx,Option.getD_none,show (1:Int) > 0 by decide,if_true]
   by_cases h:i < 0
   ·simp only [h,if_true] <;> omega
   ·simp only [h,if_false] <;> omega
theorem slicePick_cut (its:List Value) (lo hi:Option Int):slicePick its.toArray lo hi none=((its.drop (HT.sIx its.length 0 lo)).take (HT.sIx its.length its.length hi - HT.sIx its.length 0 lo)).toArray:=by
 obtain ⟨h1,h2,h3⟩:=slice_bounds lo hi its.toArray.size
 unfold slicePick
 rw [h1,h2,h3]
 simp only [sliceRange_one,pick_run,List.size_toArray] <;> rfl
def rSlL (K:PySem.W.Frag):V->Option Int->Option Int->Hp->VK->Prop:=fun x lo hi H Q=>∃ a xs,x=.ref a/\SqL K H a xs/\∀ p,H p=none->Q (.ref p) (upd H p (.lst (cutV xs lo hi)))
theorem sl_list:SlR X (rSlL X.K):=by
 intro pins s σ H x v vl vu lo hi sl Q I rx hs pl pu h
 obtain ⟨a,xs,rfl,hx,q⟩:=h
 cases rx
 obtain ⟨its,r,ht,hz⟩:=I.list hx
 have hlen:=r.length
 refine ⟨"list",_,slot_list_getitem.lookup,ht.isList.typeIs,?_⟩
 refine wpAny_getItem_list_slice ht.isList hs pl pu .none (by simp) ?_ (by rw [List.size_toArray] <;> omega)
 rw [slicePick_cut,← hlen]
 refine ⟨.ref s.heap.objs.size,_,I.laid (t':=s.toks) (o:=.lst (cutV xs lo hi)) (fun b ob q=>Heap.get?_push_of_some _ q) (Nat.le_refl _) ?_,rfl,q _ (I.hok.fresh (Nat.le_refl _))⟩
 exact ⟨Nat.le_trans (cutV_length xs lo hi) hz,_,0,(r.drop (HT.sIx xs.length 0 lo)).take (HT.sIx xs.length xs.length hi - HT.sIx xs.length 0 lo),Heap.get?_push_size _ rfl⟩
def flatV:V->Bool
 | .non=>true
 | .bl _=>true
 | .int _=>true
 | .str _=>true
 | _=>false
def eqV:V->V->Bool
 | .non,.non=>true
 | .bl a,.bl b=>a == b
 | .bl a,.int b=>(if a then 1 else 0) == b
 | .int a,.bl b=>a == (if b then 1 else 0)
 | .int a,.int b=>a == b
 | .str a,.str b=>a == b
 | _,_=>false
theorem eqAt_V {A:Around} {s:Shared} {y x:V} {u v:Value} (ry:RelV y u) (rx:RelV x v) (fy:flatV y=true) (fx:flatV x=true):SeqAt.EqAt A s u v (eqV y x):=by
 cases y with
 | non =>
  cases ry
  cases x with
  | non=>cases rx;exact SeqAt.EqAt.same _
  | bl b=>cases rx;exact SeqAt.EqAt.none_bool b
  | int b=>obtain ⟨t,rfl⟩:=rx;exact SeqAt.EqAt.none_int b t
  | str b=>obtain ⟨t,rfl⟩:=rx;exact SeqAt.EqAt.none_str b t
  | _=>exact absurd (show false=true from fx) Bool.false_ne_true
 | bl a =>
  cases ry
  cases x with
  | non=>cases rx;exact SeqAt.EqAt.bool_none a
  | bl b=>cases rx;exact SeqAt.EqAt.bool_bool a b
  | int b=>obtain ⟨t,rfl⟩:=rx;exact SeqAt.EqAt.bool_int a b t
  | str b=>obtain ⟨t,rfl⟩:=rx;exact SeqAt.EqAt.bool_str a b t
  | _=>exact absurd (show false=true from fx) Bool.false_ne_true
 | int a =>
  obtain ⟨t',rfl⟩:=ry
  cases x with
  | non=>cases rx;exact SeqAt.EqAt.int_none a t'
  | bl b=>cases rx;exact SeqAt.EqAt.int_bool a t' b
  | int b=>obtain ⟨t,rfl⟩:=rx;exact SeqAt.EqAt.int_int a t' b t
  | str b=>obtain ⟨t,rfl⟩:=rx;exact SeqAt.EqAt.int_str a t' b t
  | _=>exact absurd (show false=true from fx) Bool.false_ne_true
 | str a =>
  obtain ⟨t',rfl⟩:=ry
  cases x with
  | non=>cases rx;exact SeqAt.EqAt.str_none a t'
  | bl b=>cases rx;exact SeqAt.EqAt.str_bool a t' b
  | int b=>obtain ⟨t,rfl⟩:=rx;exact SeqAt.EqAt.str_int a t' b t
  | str b=>obtain ⟨t,rfl⟩:=rx;exact SeqAt.EqAt.str_str a t' b t
  | _=>exact absurd (show false=true from fx) Bool.false_ne_true
 | _=>exact absurd (show false=true from fy) Bool.false_ne_true
def eqU (x:V) (u:Value):Bool:=match u with
 | .none=>eqV .non x
 | .bool b=>eqV (.bl b) x
 | .int i _=>eqV (.int i) x
 | .str z _=>eqV (.str z) x
 | _=>false
theorem eqU_of {x y:V} {u:Value} (r:RelV y u) (f:flatV y=true):eqU x u=eqV y x:=by
 cases y with
 | non=>cases r;rfl
 | bl b=>cases r;rfl
 | int i=>obtain ⟨t,rfl⟩:=r;rfl
 | str z=>obtain ⟨t,rfl⟩:=r;rfl
 | _=>exact absurd (show false=true from f) Bool.false_ne_true
theorem any_eqU {x:V}:∀ {xs:List V} {us:List Value},Vals xs us->xs.all flatV=true->us.any (eqU x)=xs.any fun y=>eqV y x
 | _,_,.nil,_=>rfl
 | y::xs,u::us,.cons r t,f=>by
  rw [List.all_cons,Bool.and_eq_true] at f
  rw [List.any_cons,List.any_cons,eqU_of r f.1,any_eqU t f.2]
theorem mem_eqAt {A:Around} {s:Shared} {x:V} {v:Value} (rx:RelV x v) (fx:flatV x=true):∀ {xs:List V} {us:List Value},Vals xs us->xs.all flatV=true->∀ u ∈ us,SeqAt.EqAt A s u v (eqU x u)
 | _,_,.nil,_=>fun u hu=>by cases hu
 | y::xs,u::us,.cons r t,f=>fun u' hu=>by
  rw [List.all_cons,Bool.and_eq_true] at f
  rcases List.mem_cons.mp hu with rfl | hu
  ·rw [eqU_of r f.1];exact eqAt_V r rx f.1 fx
  ·exact mem_eqAt rx fx t f.2 u' hu
def inV (x:V) (xs:List V):Bool:=xs.any fun y=>eqV y x
def rIn (K:PySem.W.Frag) (neg:Bool):R2:=fun x y H Q=>∃ p xs,y=.ref p/\(SqL K H p xs∨SqT K H p xs)/\flatV x=true/\xs.all flatV=true/\Q (.bl (if neg then !inV x xs else inV x xs)) H
theorem op_notIn_seq:OpR X (compareOp .NotIn) (rIn X.K true):=by
 intro pins s σ H x y v u Q I rx ry h
 obtain ⟨p,xs,rfl,hq,fx,fs,q⟩:=h
 cases ry
 rcases hq with hq | hq
 ·obtain ⟨its,r,pl,hz⟩:=I.list hq
  refine SeqAt.notIn_listAt (eqU x) pl.isList (fun w hw=>mem_eqAt rx fx r fs w (by simpa using hw)) ⟨.bl _,H,I,rfl,?_⟩
  rw [show its.toArray.any (eqU x)=its.any (eqU x) by simp,any_eqU r fs]
  exact q
 ·obtain ⟨its,r,pl,hz⟩:=I.tuple hq
  refine SeqAt.notIn_tupleAt (eqU x) pl (fun w hw=>mem_eqAt rx fx r fs w (by simpa using hw)) ⟨.bl _,H,I,rfl,?_⟩
  rw [show its.toArray.any (eqU x)=its.any (eqU x) by simp,any_eqU r fs]
  exact q
theorem op_notIn_str:OpR X (compareOp .NotIn) (fun x y H Q=>∃ i j,x=.str i/\y=.str j/\Q (.bl (!(!(Builtin.Str.occurrences j i 0 j.length 1).isEmpty))) H):=by
 intro pins s σ H x y v u Q I rx ry h
 obtain ⟨i,j,rfl,rfl,q⟩:=h
 obtain ⟨t,rfl⟩:=rx
 obtain ⟨t',rfl⟩:=ry
 exact notIn_str ⟨.bl _,H,I,rfl,q⟩
theorem zw:CallR X (.builtin "len") (fun xs H Q=>∃ p ys,xs=[.ref p]/\(SqL X.K H p ys∨SqT X.K H p ys)/\Q (.int ys.length) H):=by
 intro pins s σ H xs us Q I r h
 obtain ⟨p,ys,rfl,hq,q⟩:=h
 obtain ⟨u,rfl,rx⟩:=vals1 r
 cases rx
 have hn:=line63
 rcases hq with hq | hq
 ·obtain ⟨its,r',pl,hz⟩:=I.list hq
  have hlen:=r'.length
  exact Calls.call_len_list pl.isList (by simp only [List.size_toArray] <;> omega) ⟨.int ys.length,H,I.tok _,⟨s.toks+1,by rw [List.size_toArray,hlen]⟩,q⟩
 ·obtain ⟨its,r',pl,hz⟩:=I.tuple hq
  have hlen:=r'.length
  exact len_tuple pl (by simp only [List.size_toArray] <;> omega) ⟨.int ys.length,H,I.tok _,⟨s.toks+1,by rw [List.size_toArray,hlen]⟩,q⟩
theorem call_len_str:CallR X (.builtin "len") (fun xs H Q=>∃ z,xs=[.str z]/\z.length<=sizeLine/\Q (.int z.length) H):=by
 intro pins s σ H xs us Q I r h
 obtain ⟨z,rfl,hz,q⟩:=h
 obtain ⟨u,rfl,t,rfl⟩:=vals1 r
 have hn:=line63
 exact len_str (by omega) ⟨.int z.length,H,I.tok _,⟨_,rfl⟩,q⟩
theorem ja8:CallR X (.type "list") (fun xs H Q=>∃ p ys,xs=[.ref p]/\(SqL X.K H p ys∨SqT X.K H p ys)/\∀ l,H l=none->Q (.ref l) (upd H l (.lst ys))):=by
 intro pins s σ H xs us Q I r h
 obtain ⟨p,ys,rfl,hq,q⟩:=h
 obtain ⟨u,rfl,rx⟩:=vals1 r
 cases rx
 have fin:∀ (its:List Value),Vals ys its->ys.length<=sizeLine->∀ (h':Heap) (c':Nat),(∀ b o',s.heap.get? b=some o'->h'.get? b=some o') ->
   h'.get? s.heap.objs.size=some { cls:=.type "list",dict:=none,data:=.seq its.toArray c',slots:=#[] }->EP X pins σ Q (.ref s.heap.objs.size) { s with heap:=h' }:=fun its r' hz h' c' kp e =>
  ⟨.ref s.heap.objs.size,_,I.laid (t':=s.toks) kp (Nat.le_refl _) (show ObjOk X.prog X.w _ h' _ (.lst ys) from ⟨hz,its,c',r',e⟩),rfl,q _ (I.hok.fresh (Nat.le_refl _))⟩
 rcases hq with hq | hq
 ·obtain ⟨its,r',pl,hz⟩:=I.list hq
  have hlen:=r'.length
  obtain ⟨o,ho,hc,n,hd⟩:=pl.isList
  exact call_list_seq p (.inl rfl) ho hc hd (fun h' c' kp e=>fin its r' hz h' c' kp e) (by simp only [List.size_toArray] <;> omega)
 ·obtain ⟨its,r',pl,hz⟩:=I.tuple hq
  have hlen:=r'.length
  obtain ⟨o,ho,hc,n,hd⟩:=pl
  exact call_list_seq p (.inr rfl) ho hc hd (fun h' c' kp e=>fin its r' hz h' c' kp e) (by simp only [List.size_toArray] <;> omega)
theorem ja5:CallR X (.type "tuple") (fun xs H Q=>∃ p ys,xs=[.ref p]/\((SqL X.K H p ys/\∀ l,H l=none->Q (.ref l) (upd H l (.tup ys)))∨(SqT X.K H p ys/\Q (.ref p) H))):=by
 intro pins s σ H xs us Q I r h
 obtain ⟨p,ys,rfl,h⟩:=h
 obtain ⟨u,rfl,rx⟩:=vals1 r
 cases rx
 rcases h with ⟨hq,q⟩ | ⟨hq,q⟩
 ·obtain ⟨its,r',pl,hz⟩:=I.list hq
  have hlen:=r'.length
  refine call_tuple_list pl.isList (fun h' kp=>?_) (by simp only [List.size_toArray] <;> omega)
  have I1:Inv X pins σ H { s with heap:=h' }:=I.kept (t':=s.toks) kp
  have I2:Inv X pins σ (upd H h'.objs.size (.tup ys)) { s with heap:=h'.push { cls:=.type "tuple",data:=.seq its.toArray } } :=
   I1.laid (t':=s.toks) (fun b o e=>Heap.get?_push_of_some _ e) (Nat.le_refl _) (show ObjOk X.prog X.w _ _ _ (.tup ys) from ⟨hz,its,r',IsTup.new _ _⟩)
  exact ⟨.ref h'.objs.size,_,I2,rfl,q _ (I1.hok.fresh (Nat.le_refl _))⟩
 ·obtain ⟨its,r',pl,hz⟩:=I.tuple hq
  exact call_tuple_same pl ⟨.ref p,H,I,rfl,q⟩
def tyV (K:PySem.W.Frag) (T:String) (x:V) (H:Hp):Prop:=match x with
 | .str _=>T="str"
 | .int _=>T="int"
 | .ref p=>(T="list"/\∃ xs,SqL K H p xs)∨(T="tuple"/\∃ o,K.lookup p=some o/\o.cls=.type "tuple"/\o.dict=none) ∨
   (T="dict"/\((∃ kvs,H p=some (.dK kvs))∨∃ kvs,H p=some (.dT kvs)))∨(T="set"/\∃ S n,H p=some (.set S n))
 | _=>False
theorem tyV_is {pins:List (Addr × Obj)} {σ:St} {H:Hp} {s:Shared} {T:String} {x:V} {v:Value} (I:Inv X pins σ H s) (r:RelV x v) (ty:tyV X.K T x H) :
  s.TypeIs v T/\∀ a,v=.ref a->∃ ob,s.heap.get? a=some ob/\ob.dict=none:=by
 cases x with
 | str z =>
  obtain ⟨t,rfl⟩:=r
  cases (show T="str" from ty)
  exact ⟨typeIs_str s z t,fun _ e=>nomatch e⟩
 | int i =>
  obtain ⟨t,rfl⟩:=r
  cases (show T="int" from ty)
  exact ⟨typeIs_int s i t,fun _ e=>nomatch e⟩
 | ref p =>
  cases r
  rcases ty with ⟨rfl,xs,hq⟩ | ⟨rfl,o,hk,hc,hd⟩ | ⟨rfl,hk⟩ | ⟨rfl,S,n,hk⟩
  ·obtain ⟨its,_,pl,_⟩:=I.list hq
   refine ⟨pl.isList.typeIs,fun a e=>?_⟩
   cases e
   obtain ⟨o,n,e,c,hd,_⟩:=pl
   exact ⟨o,e,hd⟩
  ·refine ⟨⟨o,I.kIn p o hk,hc⟩,fun a e=>?_⟩
   cases e
   exact ⟨o,I.kIn _ o hk,hd⟩
  ·have z:∃ o,s.heap.get? p=some o/\o.ExactDict:=by
    rcases hk with ⟨kvs,hk⟩ | ⟨kvs,hk⟩
    ·obtain ⟨_,_,_,_,o,_,_,e,ex,_⟩:=I.hok p _ hk
     exact ⟨o,e,ex⟩
    ·obtain ⟨_,_,_,_,o,_,_,e,ex,_⟩:=I.hok p _ hk
     exact ⟨o,e,ex⟩
   obtain ⟨o,e,ex⟩:=z
   refine ⟨⟨o,e,ex.1⟩,fun a e2=>?_⟩
   cases e2
   exact ⟨o,e,ex.2.1⟩
  ·obtain ⟨o,_,_,_,e,ex,_⟩:=I.hok p _ hk
   refine ⟨⟨o,e,ex.1⟩,fun a e2=>?_⟩
   cases e2
   exact ⟨o,e,ex.2.1⟩
 | _=>exact False.elim ty
def tBM0 (K:PySem.W.Frag) (T:String) (r:V->List V->Hp->VK->Prop) (to:TE):TE:=fun σ H Q=>to σ H fun x H1=>tyV K T x H1/\r x [] H1 Q
def tBM (K:PySem.W.Frag) (T:String) (r:V->List V->Hp->VK->Prop) (to:TE) (t:TA):TE:=fun σ H Q=>to σ H fun x H1=>tyV K T x H1/\t σ H1 fun xs H2=>r x xs H2 Q
variable {o e:Expr} {es:List Expr} {to:TE} {t:TA} {name:Str} {apos cpos:Pos} {T id:String} {r:V->List V->Hp->VK->Prop}
theorem pe_bm0 (pa:PlainAttrs T) (slot:Slot T name id) (hty:typeOf (.builtin id)=pure (.type "method_descriptor")) (hm:MtR X id r) (ho:PE X o to)
  (hbase:attributeBase o name X.env (eval o X.env)=eval o X.env:=by rfl) (hline:(apos.endLine == cpos.line)=true:=by rfl):PE X (.Call (.Attribute o name apos) [] [] cpos) (tBM0 X.K T r to):=by
 intro pins s σ H Q I h
 refine wpAny_Call_method0_late hbase hline (thn (ho pins s σ H _ I h) fun v s1 ⟨x,H1,I1,r1,ty,q1⟩=>?_)
 obtain ⟨h1,h2⟩:=tyV_is I1 r1 ty
 exact ⟨T,id,pa,slot,hty,h1,h2,Calls.callWith_builtin rfl (PySem.evalArgs_none (hm pins s1 σ H1 x [] v [] Q I1 r1 .nil q1))⟩
theorem jcf (pa:PlainAttrs T) (slot:Slot T name id) (hty:typeOf (.builtin id)=pure (.type "method_descriptor")) (hm:MtR X id r) (ho:PE X o to) (ha:PA X (e::es) t)
  (hbase:attributeBase o name X.env (eval o X.env)=eval o X.env:=by rfl)
  (hfew:((backTo cpos (starEach (e::es) X.env)).all (fun x=>!x.1) && (backToKw cpos (keywordEach [] X.env)).all (fun x=>x.1.isSome)
   && decide ((e::es).length+([]:List Keyword).length+(if ([]:List Keyword).isEmpty then 0 else 1) < 30))=true:=by rfl)
  (hline:(apos.endLine == cpos.line)=true:=by rfl) (hs:starEach (e::es) X.env=(false,eval e X.env)::starEach es X.env:=by rfl) (hplain:(backTo cpos (starEach es X.env)).any (·.1)=false:=by rfl) :
  PE X (.Call (.Attribute o name apos) (e::es) [] cpos) (tBM X.K T r to t):=by
 intro pins s σ H Q I h
 refine wpAny_Call_method_late hbase hfew hline rfl (thn (ho pins s σ H _ I h) fun v s1 ⟨x,H1,I1,r1,ty,q1⟩=>?_)
 obtain ⟨h1,h2⟩:=tyV_is I1 r1 ty
 refine ⟨T,id,pa,slot,hty,h1,h2,?_⟩
 have hA:=ha cpos pins s1 σ H1 _ I1 q1
 rw [hs] at hA ⊢
 refine Calls.callWith_builtin (by show (false || (backTo cpos (starEach es X.env)).any (·.1))=false;rw [hplain] <;> rfl) (Calls.evalArgs_plain ?_)
 exact thn hA fun us s2 ⟨vs,H2,I2,r2,q2⟩=>hm pins s2 σ H2 x vs v us Q I2 r1 r2 q2
end
end L2
namespace L2
open PySem PySem.Spec PyProof.Rows
def MtM (X:Cx) (id:String) (r:V->List V->Hp->VK->Prop):Prop :=
 ∀ (pins:List (Addr × Obj)) (s:Shared) (σ:St) (H:Hp) (x:V) (xs:List V) (v:Value) (us:List Value) (Q:VK),Inv X pins σ H s->RelV x v->Vals xs us->r x xs H Q ->
  wpAny (model X.prog X.w) X.A (call (.builtin id) (v::us)) (EP X pins σ Q) X.xe s
theorem Vals.one:∀ {x:V} {us:List Value},Vals [x] us->∃ u,us=[u]/\RelV x u
 | _,_,.cons r .nil=>⟨_,rfl,r⟩
theorem Vals.two:∀ {x y:V} {us:List Value},Vals [x,y] us->∃ u v,us=[u,v]/\RelV x u/\RelV y v
 | _,_,_,.cons r (.cons q .nil)=>⟨_,_,rfl,r,q⟩
theorem Vals.zero:∀ {us:List Value},Vals [] us->us=[]
 | _,.nil=>rfl
theorem Vals.dropLast {xs:List V} {us:List Value} (h:Vals xs us):Vals xs.dropLast us.dropLast:=by
 induction h with
 | nil=>exact .nil
 | cons r t ih =>
  cases t with
  | nil=>exact .nil
  | cons q t'=>exact .cons r ih
theorem Vals.eraseIdx:∀ {xs:List V} {us:List Value} (i:Nat),Vals xs us->Vals (xs.eraseIdx i) (us.eraseIdx i)
 | _,_,_,.nil=>.nil
 | _,_,0,.cons _ t=>t
 | _,_,i+1,.cons r t=>.cons r (Vals.eraseIdx i t)
theorem Vals.rep {xs:List V} {us:List Value} (h:Vals xs us):∀ k:Nat,Vals (List.replicate k xs).flatten (List.replicate k us).flatten
 | 0=>.nil
 | k+1=>by
  rw [List.replicate_succ,List.replicate_succ,List.flatten_cons,List.flatten_cons]
  exact Vals.append h (Vals.rep h k)
theorem erase_last {α:Type} (l:List α):l.eraseIdx (l.length - 1)=l.dropLast:=by
 induction l with
 | nil=>rfl
 | cons a r ih =>
  cases r with
  | nil=>rfl
  | cons b r =>
   have e:(a::b::r).length - 1=((b::r).length - 1)+1:=by
    have h1:(a::b::r).length=r.length+2:=rfl
    have h2:(b::r).length=r.length+1:=rfl
    omega
   rw [e,List.eraseIdx_cons_succ,ih]
   all_goals rfl
theorem len_erase {α:Type}:∀ (l:List α) (i:Nat),(l.eraseIdx i).length<=l.length
 | [],_=>Nat.le_refl _
 | _::_,0=>Nat.le_succ _
 | _::r,i+1=>Nat.succ_le_succ (len_erase r i)
theorem foldl_rep (its:List Value):∀ (k:Nat) (acc:List Value),
  List.foldl (fun x1 x2=>x1++x2) acc.toArray (List.replicate k its.toArray)=(acc++(List.replicate k its).flatten).toArray
 | 0,acc=>by simp
 | k+1,acc=>by
  have e:acc.toArray++its.toArray=(acc++its).toArray:=by simp
  have e2:(acc++its)++(List.replicate k its).flatten=acc++(List.replicate (k+1) its).flatten:=by
   rw [List.replicate_succ,List.flatten_cons,List.append_assoc]
  rw [← e2,← foldl_rep its k (acc++its),← e,List.replicate_succ,List.foldl_cons]
section
variable {X:Cx} {pins:List (Addr × Obj)} {σ:St} {H:Hp} {s:Shared} {l b:Addr} {xs ys zs:List V}
theorem Inv.lset {its its':List Value} {n:Nat} {f:Array Value->Array Value} {t':Nat} (I:Inv X pins σ H s) (hH:H l=some (.lst xs))
  (e:s.heap.get? l=some { cls:=.type "list",data:=.seq its.toArray n }) (hf:f its.toArray=its'.toArray) (hv:Vals ys its') (hz:ys.length<=sizeLine) :
  Inv X pins σ (upd H l (.lst ys)) { s with heap:=s.heap.update l (Obj.mapSeq f),toks:=t' }:=by
 have q:=PySem.IsL.update e f
 rw [hf] at q
 refine I.write (x:=l) (e:=l) (by rw [hH];exact trivial) (.inl rfl) (fun b' u hb hu=>(Heap.get?_update_other s.heap (Obj.mapSeq f) (Ne.symm hb)).trans hu) ⟨_,q⟩ ?_
 exact ⟨hz,its',_,hv,q⟩
theorem Inv.lnew {its:List Value} {t':Nat} (I:Inv X pins σ H s) (hv:Vals ys its) (hz:ys.length<=sizeLine) :
  Inv X pins σ (upd H s.heap.objs.size (.lst ys)) { s with heap:=s.heap.push { cls:=.type "list",data:=.seq its.toArray },toks:=t' } :=
 I.laid (fun _ _ q=>Heap.get?_push_of_some _ q) (Nat.le_refl _) ⟨hz,its,0,hv,Heap.get?_push_size _ rfl⟩
theorem Inv.fresh (I:Inv X pins σ H s):H s.heap.objs.size=none:=I.hok.fresh (Nat.le_refl _)
theorem Inv.lstM (I:Inv X pins σ H s) (hH:H l=some (.lst xs)):xs.length<=sizeLine/\∃ (its:List Value) (n:Nat),Vals xs its/\xs.length=its.length/\s.heap.get? l=some { cls:=.type "list",data:=.seq its.toArray n }:=by
 obtain ⟨z,its,n,r,e⟩:=I.hok l _ hH
 exact ⟨z,its,n,r,r.length,e⟩
theorem notLongL {n:Nat} (h:n<=sizeLine):Builtin.List.listTooLong n=false:=by
 unfold Builtin.List.listTooLong
 exact decide_eq_false (by omega)
end
section
variable {X:Cx}
def rAppend:V->List V->Hp->VK->Prop:=fun x vs H Q=>∃ l xs y,x=.ref l/\vs=[y]/\H l=some (.lst xs)/\xs.length < sizeLine/\Q .non (upd H l (.lst (xs++[y])))
theorem jau:MtM X "list.append" rAppend:=by
 intro pins s σ H x vs v us Q I rx rv h
 obtain ⟨l,xs,y,rfl,rfl,hH,hz,q⟩:=h
 cases rx
 obtain ⟨u,rfl,ru⟩:=rv.one
 obtain ⟨z,its,n,r,hl,e⟩:=I.lstM hH
 refine call_meets F.slot_list_append ⟨_,e,rfl⟩ F.entry_list_append (F.args_list_append_2 _ _) (PySem.list_append l its.toArray n u (by rw [List.size_toArray];omega)) ⟨e,?_⟩
 refine ⟨.non,_,I.lset (its':=its++[u]) hH e (by simp) (r.append (.cons ru .nil)) ?_,rfl,q⟩
 rw [List.length_append,List.length_singleton]
 omega
def rExtend:V->List V->Hp->VK->Prop:=fun x vs H Q=>∃ l b xs zs,x=.ref l/\vs=[.ref b]/\H l=some (.lst xs)/\H b=some (.lst zs)/\xs.length+zs.length<=sizeLine/\Q .non (upd H l (.lst (xs++zs)))
theorem mt_extend:MtM X "list.extend" rExtend:=by
 intro pins s σ H x vs v us Q I rx rv h
 obtain ⟨l,b,xs,zs,rfl,rfl,hH,hB,hz,q⟩:=h
 cases rx
 obtain ⟨u,rfl,ru⟩:=rv.one
 cases ru
 obtain ⟨z,its,n,r,hl,e⟩:=I.lstM hH
 obtain ⟨z2,its2,n2,r2,hl2,e2⟩:=I.lstM hB
 have hsz:its.toArray.size+its2.toArray.size<=sizeLine:=by rw [List.size_toArray,List.size_toArray];omega
 have hlong:¬ (!its.toArray.isEmpty && Builtin.List.listTooLong (its.toArray.size+its2.toArray.size))=true:=by
  rw [notLongL hsz,Bool.and_false]
  exact Bool.false_ne_true
 refine call_meets F.slot_list_extend ⟨_,e,rfl⟩ F.entry_list_extend (F.args_list_extend_2 _ _)
  (AutoSeq1.list_extend_list_list_0 l its.toArray n b its2.toArray n2 hlong (by rw [List.size_toArray];omega) (by omega)) ⟨e,e2,?_⟩
 refine ⟨.non,_,I.lset (its':=its++its2) hH e (by simp) (r.append r2) ?_,rfl,q⟩
 rw [List.length_append]
 omega
def rPop:V->List V->Hp->VK->Prop:=fun x vs H Q=>∃ l xs y,x=.ref l/\vs=[]/\H l=some (.lst xs)/\xs[xs.length - 1]?=some y/\Q y (upd H l (.lst xs.dropLast))
theorem mt_pop:MtM X "list.pop" rPop:=by
 intro pins s σ H x vs v us Q I rx rv h
 obtain ⟨l,xs,y,rfl,rfl,hH,hy,q⟩:=h
 cases rx
 have hus:=rv.zero
 subst hus
 obtain ⟨z,its,n,r,hl,e⟩:=I.lstM hH
 obtain ⟨u,hu,ru⟩:=r.get hy
 have hy':its.toArray[its.toArray.size - 1]?=some u:=by
  show its.toArray[its.length - 1]?=some u
  rw [← Array.getElem?_toList,← hl]
  exact hu
 refine call_meets F.slot_list_pop ⟨_,e,rfl⟩ F.entry_list_pop (F.args_list_pop_1 _) (MeetsSeq.list_pop_last l its.toArray n u hy' (by rw [List.size_toArray];omega)) ⟨e,?_⟩
 refine ⟨y,_,I.lset (its':=its.dropLast) hH e ?_ r.dropLast ?_,ru,q⟩
 ·show its.toArray.eraseIdxIfInBounds (its.toArray.size - 1)=its.dropLast.toArray
  rw [List.size_toArray,List.eraseIdxIfInBounds_toArray,erase_last]
 ·rw [List.length_dropLast]
  omega
def rPopAt:V->List V->Hp->VK->Prop:=fun x vs H Q=>∃ l xs i k y,x=.ref l/\vs=[.int i]/\H l=some (.lst xs)/\-(2 ^ 63)<=i/\i < 2 ^ 63/\seqIndex? i xs.length=some k/\xs[k]?=some y/\Q y (upd H l (.lst (xs.eraseIdx k)))
theorem mt_popAt:MtM X "list.pop" rPopAt:=by
 intro pins s σ H x vs v us Q I rx rv h
 obtain ⟨l,xs,i,k,y,rfl,rfl,hH,h1,h2,hk,hy,q⟩:=h
 cases rx
 obtain ⟨u,rfl,ru⟩:=rv.one
 obtain ⟨t,rfl⟩:=ru
 obtain ⟨z,its,n,r,hl,e⟩:=I.lstM hH
 obtain ⟨w,hw,rw'⟩:=r.get hy
 refine call_meets F.slot_list_pop ⟨_,e,rfl⟩ F.entry_list_pop (F.args_list_pop_2 _ _)
  (MeetsSeq.list_pop_at l its.toArray n i t k w (fitsIndex_both h1 h2) (by rw [List.size_toArray,← hl];exact hk) (by rw [← Array.getElem?_toList];exact hw) (by rw [List.size_toArray];omega)) ⟨e,?_⟩
 refine ⟨y,_,I.lset (its':=its.eraseIdx k) hH e ?_ (r.eraseIdx k) ?_,rw',q⟩
 ·show its.toArray.eraseIdxIfInBounds k=(its.eraseIdx k).toArray
  rw [List.eraseIdxIfInBounds_toArray]
 ·have:=len_erase xs k
  omega
def rClear:V->List V->Hp->VK->Prop:=fun x vs H Q=>∃ l xs,x=.ref l/\vs=[]/\H l=some (.lst xs)/\Q .non (upd H l (.lst []))
theorem mt_clear:MtM X "list.clear" rClear:=by
 intro pins s σ H x vs v us Q I rx rv h
 obtain ⟨l,xs,rfl,rfl,hH,q⟩:=h
 cases rx
 have hus:=rv.zero
 subst hus
 obtain ⟨z,its,n,r,hl,e⟩:=I.lstM hH
 refine call_meets F.slot_list_clear ⟨_,e,rfl⟩ F.entry_list_clear (F.args_list_clear_1 _) (AutoSeq1.list_clear_list_0 l its.toArray n (by rw [List.size_toArray];omega)) ⟨e,?_⟩
 exact ⟨.non,_,I.lset (its':=[]) (ys:=[]) hH e rfl .nil (Nat.zero_le _),rfl,q⟩
def rCat:R2:=fun x y H Q=>∃ l b xs zs,x=.ref l/\y=.ref b/\H l=some (.lst xs)/\H b=some (.lst zs)/\xs.length+zs.length<=sizeLine/\∀ p,H p=none->Q (.ref p) (upd H p (.lst (xs++zs)))
theorem op_cat:OpR X (binaryOp .Add) rCat:=by
 intro pins s σ H x y v u Q I rx ry h
 obtain ⟨l,b,xs,zs,rfl,rfl,hH,hB,hz,q⟩:=h
 cases rx
 cases ry
 obtain ⟨z,its,n,r,hl,e⟩:=I.lstM hH
 obtain ⟨z2,its2,n2,r2,hl2,e2⟩:=I.lstM hB
 refine PySem.P.add_list e e2 ?_ (by rw [List.size_toArray,List.size_toArray];omega)
 have ea:its.toArray++its2.toArray=(its++its2).toArray:=by simp
 rw [ea]
 exact ⟨.ref _,_,I.lnew (t':=s.toks) (r.append r2) (by rw [List.length_append];omega),rfl,q _ I.fresh⟩
def rRep:R2:=fun x y H Q=>∃ l k xs,x=.ref l/\y=.int k/\H l=some (.lst xs)/\-(2 ^ 63)<=k/\k < 2 ^ 63/\xs.length * k.toNat<=sizeLine /\
 ∀ p,H p=none->Q (.ref p) (upd H p (.lst (List.replicate k.toNat xs).flatten))
theorem len_rep {α:Type} (xs:List α) (k:Nat):(List.replicate k xs).flatten.length=k * xs.length:=by
 induction k with
 | zero=>simp
 | succ k ih=>rw [List.replicate_succ,List.flatten_cons,List.length_append,ih,Nat.succ_mul,Nat.add_comm]
theorem op_rep:OpR X (binaryOp .Mult) rRep:=by
 intro pins s σ H x y v u Q I rx ry h
 obtain ⟨l,k,xs,rfl,rfl,hH,h1,h2,hz,q⟩:=h
 cases rx
 obtain ⟨t,rfl⟩:=ry
 obtain ⟨z,its,n,r,hl,e⟩:=I.lstM hH
 have hlen:its.toArray.size * k.toNat<=sizeLine:=by rw [List.size_toArray,← hl];exact hz
 have hcap:¬ its.toArray.size * k.toNat > (2 ^ 63 - 1) / 8:=by
  have:(sizeLine:Nat)<=(2 ^ 63 - 1) / 8:=by decide
  omega
 have hfit:¬ (!Builtin.List.listFitsIndex k)=true:=by
  rw [fitsIndex_both h1 h2]
  exact Bool.false_ne_true
 have hlong:¬ Builtin.List.listTooLong (its.toArray.size * k.toNat)=true:=by
  rw [notLongL hlen]
  exact Bool.false_ne_true
 have hnew:List.foldl (fun x1 x2=>x1++x2) #[] (List.replicate (if its.toArray.isEmpty=true then 0 else k.toNat) its.toArray)=(List.replicate k.toNat its).flatten.toArray:=by
  have f0:∀ m:Nat,List.foldl (fun x1 x2=>x1++x2) #[] (List.replicate m its.toArray)=(List.replicate m its).flatten.toArray:=fun m=>by
   have:=foldl_rep its m []
   rw [List.nil_append] at this
   exact this
  rw [f0]
  cases its with
  | nil=>simp
  | cons a r'=>rw [if_neg (by simp)]
 refine wpAny_binaryOp_repeat_ref (T:="list") (U:="int") (by decide) ⟨_,e,rfl⟩ (fun s'=>typeIs_int s' k t) noFill_list_mul F.fills_int_mul F.slot_int_rmul repeat_list F.slot_int_index.lookup
  (call_meets F.slot_int_rmul (typeIs_int s k t) F.entry_int_rmul (F.args_int_rmul_2 _ _) (int___rmul___int_list k t l its.toArray n)
   ⟨e,rfl,⟨_,e,rfl⟩,call_meets F.slot_list_mul ⟨_,e,rfl⟩ F.entry_list_mul (F.args_list_mul_2 _ _) (AutoListH.list___mul___list_int_3 l its.toArray n k t hfit hcap hlong) ⟨e,?_⟩⟩)
 rw [hnew]
 exact ⟨.ref _,_,I.lnew (t':=s.toks) (r.rep k.toNat) (by rw [len_rep,Nat.mul_comm];exact hz),rfl,q _ I.fresh⟩
end
section
variable {prog:Program} {w:World} {A:Around} {E:Value->Shared->Prop} {s:Shared}
end
section
variable {X:Cx}
end
end L2
namespace Att
open PySem PySem.W PySem.Calls PyProof.Rows
theorem ints_of_wellAll {P:Params} {h:Heap}:∀ (ns:List Int) (vs:List Value),WellAll P h vs (ns.map WData.int)->IntsAre vs ns:=by
 intro ns
 induction ns with
 | nil =>
  intro vs w
  rw [List.map_nil] at w
  cases w
  exact .nil
 | cons n ns ih =>
  intro vs w
  rw [List.map_cons] at w
  cases w with
  | cons a b =>
   cases a
   exact .cons _ _ (ih _ b)
theorem script_of {l:OpenLaw} {n:Nat} (hn:l.most=some n) {P:Params} {h:Heap} {args:List WData} {vals:List Value}
  (hpre:l.row.toRowW.claim.pre args=true) (hwl:WellAll P h vals args) :
  ∃ a vs ns,vals=[Value.ref a]/\args=[WData.list (ns.map WData.int)]/\h.get? a=some { cls:=.type "list",data:=.seq vs.toArray }/\IntsAre vs ns/\ns.length<=n:=by
 have hsh:WShape.hasAll [] args [.list .int]=true:=(pre_splitW hpre).1
 have hc:l.pre.holds [] { args:=args }=true:=(pre_splitW hpre).2
 obtain ⟨d,r,rfl,h1,h2⟩:=hasAllW_cons hsh
 obtain rfl:=hasAllW_nil h2
 obtain ⟨xs,rfl,h3⟩:=hasW_list h1
 obtain ⟨ns,rfl⟩:=items_int h3
 have hlen:ns.length<=n:=by
  unfold OpenLaw.pre at hc
  have h4:(WTm.not (.lt (.lit (.int (n:Int))) (.len (.arg 0)))).holds [] { args:=[.list (ns.map .int)] }=true:=by
   have h4:=(holds_andW hc).1
   rw [hn] at h4
   exact h4
  have h5:=condW_of h4 (w_not (w_lt w_lit (w_len_list (w_arg rfl))))
  rw [List.length_map] at h5
  refine Nat.le_of_not_lt fun q=>?_
  have q':(n:Int) < ((ns.length:Nat):Int):=by omega
  first
   | (rw [decide_eq_true q'] at h5;exact absurd h5 (by decide))
   | (simp at h5;omega)
 cases hwl with
 | cons w1 w2 =>
  cases w2
  cases w1 with
  | list ho hall=>exact ⟨_,_,ns,rfl,rfl,ho,ints_of_wellAll ns _ hall,hlen⟩
theorem post_true (l:OpenLaw) (args:List WData):l.row.toRowW.claim.post args (.bool true) args=true :=
 postW_of (r:=l.row.toRowW) (X:=(true == true))
  (show WShape.has [] (.bool true) .bool=true by first | rfl | decide | simp [WShape.has,WShape.arms,WShape.armsAll])
  (show (WTm.eq .res (.lit (.bool true))).value [] { args:=args,res:=some (.bool true),after:=args }=some (.bool (true == true)) from w_eq_bool (w_res rfl) w_lit) rfl
theorem attach_call {l:OpenLaw} {n:Nat} {q:Program} {loose:List Str} {XP:(Str->Option Value)->Heap->Prop} {YP:World->Heap->Prop} {d:DefRec}
  (hn:l.most=some n) (hdf:d.params.defaults=[])
  (call:∀ (w:World) (s₀ s₁:Shared) (mg mb:Str->Option Value) (fa:Addr) (o:Obj) (pm cd doc:Value) (a:Addr) (vs:List Value) (ns:List Int),
   Ground q loose [] XP w s₀ mg mb s₁.heap->YP w s₁.heap ->
   s₁.heap.get? fa=some o->o.data=.func (docDef d.name d.params d.body d.scope pm cd doc)->s₁.heap.CodeRec cd d.name->mg d.name=some (.ref fa) ->
   s₁.heap.get? a=some { cls:=.type "list",data:=.seq vs.toArray }->IntsAre vs ns->ns.length<=n->s₁.gens=#[] ->
   codeAny (model l.prog w) callerA (.call (.ref fa) ⟨[.ref a],[]⟩) (fun r s'=>r=.ok (.ret (.bool true))/\OldK s₁.heap s'.heap/\s'.os=s₁.os/\AllBare s'.gens) s₁) :
  WalkO q loose XP YP l.row.toRowW d [] (fun f vs=>PySem.call f vs):=by
 intro w s₀ s₁ mg mb G Y fa o pm cd doc dV kV ho hd hcd hD hmg hg args vals as hpre hlay hrd hwl hlo
 obtain rfl:dV=.none:=Dflts.none hD hdf
 obtain rfl:kV=.none:=Dflts.noKw hD
 obtain ⟨a,vs,ns,rfl,rfl,hobj,hints,hlen⟩:=script_of hn hpre hwl
 refine enter_call (codeAny_mono (call w s₀ s₁ mg mb fa o pm cd doc a vs ns G Y ho (fd_plain hd) hcd hmg hobj hints hlen hg) fun r s' hq=>?_)
 obtain ⟨rfl,h2,h3,h4⟩:=hq
 exact ⟨.inl ⟨.bool true,.bool true,[],rfl,fun _=>rfl,.bool true,post_true l _,fun _=>⟨List.Pairwise.nil,fun _ hm=>(nomatch hm)⟩⟩,h2,h3,h4⟩
section
variable {prog:Program} {w:World} {A:Around} {E:Value->Shared->Prop} {s:Shared} {K:Frag}
end
end Att
namespace L2
open PySem PySem.Spec PyProof.Rows
theorem vals_ints:∀ {vs:List Value} {ns:List Int},IntsAre vs ns->Vals (ns.map V.int) vs
 | _,_,.nil=>.nil
 | _,_,.cons n t h=>.cons ⟨t,rfl⟩ (vals_ints h)
end L2
namespace L2
open PySem PySem.Spec PyProof.Rows
end L2
namespace L2
open PySem PySem.Spec PyProof.Rows
def jw (s:Stmt):Arguments:=match s with
 | .FunctionDef _ a _ _ _ _ _ _ _ _=>a
 | _=>{ posonlyargs:=[],args:=[],vararg:=none,kwonlyargs:=[],kw_defaults:=[],kwarg:=none,defaults:=[] }
def ju (s:Stmt):List Stmt:=match s with
 | .FunctionDef _ _ b _ _ _ _ _ _ _=>b
 | _=>[]
def jg (s:Stmt):Scope:=match s with
 | .FunctionDef _ _ _ _ _ _ sc _ _ _=>sc
 | _=>{ kind:=.function,names:=[],isGenerator:=false,isCoroutine:=false }
abbrev CX0:CXT:=fun _ _ _ _ _ _=>False
abbrev E0:XK:=fun _ _ _=>False
theorem j9 {X:Cx}:Passes CX0 X E0:=fun _ _ _ _ _ _ _ h=>h.elim
structure Fun (K:PySem.W.Frag) (x qual:Str) (st:Stmt) (f:Addr) (fd:FuncData):Prop where
 ex:∃ (oc:Value) (od:Option Addr) (kV doc pm:Value) (an:Option Addr) (cdv ct:Value) (osl:Array (Option Value)),
  fd=PySem.W.fnOf x qual (jw st) (ju st) (jg st) .none kV doc pm an cdv ct/\K.lookup f=some ⟨oc,od,.func fd,osl⟩/\PySem.W.codeIn K cdv qual=true
 kp:PySem.W.keepIn K (.ref f)=true
section
variable {P:Program} {w:World} {K:PySem.W.Frag} {mg:Str->Option Value} {base:Heap}
theorem Fun.ok {x qual:Str} {st:Stmt} {f:Addr} {fd:FuncData} {N ps:List Str} {k:Nat} {sp:Sp} (F:Fun K x qual st f fd) (S:FnScope N ps (jg st)) (len:∀ vs H Q E,sp vs H Q E->vs.length=ps.length)
  (hbody:∀ (cdv:Value) (A:Around) (outer:List Env) (s:Shared) (H:Hp) (vs:List V) (Q:VK) (E:XK),Room k (A.deeper (envOfC qual (jg st) s.heap.objs.size f cdv))->sp vs H Q E ->
   ∃ t,PSs (cxOf CX0 P w K mg base N qual (jg st) f cdv A outer s H E).nox (ju st) t/\t { nx:=fun _ H'=>Q .non H',rt:=Q } (start N vs) H):FnOk P w K mg base CX0 (k+1) f fd ps sp:=by
 obtain ⟨oc,od,kV,doc,pm,an,cdv,ct,osl,rfl,lk,hcd⟩:=F.ex
 refine fn_of lk hcd S len fun A outer s H vs Q E hr hsp=>?_
 obtain ⟨t,h,q⟩:=hbody cdv A outer s H vs Q E hr hsp
 exact ⟨t,h.nox,q⟩
theorem Fun.binds {x qual:Str} {st:Stmt} {f:Addr} {fd:FuncData} {ps:List Str} (F:Fun K x qual st f fd)
  (h:∀ (kV doc pm:Value) (an:Option Addr) (cdv ct:Value) (us:List Value),us.length=ps.length->bindArgs (PySem.W.fnOf x qual (jw st) (ju st) (jg st) .none kV doc pm an cdv ct) ⟨us,[]⟩=pure (ps.zip us)):Binds K fd ps []:=by
 obtain ⟨oc,od,kV,doc,pm,an,cdv,ct,osl,rfl,lk,hcd⟩:=F.ex
 exact .all (h kV doc pm an cdv ct)
theorem fun_mk {x qual:Str} {st:Stmt} {f:Addr} {oc:Value} {od an:Option Addr} {osl:Array (Option Value)} {kV doc pm cdv ct:Value} (l:K.lookup f=some ⟨oc,od,.func (PySem.W.fnOf x qual (jw st) (ju st) (jg st) .none kV doc pm an cdv ct),osl⟩)
  (c:PySem.W.codeIn K cdv qual=true) (k:PySem.W.keepIn K (.ref f)=true):Fun K x qual st f (PySem.W.fnOf x qual (jw st) (ju st) (jg st) .none kV doc pm an cdv ct):=⟨⟨oc,od,kV,doc,pm,an,cdv,ct,osl,rfl,l,c⟩,k⟩
end
section
variable {X:Cx}
theorem pv (i:Nat) {x:Str} {pos:Pos} (hN:X.N[i]?=some x:=by rfl) (hv:Vis X.env.scope x:=by first | exact Or.inl rfl | exact Or.inr (Or.inl rfl) | exact Or.inr (Or.inr rfl)) (hd:(x == ("__debug__":Str))=false:=by decide)
  (hcd:(x == ("__classdict__":Str))=false:=by decide):PE X (.Name x pos) (tVar i):=jcj hN hv hd hcd
end
theorem ite2 {c A B:Prop} [Decidable c] (h1:c->A) (h2:¬ c->B):if c then A else B:=by
 by_cases h:c
 ·rw [if_pos h]
  exact h1 h
 ·rw [if_neg h]
  exact h2 h
end L2
namespace L2
open PySem PySem.Spec PyProof.Rows
section
variable {κ:Type} [DecidableEq κ]
def valV (kvs:List (κ × V)) (k:κ):Option V:=(kvs.find? fun kv=>decide (kv.1=k)).map (·.2)
def putK (kvs:List (κ × V)) (k:κ) (v:V):List (κ × V) :=
 if (kvs.any fun kv=>decide (kv.1=k))=true then kvs.map (fun kv=>if kv.1=k then (kv.1,v) else kv) else kvs++[(k,v)]
def dropK (kvs:List (κ × V)) (k:κ):List (κ × V):=kvs.filter fun kv=>decide (kv.1≠k)
theorem valV_pos {p:κ × V} {r:List (κ × V)} {k:κ} (e:p.1=k):valV (p::r) k=some p.2:=by simp [valV,List.find?_cons,e]
theorem valV_neg {p:κ × V} {r:List (κ × V)} {k:κ} (e:¬ p.1=k):valV (p::r) k=valV r k:=by simp [valV,List.find?_cons,e]
theorem valV_any (k:κ):∀ kvs:List (κ × V),(kvs.any fun kv=>decide (kv.1=k))=(valV kvs k).isSome
 | []=>rfl
 | p::r=>by
  rw [List.any_cons]
  by_cases e:p.1=k
  ·simp only [valV_pos e,decide_eq_true e,Bool.true_or,Option.isSome_some]
  ·rw [valV_neg e,decide_eq_false e,Bool.false_or];exact valV_any k r
theorem valV_map (k j:κ) (y:V):∀ kvs:List (κ × V),valV (kvs.map fun kv=>if kv.1=k then (kv.1,y) else kv) j=(valV kvs j).map fun x=>if j=k then y else x
 | []=>rfl
 | p::r=>by
  have ih:=valV_map k j y r
  rw [List.map_cons]
  by_cases h:p.1=k
  ·rw [if_pos h]
   by_cases e:p.1=j
   ·rw [valV_pos (p:=(p.1,y)) e,valV_pos e,Option.map_some,if_pos (e.symm.trans h)]
   ·rw [valV_neg (p:=(p.1,y)) e,valV_neg e,ih]
  ·rw [if_neg h]
   by_cases e:p.1=j
   ·rw [valV_pos (p:=p) e,valV_pos e,Option.map_some,if_neg (fun z=>h (e.trans z))]
   ·rw [valV_neg (p:=p) e,valV_neg e,ih]
theorem valV_snoc (k j:κ) (y:V):∀ kvs:List (κ × V),valV kvs k=none->valV (kvs++[(k,y)]) j=if j=k then some y else valV kvs j
 | [],_=>by
  by_cases e:k=j
  ·rw [if_pos e.symm];exact valV_pos (p:=(k,y)) e
  ·rw [if_neg (fun z=>e z.symm)];exact valV_neg (p:=(k,y)) e
 | p::r,hn=>by
  rw [List.cons_append]
  have hk:¬ p.1=k:=fun z=>by rw [valV_pos z] at hn;cases hn
  rw [valV_neg hk] at hn
  have ih:=valV_snoc k j y r hn
  by_cases e:p.1=j
  ·rw [valV_pos e,valV_pos e,if_neg (fun z=>hk (e.trans z))]
  ·rw [valV_neg e,valV_neg e,ih]
theorem valV_put (kvs:List (κ × V)) (k j:κ) (y:V):valV (putK kvs k y) j=if j=k then some y else valV kvs j:=by
 unfold putK
 by_cases a:(kvs.any fun kv=>decide (kv.1=k))=true
 ·rw [if_pos a,valV_map]
  rw [valV_any] at a
  by_cases e:j=k
  ·obtain ⟨x,hx⟩:=Option.isSome_iff_exists.mp a
   rw [if_pos e,e,hx,Option.map_some,if_pos rfl]
  ·rw [if_neg e]
   cases valV kvs j with
   | none=>rfl
   | some x=>rw [Option.map_some,if_neg e]
 ·rw [if_neg a]
  refine valV_snoc k j y kvs ?_
  rw [valV_any] at a
  cases q:valV kvs k with
  | none=>rfl
  | some x=>rw [q] at a;exact (a rfl).elim
theorem length_putK (kvs:List (κ × V)) (k:κ) (v:V):(putK kvs k v).length<=kvs.length+1:=by
 unfold putK
 split
 ·rw [List.length_map];omega
 ·rw [List.length_append,List.length_cons,List.length_nil];omega
theorem putK_new {kvs:List (κ × V)} {k:κ} (v:V) (h:valV kvs k=none):putK kvs k v=kvs++[(k,v)]:=by
 unfold putK
 rw [valV_any,h]
 exact if_neg (by decide)
theorem RelO.isSome_eq {o:Option V} {u:Option Value} (r:RelO o u):o.isSome=u.isSome:=by
 cases o with
 | none=>cases u with
  | none=>rfl
  | some _=>exact (show False from r).elim
 | some _=>cases u with
  | none=>exact (show False from r).elim
  | some _=>rfl
theorem KV.val {kvs:List (κ × V)} {vs:List (κ × Value)} (r:KV kvs vs) (k:κ):RelO (valV kvs k) (valueAt vs k):=by
 unfold KV at r
 induction r with
 | nil=>exact True.intro
 | @cons p q ps qs h t ih =>
  obtain ⟨h1,h2⟩:=h
  by_cases e:p.1=k
  ·have e':q.1=k:=h1.symm.trans e
   have b:valueAt (q::qs) k=some q.2:=by simp [valueAt,List.find?_cons,e']
   rw [valV_pos e,b];exact h2
  ·have e':¬ q.1=k:=fun z=>e (h1.trans z)
   have b:valueAt (q::qs) k=valueAt qs k:=by simp [valueAt,List.find?_cons,e']
   rw [valV_neg e,b];exact ih
theorem KV.any {kvs:List (κ × V)} {vs:List (κ × Value)} (r:KV kvs vs) (k:κ):(kvs.any fun kv=>decide (kv.1=k))=vs.any fun kv=>decide (kv.1=k):=by
 unfold KV at r
 induction r with
 | nil=>rfl
 | cons h t ih=>rw [List.any_cons,List.any_cons,ih,h.1]
theorem KV.repl {kvs:List (κ × V)} {vs:List (κ × Value)} (r:KV kvs vs) (k:κ) {y:V} {u:Value} (ry:RelV y u) :
  KV (kvs.map fun kv=>if kv.1=k then (kv.1,y) else kv) (vs.map fun kv=>if kv.1=k then (kv.1,u) else kv):=by
 unfold KV at r ⊢
 induction r with
 | nil=>exact .nil
 | @cons p q ps qs h t ih =>
  rw [List.map_cons,List.map_cons]
  refine .cons ?_ ih
  obtain ⟨h1,h2⟩:=h
  by_cases e:p.1=k
  ·rw [if_pos e,if_pos (h1.symm.trans e)];exact ⟨h1,ry⟩
  ·rw [if_neg e,if_neg (fun z=>e (h1.trans z))];exact ⟨h1,h2⟩
theorem KV.put {kvs:List (κ × V)} {vs:List (κ × Value)} (r:KV kvs vs) (k:κ) {y:V} {u:Value} (ry:RelV y u):KV (putK kvs k y) (stored vs k u):=by
 unfold putK stored
 rw [r.any k]
 by_cases e:(vs.any fun kv=>decide (kv.1=k))=true
 ·rw [if_pos e,if_pos e];exact r.repl k ry
 ·rw [if_neg e,if_neg e];exact Paired.snoc r ⟨rfl,ry⟩
theorem KV.drop {kvs:List (κ × V)} {vs:List (κ × Value)} (r:KV kvs vs) (k:κ):KV (dropK kvs k) (without vs k):=by
 unfold KV at r ⊢
 unfold dropK without
 induction r with
 | nil=>exact .nil
 | @cons p q ps qs h t ih =>
  obtain ⟨h1,h2⟩:=h
  rw [List.filter_cons,List.filter_cons]
  by_cases e:p.1=k
  ·have a:¬ decide (p.1≠k)=true:=by simp [e]
   have b:¬ decide (q.1≠k)=true:=by simp [h1.symm.trans e]
   rw [if_neg a,if_neg b];exact ih
  ·have e':¬ q.1=k:=fun z=>e (h1.trans z)
   have a:decide (p.1≠k)=true:=by simp [e]
   have b:decide (q.1≠k)=true:=by simp [e']
   rw [if_pos a,if_pos b];exact .cons ⟨h1,h2⟩ ih
theorem KV.length {kvs:List (κ × V)} {vs:List (κ × Value)} (r:KV kvs vs):kvs.length=vs.length:=Paired.length r
theorem dropK_le (kvs:List (κ × V)) (k:κ):(dropK kvs k).length<=kvs.length:=List.length_filter_le _ _
end
theorem kV_is {P:Program} {w:World} {k:Key} {u:Value} (r:RelV (kV k) u):(mixKind P w).is k u=true:=by
 cases k with
 | inl i=>obtain ⟨t,e⟩:=(show ∃ t,u=Value.int i t from r);subst e;exact mixKind_int P w i t
 | inr x=>obtain ⟨t,e⟩:=(show ∃ t,u=Value.str x t from r);subst e;exact mixKind_str P w x t
theorem items_are {P:Program} {w:World}:∀ {ks:List Key} {us:List Value},Vals (ks.map kV) us->ItemsAre (mixKind P w) ks us
 | [],_,r=>by rw [List.map_nil] at r;cases r;exact .nil
 | k::ks,_,r=>by
  rw [List.map_cons] at r
  cases r with
  | cons h t=>exact .cons (kV_is h) (items_are t)
abbrev KT (H:Hp):List (List Key × V)->List (List Key × Addr × Value)->Prop:=Paired fun p q=>p.1=q.1/\H q.2.1=some (.tup (p.1.map kV))/\RelV p.2 q.2.2
theorem KT.val {H:Hp} {kvs:List (List Key × V)} {xs:List (List Key × Addr × Value)} (r:KT H kvs xs) (k:List Key):RelO (valV kvs k) ((atKey xs k).map (·.2)):=by
 induction r with
 | nil=>exact True.intro
 | @cons p q ps qs h t ih =>
  obtain ⟨h1,_,h2⟩:=h
  by_cases e:p.1=k
  ·have e':q.1=k:=h1.symm.trans e
   have b:atKey (q::qs) k=some q.2:=by simp [atKey,List.find?_cons,e']
   rw [valV_pos e,b];exact h2
  ·have e':¬ q.1=k:=fun z=>e (h1.trans z)
   have b:atKey (q::qs) k=atKey qs k:=by simp [atKey,List.find?_cons,e']
   rw [valV_neg e,b];exact ih
theorem KT.repl {H:Hp} {kvs:List (List Key × V)} {xs:List (List Key × Addr × Value)} (r:KT H kvs xs) (k:List Key) {y:V} {u:Value} (ry:RelV y u) :
  KT H (kvs.map fun kv=>if kv.1=k then (kv.1,y) else kv) (xs.map (putAt k u)):=by
 induction r with
 | nil=>exact .nil
 | @cons p q ps qs h t ih =>
  rw [List.map_cons,List.map_cons]
  refine .cons ?_ ih
  obtain ⟨h1,h2,h3⟩:=h
  unfold putAt
  by_cases e:p.1=k
  ·rw [if_pos e,if_pos (h1.symm.trans e)];exact ⟨h1,h2,ry⟩
  ·rw [if_neg e,if_neg (fun z=>e (h1.trans z))];exact ⟨h1,h2,h3⟩
theorem KT.put {H:Hp} {kvs:List (List Key × V)} {xs:List (List Key × Addr × Value)} (r:KT H kvs xs) (k:List Key) {b:Addr} {y:V} {u:Value} (hb:H b=some (.tup (k.map kV))) (ry:RelV y u) :
  KT H (putK kvs k y) (storedH xs k b u):=by
 have e:(kvs.any fun kv=>decide (kv.1=k))=(atKey xs k).isSome:=by
  rw [valV_any,(r.val k).isSome_eq,Option.isSome_map]
 unfold putK storedH
 rw [e]
 by_cases q:(atKey xs k).isSome=true
 ·rw [if_pos q,if_pos q];exact r.repl k ry
 ·rw [if_neg q,if_neg q];exact Paired.snoc r ⟨rfl,hb,ry⟩
theorem KT.keeps {H H':Hp} {kvs:List (List Key × V)} {xs:List (List Key × Addr × Value)} (r:KT H kvs xs) (ht:∀ b ys,H b=some (.tup ys)->H' b=some (.tup ys)):KT H' kvs xs :=
 Paired.mapP r fun _ _ z=>⟨z.1,ht _ _ z.2.1,z.2.2⟩
section
variable {P:Program} {w:World} {H:Hp} {h:Heap} {a:Addr}
theorem rd_of {u:HO} (ok:HOk P w H h) (e:Rd H a u):ObjOk P w H h a u:=e.ok ok
theorem dk_rd {kvs:List (Key × V)} (ok:HOk P w H h) (e:Rd H a (.dK kvs)):kvs.length<=sizeLine/\(a == sysModules)=false/\∃ vs,KV kvs vs/\h.DictOf (mixKind P w) a vs :=
 show ObjOk P w H h a (.dK kvs) from rd_of ok e
theorem dk_of {kvs:List (Key × V)} (ok:HOk P w H h) (e:H a=some (.dK kvs)):kvs.length<=sizeLine/\(a == sysModules)=false/\∃ vs,KV kvs vs/\h.DictOf (mixKind P w) a vs:=dk_rd ok (.inl e)
theorem key_of {ks:List Key} (ok:HOk P w H h) (e:H a=some (.tup (ks.map kV))):(tupleKind (mixKind P w)).is h ks a:=by
 obtain ⟨_,its,r,o,h1,h2,n,h3⟩:=(show ObjOk P w H h a (.tup (ks.map kV)) from ok a _ e)
 exact ⟨o,its.toArray,n,h1,h2,h3,by simpa using items_are r⟩
theorem dt_rd {kvs:List (List Key × V)} (ok:HOk P w H h) (e:Rd H a (.dT kvs)):kvs.length<=sizeLine/\(a == sysModules)=false /\
  ∃ xs,KT H kvs xs/\h.DictOfH (tupleKind (mixKind P w)) a xs:=by
 obtain ⟨z,y,xs,r,o,es,ep,h1,h2,h3,h4,h5⟩:=(show ObjOk P w H h a (.dT kvs) from rd_of ok e)
 refine ⟨z,y,xs,r,o,es,ep,h1,h2,h3,h4,fun x hx=>?_,h5⟩
 have all:∀ {l:List (List Key × V)} {m:List (List Key × Addr × Value)},KT H l m->∀ x ∈ m,(tupleKind (mixKind P w)).is h x.1 x.2.1:=by
  intro l m q
  induction q with
  | nil=>intro x hx;exact nomatch hx
  | @cons p q ps qs hq t ih =>
   intro x hx
   rcases List.mem_cons.mp hx with e | hx
   ·subst e
    exact key_of ok (by rw [← hq.1];exact hq.2.1)
   ·exact ih x hx
 exact all r x hx
theorem dt_of {kvs:List (List Key × V)} (ok:HOk P w H h) (e:H a=some (.dT kvs)):kvs.length<=sizeLine/\(a == sysModules)=false /\
  ∃ xs,KT H kvs xs/\h.DictOfH (tupleKind (mixKind P w)) a xs:=dt_rd ok (.inl e)
end
def DGet (H:Hp) (a:Addr) (y:V) (r:Option V):Prop :=
 (∃ kvs k,Rd H a (.dK kvs)/\y=kV k/\r=valV kvs k)∨∃ kvs k b,Rd H a (.dT kvs)/\y=.ref b/\H b=some (.tup (k.map kV))/\r=valV kvs k
def DPut (H:Hp) (a:Addr) (y v:V) (H':Hp):Prop :=
 (∃ kvs k,H a=some (.dK kvs)/\y=kV k/\kvs.length < sizeLine/\H'=upd H a (.dK (putK kvs k v))) ∨
 ∃ kvs k b,H a=some (.dT kvs)/\y=.ref b/\H b=some (.tup (k.map kV))/\kvs.length < sizeLine/\H'=upd H a (.dT (putK kvs k v))
theorem DGet.k {H:Hp} {a:Addr} {kvs:List (Key × V)} {k:Key} (e:H a=some (.dK kvs)):DGet H a (kV k) (valV kvs k):=.inl ⟨kvs,k,.inl e,rfl,rfl⟩
theorem DPut.k {H:Hp} {a:Addr} {kvs:List (Key × V)} {k:Key} {v:V} (e:H a=some (.dK kvs)) (hl:kvs.length < sizeLine):DPut H a (kV k) v (upd H a (.dK (putK kvs k v))):=.inl ⟨kvs,k,e,rfl,hl,rfl⟩
section
variable {X:Cx} {pins:List (Addr × Obj)} {σ:St} {H:Hp} {s:Shared} {a:Addr} {y v:V} {u r:Value} {o:Option V} {A:Around} {E:Value->Shared->Prop}
theorem Inv.big (I:Inv X pins σ H s):sysModules < s.heap.objs.size:=by
 have h:mainGlobals < s.heap.objs.size:=(I.mod.glob.keeps I.bk).lt
 exact Nat.lt_trans (by decide) h
theorem d_getItem {Q:Value->Shared->Prop} (hu:A.units+1 < cLine) (I:Inv X pins σ H s) (g:DGet H a y (some v)) (ry:RelV y u) (h:∀ w' s',Inv X pins σ H s'->RelV v w'->Q w' s') :
  wpAny (model X.prog X.w) A (getItem (.ref a) u) Q E s:=by
 rcases g with ⟨kvs,k,e,ey,l⟩ | ⟨kvs,k,b,e,ey,eb,l⟩
 ·subst ey
  obtain ⟨z,hd,vs,rel,dd⟩:=dk_rd I.hok e
  obtain ⟨w',hw,rw'⟩:=RelO.some_of (v:=v) (o:=valueAt vs k) (by rw [l];exact rel.val k)
  exact wpAny_getItem_of (kV_is ry) dd.mapOf hw (h w' _ (I.tok _) rw')
 ·subst ey
  cases (show u=Value.ref b from ry)
  obtain ⟨z,hd,xs,rel,dd⟩:=dt_rd I.hok e
  obtain ⟨w',hw,rw'⟩:=RelO.some_of (v:=v) (o:=(atKey xs k).map (·.2)) (by rw [l];exact rel.val k)
  obtain ⟨p,hp,hp2⟩:=Option.map_eq_some_iff.mp hw
  refine wpAny_getItem_heap (tupleKind_room_in1 hu) (key_of I.hok eb) dd hp ?_
  rw [hp2]
  exact h w' _ (I.tok _) rw'
theorem d_notIn {Q:Value->Shared->Prop} (hu:A.units+1 < cLine) (I:Inv X pins σ H s) (g:DGet H a y o) (ry:RelV y u) (h:∀ s',Inv X pins σ H s'->Q (.bool (!o.isSome)) s') :
  wpAny (model X.prog X.w) A (compareOp .NotIn u (.ref a)) Q E s:=by
 rcases g with ⟨kvs,k,e,ey,l⟩ | ⟨kvs,k,b,e,ey,eb,l⟩
 ·subst ey
  obtain ⟨z,hd,vs,rel,dd⟩:=dk_rd I.hok e
  refine wpAny_notIn_of (kV_is ry) hd dd.mapOf ?_
  rw [← (rel.val k).isSome_eq,← l]
  exact h _ (I.tok _)
 ·subst ey
  cases (show u=Value.ref b from ry)
  obtain ⟨z,hd,xs,rel,dd⟩:=dt_rd I.hok e
  refine wpAny_notIn_heap (tupleKind_room_in1 hu) (key_of I.hok eb) hd dd ?_
  have q:=(rel.val k).isSome_eq
  rw [Option.isSome_map] at q
  rw [← q,← l]
  exact h _ (I.tok _)
theorem d_write {h':Heap} {t':Nat} {ob:HO} (I:Inv X pins σ H s) (mu:Mut (H a)) (hs:Heap.SameBut a s.heap h') (he:∃ q,h'.get? a=some q) (new:ObjOk X.prog X.w (upd H a ob) h' a ob) :
  Inv X pins σ (upd H a ob) { s with heap:=h',toks:=t' } :=
 I.write (x:=a) (e:=a) mu (.inl rfl) (fun b q hb z=>(hs.2 b hb).trans z) he new
theorem dk_new {P:Program} {w:World} {H':Hp} {h':Heap} {kvs:List (Key × V)} {vs:List (Key × Value)} (z:kvs.length<=sizeLine) (hd:(a == sysModules)=false) (rel:KV kvs vs) (dd:h'.DictOf (mixKind P w) a vs) :
  ObjOk P w H' h' a (.dK kvs):=⟨z,hd,vs,rel,dd⟩
theorem d_setItem {H':Hp} {Q:Unit->Shared->Prop} (hu:A.units+1 < cLine) (I:Inv X pins σ H s) (g:DPut H a y v H') (ry:RelV y u) (rv:RelV v r) (h:∀ s',Inv X pins σ H' s'->Q () s') :
  wpAny (model X.prog X.w) A (setItem (.ref a) u r) Q E s:=by
 rcases g with ⟨kvs,k,e,ey,l,eH⟩ | ⟨kvs,k,b,e,ey,eb,l,eH⟩
 ·subst ey eH
  obtain ⟨z,hd,vs,rel,dd⟩:=dk_of I.hok e
  have hz:vs.length<=sizeLine:=by rw [← rel.length];exact z
  have hl:(putK kvs k v).length<=sizeLine:=by have:=length_putK kvs k v;omega
  refine wpAny_setItem_pairs (hsz:=hz) (kV_is ry) dd fun h' dd' hs=>h _ ?_
  have he:∃ q,h'.get? a=some q:=let ⟨q,_,_,hq,_⟩:=dd';⟨q,hq⟩
  exact d_write I (by rw [e];exact True.intro) hs he (dk_new hl hd (rel.put k rv) dd')
 ·subst ey eH
  cases (show u=Value.ref b from ry)
  obtain ⟨z,hd,xs,rel,dd⟩:=dt_of I.hok e
  have hz:xs.length<=sizeLine:=by rw [← Paired.length rel];exact z
  have hl:(putK kvs k v).length<=sizeLine:=by have:=length_putK kvs k v;omega
  refine wpAny_setItem_heap (hsz:=hz) (tupleKind_room_in1 hu) (key_of I.hok eb) dd fun h' dd' hs=>h _ ?_
  obtain ⟨q,es,ep,hq,h2,h3,h4,_,h5⟩:=dd'
  refine d_write I (by rw [e];exact True.intro) hs ⟨q,hq⟩ ⟨hl,hd,_,(rel.put k eb rv).keeps fun c ys ec=>?_,q,es,ep,hq,h2,h3,h4,h5⟩
  rw [jc (ne_of ec e (fun z=>nomatch z))]
  exact ec
end
section
variable {X:Cx} {pins:List (Addr × Obj)} {σ:St} {H:Hp} {s:Shared} {a:Addr} {kvs:List (Key × V)} {k:Key} {u:Value} {A:Around} {E:Value->Shared->Prop}
theorem d_pop {v:V} {more:List Value} {Q:Value->Shared->Prop} (I:Inv X pins σ H s) (e:H a=some (.dK kvs)) (ry:RelV (kV k) u) (l:valV kvs k=some v) (hm:more=[]∨∃ x,more=[x])
  (h:∀ w' s',Inv X pins σ (upd H a (.dK (dropK kvs k))) s'->RelV v w'->Q w' s'):wpAny (model X.prog X.w) A (call (.builtin "dict.pop") (.ref a::u::more)) Q E s:=by
 obtain ⟨z,hd,vs,rel,dd⟩:=dk_of I.hok e
 obtain ⟨w',hw,rw'⟩:=RelO.some_of (v:=v) (o:=valueAt vs k) (by rw [← l];exact rel.val k)
 have hp:(keyPart u).isSome=true:=by
  cases k with
  | inl i=>obtain ⟨t,q⟩:=(show ∃ t,u=Value.int i t from ry);subst q;rfl
  | inr x=>obtain ⟨t,q⟩:=(show ∃ t,u=Value.str x t from ry);subst q;rfl
 have ha:argsOk "dict.pop" ⟨.ref a::u::more,[]⟩:=by
  rcases hm with q | ⟨x,q⟩
  ·subst q;exact PySem.F.args_dict_pop_2 _ _
  ·subst q;exact PySem.F.args_dict_pop_3 _ _ _
 refine call_meetsIn PySem.F.slot_dict_pop dd.typeIs PySem.F.entry_dict_pop ha (meets_dict_pop_there (mixKind X.prog X.w) a (kV_is ry) more hm hp)
  ⟨vs,w',dd,by rw [← rel.length];exact z,hw,fun h' dd' hs=>h w' _ ?_ rw'⟩
 have he:∃ q,h'.get? a=some q:=let ⟨q,_,_,hq,_⟩:=dd';⟨q,hq⟩
 exact d_write I (by rw [e];exact True.intro) hs he (dk_new (Nat.le_trans (dropK_le kvs k) z) hd (rel.drop k) dd')
theorem d_len {Q:Value->Shared->Prop} (I:Inv X pins σ H s) (e:Rd H a (.dK kvs)) (h:∀ t s',Inv X pins σ H s'->Q (.int kvs.length t) s'):wpAny (model X.prog X.w) A (call (.builtin "len") [.ref a]) Q E s:=by
 obtain ⟨z,hd,vs,rel,dd⟩:=dk_rd I.hok e
 refine call_len_dict hd dd (by rw [← rel.length];rw [sizeLine_eq] at z;omega) ?_
 rw [← rel.length]
 exact h _ _ (I.tok _)
end
def NoSl (i:Expr):Prop:=∀ ov iv,subscripted i false ov iv=operate [ov,iv] (getItem ov iv)
theorem subD_of {prog:Program} {w:World} {A:Around} {E:Value->Shared->Prop} {s:Shared} {env:Env} {value slice:Expr} {pos:Pos} {T id:String} {Q:Value->Shared->Prop}
  (hl:typeLookup (.type T) "__getitem__"=pure (some (.builtin id))) (hs:NoSl slice)
  (h:wpAny (model prog w) A (eval value env) (fun o s₁=>wpAny (model prog w) A (eval slice env) (fun i s₂=>s₂.TypeIs o T/\wpAny (model prog w) A (getItem o i) Q E s₂) E s₁) E s) :
  wpAny (model prog w) A (eval (.Subscript value slice pos) env) Q E s:=by
 refine Subscript_ (wpAny_mono h (fun o s₁ h₁=>wpAny_mono h₁ (fun i s₂ h₂=>?_) fun _ _ x=>x) fun _ _ x=>x)
 obtain ⟨hT,h₂⟩:=h₂
 unfold subscriptTail
 refine wpAny_bind ?_
 rw [getitemInPython_of_ne hT.not_modules]
 refine wpAny_bind (wpAny_specialOf hT hl ?_)
 have fin:wpAny (model prog w) A (subscripted slice false o i) (fun r s₃=>wpAny (model prog w) A (letTemporaryGo value o r >>= fun _=>pure r) Q E s₃) E s₂:=by
  rw [hs o i]
  exact wpAny_operating (wpAny_mono h₂ (fun r s₃ h₃=>wpAny_bind (wpAny_letTemporaryGo (wpAny_pure h₃))) fun _ _ x=>x)
 first
  | exact wpAny_pure (wpAny_bind fin)
  | exact wpAny_bind (wpAny_pure (wpAny_bind fin))
  | exact wpAny_bind fin
theorem dict_typeIs {X:Cx} {pins:List (Addr × Obj)} {σ:St} {H:Hp} {s:Shared} {a:Addr} {y:V} {o:Option V} (I:Inv X pins σ H s) (g:DGet H a y o):s.TypeIs (.ref a) "dict":=by
 rcases g with ⟨kvs,k,e,_,_⟩ | ⟨kvs,k,b,e,_,_,_⟩
 ·obtain ⟨_,_,vs,_,dd⟩:=dk_rd I.hok e
  exact dd.typeIs
 ·obtain ⟨_,_,xs,_,dd⟩:=dt_rd I.hok e
  exact dd.typeIs
def tDGet (td ty:TE):TE:=fun σ H Q=>td σ H fun x H1=>ty σ H1 fun y H2=>∃ a v,x=.ref a/\DGet H2 a y (some v)/\Q v H2
def tDNotIn (ty td:TE):TE:=fun σ H Q=>ty σ H fun y H1=>td σ H1 fun x H2=>∃ a o,x=.ref a/\DGet H2 a y o/\Q (.bl (!o.isSome)) H2
def sDPut (td ty tv:TE):TS:=fun D σ H=>tv σ H fun v H1=>td σ H1 fun x H2=>ty σ H2 fun y H3=>∃ a H4,x=.ref a/\DPut H3 a y v H4/\D.nx σ H4
def sDAug (td ty tv:TE) (rd:V->V->Hp->VK->Prop):TS:=fun D σ H=>td σ H fun x H1=>ty σ H1 fun y H2=>∃ a v,x=.ref a/\DGet H2 a y (some v) /\
 tv σ H2 fun y2 H3=>rd v y2 H3 fun z H4=>∃ H5,DPut H4 a y z H5/\D.nx σ H5
section
variable {X:Cx} {o i e value:Expr} {pos pos' tpos:Pos} {td ty tv:TE}
theorem pe_dget (hu:X.A.units+1 < cLine) (ho:PE X o td) (hi:PE X i ty) (hs:NoSl i):PE X (.Subscript o i pos) (tDGet td ty):=by
 intro pins s σ H Q I h
 refine subD_of PySem.F.slot_dict_getitem.lookup hs (thn (ho pins s σ H _ I h) fun u s1 ⟨x,H1,I1,rx,q1⟩=>thn (hi pins s1 σ H1 _ I1 q1) fun iv s2 ⟨y,H2,I2,ry,a,v,ex,g,q2⟩=>?_)
 subst ex
 obtain rfl:u=Value.ref a:=rx
 exact ⟨dict_typeIs I2 g,d_getItem hu I2 g ry fun w' s3 I3 rw'=>⟨v,H2,I3,rw',q2⟩⟩
theorem pc_dnotin (hu:X.A.units+1 < cLine) (hi:PE X i ty) (ho:PE X o td):PC X .NotIn i o (tDNotIn ty td):=by
 intro pins s σ H Q I h
 refine thn (hi pins s σ H _ I h) fun iv s1 ⟨y,H1,I1,ry,q1⟩=>thn (ho pins s1 σ H1 _ I1 q1) fun u s2 ⟨x,H2,I2,rx,a,ov,ex,g,q2⟩=>?_
 subst ex
 obtain rfl:u=Value.ref a:=rx
 exact d_notIn hu I2 g ry fun s3 I3=>⟨.bl (!ov.isSome),H2,I3,rfl,q2⟩
theorem ps_dput (hu:X.A.units+1 < cLine) (ho:PE X o td) (hi:PE X i ty) (hv:PE X value tv) (hs:swapsWith value (some (.Subscript o i pos')) pos.line X.env=pure false) :
  PS X (.Assign [.Subscript o i pos'] value pos) (sDPut td ty tv):=by
 intro pins s σ H D I h
 refine wpAny_Assign_Subscript (thn (hv pins s σ H _ I h) fun r s1 ⟨v,H1,I1,rv,q1⟩=>thn (ho pins s1 σ H1 _ I1 q1) fun u s2 ⟨x,H2,I2,rx,q2⟩=>thn (hi pins s2 σ H2 _ I2 q2) fun iv s3 ⟨y,H3,I3,ry,a,H4,ex,g,q3⟩=>?_) hs
 subst ex
 obtain rfl:u=Value.ref a:=rx
 exact d_setItem hu I3 g ry rv fun s4 I4=>⟨σ,H4,I4,q3⟩
theorem ps_daug {op:Operator} {rd:V->V->Hp->VK->Prop} (hu:X.A.units+1 < cLine) (ho:PE X o td) (hi:PE X i ty) (hv:PE X value tv) (hop:InOp X op rd)
  (ha:∀ ov iv new,augStore i ov iv new=(do holding [new,ov,iv] (setItem ov iv new);release [new,ov,iv] [];pure .next)):PS X (.AugAssign (.Subscript o i tpos) op value pos) (sDAug td ty tv rd):=by
 intro pins s σ H D I h
 refine wpAny_AugAssign_SubscriptAny (thn (ho pins s σ H _ I h) fun u s1 ⟨x,H1,I1,rx,q1⟩=>thn (hi pins s1 σ H1 _ I1 q1) fun iv s2 ⟨y,H2,I2,ry,a,v,ex,g,q2⟩=>?_) ha
 subst ex
 obtain rfl:u=Value.ref a:=rx
 refine d_getItem hu I2 g ry fun w' s3 I3 rw'=>thn (hv pins s3 σ H2 _ I3 q2) fun w2 s4 ⟨y2,H3,I4,ry2,q3⟩=>thn (hop pins s4 σ H3 v y2 w' w2 _ I4 rw' ry2 q3) fun w3 s5 ⟨z,H4,I5,rz,H5,g5,q4⟩=>?_
 exact d_setItem hu I5 g5 ry rz fun s6 I6=>⟨σ,H5,I6,q4⟩
end
theorem dk_empty {P:Program} {w:World} {H:Hp} (h:Heap) (hb:sysModules < h.objs.size):ObjOk P w H (h.push { cls:=.type "dict",data:=.dict #[] }) h.objs.size (.dK []) :=
 ⟨Nat.zero_le _,beq_eq_false_iff_ne.mpr (Ne.symm (Nat.ne_of_lt hb)),[],.nil,Heap.DictOf.new h⟩
section
variable {X:Cx} {pos:Pos}
end
def tPairs:List (TE × TE)->St->Hp->(List (V × V)->Hp->Prop)->Prop
 | [],_,H,Q=>Q [] H
 | (tk,tv)::r,σ,H,Q=>tk σ H fun x H1=>tv σ H1 fun y H2=>tPairs r σ H2 fun ps H3=>Q ((x,y)::ps) H3
abbrev VV:List (V × V)->List (Value × Value)->Prop:=Paired fun p q=>RelV p.1 q.1/\RelV p.2 q.2
def PPs (X:Cx) (pos:Pos) (keys:List (Option Expr)) (values:List Expr) (trs:List (TE × TE)):Prop :=
 ∀ (pins:List (Addr × Obj)) (s:Shared) (σ:St) (H:Hp) (Q:List (V × V)->Hp->Prop),Inv X pins σ H s->tPairs trs σ H Q ->
  wpAny (model X.prog X.w) X.A (evalPairs (pairTrees keys values X.env pos)) (fun vs s'=>∃ ps H',Inv X pins σ H' s'/\VV ps vs/\Q ps H') X.xe s
theorem pps_nil {X:Cx} {pos:Pos}:PPs X pos [] [] []:=fun pins s σ H Q I h=>pairTrees_nil_walk ⟨[],H,I,.nil,h⟩
theorem pps_cons {X:Cx} {pos:Pos} {k v:Expr} {ks:List (Option Expr)} {vs:List Expr} {tk tv:TE} {trs:List (TE × TE)} (hk:PE X k tk) (hv:PE X v tv) (hr:PPs X pos ks vs trs) :
  PPs X pos (some k::ks) (v::vs) ((tk,tv)::trs):=fun pins s σ H Q I h =>
 pairTrees_cons_walk (thn (hk pins s σ H _ I h) fun u s1 ⟨x,H1,I1,rx,q1⟩=>thn (hv pins s1 σ H1 _ I1 q1) fun w2 s2 ⟨y,H2,I2,ry,q2⟩ =>
  thn (hr pins s2 σ H2 _ I2 q2) fun ws s3 ⟨ps,H3,I3,rel,q3⟩=>⟨(x,y)::ps,H3,I3,.cons ⟨rx,ry⟩ rel,q3⟩)
def mergeK (kvs more:List (Key × V)):List (Key × V):=more.foldl (fun acc kv=>putK acc kv.1 kv.2) kvs
theorem KV.merge:∀ {more:List (Key × V)} {rs:List (Key × Value)} {kvs:List (Key × V)} {vs:List (Key × Value)},KV more rs->KV kvs vs->KV (mergeK kvs more) (merged vs rs):=by
 intro more rs kvs vs r
 unfold KV at r
 induction r generalizing kvs vs with
 | nil=>intro q;exact q
 | @cons p q ps qs h t ih =>
  intro r0
  have e:KV (putK kvs p.1 p.2) (stored vs q.1 q.2):=by
   have:=r0.put p.1 h.2
   rw [← h.1];exact this
  exact ih e
theorem length_mergeK:∀ (more kvs:List (Key × V)),(mergeK kvs more).length<=kvs.length+more.length
 | [],kvs=>by show kvs.length<=kvs.length+0;omega
 | p::r,kvs=>by
  have h1:=length_mergeK r (putK kvs p.1 p.2)
  have h2:=length_putK kvs p.1 p.2
  show (mergeK (putK kvs p.1 p.2) r).length<=_
  rw [List.length_cons];omega
theorem carries_of {P:Program} {w:World}:∀ {kvs:List (Key × V)} {ws:List (Value × Value)},VV (kvs.map fun kv=>(kV kv.1,kv.2)) ws->∃ rs,Carries (mixKind P w) ws rs/\KV kvs rs
 | [],_,r=>by rw [List.map_nil] at r;cases r;exact ⟨[],True.intro,.nil⟩
 | p::kvs,_,r=>by
  rw [List.map_cons] at r
  cases r with
  | @cons a b as bs h t =>
   obtain ⟨rs,c,q⟩:=carries_of (P:=P) (w:=w) t
   obtain ⟨b1,b2⟩:=b
   exact ⟨(p.1,b2)::rs,⟨kV_is h.1,rfl,c⟩,.cons ⟨rfl,h.2⟩ q⟩
def tDisp (trs:List (TE × TE)):TE:=fun σ H Q=>∀ p,H p=none->tPairs trs σ (upd H p (.dK [])) fun ps H2=>H2 p=some (.dK [])/\∃ kvs:List (Key × V),ps=kvs.map (fun kv=>(kV kv.1,kv.2))/\kvs.length<=15/\Q (.ref p) (upd H2 p (.dK (mergeK [] kvs)))
theorem pe_disp {X:Cx} {pos:Pos} {keys:List (Option Expr)} {values:List Expr} {trs:List (TE × TE)} (h:PPs X pos keys values trs) (hall:keys.all (·.isSome)=true) (hl:keys.length=values.length) (h0:keys≠[])
  (h15:keys.length<=15):PE X (.Dict keys values pos) (tDisp trs):=by
 intro pins s σ H Q I q
 have hn:=I.hok.fresh (Nat.le_refl s.heap.objs.size)
 have I1:=I.laid (a:=s.heap.objs.size) (o:=.dK []) (h':=s.heap.push { cls:=.type "dict",data:=.dict #[] }) (t':=s.toks) (fun _ _ q=>Heap.get?_push_of_some _ q) (Nat.le_refl _) (dk_empty s.heap I.big)
 refine wpAny_Dict_walk (knd:=mixKind X.prog X.w) hall hl h0 h15 (thn (h pins _ σ _ _ I1 (q _ hn)) fun ws s2 ⟨ps,H2,I2,rel,e,kvs,ep,lk,q2⟩=>?_)
 subst ep
 obtain ⟨rs,c,rk⟩:=carries_of (P:=X.prog) (w:=X.w) rel
 obtain ⟨z,hd,vs0,r0,dd⟩:=dk_of I2.hok e
 cases r0
 refine ⟨rs,c,dd,fun h' dd' hs=>⟨.ref s.heap.objs.size,_,?_,rfl,q2⟩⟩
 have hz:(mergeK [] kvs).length<=sizeLine:=by
  have h1:=length_mergeK kvs []
  rw [List.length_nil] at h1
  rw [sizeLine_eq];omega
 have he:∃ q,h'.get? s.heap.objs.size=some q:=let ⟨q,_,_,hq,_⟩:=dd';⟨q,hq⟩
 exact d_write I2 (by rw [e];exact True.intro) hs he (dk_new hz hd (rk.merge .nil) dd')
structure M2 (X:Cx) (o:Expr) (m:Str) (apos:Pos) (e f:Expr) (cpos:Pos):Prop where
 base:attributeBase o m X.env (eval o X.env)=eval o X.env
 few:((backTo cpos (starEach [e,f] X.env)).all (fun x=>!x.1) && (backToKw cpos (keywordEach [] X.env)).all (fun x=>x.1.isSome)
  && decide (([e,f]:List Expr).length+([]:List Keyword).length+(if ([]:List Keyword).isEmpty then 0 else 1) < 30))=true
 line:(apos.endLine == cpos.line)=true
 trees:backTo cpos (starEach [e,f] X.env)=[(false,eval e X.env),(false,eval f X.env)]
def IsD (H:Hp) (a:Addr):Prop:=(∃ kvs,Rd H a (.dK kvs))∨∃ kvs,Rd H a (.dT kvs)
theorem isD_at {X:Cx} {pins:List (Addr × Obj)} {σ:St} {H:Hp} {s:Shared} {a:Addr} (I:Inv X pins σ H s) (d:IsD H a) :
  s.TypeIs (.ref a) "dict"/\(∀ b,Value.ref a=.ref b->∃ ob,s.heap.get? b=some ob/\ob.dict=none)/\(a == sysModules)=false:=by
 rcases d with ⟨kvs,e⟩ | ⟨kvs,e⟩
 ·obtain ⟨_,hd,vs,_,dd⟩:=dk_rd I.hok e
  refine ⟨dd.typeIs,fun b q=>?_,hd⟩
  cases q
  obtain ⟨ob,_,_,h1,h2,_⟩:=dd
  exact ⟨ob,h1,h2.2.1⟩
 ·obtain ⟨_,hd,xs,_,dd⟩:=dt_rd I.hok e
  refine ⟨dd.typeIs,fun b q=>?_,hd⟩
  cases q
  obtain ⟨ob,_,_,h1,h2,_⟩:=dd
  exact ⟨ob,h1,h2.2.1⟩
section
variable {X:Cx} {pins:List (Addr × Obj)} {σ:St} {H:Hp} {s:Shared} {a:Addr} {y d:V} {u r:Value} {o:Option V} {A:Around} {E:Value->Shared->Prop}
end
section
variable {X:Cx} {o e f:Expr} {apos cpos:Pos} {td ty tx:TE}
end
section
variable {X:Cx} {pins:List (Addr × Obj)} {σ:St} {H:Hp} {s:Shared} {a:Addr} {kvs:List (Key × V)} {A:Around} {E:Value->Shared->Prop}
theorem d_copyOf {Q:Value->Shared->Prop} (I:Inv X pins σ H s) (e:Rd H a (.dK kvs)) (h:∀ p s',H p=none->Inv X pins σ (upd H p (.dK kvs)) s'->Q (.ref p) s'):wpAny (model X.prog X.w) A (call (.type "dict") [.ref a]) Q E s:=by
 obtain ⟨z,hd,vs,rel,dd⟩:=dk_rd I.hok e
 refine kt_call_dict hd dd (by rw [← rel.length];exact z) fun h' dd' hs=>?_
 refine h _ _ (I.hok.fresh (Nat.le_refl _)) (I.laid (a:=s.heap.objs.size) (o:=.dK kvs) (t':=s.toks) (fun b q hq=>?_) (Nat.le_refl _) (dk_new z (beq_eq_false_iff_ne.mpr (Ne.symm (Nat.ne_of_lt I.big))) rel dd'))
 exact (hs.2 b (Nat.ne_of_lt (Heap.lt_size hq))).trans (Heap.get?_push_of_some _ hq)
end
section
variable {X:Cx} {pins:List (Addr × Obj)} {σ:St} {H:Hp} {s:Shared} {a:Addr} {y:V} {u:Value} {A:Around} {E:Value->Shared->Prop}
end
end L2
namespace L2
open PySem PySem.Spec PyProof.Rows
section
variable {κ:Type} [DecidableEq κ]
end
end L2
namespace L2
open PySem PySem.Spec PyProof.Rows
structure Kp (S:List Addr) (H H':Hp):Prop where
 old:∀ a o,H a=some o->a ∉ S->H' a=some o
 tup:∀ a xs,H a=some (.tup xs)->H' a=some (.tup xs)
 dom:∀ a o,H a=some o->∃ o',H' a=some o'
theorem Kp.refl (S:List Addr) (H:Hp):Kp S H H:=⟨fun _ _ e _=>e,fun _ _ e=>e,fun _ o e=>⟨o,e⟩⟩
theorem Kp.trans {S:List Addr} {H H1 H2:Hp} (a:Kp S H H1) (b:Kp S H1 H2):Kp S H H2 :=
 ⟨fun c o e n=>b.old c o (a.old c o e n) n,fun c xs e=>b.tup c xs (a.tup c xs e),fun c o e=>let ⟨o',e'⟩:=a.dom c o e;b.dom c o' e'⟩
theorem Kp.mono {S S':List Addr} {H H1:Hp} (a:Kp S H H1) (h:∀ x ∈ S,x ∈ S'):Kp S' H H1:=⟨fun c o e n=>a.old c o e fun z=>n (h c z),a.tup,a.dom⟩
theorem Kp.free {S:List Addr} {H H1:Hp} (k:Kp S H H1) {p:Addr} (h:H1 p=none):H p=none:=by
 cases e:H p with
 | none=>rfl
 | some o=>obtain ⟨o',e'⟩:=k.dom p o e;rw [h] at e';cases e'
theorem Kp.trans' {S S':List Addr} {H H1 H2:Hp} (a:Kp S H H1) (b:Kp S' H1 H2) (h:∀ x ∈ S',x ∈ S∨H x=none):Kp S H H2 :=
 ⟨fun c o e n=>b.old c o (a.old c o e n) fun z=>by
  rcases h c z with q | q
  ·exact n q
  ·(rw [q] at e;exact nomatch e),fun c xs e=>b.tup c xs (a.tup c xs e),fun c o e=>let ⟨o',e'⟩:=a.dom c o e;b.dom c o' e'⟩
theorem Kp.new {S:List Addr} {H H1:Hp} (k:Kp S H H1) {p:Addr} {o:HO} (h:H1 p=none):Kp S H (upd H1 p o) :=
 ⟨fun c u e n=>by rw [jc (je (k.old c u e n) h)];exact k.old c u e n,fun c xs e=>by rw [jc (je (k.tup c xs e) h)];exact k.tup c xs e,
  fun c u e=>by
   obtain ⟨o',e'⟩:=k.dom c u e
   exact ⟨o',by rw [jc (je e' h)];exact e'⟩⟩
theorem Kp.set {S:List Addr} {H H1:Hp} (k:Kp S H H1) {b:Addr} {xs:List V} {o:HO} (hb:H1 b=some (.lst xs)) (h:b ∈ S∨H b=none):Kp S H (upd H1 b o) :=
 ⟨fun c u e n=>by
  have:c≠b:=by
   rintro rfl
   rcases h with h | h
   ·exact n h
   ·rw [h] at e;cases e
  rw [jc this];exact k.old c u e n,
 fun c ys e=>by
  have e1:=k.tup c ys e
  rw [jc (ne_of e1 hb (by intro z;cases z))];exact e1,
 fun c u e=>by
  obtain ⟨o',e'⟩:=k.dom c u e
  by_cases q:c=b
  ·subst q;exact ⟨o,jb⟩
  ·exact ⟨o',by rw [jc q];exact e'⟩⟩
def lstOf:Option HO->Option (List V)
 | some (.lst xs)=>some xs
 | _=>none
def tupOf:Option HO->Option (List V)
 | some (.tup xs)=>some xs
 | _=>none
def seqOf:Option HO->Option (List V)
 | some (.lst xs)=>some xs
 | some (.tup xs)=>some xs
 | _=>none
theorem lstOf_lst (xs:List V):lstOf (some (.lst xs))=some xs:=rfl
theorem tupOf_tup (xs:List V):tupOf (some (.tup xs))=some xs:=rfl
theorem seqOf_lst (xs:List V):seqOf (some (.lst xs))=some xs:=rfl
theorem seqOf_tup (xs:List V):seqOf (some (.tup xs))=some xs:=rfl
theorem of_lstOf {o:Option HO} {xs:List V} (h:lstOf o=some xs):o=some (.lst xs):=by
 unfold lstOf at h
 split at h
 ·cases h;rfl
 ·cases h
theorem of_tupOf {o:Option HO} {xs:List V} (h:tupOf o=some xs):o=some (.tup xs):=by
 unfold tupOf at h
 split at h
 ·cases h;rfl
 ·cases h
theorem of_seqOf {o:Option HO} {xs:List V} (h:seqOf o=some xs):o=some (.lst xs)∨o=some (.tup xs):=by
 unfold seqOf at h
 split at h
 ·cases h;exact .inl rfl
 ·cases h;exact .inr rfl
 ·cases h
section
variable {X:Cx}
def rLtU:R2:=fun x y H Q=>match x,y with
 | .int i,.int j=>Q (.bl (decide (i < j))) H
 | .str i,.str j=>Q (.bl (decide (i.cps.toList < j.cps.toList))) H
 | _,_=>False
theorem ja9:OpR X (compareOp .Lt) rLtU:=by
 intro pins s σ H x y v u Q I rx ry h
 cases x with
 | int i=>cases y with
  | int j=>exact op_lt pins s σ H _ _ v u Q I rx ry ⟨i,j,rfl,rfl,h⟩
  | _=>exact False.elim h
 | str i=>cases y with
  | str j=>exact op_lt_str pins s σ H _ _ v u Q I rx ry ⟨i,j,rfl,rfl,h⟩
  | _=>exact False.elim h
 | _=>exact False.elim h
def rLeU:R2:=fun x y H Q=>match x,y with
 | .int i,.int j=>Q (.bl (decide (i<=j))) H
 | .str i,.str j=>Q (.bl (!decide (j.cps.toList < i.cps.toList))) H
 | _,_=>False
theorem op_leU:OpR X (compareOp .LtE) rLeU:=by
 intro pins s σ H x y v u Q I rx ry h
 cases x with
 | int i=>cases y with
  | int j=>exact op_le pins s σ H _ _ v u Q I rx ry ⟨i,j,rfl,rfl,h⟩
  | _=>exact False.elim h
 | str i=>cases y with
  | str j =>
   obtain ⟨t,rfl⟩:=rx
   obtain ⟨t',rfl⟩:=ry
   exact PySem.P.le_str (fin_bl I h (by rfl))
  | _=>exact False.elim h
 | _=>exact False.elim h
def rIxU:R2:=fun x y H Q=>match x,y with
 | .str z,.int i=>z.length<=sizeLine/\∃ c,atI z.cps.toList i=some c/\Q (.str ⟨#[c]⟩) H
 | .ref p,.int i=>∃ xs,seqOf (H p)=some xs/\∃ v,atI xs i=some v/\Q v H
 | _,_=>False
theorem ix_U:IxR X rIxU:=by
 intro value slice pins s σ H x y v u Q I rx ry h hs
 cases x with
 | str z=>cases y with
  | int i=>obtain ⟨h1,c,h2,h3⟩:=h;exact ix_str value slice pins s σ H _ _ v u Q I rx ry ⟨z,i,c,rfl,rfl,h1,h2,h3⟩ hs
  | _=>exact False.elim h
 | ref p=>cases y with
  | int i =>
   obtain ⟨xs,e,w,h2,h3⟩:=h
   rcases of_seqOf e with e | e
   ·exact jbq value slice pins s σ H _ _ v u Q I rx ry ⟨p,xs,i,w,rfl,rfl,SqL.of e,h2,h3⟩ hs
   ·exact ix_tup value slice pins s σ H _ _ v u Q I rx ry ⟨p,xs,i,w,rfl,rfl,SqT.of e,h2,h3⟩ hs
  | _=>exact False.elim h
 | _=>exact False.elim h
theorem atI_0 {α:Type} (x:α) (r:List α):atI (x::r) 0=some x:=atI_nat (j:=0) rfl
theorem atI_1 {α:Type} (x y:α) (r:List α):atI (x::y::r) 1=some y:=atI_nat (j:=1) rfl
theorem atI_2 {α:Type} (x y z:α) (r:List α):atI (x::y::z::r) 2=some z:=atI_nat (j:=2) rfl
theorem atI_of {α:Type} {xs:List α} {i:Int} {v:α} (h0:0<=i) (h:xs[i.toNat]?=some v):atI xs i=some v:=by
 have:=atI_nat (xs:=xs) (j:=i.toNat) h
 rwa [Int.toNat_of_nonneg h0] at this
def rSetU:V->V->V->Hp->(Hp->Prop)->Prop:=fun o i v H Q=>match o,i with
 | .ref p,.int k=>∃ xs,lstOf (H p)=some xs/\∃ j,ixN xs.length k=some j/\Q (upd H p (.lst (xs.set j v)))
 | _,_=>False
theorem set_U:PSet X rSetU:=by
 intro pins s σ H o i v ov iv u Q I ro ri rv h
 cases o with
 | ref p=>cases i with
  | int k =>
   obtain ⟨xs,e,j,h1,h2⟩:=h
   exact set_list pins s σ H _ _ v ov iv u Q I ro ri rv ⟨p,xs,k,j,rfl,rfl,of_lstOf e,h1,h2⟩
  | _=>exact False.elim h
 | _=>exact False.elim h
def rLenU:List V->Hp->VK->Prop:=fun xs H Q=>match xs with
 | [.str z]=>z.length<=sizeLine/\Q (.int z.length) H
 | [.ref p]=>∃ ys,seqOf (H p)=some ys/\Q (.int ys.length) H
 | _=>False
theorem jr:CallR X (.builtin "len") rLenU:=by
 intro pins s σ H xs us Q I r h
 unfold rLenU at h
 split at h
 ·rename_i z;exact call_len_str pins s σ H _ us Q I r ⟨z,rfl,h⟩
 ·rename_i p
  obtain ⟨ys,e,h⟩:=h
  rcases of_seqOf e with e | e
  ·exact zw pins s σ H _ us Q I r ⟨p,ys,rfl,.inl (SqL.of e),h⟩
  ·exact zw pins s σ H _ us Q I r ⟨p,ys,rfl,.inr (SqT.of e),h⟩
 ·exact h.elim
def rMinU:List V->Hp->VK->Prop:=fun xs H Q=>match xs with
 | [.int i,.int j]=>Q (.int (if j < i then j else i)) H
 | _=>False
theorem jbz (hc:X.calm=true):CallR X (.builtin "min") rMinU:=by
 intro pins s σ H xs us Q I r h
 unfold rMinU at h
 split at h
 ·rename_i i j;exact call_min2 hc pins s σ H _ us Q I r ⟨i,j,rfl,h⟩
 ·exact h.elim
def rMaxU:List V->Hp->VK->Prop:=fun xs H Q=>match xs with
 | [.int i,.int j]=>Q (.int (if j > i then j else i)) H
 | _=>False
theorem jby (hc:X.calm=true):CallR X (.builtin "max") rMaxU:=by
 intro pins s σ H xs us Q I r h
 unfold rMaxU at h
 split at h
 ·rename_i i j;exact call_max2 hc pins s σ H _ us Q I r ⟨i,j,rfl,h⟩
 ·exact h.elim
def rIntU:List V->Hp->VK->Prop:=fun xs H Q=>match xs with
 | [.int i]=>Q (.int i) H
 | [.bl k]=>Q (.int (if k then 1 else 0)) H
 | _=>False
theorem jas:CallR X (.type "int") rIntU:=by
 intro pins s σ H xs us Q I r h
 unfold rIntU at h
 split at h
 ·rename_i i;exact jbx pins s σ H _ us Q I r (.inl ⟨i,rfl,h⟩)
 ·rename_i k;exact jbx pins s σ H _ us Q I r (.inr ⟨k,rfl,h⟩)
 ·exact h.elim
def sgn (z:Str):List V:=z.cps.toList.map fun c=>V.str ⟨#[c]⟩
theorem sgn_len (z:Str):(sgn z).length=z.length:=by simp [sgn,Str.length]
theorem vals_sgn {z:Str} {acc:Array Value} (h:ItemsOf (SignAt z) acc z.cps.size):Vals (sgn z) acc.toList:=by
 obtain ⟨h1,h2⟩:=h
 have hl:(sgn z).length=acc.toList.length:=by simp [sgn,h1]
 have gen:∀ (xs:List V) (us:List Value),xs.length=us.length->(∀ (i:Nat) (x:V) (u:Value),xs[i]?=some x->us[i]?=some u->RelV x u)->Vals xs us:=by
  intro xs
  induction xs with
  | nil=>intro us hl _;cases us with
   | nil=>exact .nil
   | cons _ _=>simp at hl
  | cons x xs ih=>intro us hl h;cases us with
   | nil=>simp at hl
   | cons u us=>exact .cons (h 0 x u rfl rfl) (ih us (by simpa using hl) fun i a b e1 e2=>h (i+1) a b (by simpa using e1) (by simpa using e2))
 refine gen _ _ hl fun i x u e1 e2=>?_
 obtain ⟨c,t,hc,hu⟩:=h2 i u (by simpa using e2)
 subst hu
 simp only [sgn,List.getElem?_map] at e1
 have:z.cps.toList[i]?=some c:=by simpa using hc
 rw [this] at e1
 have e1':V.str ⟨#[c]⟩=x:=Option.some.inj e1
 subst e1'
 exact ⟨t,rfl⟩
def rListU:List V->Hp->VK->Prop:=fun xs H Q=>match xs with
 | [.str z]=>z.length<=sizeLine/\∀ l,H l=none->Q (.ref l) (upd H l (.lst (sgn z)))
 | [.ref p]=>∃ ys,seqOf (H p)=some ys/\∀ l,H l=none->Q (.ref l) (upd H l (.lst ys))
 | _=>False
theorem jbl (hc:X.calm=true):CallR X (.type "list") rListU:=by
 intro pins s σ H xs us Q I r h
 unfold rListU at h
 split at h
 ·rename_i z
  obtain ⟨u,rfl,t,rfl⟩:=vals1 r
  obtain ⟨hz,q⟩:=h
  refine call_list_str (I.ok.hd hc) z t (fun h' tk acc c hk hn hi=>?_) hz
  have hf:=I.hok.fresh (Nat.le_refl s.heap.objs.size)
  refine ⟨.ref s.heap.objs.size,upd H s.heap.objs.size (.lst (sgn z)),I.laid hk (Nat.le_refl _) ⟨by rw [sgn_len];exact hz,acc.toList,c,vals_sgn hi,by simpa using hn⟩,rfl,q _ hf⟩
 ·rename_i p
  obtain ⟨ys,e,h⟩:=h
  rcases of_seqOf e with e | e
  ·exact ja8 pins s σ H _ us Q I r ⟨p,ys,rfl,.inl (SqL.of e),h⟩
  ·exact ja8 pins s σ H _ us Q I r ⟨p,ys,rfl,.inr (SqT.of e),h⟩
 ·exact h.elim
def rPopU:V->List V->Hp->VK->Prop:=fun x vs H Q=>match x,vs with
 | .ref l,[.int i]=>∃ xs,lstOf (H l)=some xs/\0<=i/\∃ y,xs[i.toNat]?=some y/\Q y (upd H l (.lst (xs.eraseIdx i.toNat)))
 | _,_=>False
theorem mt_popU:MtM X "list.pop" rPopU:=by
 intro pins s σ H x vs v us Q I rx rv h
 unfold rPopU at h
 split at h
 ·rename_i l i
  obtain ⟨xs,e,h0,y,hy,q⟩:=h
  have e:=of_lstOf e
  have hz:=(I.lstM e).1
  have hlt:i.toNat < xs.length:=(List.getElem?_eq_some_iff.mp hy).1
  have hs:sizeLine=16777216:=sizeLine_eq
  refine mt_popAt pins s σ H _ _ v us Q I rx rv ⟨l,xs,i,i.toNat,y,rfl,rfl,e,by omega,by omega,?_,hy,q⟩
  exact seqIndex_of h0 (by omega)
 ·exact h.elim
def rIsU (K:PySem.W.Frag):List V->Hp->VK->Prop:=fun xs H Q=>match xs with
 | [x,.ty c]=>∃ t b,TyOf K H x t/\PySem.W.kitOne K t (.type c)=some b/\Q (.bl b) H
 | _=>False
theorem call_isinstanceU:CallR X (.builtin "isinstance") (rIsU X.K):=by
 intro pins s σ H xs us Q I r h
 unfold rIsU at h
 split at h
 ·rename_i x c
  obtain ⟨t,b,ty,e,q⟩:=h
  obtain ⟨u,w',rfl,rx,rc⟩:=vals2 r
  cases rc
  exact isinst_ok I rx ty e fun tk=>⟨.bl b,H,I.tok tk,rfl,q⟩
 ·exact h.elim
def ItS (z:Str):It:=⟨fun i _=>i < z.length,fun i H x H'=>H'=H/\∃ c,z.cps.toList[i]?=some c/\x=.str ⟨#[c]⟩,fun i _=>z.length<=i⟩
theorem turn_strA {P:Program} {w:World} {K:PySem.W.Frag} {tg:Expr} (z:Str) (t:Tok) (it:Addr):Turn P w K tg (ItS z) [it] it (fun i h=>h.IsStrIter it "str_ascii_iterator" z t i) where
 mem:=by simp
 obj:=fun i h st b hb=>by
  have e:b=it:=by simpa using hb
  subst e
  obtain ⟨o,e,c,d⟩:=st
  exact ⟨o,e,fun v z=>by rw [d] at z;cases z⟩
 keep:=fun i h h' st k=>let ⟨o,ho,r⟩:=st;⟨o,k it (by simp) o ho,r⟩
 item:=by
  intro X hP hw hK hc i pins s σ H E I hf st hg
  subst hP hw hK
  obtain ⟨f0,f1,f2,f3,f4,f5⟩:=hf it (by simp)
  have hi:i < z.cps.size:=hg
  refine wpAny_pyNext_ascii_item st (c:=z.cps[i]) (by simp [hi]) fun h' st' sb=>?_
  have I1:Inv X pins σ H { s with heap:=h',toks:=s.toks+1 }:=I.turned (t':=s.toks+1) (fun b o hb e=>(sb.2 b hb).trans e) f0 f1 f3 f4 f5
  obtain ⟨o,e,c,d⟩:=id st'
  exact ⟨_,rfl,go_of (s:={ s with heap:=h',toks:=s.toks+1 }) e c d (by decide) ⟨.str ⟨#[z.cps[i]]⟩,H,I1,⟨_,rfl⟩,⟨rfl,_,by simp [hi],rfl⟩,st',fun b hb=>(hf b hb).1⟩⟩
 done:=by
  intro X hP hw hK hc i pins s σ H E I hf st hg
  subst hP hw hK
  obtain ⟨f0,f1,f2,f3,f4,f5⟩:=hf it (by simp)
  have hi:z.cps.size<=i:=hg
  exact wpAny_pyNext_ascii_end (I.ok.hd hc) st (by simp [hi]) fun h' eb=>⟨rfl,I.turned (t':=s.toks) (fun b o hb e=>eb b o hb e) f0 f1 f3 f4 f5⟩
 self:=fun _ _ _ _ _ st h=>wpAny_pyIter_striter_ascii st h
theorem turn_strW {P:Program} {w:World} {K:PySem.W.Frag} {tg:Expr} (z:Str) (t:Tok) (it:Addr):Turn P w K tg (ItS z) [it] it (fun i h=>h.IsStrIter it "str_iterator" z t i) where
 mem:=by simp
 obj:=fun i h st b hb=>by
  have e:b=it:=by simpa using hb
  subst e
  obtain ⟨o,e,c,d⟩:=st
  exact ⟨o,e,fun v z=>by rw [d] at z;cases z⟩
 keep:=fun i h h' st k=>let ⟨o,ho,r⟩:=st;⟨o,k it (by simp) o ho,r⟩
 item:=by
  intro X hP hw hK hc i pins s σ H E I hf st hg
  subst hP hw hK
  obtain ⟨f0,f1,f2,f3,f4,f5⟩:=hf it (by simp)
  have hi:i < z.cps.size:=hg
  refine wpAny_pyNext_wide_item st (c:=z.cps[i]) (by simp [hi]) fun h' st' sb=>?_
  have I1:Inv X pins σ H { s with heap:=h',toks:=s.toks+1 }:=I.turned (t':=s.toks+1) (fun b o hb e=>(sb.2 b hb).trans e) f0 f1 f3 f4 f5
  obtain ⟨o,e,c,d⟩:=id st'
  exact ⟨_,rfl,go_of (s:={ s with heap:=h',toks:=s.toks+1 }) e c d (by decide) ⟨.str ⟨#[z.cps[i]]⟩,H,I1,⟨_,rfl⟩,⟨rfl,_,by simp [hi],rfl⟩,st',fun b hb=>(hf b hb).1⟩⟩
 done:=by
  intro X hP hw hK hc i pins s σ H E I hf st hg
  subst hP hw hK
  obtain ⟨f0,f1,f2,f3,f4,f5⟩:=hf it (by simp)
  have hi:z.cps.size<=i:=hg
  exact wpAny_pyNext_wide_end (I.ok.hd hc) st (by simp [hi]) fun h' eb=>⟨rfl,I.turned (t':=s.toks) (fun b o hb e=>eb b o hb e) f0 f1 f3 f4 f5⟩
 self:=fun _ _ _ _ _ st h=>wpAny_pyIter_striter_wide st h
def iAny (K:PySem.W.Frag) (t:TE):TI:=fun σ H R=>t σ H fun x H1=>match x with
 | .str z=>R (ItS z) H1
 | .ref a=>match H1 a with
  | some (.lst _)=>R (Itl K a) H1
  | some (.tup _)=>R (Itt K a) H1
  | _=>False
 | _=>False
theorem pi_any {tg l:Expr} {tl:TE} (hl:PE X l tl):PI X tg l (iAny X.K tl):=by
 intro pins s σ H R I h
 refine thn (hl pins s σ H _ I h) fun v s1 ⟨x,H1,I1,r1,q1⟩=>?_
 cases x with
 | str z =>
  obtain ⟨t,rfl⟩:=r1
  have fr:∀ b ∈ [s1.heap.objs.size],FpOk X pins H1 b:=fun b hb=>by
   have e:b=s1.heap.objs.size:=by simpa using hb
   subst e
   exact I1.fpOk (Nat.le_refl _) (I1.hok.fresh (Nat.le_refl _))
  cases ha:z.cps.all (· < 128)
  ·exact wpAny_pyIter_wide ha ⟨s1.heap.objs.size,[s1.heap.objs.size],_,_,H1,rfl,I1.kept (t':=s1.toks) fun b o e=>Heap.get?_push_of_some _ e,turn_strW z t _,⟨_,Heap.get?_push_size _ rfl,rfl,rfl⟩,fr,q1⟩
  ·exact wpAny_pyIter_ascii ha ⟨s1.heap.objs.size,[s1.heap.objs.size],_,_,H1,rfl,I1.kept (t':=s1.toks) fun b o e=>Heap.get?_push_of_some _ e,turn_strA z t _,⟨_,Heap.get?_push_size _ rfl,rfl,rfl⟩,fr,q1⟩
 | ref a =>
  cases r1
  have fr:∀ b ∈ [s1.heap.objs.size],FpOk X pins H1 b:=fun b hb=>by
   have e:b=s1.heap.objs.size:=by simpa using hb
   subst e
   exact I1.fpOk (Nat.le_refl _) (I1.hok.fresh (Nat.le_refl _))
  simp only at q1
  split at q1
  ·rename_i xs e
   obtain ⟨its,rv,p,hz⟩:=I1.list (SqL.of e)
   exact wpAny_pyIter_list p.isList ⟨s1.heap.objs.size,[s1.heap.objs.size],_,_,H1,rfl,I1.kept (t':=s1.toks) fun b o e=>Heap.get?_push_of_some _ e,turn_list a _,⟨_,Heap.get?_push_size _ rfl,rfl,rfl⟩,fr,q1⟩
  ·rename_i xs e
   obtain ⟨its,rv,p,hz⟩:=I1.tuple (SqT.of e)
   exact wpAny_pyIter_tuple (show s1.heap.IsTuple a its.toArray from p) ⟨s1.heap.objs.size,[s1.heap.objs.size],_,_,H1,rfl,I1.kept (t':=s1.toks) fun b o e=>Heap.get?_push_of_some _ e,turn_tuple a _,⟨_,Heap.get?_push_size _ rfl,rfl,rfl⟩,fr,q1⟩
  ·exact q1.elim
 | _=>exact False.elim q1
theorem for_str {z:Str} {g:TG} {tb:TS} {D:Ends} {σ:St} {H:Hp} (Pv:Nat->St->Hp->Prop) (h0:Pv 0 σ H)
  (hs:∀ i c σ H,z.cps.toList[i]?=some c->Pv i σ H->g (.str ⟨#[c]⟩) σ H fun σ2 H2=>tb { D with nx:=Pv (i+1),ct:=Pv (i+1),bk:=D.nx } σ2 H2) (hd:∀ σ H,Pv z.length σ H->D.nx σ H) :
  ∃ W:Nat->Nat->St->Hp->Prop,(∃ m,W 0 m σ H)/\∀ i m σ H,W i m σ H ->
   ((ItS z).stop i H/\D.nx σ H)∨((ItS z).go i H/\∃ N:St->Hp->Prop,(∀ σ' H',N σ' H'->∃ m',m' < m/\W (i+1) m' σ' H')/\∀ x H',(ItS z).yld i H x H'->g x σ H' fun σ2 H2=>tb { D with nx:=N,ct:=N,bk:=D.nx } σ2 H2):=by
 refine ⟨fun i m σ H=>m=z.length - i/\i<=z.length/\Pv i σ H,⟨z.length,by simp,Nat.zero_le _,h0⟩,?_⟩
 rintro i m σ H ⟨rfl,hi,p⟩
 by_cases hlt:i < z.length
 ·refine .inr ⟨hlt,Pv (i+1),fun σ' H' p'=>⟨z.length - (i+1),by omega,rfl,hlt,p'⟩,fun x H' y=>?_⟩
  obtain ⟨e,c,e1,e2⟩:=y
  subst e e2
  exact hs i c σ _ e1 p
 ·have e:i=z.length:=by omega
  subst e
  exact .inl ⟨Nat.le_refl _,hd σ H p⟩
mutual
def Rep (H:Hp):V->PyData->Prop
 | v,.none=>v=.non
 | v,.bool b=>v=.bl b
 | v,.int i=>v=.int i
 | v,.str x=>v=.str x
 | v,.list ds=>∃ a vs,v=.ref a/\H a=some (.lst vs)/\Reps H vs ds
 | v,.tuple ds=>∃ a vs,v=.ref a/\H a=some (.tup vs)/\Reps H vs ds
 | _,.dict _=>False
def Reps (H:Hp):List V->List PyData->Prop
 | [],[]=>True
 | v::vs,d::ds=>Rep H v d/\Reps H vs ds
 | _,_=>False
end
theorem Reps.strs (H:Hp):∀ l:List Str,Reps H (l.map V.str) (l.map PyData.str)
 | []=>by simp [Reps]
 | x::r=>by simp [Reps,Rep,Reps.strs H r]
section
variable {pins:List (Addr × Obj)} {σ:L2.St} {H:Hp} {s:Shared}
mutual
theorem Rep.reads (I:Inv X pins σ H s):∀ {d:PyData} {v:V} {u:Value},Rep H v d->RelV v u->∃ as,Reads s.heap u d as
 | .none,v,u,h,r=>by simp only [Rep] at h;subst h;cases r;exact ⟨_,.none⟩
 | .bool b,v,u,h,r=>by simp only [Rep] at h;subst h;cases r;exact ⟨_,.bool b⟩
 | .int i,v,u,h,r=>by simp only [Rep] at h;subst h;obtain ⟨t,rfl⟩:=r;exact ⟨_,.int i t⟩
 | .str x,v,u,h,r=>by simp only [Rep] at h;subst h;obtain ⟨t,rfl⟩:=r;exact ⟨_,.str x t⟩
 | .list ds,v,u,h,r=>by
  simp only [Rep] at h
  obtain ⟨a,vs,rfl,e,h⟩:=h
  cases r
  obtain ⟨its,rv,⟨o,n,e1,e2,e3,e4⟩,hz⟩:=I.list (SqL.of e)
  obtain ⟨as,q⟩:=Reps.reads I h rv
  exact ⟨_,reads_list_at e1 e2 e4 (by simpa using q)⟩
 | .tuple ds,v,u,h,r=>by
  simp only [Rep] at h
  obtain ⟨a,vs,rfl,e,h⟩:=h
  cases r
  obtain ⟨its,rv,⟨o,e1,e2,n,e4⟩,hz⟩:=I.tuple (SqT.of e)
  obtain ⟨as,q⟩:=Reps.reads I h rv
  exact ⟨_,reads_tuple_at e1 e2 e4 (by simpa using q)⟩
 | .dict _,v,u,h,r=>by simp only [Rep] at h
theorem Reps.reads (I:Inv X pins σ H s):∀ {ds:List PyData} {vs:List V} {us:List Value},Reps H vs ds->Vals vs us->∃ as,ReadsAll s.heap us ds as
 | [],[],us,h,r=>by cases r;exact ⟨_,.nil⟩
 | [],v::vs,us,h,r=>by simp only [Reps] at h
 | d::ds,[],us,h,r=>by simp only [Reps] at h
 | d::ds,v::vs,us,h,r=>by
  simp only [Reps] at h
  cases r with
  | cons r1 r2 =>
   obtain ⟨as,q⟩:=Rep.reads I h.1 r1
   obtain ⟨bs,q2⟩:=Reps.reads I h.2 r2
   exact ⟨_,.cons q q2⟩
end
end
def rEqD:R2:=fun x y H Q=>∃ d e,Rep H x d/\Rep H y e/\SeqAt.shaped d=true/\SeqAt.shaped e=true/\Q (.bl (PyData.eqv d e)) H
theorem op_eqD (hu:X.A.units+64 < cLine):OpR X (compareOp .Eq) rEqD:=by
 intro pins s σ H x y v u Q I rx ry h
 obtain ⟨d,e,hd,he,sd,se,q⟩:=h
 obtain ⟨as,r1⟩:=hd.reads I rx
 obtain ⟨bs,r2⟩:=he.reads I ry
 exact eq_dataH r1 r2 sd se hu ⟨.bl _,H,I,rfl,q⟩
def rNeD:R2:=fun x y H Q=>∃ d e,Rep H x d/\Rep H y e/\SeqAt.shaped d=true/\SeqAt.shaped e=true/\Q (.bl (!PyData.eqv d e)) H
theorem op_neD (hu:X.A.units+64 < cLine):OpR X (compareOp .NotEq) rNeD:=by
 intro pins s σ H x y v u Q I rx ry h
 obtain ⟨d,e,hd,he,sd,se,q⟩:=h
 obtain ⟨as,r1⟩:=hd.reads I rx
 obtain ⟨bs,r2⟩:=he.reads I ry
 exact ne_dataH r1 r2 sd se hu ⟨.bl _,H,I,rfl,q⟩
theorem shaped_strs {l:List Str} (h:∀ x ∈ l,PyData.strOk x=true):SeqAt.shaped (.list (l.map PyData.str))=true:=by
 have h1:∀ l:List Str,(∀ x ∈ l,PyData.strOk x=true)->PyData.canLayAll0 (l.map PyData.str)=true:=by
  intro l
  induction l with
  | nil=>intro _;rfl
  | cons x r ih=>intro h;simp [PyData.canLayAll0,PyData.canLay0,h x (.head _),ih fun y hy=>h y (.tail _ hy)]
 have h2:∀ l:List Str,PyData.depthAll (l.map PyData.str)=0:=by
  intro l
  induction l with
  | nil=>rfl
  | cons x r ih=>simp [PyData.depthAll,PyData.depth,ih]
 simp [SeqAt.shaped,PyData.canLay0,PyData.depth,h1 l h,h2 l]
theorem eqv_strs_self (l:List Str):PyData.eqv (.list (l.map PyData.str)) (.list (l.map PyData.str))=true:=by
 have:∀ l:List Str,PyData.eqvAll (l.map PyData.str) (l.map PyData.str)=true:=by
  intro l
  induction l with
  | nil=>rfl
  | cons x r ih=>simp [PyData.eqvAll,PyData.eqv,ih]
 simp [PyData.eqv,this]
end
end L2
namespace L2
open PySem PySem.Spec PyProof.Rows
theorem jx:bootBuiltins "len"=some (.builtin "len"):=by decide +kernel
theorem jci:bootBuiltins "min"=some (.builtin "min"):=by decide +kernel
theorem jb4:bootBuiltins "max"=some (.builtin "max"):=by decide +kernel
theorem ja4:bootBuiltins "isinstance"=some (.builtin "isinstance"):=by decide +kernel
theorem jch:bootBuiltins "any"=some (.builtin "any"):=by decide +kernel
theorem jbk:bootBuiltins "sum"=some (.builtin "sum"):=by decide +kernel
theorem jbj:bootBuiltins "int"=some (.type "int"):=by decide +kernel
theorem jbe:bootBuiltins "list"=some (.type "list"):=by decide +kernel
theorem zu:bootBuiltins "tuple"=some (.type "tuple"):=by decide +kernel
theorem bt_str:bootBuiltins "str"=some (.type "str"):=by decide +kernel
theorem jax:bootBuiltins "dict"=some (.type "dict"):=by decide +kernel
theorem bt_range:bootBuiltins "range"=some (.type "range"):=by decide +kernel
theorem ja6:bootBuiltins "enumerate"=some (.type "enumerate"):=by decide +kernel
theorem bt_zip:bootBuiltins "zip"=some (.type "zip"):=by decide +kernel
section
variable {X:Cx}
def isL (x:V) (H:Hp):Prop:=match x with
 | .ref p=>(lstOf (H p)).isSome=true
 | _=>False
def tBML (r:V->List V->Hp->VK->Prop) (to:TE) (t:TA):TE:=fun σ H Q=>to σ H fun x H1=>isL x H1/\t σ H1 fun xs H2=>r x xs H2 Q
theorem isL.ty {K:PySem.W.Frag} {x:V} {H:Hp} (h:isL x H):tyV K "list" x H:=by
 unfold isL at h
 split at h
 ·rename_i p
  cases e:lstOf (H p) with
  | none=>rw [e] at h;cases h
  | some ys=>exact .inl ⟨rfl,ys,SqL.of (of_lstOf e)⟩
 ·exact h.elim
variable {o e:Expr} {es:List Expr} {to:TE} {t:TA} {name:Str} {apos cpos:Pos} {id:String} {r:V->List V->Hp->VK->Prop}
theorem PE.imp {e:Expr} {t t':TE} (h:PE X e t) (hi:∀ σ H Q,t' σ H Q->t σ H Q):PE X e t':=fun pins s σ H Q I hw=>h pins s σ H Q I (hi σ H Q hw)
theorem pe_bmL (slot:Slot "list" name id) (hty:typeOf (.builtin id)=pure (.type "method_descriptor")) (hm:MtM X id r) (ho:PE X o to) (ha:PA X (e::es) t) (mono:∀ σ H Q Q',(∀ v H',Q v H'->Q' v H')->to σ H Q->to σ H Q')
  (hbase:attributeBase o name X.env (eval o X.env)=eval o X.env:=by rfl)
  (hfew:((backTo cpos (starEach (e::es) X.env)).all (fun x=>!x.1) && (backToKw cpos (keywordEach [] X.env)).all (fun x=>x.1.isSome)
   && decide ((e::es).length+([]:List Keyword).length+(if ([]:List Keyword).isEmpty then 0 else 1) < 30))=true:=by rfl)
  (hline:(apos.endLine == cpos.line)=true:=by rfl) (hs:starEach (e::es) X.env=(false,eval e X.env)::starEach es X.env:=by rfl) (hplain:(backTo cpos (starEach es X.env)).any (·.1)=false:=by rfl) :
  PE X (.Call (.Attribute o name apos) (e::es) [] cpos) (tBML r to t) :=
 (jcf PySem.F.plainAttrs_list slot hty hm ho ha hbase hfew hline hs hplain).imp fun σ H Q h=>mono σ H _ _ (fun v H' q=>⟨q.1.ty,q.2⟩) h
def tBML0 (r:V->List V->Hp->VK->Prop) (to:TE):TE:=fun σ H Q=>to σ H fun x H1=>isL x H1/\r x [] H1 Q
theorem pe_bmL0 (slot:Slot "list" name id) (hty:typeOf (.builtin id)=pure (.type "method_descriptor")) (hm:MtM X id r) (ho:PE X o to) (mono:∀ σ H Q Q',(∀ v H',Q v H'->Q' v H')->to σ H Q->to σ H Q')
  (hbase:attributeBase o name X.env (eval o X.env)=eval o X.env:=by rfl) (hline:(apos.endLine == cpos.line)=true:=by rfl):PE X (.Call (.Attribute o name apos) [] [] cpos) (tBML0 r to) :=
 (pe_bm0 PySem.F.plainAttrs_list slot hty hm ho hbase hline).imp fun σ H Q h=>mono σ H _ _ (fun v H' q=>⟨q.1.ty,q.2⟩) h
theorem mono_var {i:Nat}:∀ σ H Q Q',(∀ v H',Q v H'->Q' v H')->tVar i σ H Q->tVar i σ H Q':=fun _ _ _ _ h ⟨v,e,q⟩=>⟨v,e,h v _ q⟩
def rAppendU:V->List V->Hp->VK->Prop:=fun x vs H Q=>match x,vs with
 | .ref l,[y]=>∃ xs,lstOf (H l)=some xs/\xs.length < sizeLine/\Q .non (upd H l (.lst (xs++[y])))
 | _,_=>False
theorem ya:MtM X "list.append" rAppendU:=by
 intro pins s σ H x vs v us Q I rx rv h
 unfold rAppendU at h
 split at h
 ·rename_i l y
  obtain ⟨xs,e,h⟩:=h
  exact jau pins s σ H _ _ v us Q I rx rv ⟨l,xs,y,rfl,rfl,of_lstOf e,h⟩
 ·exact h.elim
def rExtendU:V->List V->Hp->VK->Prop:=fun x vs H Q=>match x,vs with
 | .ref l,[.ref b]=>∃ xs,lstOf (H l)=some xs/\∃ zs,lstOf (H b)=some zs/\xs.length+zs.length<=sizeLine/\Q .non (upd H l (.lst (xs++zs)))
 | _,_=>False
theorem ja0:MtM X "list.extend" rExtendU:=by
 intro pins s σ H x vs v us Q I rx rv h
 unfold rExtendU at h
 split at h
 ·rename_i l b
  obtain ⟨xs,e1,zs,e2,h⟩:=h
  exact mt_extend pins s σ H _ _ v us Q I rx rv ⟨l,b,xs,zs,rfl,rfl,of_lstOf e1,of_lstOf e2,h⟩
 ·exact h.elim
def rClearU:V->List V->Hp->VK->Prop:=fun x vs H Q=>match x,vs with
 | .ref l,[]=>(lstOf (H l)).isSome=true/\Q .non (upd H l (.lst []))
 | _,_=>False
theorem mt_clearU:MtM X "list.clear" rClearU:=by
 intro pins s σ H x vs v us Q I rx rv h
 unfold rClearU at h
 split at h
 ·rename_i l
  obtain ⟨h1,h⟩:=h
  cases e:lstOf (H l) with
  | none=>rw [e] at h1;cases h1
  | some xs=>exact mt_clear pins s σ H _ _ v us Q I rx rv ⟨l,xs,rfl,rfl,of_lstOf e,h⟩
 ·exact h.elim
def rEqU:R2:=fun x y H Q=>match x,y with
 | .int i,.int j=>Q (.bl (decide (i=j))) H
 | .bl i,.bl j=>Q (.bl (decide (i=j))) H
 | .str i,.str j=>Q (.bl (decide (i=j))) H
 | .ref a,.ref b=>rEqD (.ref a) (.ref b) H Q
 | x,y=>scal x y=true/\Q (.bl (decide (x=y))) H
def rNeU:R2:=fun x y H Q=>match x,y with
 | .int i,.int j=>Q (.bl (!decide (i=j))) H
 | .bl i,.bl j=>Q (.bl (!decide (i=j))) H
 | .str i,.str j=>Q (.bl (!decide (i=j))) H
 | .ref a,.ref b=>rNeD (.ref a) (.ref b) H Q
 | x,y=>scal x y=true/\Q (.bl (!decide (x=y))) H
theorem yv (hu:X.A.units+64 < cLine):OpR X (compareOp .Eq) rEqU:=by
 intro pins s σ H x y v u Q I rx ry h
 unfold rEqU at h
 split at h
 ·exact jb2 pins s σ H _ _ v u Q I rx ry ⟨rfl,by simpa using h⟩
 ·exact jb2 pins s σ H _ _ v u Q I rx ry ⟨rfl,by simpa using h⟩
 ·exact jb2 pins s σ H _ _ v u Q I rx ry ⟨rfl,by simpa using h⟩
 ·exact op_eqD hu pins s σ H _ _ v u Q I rx ry h
 ·exact jb2 pins s σ H _ _ v u Q I rx ry h
theorem jbn (hu:X.A.units+64 < cLine):OpR X (compareOp .NotEq) rNeU:=by
 intro pins s σ H x y v u Q I rx ry h
 unfold rNeU at h
 split at h
 ·exact jb3 pins s σ H _ _ v u Q I rx ry ⟨rfl,by simpa using h⟩
 ·exact jb3 pins s σ H _ _ v u Q I rx ry ⟨rfl,by simpa using h⟩
 ·exact jb3 pins s σ H _ _ v u Q I rx ry ⟨rfl,by simpa using h⟩
 ·exact op_neD hu pins s σ H _ _ v u Q I rx ry h
 ·exact jb3 pins s σ H _ _ v u Q I rx ry h
theorem rLtU_int (H:Hp) (Q:VK) (i j:Int):rLtU (.int i) (.int j) H Q=(Q (.bl (decide (i < j))) H):=rfl
theorem rLtU_str (H:Hp) (Q:VK) (i j:Str):rLtU (.str i) (.str j) H Q=(Q (.bl (decide (i.cps.toList < j.cps.toList))) H):=rfl
theorem rLeU_int (H:Hp) (Q:VK) (i j:Int):rLeU (.int i) (.int j) H Q=(Q (.bl (decide (i<=j))) H):=rfl
theorem rLeU_str (H:Hp) (Q:VK) (i j:Str):rLeU (.str i) (.str j) H Q=(Q (.bl (!decide (j.cps.toList < i.cps.toList))) H):=rfl
theorem rIxU_str (H:Hp) (Q:VK) (z:Str) (i:Int):rIxU (.str z) (.int i) H Q=(z.length<=sizeLine/\∃ c,atI z.cps.toList i=some c/\Q (.str ⟨#[c]⟩) H):=rfl
theorem rIxU_ref (H:Hp) (Q:VK) (p:Addr) (i:Int):rIxU (.ref p) (.int i) H Q=(∃ xs,seqOf (H p)=some xs/\∃ v,atI xs i=some v/\Q v H):=rfl
theorem rLenU_str (H:Hp) (Q:VK) (z:Str):rLenU [.str z] H Q=(z.length<=sizeLine/\Q (.int z.length) H):=rfl
theorem rLenU_ref (H:Hp) (Q:VK) (p:Addr):rLenU [.ref p] H Q=(∃ ys,seqOf (H p)=some ys/\Q (.int ys.length) H):=rfl
theorem rMinU_int (H:Hp) (Q:VK) (i j:Int):rMinU [.int i,.int j] H Q=(Q (.int (if j < i then j else i)) H):=rfl
theorem rMaxU_int (H:Hp) (Q:VK) (i j:Int):rMaxU [.int i,.int j] H Q=(Q (.int (if j > i then j else i)) H):=rfl
theorem rIntU_int (H:Hp) (Q:VK) (i:Int):rIntU [.int i] H Q=(Q (.int i) H):=rfl
theorem rIntU_bl (H:Hp) (Q:VK) (k:Bool):rIntU [.bl k] H Q=(Q (.int (if k then 1 else 0)) H):=rfl
theorem rListU_str (H:Hp) (Q:VK) (z:Str):rListU [.str z] H Q=(z.length<=sizeLine/\∀ l,H l=none->Q (.ref l) (upd H l (.lst (sgn z)))):=rfl
theorem rListU_ref (H:Hp) (Q:VK) (p:Addr):rListU [.ref p] H Q=(∃ ys,seqOf (H p)=some ys/\∀ l,H l=none->Q (.ref l) (upd H l (.lst ys))):=rfl
theorem rPopU_ref (H:Hp) (Q:VK) (l:Addr) (i:Int):rPopU (.ref l) [.int i] H Q=(∃ xs,lstOf (H l)=some xs/\0<=i/\∃ y,xs[i.toNat]?=some y/\Q y (upd H l (.lst (xs.eraseIdx i.toNat)))):=rfl
theorem rAppendU_ref (H:Hp) (Q:VK) (l:Addr) (y:V):rAppendU (.ref l) [y] H Q=(∃ xs,lstOf (H l)=some xs/\xs.length < sizeLine/\Q .non (upd H l (.lst (xs++[y])))):=rfl
theorem rExtendU_ref (H:Hp) (Q:VK) (l b:Addr):rExtendU (.ref l) [.ref b] H Q=(∃ xs,lstOf (H l)=some xs/\∃ zs,lstOf (H b)=some zs/\xs.length+zs.length<=sizeLine/\Q .non (upd H l (.lst (xs++zs)))):=rfl
theorem rClearU_ref (H:Hp) (Q:VK) (l:Addr):rClearU (.ref l) [] H Q=((lstOf (H l)).isSome=true/\Q .non (upd H l (.lst []))):=rfl
theorem rEqU_int (H:Hp) (Q:VK) (i j:Int):rEqU (.int i) (.int j) H Q=(Q (.bl (decide (i=j))) H):=rfl
theorem rEqU_bl (H:Hp) (Q:VK) (i j:Bool):rEqU (.bl i) (.bl j) H Q=(Q (.bl (decide (i=j))) H):=rfl
theorem rEqU_str (H:Hp) (Q:VK) (i j:Str):rEqU (.str i) (.str j) H Q=(Q (.bl (decide (i=j))) H):=rfl
theorem rEqU_ref (H:Hp) (Q:VK) (i j:Addr):rEqU (.ref i) (.ref j) H Q=(rEqD (.ref i) (.ref j) H Q):=rfl
theorem rNeU_int (H:Hp) (Q:VK) (i j:Int):rNeU (.int i) (.int j) H Q=(Q (.bl (!decide (i=j))) H):=rfl
theorem rNeU_bl (H:Hp) (Q:VK) (i j:Bool):rNeU (.bl i) (.bl j) H Q=(Q (.bl (!decide (i=j))) H):=rfl
theorem rNeU_str (H:Hp) (Q:VK) (i j:Str):rNeU (.str i) (.str j) H Q=(Q (.bl (!decide (i=j))) H):=rfl
theorem rNeU_ref (H:Hp) (Q:VK) (i j:Addr):rNeU (.ref i) (.ref j) H Q=(rNeD (.ref i) (.ref j) H Q):=rfl
theorem rIsU_ty (K:PySem.W.Frag) (x:V) (c:String) (H:Hp) (Q:VK):rIsU K [x,.ty c] H Q=(∃ t b,TyOf K H x t/\PySem.W.kitOne K t (.type c)=some b/\Q (.bl b) H):=rfl
theorem rSetU_ref (p:Addr) (k:Int) (v:V) (H:Hp) (Q:Hp->Prop):rSetU (.ref p) (.int k) v H Q=(∃ xs,lstOf (H p)=some xs/\∃ j,ixN xs.length k=some j/\Q (upd H p (.lst (xs.set j v)))):=rfl
theorem isL_ref (p:Addr) (H:Hp):isL (.ref p) H=((lstOf (H p)).isSome=true):=rfl
def LoopR (J:It) (g:TG) (tb:TS) (D:Ends) (σ:L2.St) (H1:Hp):Prop:=∃ W:Nat->Nat->L2.St->Hp->Prop,(∃ m,W 0 m σ H1)/\∀ i m σ H,W i m σ H ->
 (J.stop i H/\D.nx σ H)∨(J.go i H/\∃ N:L2.St->Hp->Prop,(∀ σ' H',N σ' H'->∃ m',m' < m/\W (i+1) m' σ' H')/\∀ x H',J.yld i H x H'->g x σ H' fun σ2 H2=>tb { D with nx:=N,ct:=N,bk:=D.nx } σ2 H2)
theorem tFor_eq (wi:TI) (g:TG) (tb:TS) (D:Ends) (σ:L2.St) (H:Hp):tFor wi g tb D σ H=wi σ H fun J H1=>LoopR J g tb D σ H1:=rfl
theorem loop_range {lo:Int} {n:Nat} {g:TG} {tb:TS} {D:Ends} {σ:L2.St} {H:Hp} (Pv:Nat->L2.St->Hp->Prop) (h0:Pv 0 σ H)
  (hs:∀ i σ H,i < n->Pv i σ H->g (.int (lo+i)) σ H fun σ2 H2=>tb { D with nx:=Pv (i+1),ct:=Pv (i+1),bk:=D.nx } σ2 H2) (hd:∀ σ H,Pv n σ H->D.nx σ H):LoopR (Itr lo n) g tb D σ H:=for_range Pv h0 hs hd
theorem loop_str {z:Str} {g:TG} {tb:TS} {D:Ends} {σ:L2.St} {H:Hp} (Pv:Nat->L2.St->Hp->Prop) (h0:Pv 0 σ H)
  (hs:∀ i c σ H,z.cps.toList[i]?=some c->Pv i σ H->g (.str ⟨#[c]⟩) σ H fun σ2 H2=>tb { D with nx:=Pv (i+1),ct:=Pv (i+1),bk:=D.nx } σ2 H2) (hd:∀ σ H,Pv z.length σ H->D.nx σ H):LoopR (ItS z) g tb D σ H:=for_str Pv h0 hs hd
theorem loop_list {K:PySem.W.Frag} {a:Addr} {xs:List V} {g:TG} {tb:TS} {D:Ends} {σ:L2.St} {H:Hp} (Pv:Nat->L2.St->Hp->Prop) (h0:Pv 0 σ H) (hl:∀ i σ H,i<=xs.length->Pv i σ H->H a=some (.lst xs))
  (hs:∀ i x σ H,xs[i]?=some x->Pv i σ H->g x σ H fun σ2 H2=>tb { D with nx:=Pv (i+1),ct:=Pv (i+1),bk:=D.nx } σ2 H2) (hd:∀ σ H,Pv xs.length σ H->D.nx σ H):LoopR (Itl K a) g tb D σ H :=
 for_list Pv h0 (fun i σ H h p=>SqL.of (hl i σ H h p)) hs hd
theorem loop_tup {K:PySem.W.Frag} {a:Addr} {xs:List V} {g:TG} {tb:TS} {D:Ends} {σ:L2.St} {H:Hp} (Pv:Nat->L2.St->Hp->Prop) (h0:Pv 0 σ H) (hl:∀ i σ H,i<=xs.length->Pv i σ H->H a=some (.tup xs))
  (hs:∀ i x σ H,xs[i]?=some x->Pv i σ H->g x σ H fun σ2 H2=>tb { D with nx:=Pv (i+1),ct:=Pv (i+1),bk:=D.nx } σ2 H2) (hd:∀ σ H,Pv xs.length σ H->D.nx σ H):LoopR (Itt K a) g tb D σ H :=
 for_tup Pv h0 (fun i σ H h p=>SqT.of (hl i σ H h p)) hs hd
end
end L2
namespace L2
open PySem PySem.Spec PyProof.Rows
def clOf (env:Env):List (Str × NameKind)->List (Str × Addr)->List (Str × Addr)
 | [],cs=>cs
 | (n,k)::r,cs=>clOf env r (if k == .free then (n,(env.cells.lookup n).getD 0)::cs else cs)
theorem closure_of {env:Env} {scope:Scope} (h:∀ y ∈ scope.names,y.2=.free->∃ c,env.cells.lookup y.1=some c):closureFor scope env=pure (clOf env scope.names []):=by
 have gen:∀ (l:List (Str × NameKind)) (cs:List (Str × Addr)),(∀ y ∈ l,y.2=.free->∃ c,env.cells.lookup y.1=some c) ->
   (forIn l cs fun x r=>(match x with | (name,kind)=>if (kind == NameKind.free)=true then do let c ← cellOf env name;pure (ForInStep.yield ((name,c)::r)) else pure (ForInStep.yield r)):Sem (List (Str × Addr)))=pure (clOf env l cs):=by
  intro l
  induction l with
  | nil=>intro cs _;rfl
  | cons y l ih =>
   intro cs hy
   obtain ⟨n,k⟩:=y
   rw [List.forIn_cons]
   have hr:=fun z hz=>hy z (List.mem_cons_of_mem _ hz)
   by_cases hk:k=.free
   ·subst hk
    obtain ⟨c,hc⟩:=hy _ (List.mem_cons_self ..) rfl
    have hc':env.cells.lookup n=some c:=hc
    have e:cellOf env n=pure c:=by unfold cellOf;rw [hc']
    simp only [beq_self_eq_true,if_true,e,pure_bind]
    rw [ih _ hr]
    simp [clOf,hc']
   ·have hb:(k == NameKind.free)=false:=by simpa using hk
    simp only [hb,Bool.false_eq_true,if_false,pure_bind]
    rw [ih _ hr]
    simp [clOf,hb]
 exact (congrArg (· >>= fun s=>pure s) (gen scope.names [] h)).trans (by rfl)
theorem clOf_sub {env:Env}:∀ (l:List (Str × NameKind)) (cs:List (Str × Addr)) (x:Str) (c:Addr),(∀ y ∈ l,y.2=.free->∃ c,env.cells.lookup y.1=some c)->(∀ x c,cs.lookup x=some c->env.cells.lookup x=some c) ->
  (clOf env l cs).lookup x=some c->env.cells.lookup x=some c
 | [],cs,x,c,_,hc,h=>hc x c h
 | (n,k)::r,cs,x,c,hl,hc,h=>by
  unfold clOf at h
  refine clOf_sub r _ x c (fun y hy=>hl y (List.mem_cons_of_mem _ hy)) (fun z d hz=>?_) h
  split at hz
  ·rename_i hk
   rw [List.lookup_cons] at hz
   cases hzn:z == n with
   | true =>
    rw [hzn] at hz
    obtain ⟨c',hc'⟩:=hl _ (List.mem_cons_self ..) (by simpa using hk)
    have hc'':env.cells.lookup n=some c':=hc'
    have ez:z=n:=by simpa using hzn
    subst ez
    rw [hc''] at hz
    rw [hc'']
    exact hz
   | false=>rw [hzn] at hz;exact hc z d hz
  ·exact hc z d hz
theorem clOf_keep {env:Env}:∀ (l:List (Str × NameKind)) (cs:List (Str × Addr)) (x:Str),(∃ c,cs.lookup x=some c)->∃ c,(clOf env l cs).lookup x=some c
 | [],cs,x,h=>h
 | (n,k)::r,cs,x,h=>by
  unfold clOf
  refine clOf_keep r _ x ?_
  split
  ·rw [List.lookup_cons]
   cases x == n with
   | true=>exact ⟨_,rfl⟩
   | false=>exact h
  ·exact h
theorem clOf_has {env:Env}:∀ (l:List (Str × NameKind)) (cs:List (Str × Addr)) (x:Str),(x,NameKind.free) ∈ l->∃ c,(clOf env l cs).lookup x=some c
 | (n,k)::r,cs,x,h=>by
  unfold clOf
  rcases List.mem_cons.mp h with h | h
  ·cases h
   refine clOf_keep r _ _ ?_
   simp [List.lookup_cons]
  ·exact clOf_has r _ x h
abbrev Cx.comp (X:Cx) (scope:Scope) (C:Addr) (Nc:List Str) (s3:Shared) (H3:Hp) (fp:List Addr):Cx :=
 { X with N:=Nc,s₀:=s3,H₀:=H3,env:=compEnvC scope (clOf X.env scope.names []) C X.env,outer:=X.stack,stack:=X.stack,ex:=fp,fn:=fun _=>false,pn:=[],xe:=fun _ _=>False }
def compSt (js:List (Option Nat)) (σ:L2.St):L2.St:=js.map fun o=>o.bind fun j=>(σ[j]?).getD none
def tEmit (D:Addr) (te:TE):TS:=fun E σ H=>te σ H fun v H1=>∃ ys,lstOf (H1 D)=some ys/\ys.length < sizeLine/\E.nx σ (upd H1 D (.lst (ys++[v])))
def tComp (wi:TI) (g:TG) (js:List (Option Nat)) (te:TE):TE:=fun σ H Q=>wi σ H fun J H1=>∀ D,H1 D=none ->
 LoopR J g (tEmit D te) { nx:=fun _ H'=>Q (.ref D) H',rt:=fun _ _=>False } (compSt js σ) (upd H1 D (.lst []))
structure CompOk (X:Cx) (scope:Scope) (Nc:List Str) (js:List (Option Nat)):Prop where
 kind:scope.kind=.function
 nocell:∀ y ∈ scope.names,y.2≠.cell
 loc:∀ y ∈ scope.names,y.2=.local->scope.names.lookup y.1=some .local
 free:∀ y ∈ scope.names,y.2=.free->X.env.kindOf y.1=some .cell∨X.env.kindOf y.1=some .free
 len:js.length=Nc.length
 nol:∀ x,(x,NameKind.free) ∈ scope.names->scope.names.lookup x≠some .local
 see:∀ (i j:Nat) (x:Str),js[i]?=some (some j)->Nc[i]?=some x->X.N[j]?=some x/\(x,NameKind.free) ∈ scope.names
section
variable {X:Cx} {pins:List (Addr × Obj)} {σ:L2.St} {H:Hp} {s:Shared} {scope:Scope} {Nc:List Str} {js:List (Option Nat)} {fp:List Addr}
theorem CompOk.has (c:CompOk X scope Nc js) (I:Inv X pins σ H s):∀ y ∈ scope.names,y.2=.free->∃ a,X.env.cells.lookup y.1=some a:=fun y hy hf=>I.ok.has _ (c.free y hy hf)
theorem relabel_kind {env:Env} {x:Str}:∀ {l:List (Str × NameKind)},(∀ y ∈ l,y.2≠.cell) ->
  ((l.map fun (n,k)=>if (k == NameKind.free && env.scope.kind == .function && env.kindOf n == some .cell) then (n,NameKind.cell) else (n,k)).lookup x=some .cell ∨
   (l.map fun (n,k)=>if (k == NameKind.free && env.scope.kind == .function && env.kindOf n == some .cell) then (n,NameKind.cell) else (n,k)).lookup x=some .free)->(x,NameKind.free) ∈ l
 | [],_,h=>by simp at h
 | (n,k)::r,hc,h=>by
  rw [List.map_cons] at h
  by_cases hx:x=n
  ·subst hx
   have hk:k=.free:=by
    have hk':k≠.cell:=hc _ (List.mem_cons_self ..)
    by_cases hcond:(k == NameKind.free && env.scope.kind == .function && env.kindOf x == some .cell)=true
    ·rw [Bool.and_eq_true,Bool.and_eq_true] at hcond
     simpa using hcond.1.1
    ·simp only [hcond,Bool.false_eq_true,if_false,List.lookup_cons,beq_self_eq_true] at h
     rcases h with h | h
     ·exact absurd (Option.some.inj h) hk'
     ·exact Option.some.inj h
   subst hk
   exact List.mem_cons_self ..
  ·refine List.mem_cons_of_mem _ (relabel_kind (env:=env) (fun y hy=>hc y (List.mem_cons_of_mem _ hy)) ?_)
   have hxn:(x == n)=false:=by simpa using hx
   by_cases hcond:(k == NameKind.free && env.scope.kind == .function && env.kindOf n == some .cell)=true
   ·simpa only [hcond,if_true,List.lookup_cons,hxn] using h
   ·simpa only [hcond,Bool.false_eq_true,if_false,List.lookup_cons,hxn] using h
theorem relabel_loc {env:Env} {x:Str}:∀ {l:List (Str × NameKind)},
  (l.map fun (n,k)=>if (k == NameKind.free && env.scope.kind == .function && env.kindOf n == some .cell) then (n,NameKind.cell) else (n,k)).lookup x=some .local->l.lookup x=some .local
 | [],h=>by simp at h
 | (n,k)::r,h=>by
  rw [List.map_cons] at h
  by_cases hx:x=n
  ·subst hx
   by_cases hcond:(k == NameKind.free && env.scope.kind == .function && env.kindOf x == some .cell)=true
   ·simp only [hcond,if_true,List.lookup_cons,beq_self_eq_true] at h
    cases h
   ·simp only [hcond,Bool.false_eq_true,if_false,List.lookup_cons,beq_self_eq_true] at h
    simp only [List.lookup_cons,beq_self_eq_true]
    exact h
  ·have hxn:(x == n)=false:=by simpa using hx
   rw [List.lookup_cons,hxn]
   refine relabel_loc (env:=env) ?_
   by_cases hcond:(k == NameKind.free && env.scope.kind == .function && env.kindOf n == some .cell)=true
   ·simpa only [hcond,if_true,List.lookup_cons,hxn] using h
   ·simpa only [hcond,Bool.false_eq_true,if_false,List.lookup_cons,hxn] using h
theorem comp_ok (c:CompOk X scope Nc js) (I:Inv X pins σ H s) (hf:∀ b ∈ fp,FpOk X pins H b) (ho:∀ b ∈ fp,∃ o,s.heap.get? b=some o):(X.comp scope s.heap.objs.size Nc s H fp).Ok:=by
 have hs:=c.has I
 have sub:∀ x a,(clOf X.env scope.names []).lookup x=some a->X.env.cells.lookup x=some a:=fun x a=>clOf_sub _ _ x a hs (fun _ _ z=>nomatch z)
 refine ⟨I.ok.mod,c.kind,I.ok.glob,I.ok.blt,Nat.le_refl _,fun x y a e1 e2=>I.ok.inj x y a (sub x a e1) (sub y a e2),fun x h=>clOf_has _ _ x (relabel_kind (env:=X.env) c.nocell h),(fun x a h=>nomatch h),I.ok.hd,I.ok.frames,.inl rfl,fun b hb=>⟨?_,fun x a e=>?_⟩,I.bs,
  Nat.le_trans I.ok.bsz I.sz,fun b o e hb=>?_,fun b hb hb'=>?_,I.stack,I.stkFree⟩
 ·obtain ⟨o,e⟩:=ho b hb
  exact Nat.ne_of_lt (Heap.lt_size e)
 ·exact (hf b hb).2.2.2.2.1 x a (sub x a e)
 ·rcases (hf b hb).2.2.2.1 with z | z
  ·exact I.ok.noex b o e z
  ·exact absurd (Nat.lt_of_lt_of_le (Heap.lt_size (I.ok.bs b o e).1) z) (Nat.lt_irrefl _)
 ·rcases List.mem_cons.mp (I.stkSub b hb') with z | z
  ·exact (hf b hb).2.1 z
  ·exact (hf b hb).2.2.1 z
theorem comp_inv (c:CompOk X scope Nc js) (I:Inv X pins σ H s) (hf:∀ b ∈ fp,FpOk X pins H b) (ho:∀ b ∈ fp,∃ o,s.heap.get? b=some o) {h':Heap} {m:Str->Option Value} {tk:Nat} (hn:h'.Ns s.heap.objs.size m)
  (hk:∀ b o,s.heap.get? b=some o->h'.get? b=some o):Inv (X.comp scope s.heap.objs.size Nc s H fp) [] (compSt js σ) H { s with heap:=h',toks:=tk }:=by
 have hs:=c.has I
 have sub:∀ x a,(clOf X.env scope.names []).lookup x=some a->X.env.cells.lookup x=some a:=fun x a=>clOf_sub _ _ x a hs (fun _ _ z=>nomatch z)
 refine ⟨comp_ok c I hf ho,rfl,I.bare,Un.kept hk,⟨m,hn,fun i x v e1 e2 e3=>?_⟩,fun x a e=>?_,I.hok.fresh (Nat.le_refl _),fun x a e=>I.freeC x a (sub x a e),(fun p hp=>nomatch hp),I.hok.kept hk,by simp only [compSt,List.length_map];exact c.len⟩
 ·have e2':(compSt js σ)[i]?=some (some v):=e2
  unfold compSt at e2'
  rw [List.getElem?_map] at e2'
  cases ej:js[i]? with
  | none=>rw [ej] at e2';cases e2'
  | some o =>
   rw [ej] at e2'
   cases o with
   | none=>cases e2'
   | some j =>
    have e4:(σ[j]?).getD none=some v:=Option.some.inj e2'
    have e5:σ[j]?=some (some v):=by
     cases q:σ[j]? with
     | none=>rw [q] at e4;cases e4
     | some w=>rw [q] at e4;exact congrArg some e4
    obtain ⟨n1,n2⟩:=c.see i j x ej e1
    have hkd:=c.free _ n2 rfl
    obtain ⟨a,ha⟩:=clOf_has (env:=X.env) scope.names [] x n2
    obtain ⟨m0,_,hl⟩:=I.loc
    obtain ⟨u,r,l⟩:=hl j x v n1 e5 (by
     rcases hkd with z | z
     ·exact .inr (.inl z)
     ·exact .inr (.inr z))
    refine ⟨u,r,?_⟩
    rcases l with ⟨k,_⟩ | ⟨_,a',ha',hcell⟩
    ·rcases hkd with z | z
     ·rw [z] at k;cases k
     ·rw [z] at k;cases k
    ·have:a'=a:=Option.some.inj (ha'.symm.trans (sub x a ha))
     subst this
     refine .inr ⟨?_,a',ha,?_⟩
     ·rcases e3 with z | z | z
      ·exfalso
       have q:(relabel scope X.env).names.lookup x=some .local:=z
       exact c.nol x n2 (relabel_loc q)
      ·exact .inl z
      ·exact .inr z
     ·obtain ⟨o,q,d⟩:=hcell
      exact ⟨o,hk _ o q,d⟩
 ·obtain ⟨v,o,q,d⟩:=I.cell x a (sub x a e)
  exact ⟨v,o,hk _ o q,d⟩
theorem comp_after (I:Inv X pins σ H s) (hf:∀ b ∈ fp,FpOk X pins H b) {σ':L2.St} {H':Hp} {s':Shared} {h'':Heap} (J:Inv (X.comp scope s.heap.objs.size Nc s H fp) [] σ' H' s') (hs:Heap.SameBut s.heap.objs.size s'.heap h'') :
  Inv X pins σ H' { s' with heap:=h'' }:=by
 have ne:∀ b o,s.heap.get? b=some o->b≠s.heap.objs.size:=fun b o e=>Nat.ne_of_lt (Heap.lt_size e)
 have u:Un (frs X.stack) fp H H' s.heap s'.heap:=J.base
 refine I.call' (s':={ s' with heap:=h'' }) (ch:=fp) J.os ⟨fun b o e n hb hx=>?_,fun b o e n hb hx=>?_,u.free,fun b o e hx=>?_,u.tups,u.frzs,u.tbls⟩ (fun b o e=>?_) J.bare fun b hb=>?_
 ·exact (hs.2 b (ne b o e)).trans (u.keep b o e n hb hx)
 ·obtain ⟨sl,q⟩:=u.slot b o e n hb hx
  exact ⟨sl,(hs.2 b (ne b o e)).trans q⟩
 ·obtain ⟨o',q⟩:=u.there b o e hx
  exact ⟨o',(hs.2 b (ne b o e)).trans q⟩
 ·have hC:H' s.heap.objs.size=none:=J.free
  refine (J.hok b o e).stay (fun d v hd q=>(hs.2 d ?_).trans q) (fun _ q=>q) fun _ _ q=>q
  rintro rfl
  rcases hd with z | z
  ·rw [← z,hC] at e;cases e
  ·rw [hC] at z;cases z
 ·obtain ⟨_,f1,_,f3,f4,f5⟩:=hf b hb
  exact ⟨f3,f1,f4,f5⟩
end
section
variable {X:Cx} {scope:Scope} {Nc:List Str} {js:List (Option Nat)} {elt tg iter:Expr} {pos:Pos} {wi:TI} {g:TG} {te:TE}
theorem comp_core (hc:X.calm=true) (c:CompOk X scope Nc js) (hi:PI X tg iter wi) (hg:∀ C s3 H3 fp,PG (X.comp scope C Nc s3 H3 fp) tg g) (he:∀ C s3 H3 fp,PE (X.comp scope C Nc s3 H3 fp) elt te)
  {pins:List (Addr × Obj)} {s:Shared} {σ:L2.St} {H:Hp} (I:Inv X pins σ H s) {RR:Value->Addr->Result->Shared->Prop} {NX:Addr->Hp->Prop}
  (h:wi σ H fun J H1=>∀ D,H1 D=none->LoopR J g (tEmit D te) { nx:=fun _ H'=>NX D H',rt:=fun _ _=>False } (compSt js σ) (upd H1 D (.lst [])))
  (fin:∀ D H3 s3 fp σ5 H5 s6,Inv X pins σ H3 s3->(∀ b ∈ fp,FpOk X pins H3 b)->Inv (X.comp scope s3.heap.objs.size Nc s3 H3 fp) [] σ5 H5 s6->NX D H5->RR (.ref D) s3.heap.objs.size (.ok .next) s6) :
  wpAny (model X.prog X.w) X.A (eval iter X.env) (fun x s₁=>wpAny (model X.prog X.w) X.A (pyIter x) (fun it s₂=>wpAny (model X.prog X.w) X.A (newList []) (fun acc s₃ =>
   wpAny (model X.prog X.w) X.A (newFunctionEnv scope X.env.globals (clOf X.env scope.names []) [] X.env.qual none .none (some X.env)) (fun cenv s₄ =>
    codeAny (model X.prog X.w) X.A (.compStart (.ListComp elt [⟨tg,iter,[],0⟩] scope pos) 0 it acc { cenv with scope:=relabel scope X.env }) (RR acc cenv.locals) s₄) X.xe s₃) X.xe s₂) X.xe s₁) X.xe s:=by
 refine thn (hi pins s σ H _ I h) fun v s1 h1=>thn h1 fun itv s2 h2=>?_
 obtain ⟨it,fp,tn,J,H2,rfl,I2,T,st2,f2,h2⟩:=h2
 refine wpAny_newObj_type ?_ (by show 0<=sizeLine;decide)
 have hD:H2 s2.heap.objs.size=none:=I2.hok.fresh (Nat.le_refl _)
 have I3:Inv X pins σ (upd H2 s2.heap.objs.size (.lst [])) { s2 with heap:=s2.heap.push { cls:=.type "list",data:=.seq ([]:List Value).toArray } } :=
  I2.laid (t':=s2.toks) (fun b u e=>Heap.get?_push_of_some _ e) (Nat.le_refl _) ⟨by show 0<=sizeLine;decide,[],0,.nil,Heap.get?_push_size _ rfl⟩
 have f3:∀ b ∈ fp,FpOk X pins (upd H2 s2.heap.objs.size (.lst [])) b:=fun b hb=>by
  obtain ⟨q0,q⟩:=f2 b hb
  obtain ⟨o,e,_⟩:=T.obj _ _ st2 b hb
  exact ⟨by rw [jc (Nat.ne_of_lt (Heap.lt_size e))];exact q0,q⟩
 have o3:∀ b ∈ fp,∃ o,(s2.heap.push { cls:=.type "list",data:=.seq ([]:List Value).toArray }).get? b=some o:=fun b hb=>by
  obtain ⟨o,e,_⟩:=T.obj _ _ st2 b hb
  exact ⟨o,Heap.get?_push_of_some _ e⟩
 have st3:tn 0 (s2.heap.push { cls:=.type "list",data:=.seq ([]:List Value).toArray }):=T.keep _ _ _ st2 fun b _ o e=>Heap.get?_push_of_some _ e
 generalize hh3:s2.heap.push { cls:=.type "list",data:=.seq ([]:List Value).toArray }=h3 at I3 o3 st3 ⊢
 refine wpAny_newFunctionEnv c.nocell (by intro y hy;simp at hy) (fun h4 hn4 hs4=>?_) c.kind
 have k4:∀ b o,h3.get? b=some o->h4.get? b=some o:=fun b o e=>(hs4.2 b (Nat.ne_of_lt (Heap.lt_size e))).trans (Heap.get?_push_of_some _ e)
 have I4:=comp_inv (tk:=s2.toks+([]:List (Str × Value)).length) c I3 f3 o3 hn4 k4
 have st4:tn 0 h4:=T.keep _ _ _ st3 fun b _ o e=>k4 b o e
 obtain ⟨W,⟨m0,w0⟩,turn⟩:=h2 _ hD
 let s3:Shared:={ s2 with heap:=h3 }
 let Y:Cx:=X.comp scope h3.objs.size Nc s3 (upd H2 s2.heap.objs.size (.lst [])) fp
 have stat:∀ {H':Hp},(∀ b ∈ fp,H' b=none)->∀ b ∈ fp,FpOk Y [] H' b:=fun hn b hb=>⟨hn b hb,(I4.ok.exf b hb).1,I4.ok.exfs b hb,.inl hb,(I4.ok.exf b hb).2,(fun p hp=>nomatch hp)⟩
 have loop:codeAny (model X.prog X.w) X.A (.compLoop (.ListComp elt [⟨tg,iter,[],0⟩] scope pos) 0 (.ref it) (.ref s2.heap.objs.size) Y.env)
   (RR (.ref s2.heap.objs.size) h3.objs.size) { s2 with heap:=h4,toks:=s2.toks+([]:List (Str × Value)).length }:=by
  refine codeAny_loop rfl (fun n s'=>∃ i σ' H',Inv Y [] σ' H' s'/\tn i s'.heap/\(∀ b ∈ fp,H' b=none)/\W i n σ' H') (fun n s5 hI=>?_) m0 ⟨0,_,_,I4,st4,fun b hb=>(f3 b hb).1,w0⟩
  obtain ⟨i,σ5,H5,I5,st5,fr5,w5⟩:=hI
  show wpAny _ X.A ((compTurn (.ListComp elt [⟨tg,iter,[],0⟩] scope pos) 0 (.ref it) (.ref s2.heap.objs.size) Y.env).onRaise (fun x=>do noteFrame x Y.env;theTreesLotGoes x)) _ _ s5
  refine wpAny_noted (wpAny_mono (E:=fun _ _=>False) ?_ (fun _ _ q=>q) fun _ _ z=>z.elim)
  rw [compTurn_list1]
  refine wpAny_bind (wpAny_standAt (wpAny_bind ?_))
  rcases turn i n σ5 H5 w5 with ⟨stop,qn⟩ | ⟨go,N,hN,step⟩
  ·refine thn (T.done Y rfl rfl rfl hc i [] s5 σ5 H5 _ I5 (stat fr5) st5 stop) fun r s6 ⟨hr,I6⟩=>?_
   subst hr
   refine wpAny_pure ?_
   exact fin _ _ s3 fp σ5 H5 s6 I3 f3 I6 qn
  ·refine thn (T.item Y rfl rfl rfl hc i [] s5 σ5 H5 _ I5 (stat fr5) st5 go) fun r s6 ⟨u,hr,h6⟩=>?_
   subst hr
   refine wpAny_bind (thn h6 fun _ s7 ⟨x,H7,I7,r7,y7,st7,fr7⟩=>?_)
   have I7':=I7.pinned (stat fr7) (T.obj _ _ st7)
   refine wpAny_bind (thn (hg _ _ _ _ _ s7 σ5 H7 x u _ I7' r7 (step x H7 y7)) fun _ s8 ⟨σ8,H8,I8,q8⟩=>?_)
   refine wpAny_bind (wpAny_bind (thn (he _ _ _ _ _ s8 σ8 H8 _ I8 q8) fun v s9 ⟨y,H9,I9,r9,ys,e9,z9,n9⟩=>?_))
   refine wpAny_bind (thn (jau (X:=Y) _ s9 σ8 H9 (.ref s2.heap.objs.size) [y] (.ref s2.heap.objs.size) [v] (fun w H'=>N σ8 H') I9 rfl (.cons r9 .nil) ⟨_,ys,y,rfl,rfl,of_lstOf e9,z9,n9⟩) fun w s10 ⟨_,H10,I10,_,n10⟩=>?_)
   refine wpAny_pure (wpAny_pure ⟨rfl,?_⟩)
   obtain ⟨m',hm,w10⟩:=hN σ8 H10 n10
   refine ⟨m',hm,i+1,σ8,H10,I10.unpinned,T.keep _ _ _ st7 fun b hb o e=>(I10.pin (b,o) (List.mem_append_right _ (List.mem_append_right _ (mem_pinsAt hb e)))).1,fun b hb=>?_,w10⟩
   obtain ⟨o,e,d⟩:=T.obj _ _ st7 b hb
   exact (I10.pin (b,o) (List.mem_append_right _ (List.mem_append_right _ (mem_pinsAt hb e)))).2.1
 exact codeAny_compStart_list loop (T.self _ 0 _ _ _ st4 loop)
theorem pe_comp (hc:X.calm=true) (c:CompOk X scope Nc js) (hi:PI X tg iter wi) (hg:∀ C s3 H3 fp,PG (X.comp scope C Nc s3 H3 fp) tg g) (he:∀ C s3 H3 fp,PE (X.comp scope C Nc s3 H3 fp) elt te)
  (hs:∀ x,foldedSetIterable iter X.env x=pure x:=by intro _;rfl):PE X (.ListComp elt [⟨tg,iter,[],0⟩] scope pos) (tComp wi g js te):=by
 intro pins s σ H Q I h
 rw [eval_ListComp]
 refine wpAny_comprehension_free (use:=none) (g:=⟨tg,iter,[],0⟩) (gs:=[]) rfl hs (closure_of (c.has I)) c.kind c.loc
  (comp_core (RR:=fun acc C=>compPost (model X.prog X.w) X.A X.xe none (EP X pins σ Q) acc C) (NX:=fun D H'=>Q (.ref D) H') hc c hi hg he I h fun D H3 s3 fp σ5 H5 s6 I3 f3 I6 qn=>?_)
 obtain ⟨m,hn,_⟩:=I6.loc
 exact ⟨m,hn,fun h' hs'=>⟨.ref D,H5,comp_after I3 f3 I6 hs',rfl,qn⟩⟩
theorem ps_setc {i:Nat} {y:Str} {py spos:Pos} (hN:X.N.Nodup) (hiN:X.N[i]?=some y) (hy:Loc X.env.scope y) (hc:X.calm=true) (c:CompOk X scope Nc js) (hi:PI X tg iter wi) (hg:∀ C s3 H3 fp,PG (X.comp scope C Nc s3 H3 fp) tg g)
  (he:∀ C s3 H3 fp,PE (X.comp scope C Nc s3 H3 fp) elt te) (hsw:swapsWith (.ListComp elt [⟨tg,iter,[],0⟩] scope pos) (some (.Name y py)) spos.line X.env=pure true:=by rfl)
  (hs:∀ x,foldedSetIterable iter X.env x=pure x:=by intro _;rfl) (hf:X.fn y=true∨X.env.scope.names.lookup y=some .local:=by first | exact .inl rfl | exact .inr rfl | assumption) :
  PS X (.Assign [.Name y py] (.ListComp elt [⟨tg,iter,[],0⟩] scope pos) spos) (tAsg (tComp wi g js te) (gName i)):=by
 intro pins s σ H D I h
 rw [exec_Assign_Name_used _ _ _ _ hsw]
 refine wpAny_bind (wpAny_standAt (wpAny_bind ?_))
 show wpAny _ X.A (do let _ ← comprehension (.ListComp elt [⟨tg,iter,[],0⟩] scope pos) scope X.env _ (newList []) false (eval iter X.env) (some (assign (.Name y py) X.env))) _ _ s
 refine wpAny_bind (wpAny_mono (wpAny_comprehension_free (use:=some (assign (.Name y py) X.env)) (g:=⟨tg,iter,[],0⟩) (gs:=[]) (Q:=fun _ s'=>SP X pins D .next s') rfl hs (closure_of (c.has I)) c.kind c.loc
  (comp_core (RR:=fun acc C=>compPost (model X.prog X.w) X.A X.xe (some (assign (.Name y py) X.env)) (fun _ s'=>SP X pins D .next s') acc C) (NX:=fun Da H'=>D.nx (σ.set i (some (.ref Da))) H') hc c hi hg he I h fun Da H3 s3 fp σ5 H5 s6 I3 f3 I6 qn=>?_))
  (fun _ s' hq=>wpAny_pure (wpAny_pure hq)) fun _ _ e=>e)
 obtain ⟨m,hn,_⟩:=id I6.loc
 have I7:Inv X pins σ H5 s6:=comp_after I3 f3 I6 (.refl ..)
 have hC:H5 s3.heap.objs.size=none:=I6.free
 have nL:s3.heap.objs.size≠X.env.locals:=Nat.ne_of_gt I3.lt
 have nc:∀ x a,X.env.cells.lookup x=some a->a≠s3.heap.objs.size:=fun x a e=>by
  obtain ⟨v,q⟩:=I3.cell x a e
  exact Nat.ne_of_lt q.lt
 have np:∀ p ∈ X.pn++pins,p.1≠s3.heap.objs.size:=fun p hp=>Nat.ne_of_lt (Heap.lt_size (I3.pin p hp).1)
 show wpAny _ _ (assign (.Name y py) X.env (.ref Da)) _ _ _
 refine wpAny_assign_Name (store_ok2 (v:=.ref Da) I7 hN hiN hy rfl (fun s8 I8 hb=>?_) hf)
 obtain ⟨a,hs8,ha⟩:=hb
 have nCa:s3.heap.objs.size≠a:=by
  rcases ha with z | z
  ·rw [z];exact nL
  ·exact (nc y a z).symm
 refine ⟨m,hn.sameBut hs8 nCa,fun h9 hs9=>?_⟩
 exact ⟨_,H5,I8.turned (t':=s8.toks) (fun b o hb e=>(hs9.2 b hb).trans e) hC nL (.inr (Nat.le_trans I3.sz (Nat.le_refl _))) nc np,qn⟩
end
end L2
namespace L2
open PySem PySem.Spec PyProof.Rows
section
variable {X:Cx}
def rTupleU:List V->Hp->VK->Prop:=fun xs H Q=>match xs with
 | [.ref p]=>(∃ ys,lstOf (H p)=some ys/\∀ l,H l=none->Q (.ref l) (upd H l (.tup ys)))∨(∃ ys,tupOf (H p)=some ys/\Q (.ref p) H)
 | _=>False
theorem yz:CallR X (.type "tuple") rTupleU:=by
 intro pins s σ H xs us Q I r h
 unfold rTupleU at h
 split at h
 ·rename_i p
  rcases h with ⟨ys,e,h⟩ | ⟨ys,e,h⟩
  ·exact ja5 pins s σ H _ us Q I r ⟨p,ys,rfl,.inl ⟨SqL.of (of_lstOf e),h⟩⟩
  ·exact ja5 pins s σ H _ us Q I r ⟨p,ys,rfl,.inr ⟨SqT.of (of_tupOf e),h⟩⟩
 ·exact h.elim
theorem rTupleU_lst {p:Addr} {H:Hp} {Q:VK} {ys:List V} (e:H p=some (.lst ys)) (h:∀ l,H l=none->Q (.ref l) (upd H l (.tup ys))):rTupleU [.ref p] H Q:=.inl ⟨ys,by rw [e];rfl,h⟩
def rMulW:R2:=fun x y H Q=>match x,y with
 | .int i,.int j=>CMul i j/\Q (.int (i * j)) H
 | .ref l,.int k=>∃ xs,lstOf (H l)=some xs/\0<=k/\k < 2 ^ 62/\xs.length * k.toNat<=sizeLine/\∀ p,H p=none->Q (.ref p) (upd H p (.lst (List.replicate k.toNat xs).flatten))
 | _,_=>False
theorem zj:OpR X (binaryOp .Mult) rMulW:=by
 intro pins s σ H x y v u Q I rx ry h
 cases x with
 | int i=>cases y with
  | int j=>exact op_mul pins s σ H _ _ v u Q I rx ry ⟨i,j,rfl,rfl,h⟩
  | _=>exact False.elim h
 | ref l=>cases y with
  | int k =>
   obtain ⟨xs,e,k0,k1,h⟩:=h
   exact op_rep pins s σ H _ _ v u Q I rx ry ⟨l,k,xs,rfl,rfl,of_lstOf e,by omega,by omega,h⟩
  | _=>exact False.elim h
 | _=>exact False.elim h
theorem rMulW_int (H:Hp) (Q:VK) (i j:Int):rMulW (.int i) (.int j) H Q=(CMul i j/\Q (.int (i * j)) H):=rfl
theorem rMulW_ref (H:Hp) (Q:VK) (l:Addr) (k:Int):rMulW (.ref l) (.int k) H Q=(∃ xs,lstOf (H l)=some xs/\0<=k/\k < 2 ^ 62/\xs.length * k.toNat<=sizeLine/\∀ p,H p=none->Q (.ref p) (upd H p (.lst (List.replicate k.toNat xs).flatten))):=rfl
variable {o e:Expr} {es:List Expr} {to:TE} {t:TA} {name:Str} {apos cpos:Pos} {id:String} {r:V->List V->Hp->VK->Prop}
def cutS (z:Str) (lo hi:Option Int):Str:=⟨((z.cps.toList.drop (HT.sIx z.length 0 lo)).take (HT.sIx z.length z.length hi - HT.sIx z.length 0 lo)).toArray⟩
theorem strIx_eq (lo hi:Option Int) (n:Nat):Builtin.Str.strSliceIndices lo hi 1 n=(List.range (HT.sIx n n hi - HT.sIx n 0 lo)).map (HT.sIx n 0 lo+·):=by
 rw [← sliceRange_one]
 unfold Builtin.Str.strSliceIndices
 have e1:(match lo with | none=>(if (1:Int) > 0 then (0:Int) else (n:Int) - 1) | some i=>let i:=if i < 0 then i+(n:Int) else i;if (1:Int) > 0 then max 0 (min i (n:Int)) else max (-1) (min i ((n:Int) - 1)))=((HT.sIx n 0 lo:Nat):Int):=by
  cases lo with
  | none=>simp [HT.sIx]
  | some v =>
   simp only [show (1:Int) > 0 by decide,if_true,HT.sIx]
   by_cases h:v < 0
   ·simp only [h,if_true];omega
   ·simp only [h,if_false];omega
 have e2:(match hi with | none=>(if (1:Int) > 0 then (n:Int) else -1) | some i=>let i:=if i < 0 then i+(n:Int) else i;if (1:Int) > 0 then max 0 (min i (n:Int)) else max (-1) (min i ((n:Int) - 1)))=((HT.sIx n n hi:Nat):Int):=by
  cases hi with
  | none=>simp [HT.sIx]
  | some v =>
   simp only [show (1:Int) > 0 by decide,if_true,HT.sIx]
   by_cases h:v < 0
   ·simp only [h,if_true];omega
   ·simp only [h,if_false];omega
 have key:∀ a b a' b':Int,a=a'->b=b'->sliceRange a b 1=sliceRange a' b' 1:=by
  intro a b a' b' h1 h2
  rw [h1,h2]
 exact key _ _ _ _ e1 e2
theorem cutS_eq (z:Str) (lo hi:Option Int):Txt.slice z lo hi=cutS z lo hi:=by
 have e:(Builtin.Str.strSliceIndices lo hi 1 z.length).filterMap (z.cps[·]?)=(z.cps.toList.drop (HT.sIx z.length 0 lo)).take (HT.sIx z.length z.length hi - HT.sIx z.length 0 lo):=by
  rw [strIx_eq,pick_run]
 unfold Txt.slice cutS
 split
 ·rename_i h
  have h2:((Builtin.Str.strSliceIndices lo hi 1 z.length).length == z.length)=true:=by simpa using h
  have h3:(Builtin.Str.strSliceIndices lo hi 1 z.length).length=z.length:=eq_of_beq h2
  rw [strIx_eq,List.length_map,List.length_range] at h3
  have hl:z.cps.toList.length=z.length:=by simp [Str.length]
  have q:((z.cps.toList.drop (HT.sIx z.length 0 lo)).take (HT.sIx z.length z.length hi - HT.sIx z.length 0 lo))=z.cps.toList:=by
   have hb:HT.sIx z.length z.length hi<=z.length:=by
    cases hi with
    | none=>exact Nat.le_refl _
    | some v=>simp only [HT.sIx];split <;> omega
   by_cases h0:z.length=0
   ·have:z.cps.toList=[]:=List.length_eq_zero_iff.mp (by omega)
    rw [this];simp
   ·have ha:HT.sIx z.length 0 lo=0:=by omega
    rw [h3,ha,List.drop_zero]
    exact List.take_of_length_le (by omega)
  rw [q]
 ·rw [e]
def rSlS:V->Option Int->Option Int->Hp->VK->Prop:=fun x lo hi H Q=>∃ z,x=.str z/\z.length<=sizeLine/\Q (.str (cutS z lo hi)) H
theorem sl_str:SlR X rSlS:=by
 intro pins s σ H x v vl vu lo hi sl Q I rx hs pl pu h
 obtain ⟨z,rfl,hz,q⟩:=h
 obtain ⟨t,rfl⟩:=rx
 have gen:∀ (l u:Option (Int × Tok)),vl=partValue l->vu=partValue u->lo=l.map (·.1)->hi=u.map (·.1) ->
   wpAny (model X.prog X.w) X.A (getItem (.str z t) (.ref sl)) (EP X pins σ Q) X.xe s:=by
  intro l u e1 e2 e3 e4
  subst e1 e2 e3 e4
  refine wpAny_getItem_str_slice (l:=l) (u:=u) (st:=none) hs (by rfl) ?_
  have e:(if ((((none:Option (Int × Tok)).map (·.1)).getD 1 == 1 && (slicePicked z l u none).length == z.length)=true) then z else ⟨((slicePicked z l u none).filterMap (z.cps[·]?)).toArray⟩)=cutS z (l.map (·.1)) (u.map (·.1)):=by
   rw [← cutS_eq];rfl
  refine post_val_or_str ⟨?_,fun t' c=>⟨.str (cutS z (l.map (·.1)) (u.map (·.1))),H,I.tok c,⟨t',congrArg (Value.str · t') e⟩,q⟩⟩
  rw [e,← cutS_eq]
  exact Nat.le_trans (Txt.slice_le _ _ _) hz
 refine ⟨"str",_,F.slot_str_getitem.lookup,typeIs_str _ _ _,?_⟩
 cases pl with
 | none=>cases pu with
  | none=>exact gen none none rfl rfl rfl rfl
  | int j tj=>exact gen none (some (j,tj)) rfl rfl rfl rfl
 | int i ti=>cases pu with
  | none=>exact gen (some (i,ti)) none rfl rfl rfl rfl
  | int j tj=>exact gen (some (i,ti)) (some (j,tj)) rfl rfl rfl rfl
def compChk (sc:Scope) (N:List Str) (scope:Scope) (Nc:List Str) (js:List (Option Nat)):Bool :=
 (scope.kind == .function) && scope.names.all (fun y=>!(y.2 == .cell)) && scope.names.all (fun y=>!(y.2 == .local) || scope.names.lookup y.1 == some .local) &&
 scope.names.all (fun y=>!(y.2 == .free) || ((sc.names.lookup y.1 == some .cell || sc.names.lookup y.1 == some .free) && !(scope.names.lookup y.1 == some .local))) && (js.length == Nc.length) &&
 (List.range js.length).all (fun i=>match js[i]? with
  | some (some j)=>(N[j]? == Nc[i]?) && (match Nc[i]? with | some x=>scope.names.any (fun y=>y.1 == x && y.2 == .free) | none=>true)
  | _=>true)
theorem compOk_of {sc scope:Scope} {N Nc:List Str} {js:List (Option Nat)} (hd:compChk sc N scope Nc js=true) (hsc:X.env.scope=sc:=by rfl) (hN:X.N=N:=by rfl):CompOk X scope Nc js:=by
 simp only [compChk,Bool.and_eq_true,List.all_eq_true,Bool.or_eq_true,Bool.not_eq_true',beq_iff_eq,List.mem_range] at hd
 obtain ⟨⟨⟨⟨⟨h1,h2⟩,h3⟩,h4⟩,h5⟩,h6⟩:=hd
 have kk:∀ x,X.env.kindOf x=sc.names.lookup x:=fun x=>by rw [← hsc];rfl
 refine ⟨h1,fun y hy e=>?_,fun y hy e=>?_,fun y hy e=>?_,h5,fun x hx=>?_,fun i j x e1 e2=>?_⟩
 ·have:=h2 y hy
  rw [e] at this;cases this
 ·rcases h3 y hy with q | q
  ·rw [e] at q;cases q
  ·exact q
 ·rcases h4 y hy with q | q
  ·rw [e] at q;cases q
  ·rw [kk]
   exact q.1
 ·rcases h4 _ hx with q | q
  ·cases q
  ·intro z
   have q2:=q.2
   rw [z] at q2
   cases q2
 ·have hi:i < js.length:=(List.getElem?_eq_some_iff.mp e1).1
  have q:=h6 i hi
  rw [e1,e2] at q
  simp only [Bool.and_eq_true,beq_iff_eq,List.any_eq_true] at q
  refine ⟨by rw [hN];exact q.1,?_⟩
  obtain ⟨y,hy,hy1,hy2⟩:=q.2
  obtain ⟨a,b⟩:=y
  simp only at hy1 hy2
  subst hy1 hy2
  exact hy
theorem Reps.len {H:Hp}:∀ {vs:List V} {ds:List PyData},Reps H vs ds->vs.length=ds.length
 | [],[],_=>rfl
 | [],_::_,h=>by simp only [Reps] at h
 | _::_,[],h=>by simp only [Reps] at h
 | _::vs,_::ds,h=>by simp only [Reps] at h;simp [Reps.len h.2]
theorem Reps.app {H:Hp}:∀ {vs us:List V} {ds es:List PyData},Reps H vs ds->Reps H us es->Reps H (vs++us) (ds++es)
 | [],_,[],_,_,h=>h
 | [],_,_::_,_,h,_=>by simp only [Reps] at h
 | _::_,_,[],_,h,_=>by simp only [Reps] at h
 | _::vs,us,_::ds,es,h,h'=>by
  simp only [Reps] at h
  simp only [List.cons_append,Reps]
  exact ⟨h.1,Reps.app h.2 h'⟩
mutual
def tupOnly:PyData->Bool
 | .list _=>false
 | .tuple ds=>tupOnlys ds
 | .dict _=>false
 | _=>true
def tupOnlys:List PyData->Bool
 | []=>true
 | d::ds=>tupOnly d && tupOnlys ds
end
mutual
theorem Rep.kp {S:List Addr} {H H':Hp} (k:Kp S H H'):∀ {d:PyData} {v:V},tupOnly d=true->Rep H v d->Rep H' v d
 | .none,_,_,h=>by simp only [Rep] at h ⊢;exact h
 | .bool _,_,_,h=>by simp only [Rep] at h ⊢;exact h
 | .int _,_,_,h=>by simp only [Rep] at h ⊢;exact h
 | .str _,_,_,h=>by simp only [Rep] at h ⊢;exact h
 | .list _,_,t,_=>by simp only [tupOnly] at t;cases t
 | .tuple ds,_,t,h=>by
  simp only [Rep] at h ⊢
  obtain ⟨a,vs,e,e2,h⟩:=h
  exact ⟨a,vs,e,k.tup _ _ e2,Reps.kp k (by simpa only [tupOnly] using t) h⟩
 | .dict _,_,t,_=>by simp only [tupOnly] at t;cases t
theorem Reps.kp {S:List Addr} {H H':Hp} (k:Kp S H H'):∀ {ds:List PyData} {vs:List V},tupOnlys ds=true->Reps H vs ds->Reps H' vs ds
 | [],[],_,_=>by simp only [Reps]
 | [],_::_,_,h=>by simp only [Reps] at h
 | _::_,[],_,h=>by simp only [Reps] at h
 | d::ds,v::vs,t,h=>by
  simp only [Reps] at h ⊢
  simp only [tupOnlys,Bool.and_eq_true] at t
  exact ⟨Rep.kp k t.1 h.1,Reps.kp k t.2 h.2⟩
end
theorem Reps.ints (H:Hp):∀ l:List Int,Reps H (l.map V.int) (l.map PyData.int)
 | []=>by simp [Reps]
 | x::r=>by simp [Reps,Rep,Reps.ints H r]
theorem Reps.bools (H:Hp):∀ l:List Bool,Reps H (l.map V.bl) (l.map PyData.bool)
 | []=>by simp [Reps]
 | x::r=>by simp [Reps,Rep,Reps.bools H r]
end
end L2
namespace L2
open PySem PySem.Spec PyProof.Rows
theorem Inv.turnedNew {X:Cx} {pins:List (Addr × Obj)} {σ:L2.St} {H:Hp} {s:Shared} {h':Heap} {t':Nat} {fp wr:List Addr} {T:Addr} {xs:List V} {vs:List Value} (I:Inv X pins σ H s) (hf:∀ b ∈ wr,FpOk X pins H b)
  (k:∀ b o,b ∉ wr->s.heap.get? b=some o->h'.get? b=some o) (hT:s.heap.objs.size<=T) (tup:IsTup h' T vs.toArray) (r:Vals xs vs) (hz:xs.length<=sizeLine) (there:∀ b ∈ wr,∃ o,h'.get? b=some o) :
  Inv X pins σ (upd H T (.tup xs)) { s with heap:=h',toks:=t' }:=by
 have neT:∀ b u,H b=some u->b≠T:=fun b u e=>Nat.ne_of_lt (Nat.lt_of_lt_of_le (I.hok.lt e) hT)
 have nw:∀ b u,H b=some u->b ∉ wr:=fun b u e hb=>by rw [(hf b hb).1] at e;cases e
 refine I.step (g':=s.gens) (d':=s.drawn) (ch:=wr) (fun b hb=>?_) (fun b o _ _ hc e _=>k b o hc e) (fun b o _ _ hc e _=>⟨o.slots,k b o hc e⟩) (fun b o hc e n=>?_) (fun b o hc e=>⟨o,k b o hc e⟩)
  (fun b ys e=>by rw [jc (neT b _ e)];exact e) (fun b o u e=>by rw [jc (neT b _ e)];exact e) (fun b ps e=>⟨#[],by rw [jc (neT b _ e),e];simp⟩) (fun m hm=>?_) (fun b u e=>?_) I.bare
 ·obtain ⟨_,f1,_,f3,f4,f5⟩:=hf b hb
  exact ⟨f3,f1,f4,f5⟩
 ·rw [jc (Nat.ne_of_lt (Nat.lt_of_lt_of_le (Heap.lt_size e) hT))];exact n
 ·obtain ⟨o,es,ep,ho,rr⟩:=hm
  exact ⟨o,es,ep,k _ o (fun z=>(hf _ z).2.1 rfl) ho,rr⟩
 ·by_cases hb:b=T
  ·subst hb
   rw [jb] at e
   cases e
   exact ⟨hz,vs,r,tup⟩
  ·rw [jc hb] at e
   refine (I.hok b u e).stay (fun d v hd q=>k d v ?_ q) (fun d q=>by rw [jc (neT d _ q)];exact q) fun d ys q=>by rw [jc (neT d _ q)];exact q
   rcases hd with rfl | hd
   ·exact nw _ _ e
   ·exact nw _ _ hd
section
variable {X:Cx}
def rRangeU:List V->Hp->VK->Prop:=fun xs H Q=>match xs with
 | [.int j]=>-(2 ^ 62)<=j/\j < 2 ^ 62/\∀ p,H p=none->Q (.ref p) (upd H p (.rng 0 j))
 | [.int i,.int j]=>-(2 ^ 62)<=i/\i < 2 ^ 62/\-(2 ^ 62)<=j/\j < 2 ^ 62/\∀ p,H p=none->Q (.ref p) (upd H p (.rng i j))
 | _=>False
theorem call_rangeU:CallR X (.type "range") rRangeU:=by
 intro pins s σ H xs us Q I r h
 unfold rRangeU at h
 split at h
 ·rename_i j
  obtain ⟨u,rfl,t,rfl⟩:=vals1 r
  obtain ⟨h1,h2,q⟩:=h
  refine call_range_1 ⟨.ref s.heap.objs.size,upd H s.heap.objs.size (.rng 0 j),I.laid (fun b o e=>Heap.get?_push_of_some _ e) (Nat.le_refl _) ⟨_,_,_,Heap.get?_push_size _ rfl⟩,rfl,q _ (I.hok.fresh (Nat.le_refl _))⟩
 ·rename_i i j
  obtain ⟨u,w',rfl,⟨t,rfl⟩,⟨t',rfl⟩⟩:=vals2 r
  obtain ⟨h1,h2,h3,h4,q⟩:=h
  refine call_range_2 ⟨.ref s.heap.objs.size,upd H s.heap.objs.size (.rng i j),I.laid (fun b o e=>Heap.get?_push_of_some _ e) (Nat.le_refl _) ⟨_,_,_,Heap.get?_push_size _ rfl⟩,rfl,q _ (I.hok.fresh (Nat.le_refl _))⟩
 ·exact h.elim
end
end L2
namespace L2
open PySem PySem.Spec PyProof.Rows
section
variable {X:Cx}
def rListR:List V->Hp->VK->Prop:=fun xs H Q=>match xs with
 | [.ref p]=>∃ lo hi:Int,H p=some (.rng lo hi)/\-(2 ^ 62)<=lo/\lo < 2 ^ 62/\-(2 ^ 62)<=hi/\hi < 2 ^ 62/\(hi - lo).toNat<=sizeLine/\∀ l,H l=none->Q (.ref l) (upd H l (.lst ((List.range (hi - lo).toNat).map fun i=>V.int (lo+(i:Nat)))))
 | _=>False
theorem vals_of {xs:List V} {us:List Value} (hl:xs.length=us.length) (h:∀ (i:Nat) (x:V) (u:Value),xs[i]?=some x->us[i]?=some u->RelV x u):Vals xs us:=by
 induction xs generalizing us with
 | nil=>cases us with
  | nil=>exact .nil
  | cons _ _=>simp at hl
 | cons x xs ih=>cases us with
  | nil=>simp at hl
  | cons u us=>exact .cons (h 0 x u rfl rfl) (ih (by simpa using hl) fun i a b e1 e2=>h (i+1) a b (by simpa using e1) (by simpa using e2))
theorem call_listR (hc:X.calm=true):CallR X (.type "list") rListR:=by
 intro pins s σ H xs us Q I r h
 unfold rListR at h
 split at h
 ·rename_i p
  obtain ⟨lo,hi,e,h1,h2,h3,h4,hz,q⟩:=h
  obtain ⟨u,rfl,ru⟩:=vals1 r
  cases ru
  obtain ⟨t,u,v,e'⟩:=(show ObjOk X.prog X.w H s.heap p (.rng lo hi) from I.hok p _ e)
  have hsz:sizeLine=16777216:=sizeLine_eq
  refine call_list_range (n:=(hi - lo).toNat) (I.ok.hd hc) (show IsRange s.heap p lo hi 1 t u v from e') (small_one h1 h2 h3 h4) (by rw [rangeSize_one];split <;> omega) (by omega) fun h' tk acc c hk hn hit=>?_
  refine ⟨.ref s.heap.objs.size,_,I.laid (o:=.lst ((List.range (hi - lo).toNat).map fun i=>V.int (lo+(i:Nat)))) hk (Nat.le_refl _) ⟨?_,acc.toList,c,?_,by simpa using hn⟩,rfl,q _ (I.hok.fresh (Nat.le_refl _))⟩
  ·rw [List.length_map,List.length_range];exact hz
  ·obtain ⟨i1,i2⟩:=hit
   refine vals_of (by simp [i1]) fun i x u e1 e2=>?_
   obtain ⟨t',ht⟩:=i2 i u (by simpa using e2)
   subst ht
   rw [List.getElem?_map] at e1
   cases q:(List.range (hi - lo).toNat)[i]? with
   | none=>rw [q] at e1;cases e1
   | some j =>
    rw [q] at e1
    have ej:j=i:=by
     have:=List.getElem?_eq_some_iff.mp q
     obtain ⟨_,e⟩:=this
     simpa using e.symm
    subst ej
    have e1':V.int (lo+(j:Nat))=x:=Option.some.inj e1
    subst e1'
    exact ⟨t',by rw [Int.mul_one]⟩
 ·exact h.elim
def rAddW:R2:=fun x y H Q=>match x,y with
 | .int i,.int j=>Q (.int (i+j)) H
 | .str i,.str j=>i.length+j.length<=sizeLine/\Q (.str (i++j)) H
 | .ref l,.ref b=>(∃ xs zs,lstOf (H l)=some xs/\lstOf (H b)=some zs/\xs.length+zs.length<=sizeLine/\∀ p,H p=none->Q (.ref p) (upd H p (.lst (xs++zs)))) ∨
   (∃ xs zs,tupOf (H l)=some xs/\tupOf (H b)=some zs/\xs≠[]/\zs≠[]/\xs.length+zs.length<=sizeLine/\∀ p,H p=none->Q (.ref p) (upd H p (.tup (xs++zs))))
 | _,_=>False
theorem yp:OpR X (binaryOp .Add) rAddW:=by
 intro pins s σ H x y v u Q I rx ry h
 cases x with
 | int i=>cases y with
  | int j=>exact op_add pins s σ H _ _ v u Q I rx ry ⟨i,j,rfl,rfl,h⟩
  | _=>exact False.elim h
 | str i=>cases y with
  | str j=>exact op_add_str pins s σ H _ _ v u Q I rx ry ⟨i,j,rfl,rfl,h⟩
  | _=>exact False.elim h
 | ref l=>cases y with
  | ref b =>
   rcases h with ⟨xs,zs,e1,e2,h⟩ | ⟨xs,zs,e1,e2,n1,n2,hz,h⟩
   ·exact op_cat pins s σ H _ _ v u Q I rx ry ⟨l,b,xs,zs,rfl,rfl,of_lstOf e1,of_lstOf e2,h⟩
   ·exact op_catT pins s σ H _ _ v u Q I rx ry ⟨l,b,xs,zs,rfl,rfl,SqT.of (of_tupOf e1),SqT.of (of_tupOf e2),n1,hz,fun z=>absurd z n2,fun _=>h⟩
  | _=>exact False.elim h
 | _=>exact False.elim h
theorem rAddW_int (H:Hp) (Q:VK) (i j:Int):rAddW (.int i) (.int j) H Q=(Q (.int (i+j)) H):=rfl
theorem rAddW_str (H:Hp) (Q:VK) (i j:Str):rAddW (.str i) (.str j) H Q=(i.length+j.length<=sizeLine/\Q (.str (i++j)) H):=rfl
end
end L2
namespace L2
open PySem PySem.Spec PyProof.Rows
section
variable {X:Cx} {pos:Pos} {k v:Expr} {tk tv:TE}
end
end L2
namespace L2
open PySem PySem.Spec PyProof.Rows
section
variable {X:Cx}
def rSlU (K:PySem.W.Frag):V->Option Int->Option Int->Hp->VK->Prop:=fun x lo hi H Q=>match x with
 | .str z=>z.length<=sizeLine/\Q (.str (cutS z lo hi)) H
 | .ref a=>(∃ xs,SqL K H a xs/\∀ p,H p=none->Q (.ref p) (upd H p (.lst (cutV xs lo hi)))) ∨
   ∃ xs,SqT K H a xs/\¬ (HT.sIx xs.length 0 lo=0/\HT.sIx xs.length xs.length hi=xs.length)/\∀ p,H p=none->Q (.ref p) (upd H p (.tup (cutV xs lo hi)))
 | _=>False
theorem sl_U:SlR X (rSlU X.K):=by
 intro pins s σ H x v vl vu lo hi sl Q I rx hs pl pu h
 unfold rSlU at h
 split at h
 ·rename_i z
  exact sl_str pins s σ H (.str z) v vl vu lo hi sl Q I rx hs pl pu ⟨z,rfl,h⟩
 ·rename_i a
  rcases h with ⟨xs,hx,q⟩ | ⟨xs,hx,nw,q⟩
  ·exact sl_list pins s σ H (.ref a) v vl vu lo hi sl Q I rx hs pl pu ⟨a,xs,rfl,hx,q⟩
  ·exact sl_tup pins s σ H (.ref a) v vl vu lo hi sl Q I rx hs pl pu ⟨a,xs,rfl,hx,nw,q⟩
 ·exact h.elim
theorem rSlU_str (K:PySem.W.Frag) (H:Hp) (Q:VK) (z:Str) (lo hi:Option Int):rSlU K (.str z) lo hi H Q=(z.length<=sizeLine/\Q (.str (cutS z lo hi)) H):=rfl
theorem rSlU.sq {K:PySem.W.Frag} {H:Hp} {Q:VK} {a:Addr} {xs:List V} {lo hi:Option Int} (e:SqL K H a xs) (h:∀ p,H p=none->Q (.ref p) (upd H p (.lst (cutV xs lo hi)))):rSlU K (.ref a) lo hi H Q:=.inl ⟨xs,e,h⟩
theorem rSlU.lst {K:PySem.W.Frag} {H:Hp} {Q:VK} {a:Addr} {xs:List V} {lo hi:Option Int} (e:H a=some (.lst xs)) (h:∀ p,H p=none->Q (.ref p) (upd H p (.lst (cutV xs lo hi)))):rSlU K (.ref a) lo hi H Q:=.inl ⟨xs,SqL.of e,h⟩
theorem rSlU.tup {K:PySem.W.Frag} {H:Hp} {Q:VK} {a:Addr} {xs:List V} {lo hi:Option Int} (e:H a=some (.tup xs)) (nw:¬ (HT.sIx xs.length 0 lo=0/\HT.sIx xs.length xs.length hi=xs.length)) (h:∀ p,H p=none->Q (.ref p) (upd H p (.tup (cutV xs lo hi)))):rSlU K (.ref a) lo hi H Q:=.inr ⟨xs,SqT.of e,nw,h⟩
end
end L2
namespace L2
open PySem PySem.Spec PyProof.Rows
section
variable {X:Cx}
def hasS (z y:Str):Bool:=!(Builtin.Str.occurrences z y 0 z.length 1).isEmpty
def rInU (K:PySem.W.Frag) (neg:Bool):R2:=fun x y H Q=>match x,y with
 | .str i,.str j=>Q (.bl (if neg then !hasS j i else hasS j i)) H
 | x,.ref p=>∃ xs,(SqL K H p xs∨SqT K H p xs)/\flatV x=true/\xs.all flatV=true/\Q (.bl (if neg then !inV x xs else inV x xs)) H
 | _,_=>False
theorem rInU_str (K:PySem.W.Frag) (neg:Bool) (H:Hp) (Q:VK) (i j:Str):rInU K neg (.str i) (.str j) H Q=Q (.bl (if neg then !hasS j i else hasS j i)) H:=rfl
theorem op_notinU {K:PySem.W.Frag} (hK:X.K=K):OpR X (compareOp .NotIn) (rInU K true):=by
 subst hK
 intro pins s σ H x y v u Q I rx ry h
 unfold rInU at h
 split at h
 ·rename_i i j
  exact op_notIn_str pins s σ H _ _ v u Q I rx ry ⟨i,j,rfl,rfl,h⟩
 ·rename_i p
  obtain ⟨xs,h⟩:=h
  exact op_notIn_seq pins s σ H _ _ v u Q I rx ry ⟨p,xs,rfl,h⟩
 ·exact h.elim
theorem hasS_one (z:Str) (c:Nat):hasS z ⟨#[c]⟩=decide (c ∈ z.cps.toList):=PySem.StrLaws.found_one z c
theorem range_pick (bs:List Bool) (d:Bool):(List.range bs.length).map (fun i=>(bs[i]?).getD d)=bs:=by
 apply List.ext_getElem?
 intro i
 by_cases h:i < bs.length
 ·simp [h]
 ·rw [List.getElem?_eq_none_iff.mpr (by simp;omega),List.getElem?_eq_none_iff.mpr (by omega)]
theorem vals_bools:∀ {bs:List Bool} {us:List Value},Vals (bs.map V.bl) us->∀ (i:Nat) (v:Value),us[i]?=some v->∃ b,bs[i]?=some b/\v=.bool b
 | [],us,r,i,v,e=>by rw [List.map_nil] at r;cases r;simp at e
 | b::bs,us,r,i,v,e=>by
  rw [List.map_cons] at r
  cases r with
  | cons r1 r2 =>
   cases i with
   | zero=>cases r1;simp at e;exact ⟨b,rfl,e.symm⟩
   | succ i=>simp at e;obtain ⟨b',e1,e2⟩:=vals_bools r2 i v e;exact ⟨b',by simpa using e1,e2⟩
def rAnyU:List V->Hp->VK->Prop:=fun xs H Q=>match xs with
 | [.ref p]=>∃ bs:List Bool,H p=some (.lst (bs.map V.bl))/\Q (.bl (bs.any id)) H
 | _=>False
theorem kept_it {s:Shared} {h':Heap} {o:Obj} (hk:∀ b x,b ∉ [s.heap.objs.size]->(s.heap.push o).get? b=some x->h'.get? b=some x):∀ b x,s.heap.get? b=some x->h'.get? b=some x :=
 fun b x e=>hk b x (fun hm=>by rw [List.mem_singleton.mp hm] at e;exact Nat.lt_irrefl _ (Heap.lt_size e)) (Heap.get?_push_of_some _ e)
theorem jbw (hc:X.calm=true):CallR X (.builtin "any") rAnyU:=by
 intro pins s σ H xs us Q I r h
 unfold rAnyU at h
 split at h
 ·rename_i p
  obtain ⟨bs,e,q⟩:=h
  obtain ⟨u,rfl,ru⟩:=vals1 r
  cases ru
  obtain ⟨its,rr,pl,_⟩:=I.list (SqL.of e)
  have isl:=pl.isList
  have plt:p < s.heap.objs.size:=by obtain ⟨_,e,_⟩:=isl;exact Heap.lt_size e
  refine call_any_walk (wpAny_pyIter_list isl ?_)
  refine ⟨s.heap.objs.size,[s.heap.objs.size,p],[s.heap.objs.size],its.toArray.size,_,_,fun i=>(bs[i]?).getD false,rfl,Walks.list (A:=X.A.in1) (I.ok.hd hc) _ p (Nat.ne_of_lt plt) its.toArray,
   ⟨⟨_,Heap.get?_push_size _ rfl,rfl,rfl⟩,isl.push _⟩,fun i v s' Q' E' hp hq=>?_,fun h' tk hk=>?_⟩
  ·obtain ⟨b,e,rfl⟩:=vals_bools rr i v (by simpa using hp)
   simp only [Option.getD_some,e] at hq
   exact wpAny_truthy_bool hq
  ·have e:((List.range its.toArray.size).any fun i=>(bs[i]?).getD false)=bs.any id:=by
    have hlen:its.length=bs.length:=by have:=rr.length;simpa using this.symm
    rw [List.size_toArray,hlen]
    conv=>rhs;rw [← range_pick bs false,List.any_map]
    rfl
   rw [e]
   exact ⟨.bl _,H,I.kept (kept_it hk),rfl,q⟩
 ·exact h.elim
theorem rAnyU_ref (p:Addr) (H:Hp) (Q:VK):rAnyU [.ref p] H Q=(∃ bs:List Bool,H p=some (.lst (bs.map V.bl))/\Q (.bl (bs.any id)) H):=rfl
end
end L2
namespace L2
open PySem PySem.Spec PyProof.Rows
theorem upd_D {H:Hp} {D:Addr} {a b:HO}:upd (upd H D a) D b=upd H D b:=upd_upd
section
variable {D:Addr} {te:TE} {E:Ends} {r:L2.St} {H:Hp}
theorem comp_range {lo:Int} {n:Nat} (f:Nat->V) (hz:n<=sizeLine) (he:∀ i,i < n->∀ l Q,Q (f i) (upd H D (.lst l))->te (some (.int (lo+(i:Nat)))::r) (upd H D (.lst l)) Q)
  (hn:∀ v,E.nx (v::r) (upd H D (.lst ((List.range n).map f)))):LoopR (Itr lo n) (gName 0) (tEmit D te) E (none::r) (upd H D (.lst [])):=by
 refine loop_range (fun i σ H'=>∃ v:Option V,σ=v::r/\H'=upd H D (.lst ((List.range i).map f))) ⟨none,rfl,rfl⟩ ?_ ?_
 ·rintro i σ H' hi ⟨v,rfl,rfl⟩
  refine he i hi _ _ ⟨_,by rw [jb];rfl,by simp;omega,some (.int (lo+(i:Nat))),rfl,?_⟩
  rw [upd_D,List.range_succ]
  simp
 ·rintro σ H' ⟨v,rfl,rfl⟩
  exact hn v
theorem comp_list {K:PySem.W.Frag} {a:Addr} {xs:List V} (f:V->V) (ha:H a=some (.lst xs)) (hD:H D=none) (hz:xs.length<=sizeLine) (he:∀ x ∈ xs,∀ l Q,Q (f x) (upd H D (.lst l))->te (some x::r) (upd H D (.lst l)) Q)
  (hn:∀ v,E.nx (v::r) (upd H D (.lst (xs.map f)))):LoopR (Itl K a) (gName 0) (tEmit D te) E (none::r) (upd H D (.lst [])):=by
 have ne:a≠D:=je ha hD
 refine loop_list (xs:=xs) (fun i σ H'=>∃ v:Option V,σ=v::r/\H'=upd H D (.lst ((xs.take i).map f))) ⟨none,rfl,rfl⟩ ?_ ?_ ?_
 ·rintro i σ H' _ ⟨v,_,rfl⟩
  rw [jc ne];exact ha
 ·rintro i x σ H' hx ⟨v,rfl,rfl⟩
  have hl:i < xs.length:=(List.getElem?_eq_some_iff.mp hx).1
  refine he x (List.mem_of_getElem? hx) _ _ ⟨_,by rw [jb];rfl,by simp;omega,some x,rfl,?_⟩
  rw [upd_D,List.take_succ,hx]
  simp
 ·rintro σ H' ⟨v,rfl,rfl⟩
  rw [List.take_of_length_le (Nat.le_refl _)]
  exact hn v
theorem comp_tup {K:PySem.W.Frag} {a:Addr} {xs:List V} (f:V->V) (ha:H a=some (.tup xs)) (hD:H D=none) (hz:xs.length<=sizeLine) (he:∀ x ∈ xs,∀ l Q,Q (f x) (upd H D (.lst l))->te (some x::r) (upd H D (.lst l)) Q)
  (hn:∀ v,E.nx (v::r) (upd H D (.lst (xs.map f)))):LoopR (Itt K a) (gName 0) (tEmit D te) E (none::r) (upd H D (.lst [])):=by
 have ne:a≠D:=je ha hD
 refine loop_tup (xs:=xs) (fun i σ H'=>∃ v:Option V,σ=v::r/\H'=upd H D (.lst ((xs.take i).map f))) ⟨none,rfl,rfl⟩ ?_ ?_ ?_
 ·rintro i σ H' _ ⟨v,_,rfl⟩
  rw [jc ne];exact ha
 ·rintro i x σ H' hx ⟨v,rfl,rfl⟩
  have hl:i < xs.length:=(List.getElem?_eq_some_iff.mp hx).1
  refine he x (List.mem_of_getElem? hx) _ _ ⟨_,by rw [jb];rfl,by simp;omega,some x,rfl,?_⟩
  rw [upd_D,List.take_succ,hx]
  simp
 ·rintro σ H' ⟨v,rfl,rfl⟩
  rw [List.take_of_length_le (Nat.le_refl _)]
  exact hn v
end
end L2
set_option autoImplicit true
set_option relaxedAutoImplicit true
namespace L2
open PySem PySem.Spec PyProof.Rows
structure QE (X:Cx) (e:Expr) (t:TE):Prop where
 h:PE X e t
structure QT (X:Cx) (e:Expr) (t:TT):Prop where
 h:PT X e t
structure QW (X:Cx) (e:Expr) (t:TT):Prop where
 h:PW X e t
structure QA (X:Cx) (es:List Expr) (t:TA):Prop where
 h:PA X es t
structure QS (X:Cx) (st:Stmt) (t:TS):Prop where
 h:PS X st t
structure QSs (X:Cx) (st:List Stmt) (t:TS):Prop where
 h:PSs X st t
structure QG (X:Cx) (e:Expr) (t:TG):Prop where
 h:PG X e t
structure QGs (X:Cx) (es:List Expr) (t:TGs):Prop where
 h:PGs X es t
structure QI (X:Cx) (tg iter:Expr) (wi:TI):Prop where
 h:PI X tg iter wi
structure QO (X:Cx) (e:Option Expr) (t:TO):Prop where
 h:PO X e t
structure QC (X:Cx) (op:CmpOp) (a b:Expr) (t:TE):Prop where
 h:PC X op a b t
theorem ke:QSs X [] tNext:=⟨pss_nil⟩
theorem ji (h1:QS X stm t):QSs X [stm] t:=⟨pss_one h1.h⟩
theorem jf (h1:QS X stm t) (h2:QSs X rst u):QSs X (stm::rst) (tSeq t u):=⟨pss_cons h1.h h2.h⟩
theorem qpv (i:Nat) {x:Str} {pos:Pos} (hN:X.N[i]?=some x:=by rfl) (hv:Vis X.env.scope x:=by first | exact Or.inl rfl | exact Or.inr (Or.inl rfl) | exact Or.inr (Or.inr rfl))
  (hd:(x == ("__debug__":Str))=false:=by decide) (hcd:(x == ("__classdict__":Str))=false:=by decide):QE X (.Name x pos) (tVar i):=⟨pv i hN hv hd hcd⟩
theorem jh:QE X (.Constant (.int i) j pos) (tC (.int i)):=⟨pe_int⟩
theorem z4:QE X (.Constant (.bool b) j pos) (tC (.bl b)):=⟨pe_bl⟩
theorem jcd:QE X (.Constant .none j pos) (tC .non):=⟨pe_non⟩
theorem jbt:QE X (.Constant (.str x) j pos) (tC (.str x)):=⟨pe_str⟩
theorem jb5 {x:Str} {v:V} {u:Value} {pos:Pos} (hg:Gl X x) (hm:X.mg x=none) (hv:bootBuiltins x=some u) (r:RelV v u) (hn:x≠"__name__":=by decide) (hd:(x == ("__debug__":Str))=false:=by decide) :
  QE X (.Name x pos) (tC v):=⟨pe_bltn hg hm hv r hn hd⟩
theorem jt (ho:OpR X (binaryOp op) r) (ha:QE X a ta) (hb:QE X b tb):QE X (.BinOp a op b pos) (tOp r ta tb):=⟨pe_op ho ha.h hb.h⟩
theorem jbb (ho:UnR X (unaryOp op) r) (ha:QE X a ta):QE X (.UnaryOp op a pos) (tUn r ta):=⟨pe_un ho ha.h⟩
theorem zx (ho:OpR X (compareOp op) r) (ha:QE X a ta) (hb:QE X b tb) (hm:behindInMarks op b=false):QE X (.Compare a [op] [b] pos) (tOp r ta tb):=⟨pe_cmpR ho ha.h hb.h hm⟩
theorem j4 (ho:OpR X (compareOp op) r) (ha:QE X a ta) (hb:QE X b tb) (hm:behindInMarks op b=false):QT X (.Compare a [op] [b] pos) (tTest (tOp r ta tb)):=⟨pt_cmpR ho ha.h hb.h hm⟩
theorem jbg (h:QC X op a b t) (h1:behindInMarks op b=false:=by first | exact nobehind _ (by decide) (by decide) | rfl):QT X (.Compare a [op] [b] pos) (tB t):=⟨pt_cmp h.h h1⟩
theorem jal (hu:X.A.units+1 < cLine) (hi:QE X i ty) (ho:QE X o td):QC X .NotIn i o (tDNotIn ty td):=⟨pc_dnotin hu hi.h ho.h⟩
theorem jbh (ha:QT X a tA):QT X (.UnaryOp .Not a pos) (tNot tA):=⟨pt_not ha.h⟩
theorem QW.pt (h:QW X e t):QT X e t:=⟨PW.pt h.h⟩
theorem jce (ha:QT X a tA) (hb:QW X (.BoolOp .And (b::rst) pos) tB'):QW X (.BoolOp .And (a::b::rst) pos) (tAnd tA tB'):=⟨pw_and ha.h hb.h⟩
theorem jaq (ha:QT X a tA) (hb:QW X (.BoolOp .Or (b::rst) pos) tB'):QW X (.BoolOp .Or (a::b::rst) pos) (tOr tA tB'):=⟨pw_or ha.h hb.h⟩
theorem jb8 (ha:QT X a tA):QW X (.BoolOp .And [a] pos) tA:=⟨pw_and1 ha.h⟩
theorem jam (ha:QT X a tA):QW X (.BoolOp .Or [a] pos) tA:=⟨pw_or1 ha.h⟩
theorem zr {e:Expr} (h:QE X e t) (he:∀ whole,isTrue e X.env whole=(do let v ← whole;standAt e.pos;holding [v] (truthy v)):=by intro _;rfl):QT X e (tB t):=⟨pt_val h.h he⟩
theorem jbs (h:QE X a t):QE X (.BoolOp op [a] pos) t:=⟨pe_one h.h⟩
theorem jcb (ha:QE X a ta) (hb:QE X (.BoolOp .And (b::rst) pos) tb):QE X (.BoolOp .And (a::b::rst) pos) (tAndV ta tb):=⟨pe_and ha.h hb.h⟩
theorem qpe_or (ha:QE X a ta) (hb:QE X (.BoolOp .Or (b::rst) pos) tb):QE X (.BoolOp .Or (a::b::rst) pos) (tOrV ta tb):=⟨pe_or ha.h hb.h⟩
theorem jb1 (hc:QT X c tA) (ha:QE X a ta) (hb:QE X b tb):QE X (.IfExp c a b pos) (tIf tA ta tb):=⟨pe_ifExp hc.h ha.h hb.h⟩
theorem kf (h:QA X es t):QE X (.List es pos) (tLst t):=⟨pe_lst h.h⟩
theorem y9 (h:QA X es t):QE X (.Tuple es x1 pos) (tTup t):=⟨pe_tup h.h⟩
theorem jaj (hr:SlR X r) (he:QE X e te) (hl:QO X lw tl) (hu:QO X hi th):QE X (.Subscript e (.Slice lw hi none p2) pos) (tSl r te tl th):=⟨pe_slice hr he.h hl.h hu.h⟩
theorem jao:QO X none tNoPart:=⟨po_none⟩
theorem jap (h:QE X e te):QO X (some e) (tPart te):=⟨po_some h.h⟩
theorem jn (hr:IxR X r) (ha:QE X a ta) (hb:QE X b tb) (hs:PlainIx b):QE X (.Subscript a b pos) (tOp r ta tb):=⟨pe_ix hr ha.h hb.h hs⟩
theorem kj (hc:X.calm=true) (c:CompOk X scope Nc js) (hi:QI X tg iter wi) (hg:∀ C s3 H3 fp,QG (X.comp scope C Nc s3 H3 fp) tg g) (he:∀ C s3 H3 fp,QE (X.comp scope C Nc s3 H3 fp) elt te)
  (hs:∀ x,foldedSetIterable iter X.env x=pure x:=by intro _;rfl):QE X (.ListComp elt [⟨tg,iter,[],0⟩] scope pos) (tComp wi g js te):=⟨pe_comp hc c hi.h (fun C s H f=>(hg C s H f).h) (fun C s H f=>(he C s H f).h) hs⟩
theorem jag {i:Nat} {y:Str} {py spos:Pos} (hN:X.N.Nodup) (hiN:X.N[i]?=some y) (hy:Loc X.env.scope y) (hc:X.calm=true) (c:CompOk X scope Nc js) (hi:QI X tg iter wi) (hg:∀ C s3 H3 fp,QG (X.comp scope C Nc s3 H3 fp) tg g)
  (he:∀ C s3 H3 fp,QE (X.comp scope C Nc s3 H3 fp) elt te) (hsw:swapsWith (.ListComp elt [⟨tg,iter,[],0⟩] scope pos) (some (.Name y py)) spos.line X.env=pure true:=by rfl)
  (hs:∀ x,foldedSetIterable iter X.env x=pure x:=by intro _;rfl) (hf:X.fn y=true∨X.env.scope.names.lookup y=some .local:=by first | exact .inl rfl | exact .inr rfl | assumption) :
  QS X (.Assign [.Name y py] (.ListComp elt [⟨tg,iter,[],0⟩] scope pos) spos) (tAsg (tComp wi g js te) (gName i)):=⟨ps_setc hN hiN hy hc c hi.h (fun C s H f=>(hg C s H f).h) (fun C s H f=>(he C s H f).h) hsw hs hf⟩
theorem jq (F:FnOk X.prog X.w X.K X.mg X.base CX k f fd ps sp) (hr:Room k X.A) (hg:Gl X x) (hm:X.mg x=some (.ref f)) (hk:PySem.W.keepIn X.K (.ref f)=true) (hb:Binds X.K fd ps ds) (hd:Vals dvs ds) (hx:Passes CX X E)
  (ha:QA X (e::es) t) (hdb:(x == ("__debug__":Str))=false:=by decide) (he:starEach (e::es) X.env=(false,eval e X.env)::starEach es X.env:=by rfl) (hpl:(backTo pos (starEach es X.env)).any (·.1)=false:=by rfl) :
  QE X (.Call (.Name x p) (e::es) [] pos) (tCall sp dvs E t):=⟨pe_call F hr hg hm hk hb hd hx ha.h hdb he hpl⟩
theorem j6 (hc:CallR X (.type T) r) (hg:Gl X x) (hm:X.mg x=none) (hv:bootBuiltins x=some (.type T)) (ha:QA X (e::es) t) (hn:x≠"__name__":=by decide) (hdb:(x == ("__debug__":Str))=false:=by decide)
  (he:starEach (e::es) X.env=(false,eval e X.env)::starEach es X.env:=by rfl) (hpl:(backTo pos (starEach es X.env)).any (·.1)=false:=by rfl):QE X (.Call (.Name x p) (e::es) [] pos) (tCB r t):=⟨pe_callTy hc hg hm hv ha.h hn hdb he hpl⟩
theorem jo (hc:CallR X (.builtin idn) r) (hg:Gl X x) (hm:X.mg x=none) (hv:bootBuiltins x=some (.builtin idn)) (ha:QA X (e::es) t) (hn:x≠"__name__":=by decide) (hdb:(x == ("__debug__":Str))=false:=by decide)
  (he:starEach (e::es) X.env=(false,eval e X.env)::starEach es X.env:=by rfl) (hpl:(backTo pos (starEach es X.env)).any (·.1)=false:=by rfl):QE X (.Call (.Name x p) (e::es) [] pos) (tCB r t):=⟨pe_callB hc hg hm hv ha.h hn hdb he hpl⟩
theorem yi (slot:Slot "list" name idn) (hty:typeOf (.builtin idn)=pure (.type "method_descriptor")) (hm:MtM X idn r) (ho:QE X o to) (ha:QA X (e::es) t) (mono:∀ σ H Q Q',(∀ v H',Q v H'->Q' v H')->to σ H Q->to σ H Q')
  (hbase:attributeBase o name X.env (eval o X.env)=eval o X.env:=by rfl)
  (hfew:((backTo cpos (starEach (e::es) X.env)).all (fun x=>!x.1) && (backToKw cpos (keywordEach [] X.env)).all (fun x=>x.1.isSome)
   && decide ((e::es).length+([]:List Keyword).length+(if ([]:List Keyword).isEmpty then 0 else 1) < 30))=true:=by rfl)
  (hline:(apos.endLine == cpos.line)=true:=by rfl) (hs:starEach (e::es) X.env=(false,eval e X.env)::starEach es X.env:=by rfl) (hplain:(backTo cpos (starEach es X.env)).any (·.1)=false:=by rfl) :
  QE X (.Call (.Attribute o name apos) (e::es) [] cpos) (tBML r to t):=⟨pe_bmL slot hty hm ho.h ha.h mono hbase hfew hline hs hplain⟩
theorem jb6 (slot:Slot "list" name idn) (hty:typeOf (.builtin idn)=pure (.type "method_descriptor")) (hm:MtM X idn r) (ho:QE X o to) (mono:∀ σ H Q Q',(∀ v H',Q v H'->Q' v H')->to σ H Q->to σ H Q')
  (hbase:attributeBase o name X.env (eval o X.env)=eval o X.env:=by rfl) (hline:(apos.endLine == cpos.line)=true:=by rfl):QE X (.Call (.Attribute o name apos) [] [] cpos) (tBML0 r to):=⟨pe_bmL0 slot hty hm ho.h mono hbase hline⟩
theorem jd:QA X [] tNil:=⟨pa_nil⟩
theorem ja (ha:QE X e te) (hr:QA X es t) (hs:starEach (e::es) X.env=(false,eval e X.env)::starEach es X.env:=by rfl):QA X (e::es) (tCons te t):=⟨pa_cons ha.h hr.h hs⟩
theorem jm {i:Nat} {x:Str} (hN:X.N.Nodup) (hi:X.N[i]?=some x) (hx:Loc X.env.scope x) (hf:X.fn x=true∨X.env.scope.names.lookup x=some .local:=by first | exact .inl rfl | exact .inr rfl | assumption):QG X (.Name x pos) (gName i):=⟨pg_name hN hi hx hf⟩
theorem jaf {es:List Expr} {t:TGs} {n:Nat} {K:PySem.W.Frag} (hc:X.calm=true) (h:QGs X es t) (hK:X.K=K) (hn:(assignEach es X.env).length=n:=by rfl) (hst:(assignEach es X.env).findIdx? (·.1)=none:=by rfl) :
  QG X (.Tuple es k pos) (gTup K n t):=by subst hK;exact ⟨pg_tup hc h.h hn hst⟩
theorem z8:QGs X [] gNil:=⟨pgs_nil⟩
theorem yh {e:Expr} {es:List Expr} (h1:QG X e t) (h2:QGs X es u) (hs:(assignEach (e::es) X.env).map (·.2)=assign e X.env::(assignEach es X.env).map (·.2):=by rfl):QGs X (e::es) (gCons t u):=⟨pgs_cons h1.h h2.h hs⟩
theorem jbu {o i:Expr} (ho:QE X o to) (hi:QE X i ti) (hs:PSet X t)
  (ha:∀ v,assign (.Subscript o i pos) X.env v=(do
   let ov ← holding [v] (eval o X.env)
   let iv ← holding [v,ov] (eval i X.env)
   standAt pos
   holding [v,ov,iv] (setItem ov iv v)
   release [v,ov,iv] []):=by intro _;rfl):QG X (.Subscript o i pos) (gSub to ti t):=⟨pg_sub ho.h hi.h hs ha⟩
theorem jj {i:Nat} {x:Str} {e:Expr} {te:TE} {pos':Pos} (hN:X.N.Nodup) (hi:X.N[i]?=some x) (hx:Loc X.env.scope x) (he:QE X e te) (hs:swapsWith e (some (.Name x pos')) pos.line X.env=pure false:=by rfl)
  (hf:X.fn x=true∨X.env.scope.names.lookup x=some .local:=by first | exact .inl rfl | exact .inr rfl | assumption):QS X (.Assign [.Name x pos'] e pos) (tAsg te (gName i)):=⟨ps_set hN hi hx he.h hs hf⟩
theorem jbv {tg e:Expr} (he:QE X e te) (hg:QG X tg g) (hs:swapsWithSole [tg] e pos.line X.env=pure false:=by rfl) (hw:swappedStores [tg] e X.env=pure none:=by rfl)
  (h1:(assignEach [tg] X.env).map (·.2)=[assign tg X.env]:=by rfl):QS X (.Assign [tg] e pos) (tAsg te g):=⟨ps_asg he.h hg.h hs hw h1⟩
theorem qps_aug {i:Nat} {x:Str} {e:Expr} {te:TE} {op:Operator} {ti:TIp} {pos':Pos} (hN:X.N.Nodup) (hi:X.N[i]?=some x) (hx:Loc X.env.scope x) (he:QE X e te) (ho:PIp X op ti)
  (hf:X.fn x=true∨X.env.scope.names.lookup x=some .local:=by first | exact .inl rfl | exact .inr rfl | assumption):QS X (.AugAssign (.Name x pos') op e pos) (tAug i te ti):=⟨ps_aug hN hi hx he.h ho hf⟩
theorem ja2 (hu:X.A.units+1 < cLine) (ho:QE X o td) (hi:QE X i ty) (hv:QE X value tv) (hs:swapsWith value (some (.Subscript o i pos')) pos.line X.env=pure false) :
  QS X (.Assign [.Subscript o i pos'] value pos) (sDPut td ty tv):=⟨ps_dput hu ho.h hi.h hv.h hs⟩
theorem jz (he:QE X e te):QS X (.Return (some e) pos) (tRet te):=⟨ps_ret he.h⟩
theorem km (he:QE X e te) (hs:swapsWith e none pos.line X.env=pure false:=by rfl):QS X (.Expr e pos) (tDrop te):=⟨ps_expr he.h hs⟩
theorem yb (hc:QT X c tc) (ha:QSs X a t) (hb:QSs X b u):QS X (.If c a b pos) (tIfS tc t u):=⟨ps_if hc.h ha.h hb.h⟩
theorem kg {iter:Expr} (hp:PassesOwn (model X.prog X.w) X.A X.env X.xe) (hc:X.calm=true) (hi:QI X tg iter wi) (hg:QG X tg g) (hb:QSs X body tb) (hs:∀ x,foldedSetIterable iter X.env x=pure x:=by intro _;rfl) :
  QS X (.For tg iter body [] pos) (tFor wi g tb):=⟨ps_for hp hc hi.h hg.h hb.h hs⟩
theorem jav (hp:PassesOwn (model X.prog X.w) X.A X.env X.xe) (hc:QT X c tc) (hb:QSs X body tb):QS X (.While c body [] pos) (tWhile tc tb):=⟨ps_while hp hc.h hb.h⟩
theorem yd {a:Expr} {ta:TA} {p pos:Pos} (hg:Gl X "range") (hm:X.mg "range"=none) (ha:QA X [a] ta) (hs:starEach [a] X.env=[(false,eval a X.env)]:=by rfl):QI X tg (.Call (.Name "range" p) [a] [] pos) (iRng1 ta):=⟨pi_range1 hg hm ha.h hs⟩
theorem qpi_range2 {a b:Expr} {ta:TA} {p pos:Pos} (hg:Gl X "range") (hm:X.mg "range"=none) (ha:QA X [a,b] ta) (hs:starEach [a,b] X.env=[(false,eval a X.env),(false,eval b X.env)]:=by rfl) (hs2:starEach [b] X.env=[(false,eval b X.env)]:=by rfl) :
  QI X tg (.Call (.Name "range" p) [a,b] [] pos) (iRng2 ta):=⟨pi_range2 hg hm ha.h hs hs2⟩
theorem j7 {K:PySem.W.Frag} (hl:QE X l tl) (hK:X.K=K):QI X tg l (iAny K tl):=by subst hK;exact ⟨pi_any hl.h⟩
end L2
namespace L2
open PySem PySem.Spec PyProof.Rows
def tEmitIf (D:Addr) (tt:TT) (te:TE):TS:=fun E σ H=>tt σ H fun b H1=>if b=true then tEmit D te E σ H1 else E.nx σ H1
def tCompIf (wi:TI) (g:TG) (js:List (Option Nat)) (tt:TT) (te:TE):TE:=fun σ H Q=>wi σ H fun J H1=>∀ D,H1 D=none ->
 LoopR J g (tEmitIf D tt te) { nx:=fun _ H'=>Q (.ref D) H',rt:=fun _ _=>False } (compSt js σ) (upd H1 D (.lst []))
theorem compTurn_if1 (elt target iter cd:Expr) (scope:Scope) (pos:Pos) (it acc:Value) (env:Env) :
  compTurn (.ListComp elt [⟨target,iter,[cd],0⟩] scope pos) 0 it acc env=(standAt iter.pos >>= fun _=>pyNext it >>= fun r=>match r with
   | none=>pure (.done .next)
   | some v=>letOwnedTupleGo target it v >>= fun _=>assign target env v >>= fun _ =>
    (forIn [cd] true fun c ok=>if ok=true then (isTrue c env (eval c env) >>= fun b=>pure (ForInStep.yield b)) else pure (ForInStep.yield ok)) >>= fun ok =>
    if ok=true then ((eval elt env >>= fun x=>call (.builtin "list.append") [acc,x] >>= fun _=>pure ()) >>= fun _=>again (.compLoop (.ListComp elt [⟨target,iter,[cd],0⟩] scope pos) 0 it acc env))
    else again (.compLoop (.ListComp elt [⟨target,iter,[cd],0⟩] scope pos) 0 it acc env)):=by rfl
section
variable {X:Cx} {scope:Scope} {Nc:List Str} {js:List (Option Nat)} {elt tg iter cd:Expr} {pos:Pos} {wi:TI} {g:TG} {te:TE} {tt:TT}
theorem comp_coreIf (hc:X.calm=true) (c:CompOk X scope Nc js) (hi:PI X tg iter wi) (hg:∀ C s3 H3 fp,PG (X.comp scope C Nc s3 H3 fp) tg g) (ht:∀ C s3 H3 fp,PT (X.comp scope C Nc s3 H3 fp) cd tt) (he:∀ C s3 H3 fp,PE (X.comp scope C Nc s3 H3 fp) elt te)
  {pins:List (Addr × Obj)} {s:Shared} {σ:L2.St} {H:Hp} (I:Inv X pins σ H s) {RR:Value->Addr->Result->Shared->Prop} {NX:Addr->Hp->Prop}
  (h:wi σ H fun J H1=>∀ D,H1 D=none->LoopR J g (tEmitIf D tt te) { nx:=fun _ H'=>NX D H',rt:=fun _ _=>False } (compSt js σ) (upd H1 D (.lst [])))
  (fin:∀ D H3 s3 fp σ5 H5 s6,Inv X pins σ H3 s3->(∀ b ∈ fp,FpOk X pins H3 b)->Inv (X.comp scope s3.heap.objs.size Nc s3 H3 fp) [] σ5 H5 s6->NX D H5->RR (.ref D) s3.heap.objs.size (.ok .next) s6) :
  wpAny (model X.prog X.w) X.A (eval iter X.env) (fun x s₁=>wpAny (model X.prog X.w) X.A (pyIter x) (fun it s₂=>wpAny (model X.prog X.w) X.A (newList []) (fun acc s₃ =>
   wpAny (model X.prog X.w) X.A (newFunctionEnv scope X.env.globals (clOf X.env scope.names []) [] X.env.qual none .none (some X.env)) (fun cenv s₄ =>
    codeAny (model X.prog X.w) X.A (.compStart (.ListComp elt [⟨tg,iter,[cd],0⟩] scope pos) 0 it acc { cenv with scope:=relabel scope X.env }) (RR acc cenv.locals) s₄) X.xe s₃) X.xe s₂) X.xe s₁) X.xe s:=by
 refine thn (hi pins s σ H _ I h) fun v s1 h1=>thn h1 fun itv s2 h2=>?_
 obtain ⟨it,fp,tn,J,H2,rfl,I2,T,st2,f2,h2⟩:=h2
 refine wpAny_newObj_type ?_ (by show 0<=sizeLine;decide)
 have hD:H2 s2.heap.objs.size=none:=I2.hok.fresh (Nat.le_refl _)
 have I3:Inv X pins σ (upd H2 s2.heap.objs.size (.lst [])) { s2 with heap:=s2.heap.push { cls:=.type "list",data:=.seq ([]:List Value).toArray } } :=
  I2.laid (t':=s2.toks) (fun b u e=>Heap.get?_push_of_some _ e) (Nat.le_refl _) ⟨by show 0<=sizeLine;decide,[],0,.nil,Heap.get?_push_size _ rfl⟩
 have f3:∀ b ∈ fp,FpOk X pins (upd H2 s2.heap.objs.size (.lst [])) b:=fun b hb=>by
  obtain ⟨q0,q⟩:=f2 b hb
  obtain ⟨o,e,_⟩:=T.obj _ _ st2 b hb
  exact ⟨by rw [jc (Nat.ne_of_lt (Heap.lt_size e))];exact q0,q⟩
 have o3:∀ b ∈ fp,∃ o,(s2.heap.push { cls:=.type "list",data:=.seq ([]:List Value).toArray }).get? b=some o:=fun b hb=>by
  obtain ⟨o,e,_⟩:=T.obj _ _ st2 b hb
  exact ⟨o,Heap.get?_push_of_some _ e⟩
 have st3:tn 0 (s2.heap.push { cls:=.type "list",data:=.seq ([]:List Value).toArray }):=T.keep _ _ _ st2 fun b _ o e=>Heap.get?_push_of_some _ e
 generalize hh3:s2.heap.push { cls:=.type "list",data:=.seq ([]:List Value).toArray }=h3 at I3 o3 st3 ⊢
 refine wpAny_newFunctionEnv c.nocell (by intro y hy;simp at hy) (fun h4 hn4 hs4=>?_) c.kind
 have k4:∀ b o,h3.get? b=some o->h4.get? b=some o:=fun b o e=>(hs4.2 b (Nat.ne_of_lt (Heap.lt_size e))).trans (Heap.get?_push_of_some _ e)
 have I4:=comp_inv (tk:=s2.toks+([]:List (Str × Value)).length) c I3 f3 o3 hn4 k4
 have st4:tn 0 h4:=T.keep _ _ _ st3 fun b _ o e=>k4 b o e
 obtain ⟨W,⟨m0,w0⟩,turn⟩:=h2 _ hD
 let s3:Shared:={ s2 with heap:=h3 }
 let Y:Cx:=X.comp scope h3.objs.size Nc s3 (upd H2 s2.heap.objs.size (.lst [])) fp
 have stat:∀ {H':Hp},(∀ b ∈ fp,H' b=none)->∀ b ∈ fp,FpOk Y [] H' b:=fun hn b hb=>⟨hn b hb,(I4.ok.exf b hb).1,I4.ok.exfs b hb,.inl hb,(I4.ok.exf b hb).2,(fun p hp=>nomatch hp)⟩
 have loop:codeAny (model X.prog X.w) X.A (.compLoop (.ListComp elt [⟨tg,iter,[cd],0⟩] scope pos) 0 (.ref it) (.ref s2.heap.objs.size) Y.env)
   (RR (.ref s2.heap.objs.size) h3.objs.size) { s2 with heap:=h4,toks:=s2.toks+([]:List (Str × Value)).length }:=by
  refine codeAny_loop rfl (fun n s'=>∃ i σ' H',Inv Y [] σ' H' s'/\tn i s'.heap/\(∀ b ∈ fp,H' b=none)/\W i n σ' H') (fun n s5 hI=>?_) m0 ⟨0,_,_,I4,st4,fun b hb=>(f3 b hb).1,w0⟩
  obtain ⟨i,σ5,H5,I5,st5,fr5,w5⟩:=hI
  show wpAny _ X.A ((compTurn (.ListComp elt [⟨tg,iter,[cd],0⟩] scope pos) 0 (.ref it) (.ref s2.heap.objs.size) Y.env).onRaise (fun x=>do noteFrame x Y.env;theTreesLotGoes x)) _ _ s5
  refine wpAny_noted (wpAny_mono (E:=fun _ _=>False) ?_ (fun _ _ q=>q) fun _ _ z=>z.elim)
  rw [compTurn_if1]
  refine wpAny_bind (wpAny_standAt (wpAny_bind ?_))
  rcases turn i n σ5 H5 w5 with ⟨stop,qn⟩ | ⟨go,N,hN,step⟩
  ·refine thn (T.done Y rfl rfl rfl hc i [] s5 σ5 H5 _ I5 (stat fr5) st5 stop) fun r s6 ⟨hr,I6⟩=>?_
   subst hr
   refine wpAny_pure ?_
   exact fin _ _ s3 fp σ5 H5 s6 I3 f3 I6 qn
  ·refine thn (T.item Y rfl rfl rfl hc i [] s5 σ5 H5 _ I5 (stat fr5) st5 go) fun r s6 ⟨u,hr,h6⟩=>?_
   subst hr
   refine wpAny_bind (thn h6 fun _ s7 ⟨x,H7,I7,r7,y7,st7,fr7⟩=>?_)
   have I7':=I7.pinned (stat fr7) (T.obj _ _ st7)
   refine wpAny_bind (thn (hg _ _ _ _ _ s7 σ5 H7 x u _ I7' r7 (step x H7 y7)) fun _ s8 ⟨σ8,H8,I8,q8⟩=>?_)
   have fin2:∀ {H':Hp} {s':Shared},Inv Y ([]++pinsAt fp s7.heap) σ8 H' s'->N σ8 H'->∃ m,m < n/\∃ i σ1 H1,Inv Y [] σ1 H1 s'/\tn i s'.heap/\(∀ b ∈ fp,H1 b=none)/\W i m σ1 H1:=fun {H'} {s'} I10 n10=>by
    obtain ⟨m',hm,w10⟩:=hN σ8 H' n10
    refine ⟨m',hm,i+1,σ8,H',I10.unpinned,T.keep _ _ _ st7 fun b hb o e=>(I10.pin (b,o) (List.mem_append_right _ (List.mem_append_right _ (mem_pinsAt hb e)))).1,fun b hb=>?_,w10⟩
    obtain ⟨o,e,d⟩:=T.obj _ _ st7 b hb
    exact (I10.pin (b,o) (List.mem_append_right _ (List.mem_append_right _ (mem_pinsAt hb e)))).2.1
   rw [List.forIn_cons,if_pos rfl]
   refine wpAny_bind (wpAny_bind (wpAny_bind (thn (ht _ _ _ _ _ s8 σ8 H8 _ I8 q8) fun ok s9 ⟨H9,I9,q9⟩=>wpAny_pure ?_)))
   simp only [List.forIn_nil]
   refine wpAny_pure ?_
   cases ok with
   | false =>
    simp only [Bool.false_eq_true,if_false] at q9 ⊢
    exact wpAny_pure ⟨rfl,fin2 I9 q9⟩
   | true =>
    simp only [if_true] at q9 ⊢
    refine wpAny_bind (wpAny_bind (thn (he _ _ _ _ _ s9 σ8 H9 _ I9 q9) fun v s10 ⟨y,H10,I10,r10,ys,e10,z10,n10⟩=>?_))
    refine wpAny_bind (thn (jau (X:=Y) _ s10 σ8 H10 (.ref s2.heap.objs.size) [y] (.ref s2.heap.objs.size) [v] (fun w H'=>N σ8 H') I10 rfl (.cons r10 .nil) ⟨_,ys,y,rfl,rfl,of_lstOf e10,z10,n10⟩) fun w s11 ⟨_,H11,I11,_,n11⟩=>?_)
    exact wpAny_pure (wpAny_pure ⟨rfl,fin2 I11 n11⟩)
 exact codeAny_compStart_list loop (T.self _ 0 _ _ _ st4 loop)
theorem pe_compIf (hc:X.calm=true) (c:CompOk X scope Nc js) (hi:PI X tg iter wi) (hg:∀ C s3 H3 fp,PG (X.comp scope C Nc s3 H3 fp) tg g) (ht:∀ C s3 H3 fp,PT (X.comp scope C Nc s3 H3 fp) cd tt) (he:∀ C s3 H3 fp,PE (X.comp scope C Nc s3 H3 fp) elt te)
  (hs:∀ x,foldedSetIterable iter X.env x=pure x:=by intro _;rfl):PE X (.ListComp elt [⟨tg,iter,[cd],0⟩] scope pos) (tCompIf wi g js tt te):=by
 intro pins s σ H Q I h
 rw [eval_ListComp]
 refine wpAny_comprehension_free (use:=none) (g:=⟨tg,iter,[cd],0⟩) (gs:=[]) rfl hs (closure_of (c.has I)) c.kind c.loc
  (comp_coreIf (RR:=fun acc C=>compPost (model X.prog X.w) X.A X.xe none (EP X pins σ Q) acc C) (NX:=fun D H'=>Q (.ref D) H') hc c hi hg ht he I h fun D H3 s3 fp σ5 H5 s6 I3 f3 I6 qn=>?_)
 obtain ⟨m,hn,_⟩:=I6.loc
 exact ⟨m,hn,fun h' hs'=>⟨.ref D,H5,comp_after I3 f3 I6 hs',rfl,qn⟩⟩
theorem ps_setcIf {i:Nat} {y:Str} {py spos:Pos} (hN:X.N.Nodup) (hiN:X.N[i]?=some y) (hy:Loc X.env.scope y) (hc:X.calm=true) (c:CompOk X scope Nc js) (hi:PI X tg iter wi) (hg:∀ C s3 H3 fp,PG (X.comp scope C Nc s3 H3 fp) tg g)
  (ht:∀ C s3 H3 fp,PT (X.comp scope C Nc s3 H3 fp) cd tt) (he:∀ C s3 H3 fp,PE (X.comp scope C Nc s3 H3 fp) elt te) (hsw:swapsWith (.ListComp elt [⟨tg,iter,[cd],0⟩] scope pos) (some (.Name y py)) spos.line X.env=pure true:=by rfl)
  (hs:∀ x,foldedSetIterable iter X.env x=pure x:=by intro _;rfl) (hf:X.fn y=true∨X.env.scope.names.lookup y=some .local:=by first | exact .inl rfl | exact .inr rfl | assumption) :
  PS X (.Assign [.Name y py] (.ListComp elt [⟨tg,iter,[cd],0⟩] scope pos) spos) (tAsg (tCompIf wi g js tt te) (gName i)):=by
 intro pins s σ H D I h
 rw [exec_Assign_Name_used _ _ _ _ hsw]
 refine wpAny_bind (wpAny_standAt (wpAny_bind ?_))
 show wpAny _ X.A (do let _ ← comprehension (.ListComp elt [⟨tg,iter,[cd],0⟩] scope pos) scope X.env _ (newList []) false (eval iter X.env) (some (assign (.Name y py) X.env))) _ _ s
 refine wpAny_bind (wpAny_mono (wpAny_comprehension_free (use:=some (assign (.Name y py) X.env)) (g:=⟨tg,iter,[cd],0⟩) (gs:=[]) (Q:=fun _ s'=>SP X pins D .next s') rfl hs (closure_of (c.has I)) c.kind c.loc
  (comp_coreIf (RR:=fun acc C=>compPost (model X.prog X.w) X.A X.xe (some (assign (.Name y py) X.env)) (fun _ s'=>SP X pins D .next s') acc C) (NX:=fun Da H'=>D.nx (σ.set i (some (.ref Da))) H') hc c hi hg ht he I h fun Da H3 s3 fp σ5 H5 s6 I3 f3 I6 qn=>?_))
  (fun _ s' hq=>wpAny_pure (wpAny_pure hq)) fun _ _ e=>e)
 obtain ⟨m,hn,_⟩:=id I6.loc
 have I7:Inv X pins σ H5 s6:=comp_after I3 f3 I6 (.refl ..)
 have hC:H5 s3.heap.objs.size=none:=I6.free
 have nL:s3.heap.objs.size≠X.env.locals:=Nat.ne_of_gt I3.lt
 have nc:∀ x a,X.env.cells.lookup x=some a->a≠s3.heap.objs.size:=fun x a e=>by
  obtain ⟨v,q⟩:=I3.cell x a e
  exact Nat.ne_of_lt q.lt
 have np:∀ p ∈ X.pn++pins,p.1≠s3.heap.objs.size:=fun p hp=>Nat.ne_of_lt (Heap.lt_size (I3.pin p hp).1)
 show wpAny _ _ (assign (.Name y py) X.env (.ref Da)) _ _ _
 refine wpAny_assign_Name (store_ok2 (v:=.ref Da) I7 hN hiN hy rfl (fun s8 I8 hb=>?_) hf)
 obtain ⟨a,hs8,ha⟩:=hb
 have nCa:s3.heap.objs.size≠a:=by
  rcases ha with z | z
  ·rw [z];exact nL
  ·exact (nc y a z).symm
 refine ⟨m,hn.sameBut hs8 nCa,fun h9 hs9=>?_⟩
 exact ⟨_,H5,I8.turned (t':=s8.toks) (fun b o hb e=>(hs9.2 b hb).trans e) hC nL (.inr (Nat.le_trans I3.sz (Nat.le_refl _))) nc np,qn⟩
end
section
variable {X:Cx} {scope:Scope} {Nc:List Str} {js:List (Option Nat)} {elt tg iter cd:Expr} {pos:Pos} {wi:TI} {g:TG} {te:TE} {tt:TT}
theorem ja1 (hc:X.calm=true) (c:CompOk X scope Nc js) (hi:QI X tg iter wi) (hg:∀ C s3 H3 fp,QG (X.comp scope C Nc s3 H3 fp) tg g) (ht:∀ C s3 H3 fp,QT (X.comp scope C Nc s3 H3 fp) cd tt) (he:∀ C s3 H3 fp,QE (X.comp scope C Nc s3 H3 fp) elt te)
  (hs:∀ x,foldedSetIterable iter X.env x=pure x:=by intro _;rfl):QE X (.ListComp elt [⟨tg,iter,[cd],0⟩] scope pos) (tCompIf wi g js tt te) :=
 ⟨pe_compIf hc c hi.h (fun C s H f=>(hg C s H f).h) (fun C s H f=>(ht C s H f).h) (fun C s H f=>(he C s H f).h) hs⟩
theorem qps_setcIf {i:Nat} {y:Str} {py spos:Pos} (hN:X.N.Nodup) (hiN:X.N[i]?=some y) (hy:Loc X.env.scope y) (hc:X.calm=true) (c:CompOk X scope Nc js) (hi:QI X tg iter wi) (hg:∀ C s3 H3 fp,QG (X.comp scope C Nc s3 H3 fp) tg g)
  (ht:∀ C s3 H3 fp,QT (X.comp scope C Nc s3 H3 fp) cd tt) (he:∀ C s3 H3 fp,QE (X.comp scope C Nc s3 H3 fp) elt te) (hsw:swapsWith (.ListComp elt [⟨tg,iter,[cd],0⟩] scope pos) (some (.Name y py)) spos.line X.env=pure true:=by rfl)
  (hs:∀ x,foldedSetIterable iter X.env x=pure x:=by intro _;rfl) (hf:X.fn y=true∨X.env.scope.names.lookup y=some .local:=by first | exact .inl rfl | exact .inr rfl | assumption) :
  QS X (.Assign [.Name y py] (.ListComp elt [⟨tg,iter,[cd],0⟩] scope pos) spos) (tAsg (tCompIf wi g js tt te) (gName i)) :=
 ⟨ps_setcIf hN hiN hy hc c hi.h (fun C s H f=>(hg C s H f).h) (fun C s H f=>(ht C s H f).h) (fun C s H f=>(he C s H f).h) hsw hs hf⟩
end
section
variable {D:Addr} {te:TE} {tt:TT} {E:Ends} {r:L2.St} {H:Hp}
theorem filt_step {α:Type} (p:α->Bool) (f:α->V) (xs:List α) (i:Nat) (x:α) (h:xs[i]?=some x):((xs.take (i+1)).filter p).map f=((xs.take i).filter p).map f++(if p x=true then [f x] else []):=by
 rw [List.take_succ,h]
 simp only [Option.toList_some,List.filter_append,List.map_append]
 congr 1
 by_cases q:p x=true
 ·simp [q]
 ·simp [q]
theorem compIf_tup {K:PySem.W.Frag} {a:Addr} {xs:List V} (p:V->Bool) (f:V->V) (ha:H a=some (.tup xs)) (hD:H D=none) (hz:xs.length<=sizeLine)
  (ht:∀ x ∈ xs,∀ l Q,Q (p x) (upd H D (.lst l))->tt (some x::r) (upd H D (.lst l)) Q) (he:∀ x ∈ xs,p x=true->∀ l Q,Q (f x) (upd H D (.lst l))->te (some x::r) (upd H D (.lst l)) Q)
  (hn:∀ v,E.nx (v::r) (upd H D (.lst ((xs.filter p).map f)))):LoopR (Itt K a) (gName 0) (tEmitIf D tt te) E (none::r) (upd H D (.lst [])):=by
 have ne:a≠D:=je ha hD
 refine loop_tup (xs:=xs) (fun i σ H'=>∃ v:Option V,σ=v::r/\H'=upd H D (.lst (((xs.take i).filter p).map f))) ⟨none,rfl,rfl⟩ ?_ ?_ ?_
 ·rintro i σ H' _ ⟨v,_,rfl⟩
  rw [jc ne];exact ha
 ·rintro i x σ H' hx ⟨v,rfl,rfl⟩
  have hl:i < xs.length:=(List.getElem?_eq_some_iff.mp hx).1
  have hm:=List.mem_of_getElem? hx
  have hf:(((xs.take i).filter p).map f).length<=i:=by
   rw [List.length_map]
   exact Nat.le_trans (List.length_filter_le _ _) (by rw [List.length_take];omega)
  refine ht x hm _ _ ?_
  by_cases q:p x=true
  ·rw [q,if_pos rfl]
   refine he x hm q _ _ ⟨_,by rw [jb];rfl,by omega,some x,rfl,?_⟩
   rw [upd_D,filt_step p f xs i x hx,if_pos q]
  ·rw [if_neg q]
   refine ⟨some x,rfl,?_⟩
   rw [filt_step p f xs i x hx,if_neg q,List.append_nil]
 ·rintro σ H' ⟨v,rfl,rfl⟩
  rw [List.take_of_length_le (Nat.le_refl _)]
  exact hn v
theorem compIf_range {lo:Int} {n:Nat} (p:Nat->Bool) (f:Nat->V) (hz:n<=sizeLine)
  (ht:∀ i,i < n->∀ l Q,Q (p i) (upd H D (.lst l))->tt (some (.int (lo+(i:Nat)))::r) (upd H D (.lst l)) Q) (he:∀ i,i < n->p i=true->∀ l Q,Q (f i) (upd H D (.lst l))->te (some (.int (lo+(i:Nat)))::r) (upd H D (.lst l)) Q)
  (hn:∀ v,E.nx (v::r) (upd H D (.lst (((List.range n).filter p).map f)))):LoopR (Itr lo n) (gName 0) (tEmitIf D tt te) E (none::r) (upd H D (.lst [])):=by
 refine loop_range (fun i σ H'=>∃ v:Option V,σ=v::r/\H'=upd H D (.lst (((List.range i).filter p).map f))) ⟨none,rfl,rfl⟩ ?_ ?_
 ·rintro i σ H' hi ⟨v,rfl,rfl⟩
  have hf:(((List.range i).filter p).map f).length<=i:=by
   rw [List.length_map]
   exact Nat.le_trans (List.length_filter_le _ _) (by rw [List.length_range];omega)
  refine ht i hi _ _ ?_
  by_cases q:p i=true
  ·rw [q,if_pos rfl]
   refine he i hi q _ _ ⟨_,by rw [jb];rfl,by omega,some (.int (lo+(i:Nat))),rfl,?_⟩
   rw [upd_D,List.range_succ]
   simp [q]
  ·rw [if_neg q]
   refine ⟨some (.int (lo+(i:Nat))),rfl,?_⟩
   rw [List.range_succ]
   simp [q]
 ·rintro σ H' ⟨v,rfl,rfl⟩
  exact hn v
end
end L2
namespace L2
open PySem PySem.Spec PyProof.Rows
section
variable {X:Cx}
def rTru (x:V) (H:Hp) (Q:Bool->Hp->Prop):Prop:=match x with
 | .bl b=>Q b H
 | .int i=>Q (i != 0) H
 | .non=>Q false H
 | .str y=>y.length<=sizeLine/\Q ((y.length:Int) != 0) H
 | .ref p=>∃ xs,seqOf (H p)=some xs/\Q (!xs.isEmpty) H
 | _=>False
def tTru (ta:TE):TT:=fun σ H Q=>ta σ H fun x H1=>rTru x H1 Q
theorem rTru_ref (p:Addr) (H:Hp) (Q:Bool->Hp->Prop):rTru (.ref p) H Q=(∃ xs,seqOf (H p)=some xs/\Q (!xs.isEmpty) H):=rfl
theorem rTru_bl (b:Bool) (H:Hp) (Q:Bool->Hp->Prop):rTru (.bl b) H Q=Q b H:=rfl
theorem rTru_str (y:Str) (H:Hp) (Q:Bool->Hp->Prop):rTru (.str y) H Q=(y.length<=sizeLine/\Q ((y.length:Int) != 0) H):=rfl
theorem pt_tru {a:Expr} {ta:TE} (ha:PE X a ta) (he:∀ whole,isTrue a X.env whole=(do let v ← whole;standAt a.pos;holding [v] (truthy v)):=by intro _;rfl):PT X a (tTru ta):=by
 intro pins s σ H Q I h
 refine isTrue_plain (thn (ha pins s σ H _ I h) fun v s1 ⟨x,H1,I1,r1,q1⟩=>tru_ok pins s1 σ H1 x v Q I1 r1 ?_) (he _)
 replace q1:rTru x H1 Q:=q1
 unfold rTru at q1
 split at q1
 ·exact ⟨_,rfl,q1⟩
 ·exact ⟨_,rfl,q1⟩
 ·exact ⟨_,rfl,q1⟩
 ·exact ⟨_,⟨q1.1,rfl⟩,q1.2⟩
 ·obtain ⟨xs,e,q⟩:=q1
  rcases of_seqOf e with e | e
  ·exact ⟨_,.inl ⟨xs,SqL.of e,rfl⟩,q⟩
  ·exact ⟨_,.inr (.inl ⟨xs,SqT.of e,rfl⟩),q⟩
 ·exact q1.elim
def rPop0U:V->List V->Hp->VK->Prop:=fun x vs H Q=>match x,vs with
 | .ref l,[]=>∃ xs,lstOf (H l)=some xs/\∃ y,xs[xs.length - 1]?=some y/\Q y (upd H l (.lst xs.dropLast))
 | _,_=>False
theorem rPop0U_ref (l:Addr) (H:Hp) (Q:VK):rPop0U (.ref l) [] H Q=(∃ xs,lstOf (H l)=some xs/\∃ y,xs[xs.length - 1]?=some y/\Q y (upd H l (.lst xs.dropLast))):=rfl
theorem mt_pop0U:MtM X "list.pop" rPop0U:=by
 intro pins s σ H x vs v us Q I rx rv h
 unfold rPop0U at h
 split at h
 ·rename_i l
  obtain ⟨xs,e,y,hy,q⟩:=h
  exact mt_pop pins s σ H _ _ v us Q I rx rv ⟨l,xs,y,rfl,rfl,of_lstOf e,hy,q⟩
 ·exact h.elim
theorem preSum_list (ns:List Int):∀ k,k<=ns.length->preSum (fun i=>(ns[i]?).getD 0) k=(ns.take k).sum
 | 0,_=>by simp [preSum]
 | k+1,h=>by
  have ih:=preSum_list ns k (by omega)
  show preSum _ k+(ns[k]?).getD 0=_
  have e:ns[k]?=some (ns[k]'(by omega)):=by simp
  rw [ih,List.take_succ,e,Option.getD_some,List.sum_append]
  simp
theorem vals_intsI:∀ {ns:List Int} {us:List Value},Vals (ns.map V.int) us->∀ (i:Nat) (v:Value),us[i]?=some v->∃ n t,ns[i]?=some n/\v=.int n t
 | [],us,r,i,v,e=>by rw [List.map_nil] at r;cases r;simp at e
 | n::ns,us,r,i,v,e=>by
  rw [List.map_cons] at r
  cases r with
  | cons r1 r2 =>
   cases i with
   | zero=>obtain ⟨t,rfl⟩:=r1;simp at e;exact ⟨n,t,rfl,e.symm⟩
   | succ i=>simp at e;obtain ⟨n',t,e1,e2⟩:=vals_intsI r2 i v e;exact ⟨n',t,by simpa using e1,e2⟩
end
end L2
namespace L2
open PySem PySem.Spec PyProof.Rows
section
variable {P:Program} {w:World} {A:Around} {E:Value->Shared->Prop} {s:Shared}
end
section
variable {X:Cx}
end
end L2
namespace L2
open PySem PySem.Spec PyProof.Rows
section
variable {X:Cx}
end
def tMid (t u:TS):TS:=fun D σ H=>∃ J:L2.St->Hp->Prop,t { D with nx:=J } σ H/\∀ σ H,J σ H->u D σ H
theorem pss_mid {X:Cx} {st:Stmt} {rest:List Stmt} {t u:TS} (h1:PS X st t) (h2:PSs X rest u):PSs X (st::rest) (tMid t u):=by
 intro pins s σ H D I h
 obtain ⟨J,h,hJ⟩:=h
 refine wpAny_execs_cons (thn (h1 pins s σ H { D with nx:=J } I h) fun f s1 q=>?_)
 cases f with
 | next =>
  obtain ⟨σ1,H1,I1,q1⟩:=q
  exact h2 pins s1 σ1 H1 D I1 (hJ _ _ q1)
 | ret v=>exact q
 | brk=>exact q
 | cont=>exact q
theorem yg {X:Cx} {st:Stmt} {rest:List Stmt} {t u:TS} (h1:QS X st t) (h2:QSs X rest u):QSs X (st::rest) (tMid t u):=⟨pss_mid h1.h h2.h⟩
section
variable {X:Cx}
theorem qps_never {st:Stmt}:QS X st tNever:=⟨ps_never⟩
theorem qpt_tru {a:Expr} {ta:TE} (ha:QE X a ta) (he:∀ whole,isTrue a X.env whole=(do let v ← whole;standAt a.pos;holding [v] (truthy v)):=by intro _;rfl):QT X a (tTru ta):=⟨pt_tru ha.h he⟩
theorem jan {K:PySem.W.Frag} (hK:X.K=K):CallR X (.builtin "isinstance") (rIsU K):=by
 subst hK
 exact call_isinstanceU
end
end L2
namespace L2
open PySem PySem.Spec PyProof.Rows
theorem dl_entry:entryFor table "dict.update.loop"=some Builtin.«dict.update.loop»:=entryFor_of_tree (by kernel_rfl)
theorem dl_plain:plainId "dict.update.loop"=true:=by decide +kernel
theorem dl_nokeys:typeLookup (.type "list") "keys"=pure none:=by rw [typeLookup_type,builtinLookup_eq_fast];kernel_rfl
section
variable {P:Program} {w:World} {A:Around} {R:Result->Shared->Prop} {I:Addr} {fp wr:List Addr} {n:Nat} {Pv:Nat->Value->Prop} {St:Nat->Heap->Prop}
theorem dl_miss {A:Around} {E:Value->Shared->Prop} {s:Shared} {a:Addr} {o:Obj} {xs:Array Value} {k:Nat} {u:Tok} {Q:Value->Shared->Prop}
  (hx:s.heap.get? a=some o) (hc:o.cls=.type "list") (hdat:o.data=.seq xs k) (hd:o.dict=none) (hA:A.handled=none)
  (h:∀ h' tk e,Heap.NewExcOf s.heap h' e "AttributeError"->E (.ref e) { s with heap:=h',toks:=tk }):wpAny (model P w) A (getAttrBy (.ref a) (.str "keys" u) false) Q E s:=by
 obtain ⟨c,dct,dat,sl⟩:=o
 simp only at hc hdat hd
 subst hc hdat hd
 obtain ⟨hp,g,d,tk,os⟩:=s
 have hT:∀ tk',(⟨hp,g,d,tk',os⟩:Shared).TypeIs (.ref a) "list":=fun _=>⟨_,hx,rfl⟩
 have g1:=sub_AttributeError
 have g3:=F.slot_list_getattribute.lookup
 have g4:=F.slot_list_getattribute.bind (.ref a)
 have g5:=am_list_getattr_none
 unfold getAttrBy
 repeat (any_goals (first | assumption | exact hT _ | ((with_reducible show wpAny _ _ (call (Value.builtin "list.__getattribute__") _ _) _ _ _);refine call_meets F.slot_list_getattribute (hT _) am_entry_list_getattribute (F.args_list_getattribute_2 _ _) (meets_getattribute_miss_list a xs k sl "keys" _ dl_nokeys (by decide +kernel) (by size_fits)) ⟨hx,hA,fun h' tk' e hx'=>?_⟩) | wp_step))
 obtain ⟨t',u',he⟩:=hx'.there
 show wpAny _ _ (getattributeRaised _ _ _ _ _ _ _) _ _ _
 unfold getattributeRaised
 repeat (any_goals (first | assumption | wp_step))
 exact h _ _ _ hx'.of
end
section
variable {X:Cx}
end
end L2
namespace L2
open PySem PySem.Spec PyProof.Rows
section
variable {P:Program} {w:World} {A:Around} {E:Value->Shared->Prop} {s:Shared} {d it:Addr} {o:Obj} {es:Array DictEntry} {ep i:Nat}
theorem kd_iter {Q:Value->Shared->Prop} (hd:(d == sysModules)=false) (ho:s.heap.get? d=some o) (hx:o.ExactDict) (hdat:o.data=.dict es ep)
  (hQ:Q (.ref s.heap.objs.size) { s with heap:=s.heap.push { cls:=.type "dict_keyiterator",data:=.fields #[.ref d,.int 0 0,.int es.size 0,.int ep 0] } }):wpAny (model P w) A (pyIter (.ref d)) Q E s:=by
 have hT:s.TypeIs (.ref d) "dict":=⟨o,ho,hx.1⟩
 refine wpAny_pyIter_slot hT F.slot_dict_iter (wpAny_call_entry F.slot_dict_iter hT F.entry_dict_iter ?_ (F.args_dict_iter_1 _))
 unfold Builtin.«dict.__iter__»
 refine wpAny_bind ?_
 unfold Builtin.Dict.dictSlotNone
 refine wpAny_bind (wpAny_notOrdered_dict hT ?_)
 refine (show wpAny _ _ (pure (Value.ref d)) _ _ s from wpAny_pure ?_)
 show wpAny _ _ (Builtin.Dict.showsAll d >>= _) _ _ s
 unfold Builtin.Dict.showsAll
 rw [if_neg (show ¬ ((d == sysModules)=true) by rw [hd];exact Bool.false_ne_true)]
 refine wpAny_bind (wpAny_pure (wpAny_bind (wpAny_dictEntries ho hdat (wpAny_bind (wpAny_dictEpoch ho hdat ?_)))))
 refine wpAny_bind (wpAny_newObj_type (wpAny_pure ⟨_,rfl,"dict_keyiterator",_,⟨_,Heap.get?_push_size _ rfl,rfl⟩,F.slot_dict_keyiterator_next.lookup,?_⟩))
 simpa [rawInt] using hQ
theorem kd_item {e:DictEntry} {Q:Option Value->Shared->Prop} (hit:s.heap.IsKeyIter it d i es.size ep) (hod:s.heap.get? d=some o) (hdd:o.data=.dict es ep) (hx:es[i]?=some e)
  (hQ:∀ h',h'.IsKeyIter it d (i+1) es.size ep->Heap.SameBut it s.heap h'->Q (some e.key) { s with heap:=h' }):wpAny (model P w) A (pyNext (.ref it)) Q E s:=by
 obtain ⟨oi,hoi,hci,hdi⟩:=id hit
 unfold pyNext
 refine wpAny_bind (wpAny_attempt (wpAny_callSpecial?_slot (name:=Str.ofString "__next__") hit.typeIs F.slot_dict_keyiterator_next (wpAny_call_entry F.slot_dict_keyiterator_next hit.typeIs F.entry_dict_keyiterator_next ?_ (F.args_dict_keyiterator_next_1 _))))
 refine wpAny_bind (wpAny_pure (wpAny_bind (wpAny_bind ?_)))
 first | refine wpAny_bind (wpAny_typeNameOfWhole_keyiter hit.typeIs (wpAny_pure (wpAny_bind (wpAny_fieldsOf hoi hdi ?_)))) | refine wpAny_bind (wpAny_typeNameOf_keyiter hit.typeIs (wpAny_pure (wpAny_bind (wpAny_fieldsOf hoi hdi ?_))))
 have own0:Builtin.Dict_items.ownsTuple "dict_keyiterator"=false:=by decide
 simp only [own0,Bool.false_eq_true,if_false]
 refine (show wpAny _ _ (if (Value.ref d == Value.none)=true then _ else _) _ _ s from ?_)
 rw [if_neg (show ¬ ((Value.ref d == Value.none)=true) by exact Bool.false_ne_true)]
 refine wpAny_bind (wpAny_pure (wpAny_bind (wpAny_dictEntries hod hdd ?_)))
 rw [if_neg (show ¬ _ by simp)]
 refine wpAny_bind (wpAny_pure (wpAny_bind (wpAny_dictEpoch hod hdd ?_)))
 rw [if_neg (show ¬ _ by simp)]
 refine wpAny_pure ?_
 simp only [show ¬ ((i:Int) < 0) by omega,if_false,Int.toNat_natCast,hx]
 refine wpAny_bind ?_
 first | refine wpAny_bind (wpAny_typeNameOfWhole_keyiter hit.typeIs (wpAny_pure (wpAny_bind (wpAny_isOneOf_keyiter hit.typeIs ?_)))) | refine wpAny_bind (wpAny_typeNameOf_keyiter hit.typeIs (wpAny_pure (wpAny_bind (wpAny_isOneOf_keyiter hit.typeIs ?_))))
 refine (show wpAny _ _ (setField (.ref it) 1 (rawInt ((i:Int)+1)) >>= _) _ _ s from wpAny_bind (wpAny_setField hoi hdi (by simp) ?_))
 have hit2:(s.heap.update it (Obj.mapFields (·.setIfInBounds 1 (rawInt ((i:Int)+1))))).IsKeyIter it d (i+1) es.size ep :=
  ⟨_,Heap.get?_update_self _ hoi (Obj.isFreed_of_fields (Obj.data_mapFields hdi _)),(Obj.cls_mapFields ..).trans hci,by rw [Obj.data_mapFields hdi];simp [rawInt]⟩
 refine wpAny_bind (wpAny_holding (wpAny_bind (wpAny_isOneOf_keyiter (s:={ s with heap:=s.heap.update it (Obj.mapFields (·.setIfInBounds 1 (rawInt ((i:Int)+1)))) }) hit2.typeIs ?_)))
 refine (show wpAny _ _ (pure e.key) _ _ _ from wpAny_pure (wpAny_pure ⟨_,rfl,wpAny_pure (hQ _ hit2 (Heap.SameBut.update ..))⟩))
theorem kd_end {Q:Option Value->Shared->Prop} (hh:A.handled=none) (hit:s.heap.IsKeyIter it d i es.size ep) (hod:s.heap.get? d=some o) (hdd:o.data=.dict es ep) (hx:es.size<=i)
  (hQ:∀ h',Heap.ExtBut it s.heap h'->Q none { s with heap:=h' }):wpAny (model P w) A (pyNext (.ref it)) Q E s:=by
 obtain ⟨oi,hoi,hci,hdi⟩:=id hit
 unfold pyNext
 refine wpAny_bind (wpAny_attempt (wpAny_callSpecial?_slot (name:=Str.ofString "__next__") hit.typeIs F.slot_dict_keyiterator_next (wpAny_call_entry F.slot_dict_keyiterator_next hit.typeIs F.entry_dict_keyiterator_next ?_ (F.args_dict_keyiterator_next_1 _))))
 refine wpAny_bind (wpAny_pure (wpAny_bind (wpAny_bind ?_)))
 first | refine wpAny_bind (wpAny_typeNameOfWhole_keyiter hit.typeIs (wpAny_pure (wpAny_bind (wpAny_fieldsOf hoi hdi ?_)))) | refine wpAny_bind (wpAny_typeNameOf_keyiter hit.typeIs (wpAny_pure (wpAny_bind (wpAny_fieldsOf hoi hdi ?_))))
 have own0:Builtin.Dict_items.ownsTuple "dict_keyiterator"=false:=by decide
 simp only [own0,Bool.false_eq_true,if_false]
 refine (show wpAny _ _ (if (Value.ref d == Value.none)=true then _ else _) _ _ s from ?_)
 rw [if_neg (show ¬ ((Value.ref d == Value.none)=true) by exact Bool.false_ne_true)]
 refine wpAny_bind (wpAny_pure (wpAny_bind (wpAny_dictEntries hod hdd ?_)))
 rw [if_neg (show ¬ _ by simp)]
 refine wpAny_bind (wpAny_pure (wpAny_bind (wpAny_dictEpoch hod hdd ?_)))
 rw [if_neg (show ¬ _ by simp)]
 refine wpAny_pure ?_
 simp only [show ¬ ((i:Int) < 0) by omega,if_false,Int.toNat_natCast,Array.getElem?_eq_none hx]
 refine wpAny_bind ?_
 first | refine wpAny_bind (wpAny_typeNameOfWhole_keyiter hit.typeIs (wpAny_pure ?_)) | refine wpAny_bind (wpAny_typeNameOf_keyiter hit.typeIs (wpAny_pure ?_))
 refine (show wpAny _ _ (setField (.ref it) 0 .none >>= _) _ _ s from wpAny_bind (wpAny_setField hoi hdi (by simp) ?_))
 refine (show wpAny _ _ (newExc (.type "StopIteration") [] >>= _) _ _ _ from wpAny_bind ?_)
 simp only [newExc,newTuple]
 refine wpAny_bind (wpAny_newObj_type ?_ (by size_fits))
 refine wpAny_bind (m:=firstArgMember _ _) (wpAny_of_eq (a:=Value.none) (by first | rfl | (simp only [firstArgMember];rfl)) (wpAny_newObj_type ?_ (by size_fits)))
 simp only [raiseNew]
 refine wpAny_bind (wpAny_handled ?_)
 rw [show A.in1.handled=none by exact hh]
 refine wpAny_bind (wpAny_pure (wpAny_throw ?_))
 refine wpAny_bind (wpAny_isInstance (T:="StopIteration") (b:=true) (by exact ⟨_,Heap.get?_push_size _ rfl,rfl⟩) isSubtype_stop ?_)
 exact wpAny_pure (hQ _ (((Heap.SameBut.update ..).extBut.push _).push _))
end
section
variable {X:Cx} {tg:Expr}
end
end L2
namespace L2
open PySem PySem.Spec PyProof.Rows
section
variable {D:Addr} {te:TE} {tt:TT} {E:Ends} {r:L2.St} {H:Hp}
def Firm (P:V->Hp->Prop):Prop:=∀ S x H1 H2,Kp S H1 H2->P x H1->P x H2
theorem comp_rangeK {lo:Int} {n:Nat} (P:Nat->V->Hp->Prop) (hP:∀ i,Firm (P i)) (hD:H D=none) (hz:n<=sizeLine)
  (he:∀ i H1 Q,i < n->Kp [] H H1->(∀ v H2,Kp [] H1 H2->P i v H2->Q v H2)->te (some (.int (lo+(i:Nat)))::r) H1 Q)
  (hn:∀ v xs H',Kp [] H H'->H' D=some (.lst xs)->Paired (fun i x=>P i x H') (List.range n) xs->E.nx (v::r) H'):LoopR (Itr lo n) (gName 0) (tEmit D te) E (none::r) (upd H D (.lst [])):=by
 refine loop_range (fun i σ H'=>∃ (v:Option V) (xs:List V),σ=v::r/\Kp [] H H'/\H' D=some (.lst xs)/\Paired (fun i x=>P i x H') (List.range i) xs) ⟨none,[],rfl,(Kp.refl [] H).new hD,jb,.nil⟩ ?_ ?_
 ·rintro i σ H' hi ⟨v,xs,rfl,kp,hd,pr⟩
  have hl:xs.length=i:=by have:=Paired.length pr;simpa using this.symm
  refine he i H' _ hi kp fun y H2 k2 hy=>?_
  have hd2:H2 D=some (.lst xs):=k2.old _ _ hd (by simp)
  refine ⟨xs,by rw [hd2];rfl,by omega,some (.int (lo+(i:Nat))),xs++[y],rfl,(kp.trans k2).set hd2 (.inr hD),jb,?_⟩
  have k3:Kp [D] H2 (upd H2 D (.lst (xs++[y]))):=(Kp.refl [D] H2).set hd2 (.inl (by simp))
  rw [List.range_succ]
  exact Paired.snoc (Paired.mapP pr fun j x q=>hP j _ x _ _ k3 (hP j _ x _ _ k2 q)) (hP i _ y _ _ k3 hy)
 ·rintro σ H' ⟨v,xs,rfl,kp,hd,pr⟩
  exact hn v xs H' kp hd pr
theorem comp_listK {K:PySem.W.Frag} {a:Addr} {ys:List V} (P:V->V->Hp->Prop) (hP:∀ y,Firm (P y)) (ha:H a=some (.lst ys)) (hD:H D=none) (hz:ys.length<=sizeLine)
  (he:∀ (i:Nat) (y:V) (H1:Hp) (Q:VK),ys[i]?=some y->Kp [] H H1->(∀ v H2,Kp [] H1 H2->P y v H2->Q v H2)->te (some y::r) H1 Q)
  (hn:∀ v xs H',Kp [] H H'->H' D=some (.lst xs)->Paired (fun y x=>P y x H') ys xs->E.nx (v::r) H'):LoopR (Itl K a) (gName 0) (tEmit D te) E (none::r) (upd H D (.lst [])):=by
 refine loop_list (xs:=ys) (fun i σ H'=>∃ (v:Option V) (xs:List V),σ=v::r/\Kp [] H H'/\H' D=some (.lst xs)/\Paired (fun y x=>P y x H') (ys.take i) xs) ⟨none,[],rfl,(Kp.refl [] H).new hD,jb,.nil⟩ ?_ ?_ ?_
 ·rintro i σ H' _ ⟨v,xs,rfl,kp,hd,pr⟩
  exact kp.old _ _ ha (by simp)
 ·rintro i y σ H' hy ⟨v,xs,rfl,kp,hd,pr⟩
  have hi:i < ys.length:=(List.getElem?_eq_some_iff.mp hy).1
  have hl:xs.length=i:=by have:=Paired.length pr;rw [List.length_take] at this;omega
  refine he i y H' _ hy kp fun x H2 k2 hx=>?_
  have hd2:H2 D=some (.lst xs):=k2.old _ _ hd (by simp)
  refine ⟨xs,by rw [hd2];rfl,by omega,some y,xs++[x],rfl,(kp.trans k2).set hd2 (.inr hD),jb,?_⟩
  have k3:Kp [D] H2 (upd H2 D (.lst (xs++[x]))):=(Kp.refl [D] H2).set hd2 (.inl (by simp))
  rw [List.take_succ,hy]
  exact Paired.snoc (Paired.mapP pr fun j x q=>hP j _ x _ _ k3 (hP j _ x _ _ k2 q)) (hP y _ x _ _ k3 hx)
 ·rintro σ H' ⟨v,xs,rfl,kp,hd,pr⟩
  rw [List.take_of_length_le (Nat.le_refl _)] at pr
  exact hn v xs H' kp hd pr
end
theorem jbp {X:Cx} {K:PySem.W.Frag} (hK:X.K=K):SlR X (rSlU K):=by
 subst hK
 exact sl_U
end L2
namespace L2
open PySem PySem.Spec PyProof.Rows
section
variable {prog:Program} {w:World} {A:Around} {E:Value->Shared->Prop} {s:Shared}
end
section
variable {X:Cx}
end
end L2
namespace L2
open PySem PySem.Spec PyProof.Rows
structure ZA (z TI TO i1 i2:Addr) (f1 f2:List Addr):Prop where
 TIz:TI≠z
 TOz:TO≠z
 i1z:i1≠z
 i2z:i2≠z
 TITO:TI≠TO
 TIi1:TI≠i1
 TIi2:TI≠i2
 TOi1:TO≠i1
 TOi2:TO≠i2
 i12:i1≠i2
 zf1:z ∉ f1
 zf2:z ∉ f2
 Tf1:TO ∉ f1
 Tf2:TO ∉ f2
 jf2:i1 ∉ f2
 jf1:i2 ∉ f1
section
variable {prog:Program} {w:World} {A:Around} {E:Value->Shared->Prop} {s:Shared} {i1 i2:Addr} {f1 f2:List Addr} {n1 n2:Nat} {P1 P2:Nat->Value->Prop} {S1 S2:Nat->Heap->Prop}
theorem dr_but {it:Addr} {fp:List Addr} {n:Nat} {P:Nat->Value->Prop} {St:Nat->Heap->Prop} (D:Draws prog w A it fp n P St) {i:Nat} {h h':Heap} {c:Addr} (st:St i h) (hs:Heap.SameBut c h h') (hc:c ∉ fp):St i h' :=
 D.frame i h h' st fun b hb o e=>hs.extBut b o (fun x=>hc (x ▸ hb)) e
theorem zipD_item {z TI TO:Addr} {k:Nat} {a b:Value} {Q:Value->Shared->Prop} (D1:Draws prog w A i1 f1 n1 P1 S1) (D2:Draws prog w A i2 f2 n2 P2 S2) (D:ZA z TI TO i1 i2 f1 f2)
  (hz:IsZip s.heap z TI TO .none) (hTI:IsPair s.heap TI (.ref i1) (.ref i2)) (hTO:IsPair s.heap TO a b) (h1:S1 k s.heap) (h2:S2 k s.heap) (l1:k < n1) (l2:k < n2)
  (hQ:∀ x y h' tk,P1 k x->P2 k y->IsZip h' z TI TO (rawInt s.heap.objs.size)->IsPair h' TO x y->S1 (k+1) h'->S2 (k+1) h'->IsPair h' s.heap.objs.size x y->h'.objs.size=s.heap.objs.size+1 ->
   (∀ c o,c≠z->c≠TO->c≠i1->c≠i2->s.heap.get? c=some o->h'.get? c=some o)->Q (.ref s.heap.objs.size) { s with heap:=h',toks:=tk }) :
  wpAny (model prog w) A (Builtin.«zip.__next__» ⟨[.ref z],[]⟩) (fun fin s'=>∃ v,fin=.done (.ret v)/\Q v s') E s:=by
 show wpAny _ _ (field (.ref z) 2 >>= _) _ _ _
 refine wpAny_bind (wpAny_field hz rfl (x:=.bool false) rfl ?_)
 show wpAny _ _ (field (.ref z) 3 >>= _) _ _ _
 refine wpAny_bind (wpAny_field hz rfl (x:=.ref TI) rfl ?_)
 refine wpAny_bind (wpAny_seqItems hTI rfl ?_)
 show wpAny _ _ (Builtin.SmallTypes.ownedTupleIsFree (.ref z) >>= _) _ _ _
 refine wpAny_bind ?_
 unfold Builtin.SmallTypes.ownedTupleIsFree
 refine wpAny_bind (wpAny_field hz rfl (x:=.none) rfl (wpAny_pure ?_))
 simp only [if_true]
 refine wpAny_bind (wpAny_rule ?_)
 refine wpAny_bind (wpAny_field hz rfl (x:=.ref TO) rfl ?_)
 refine wpAny_bind (wpAny_setField_rec hz (by simp) fun h₁ hz₁ hs₁=>?_)
 replace hz₁:IsZip h₁ z TI TO .ellipsis:=hz₁
 refine wpAny_bind ?_
 simp only [List.zipIdx_cons,List.zipIdx_nil,List.forIn_cons,List.forIn_nil]
 refine wpAny_bind (wpAny_bind (wpAny_onRaise ?_))
 show wpAny _ _ (Builtin.SmallTypes.nextOf (.ref i1) >>= _) _ _ _
 refine wpAny_bind (D1.item k _ _ _ l1 (dr_but D1 h1 hs₁ D.zf1) fun x h₂ tk₂ p1 h1₂ hs₂=>wpAny_pure ?_)
 have hTO₂:IsPair h₂ TO a b:=hs₂.extBut _ _ D.TOi1 (hs₁.extBut _ _ D.TOz hTO)
 refine wpAny_bind (wpAny_seqItems hTO₂ rfl ?_)
 refine wpAny_bind (wpAny_updateSeq_pair hTO₂ fun h₃ hTO₃ hs₃=>?_)
 replace hTO₃:IsPair h₃ TO x b:=hTO₃
 refine wpAny_bind (wpAny_letGo (wpAny_pure ?_))
 refine wpAny_bind (wpAny_bind (wpAny_onRaise ?_))
 show wpAny _ _ (Builtin.SmallTypes.nextOf (.ref i2) >>= _) _ _ _
 refine wpAny_bind (D2.item k _ _ _ l2 (dr_but D2 (dr_but D2 (dr_but D2 h2 hs₁ D.zf2) hs₂ D.jf2) hs₃ D.Tf2) fun y h₄ tk₄ p2 h2₄ hs₄=>wpAny_pure ?_)
 have hTO₄:IsPair h₄ TO x b:=hs₄.extBut _ _ D.TOi2 hTO₃
 refine wpAny_bind (wpAny_seqItems hTO₄ rfl ?_)
 refine wpAny_bind (wpAny_updateSeq_pair hTO₄ fun h₅ hTO₅ hs₅=>?_)
 replace hTO₅:IsPair h₅ TO x y:=hTO₅
 refine wpAny_bind (wpAny_letGo (wpAny_pure (wpAny_pure ?_)))
 refine wpAny_bind (wpAny_seqItems hTO₅ rfl ?_)
 refine wpAny_bind (wpAny_newTuple ?_)
 have hsz:h₅.objs.size=s.heap.objs.size:=by rw [hs₅.1,hs₄.1,hs₃.1,hs₂.1,hs₁.1]
 have hz₅:IsZip h₅ z TI TO .ellipsis:=hs₅.extBut _ _ D.TOz.symm (hs₄.extBut _ _ D.i2z.symm (hs₃.extBut _ _ D.TOz.symm (hs₂.extBut _ _ D.i1z.symm hz₁)))
 have hk₅:∀ c o,c≠z->c≠TO->c≠i1->c≠i2->s.heap.get? c=some o->h₅.get? c=some o:=fun c o c1 c2 c3 c4 e =>
  hs₅.extBut _ _ c2 (hs₄.extBut _ _ c4 (hs₃.extBut _ _ c2 (hs₂.extBut _ _ c3 (hs₁.extBut _ _ c1 e))))
 have h1₅:S1 (k+1) h₅:=dr_but D1 (dr_but D1 (dr_but D1 h1₂ hs₃ D.Tf1) hs₄ D.jf1) hs₅ D.Tf1
 have h2₅:S2 (k+1) h₅:=dr_but D2 h2₄ hs₅ D.Tf2
 have hzlt:z < h₅.objs.size:=Heap.lt_size hz₅
 show wpAny _ _ (Builtin.SmallTypes.ownedTupleHandOut (.ref z) (.ref h₅.objs.size) >>= _) _ _ _
 refine wpAny_bind ?_
 unfold Builtin.SmallTypes.ownedTupleHandOut
 have hz₆:IsZip (h₅.push { cls:=.type "tuple",data:=.seq #[x,y] }) z TI TO .ellipsis:=Heap.get?_push_of_some _ hz₅
 refine wpAny_bind (wpAny_setField_rec hz₆ (by simp) fun h₇ hz₇ hs₇=>?_)
 replace hz₇:IsZip h₇ z TI TO (rawInt h₅.objs.size):=hz₇
 refine wpAny_setField_rec hz₇ (by simp) fun h₈ hz₈ hs₈=>?_
 replace hz₈:IsZip h₈ z TI TO (rawInt h₅.objs.size):=hz₈
 have up:∀ c o,c≠z->h₅.get? c=some o->h₈.get? c=some o:=fun c o c1 e=>hs₈.extBut _ _ c1 (hs₇.extBut _ _ c1 (Heap.get?_push_of_some _ e))
 have hT₈:IsPair h₈ h₅.objs.size x y:=hs₈.extBut _ _ (Nat.ne_of_gt hzlt) (hs₇.extBut _ _ (Nat.ne_of_gt hzlt) (Heap.get?_push_size _ rfl))
 have hz8:h₈.objs.size=h₅.objs.size+1:=by rw [hs₈.1,hs₇.1,Heap.size_push]
 have h1₈:S1 (k+1) h₈:=D1.frame _ _ _ h1₅ fun c hc o e=>up c o (fun q=>D.zf1 (q ▸ hc)) e
 have h2₈:S2 (k+1) h₈:=D2.frame _ _ _ h2₅ fun c hc o e=>up c o (fun q=>D.zf2 (q ▸ hc)) e
 have hk₈:∀ c o,c≠z->c≠TO->c≠i1->c≠i2->s.heap.get? c=some o->h₈.get? c=some o:=fun c o c1 c2 c3 c4 e=>up c o c1 (hk₅ c o c1 c2 c3 c4 e)
 rw [hsz] at hz₈ hT₈ hz8
 refine wpAny_pure ⟨_,rfl,?_⟩
 show Q (.ref h₅.objs.size) _
 rw [hsz]
 exact hQ x y h₈ _ p1 p2 hz₈ (up _ _ D.TOz hTO₅) h1₈ h2₈ hT₈ hz8 hk₈
theorem zipD_end {z TI TO:Addr} {k:Nat} {a b:Value} {Q:Fin->Shared->Prop} (D1:Draws prog w A i1 f1 n1 P1 S1) (D2:Draws prog w A i2 f2 n2 P2 S2) (D:ZA z TI TO i1 i2 f1 f2)
  (hz:IsZip s.heap z TI TO .none) (hTI:IsPair s.heap TI (.ref i1) (.ref i2)) (hTO:IsPair s.heap TO a b) (h1:S1 k s.heap) (h2:S2 k s.heap) (hend:k=n1∨k < n1/\k=n2)
  (hE:∀ h' tk e,(∀ c o,c≠z->c≠TO->c≠i1->c≠i2->s.heap.get? c=some o->h'.get? c=some o)->(∃ o,h'.get? e=some o/\o.cls=.type "StopIteration")->E (.ref e) { s with heap:=h',toks:=tk }) :
  wpAny (model prog w) A (Builtin.«zip.__next__» ⟨[.ref z],[]⟩) Q E s:=by
 show wpAny _ _ (field (.ref z) 2 >>= _) _ _ _
 refine wpAny_bind (wpAny_field hz rfl (x:=.bool false) rfl ?_)
 show wpAny _ _ (field (.ref z) 3 >>= _) _ _ _
 refine wpAny_bind (wpAny_field hz rfl (x:=.ref TI) rfl ?_)
 refine wpAny_bind (wpAny_seqItems hTI rfl ?_)
 show wpAny _ _ (Builtin.SmallTypes.ownedTupleIsFree (.ref z) >>= _) _ _ _
 refine wpAny_bind ?_
 unfold Builtin.SmallTypes.ownedTupleIsFree
 refine wpAny_bind (wpAny_field hz rfl (x:=.none) rfl (wpAny_pure ?_))
 simp only [if_true]
 refine wpAny_bind (wpAny_rule ?_)
 refine wpAny_bind (wpAny_field hz rfl (x:=.ref TO) rfl ?_)
 refine wpAny_bind (wpAny_setField_rec hz (by simp) fun h₁ hz₁ hs₁=>?_)
 replace hz₁:IsZip h₁ z TI TO .ellipsis:=hz₁
 refine wpAny_bind ?_
 simp only [List.zipIdx_cons,List.zipIdx_nil,List.forIn_cons,List.forIn_nil]
 refine wpAny_bind (wpAny_bind (wpAny_onRaise ?_))
 show wpAny _ _ (Builtin.SmallTypes.nextOf (.ref i1) >>= _) _ _ _
 rcases hend with e | ⟨lt,e⟩
 ·subst e
  refine wpAny_bind (D1.done _ _ _ (dr_but D1 h1 hs₁ D.zf1) fun h₂ e hs₂ he=>?_)
  obtain ⟨oe,hoe,hce⟩:=he
  have hz₂:IsZip h₂ z TI TO .ellipsis:=hs₂ _ _ D.i1z.symm hz₁
  have hez:e≠z:=fun x=>by subst x;rw [hz₂] at hoe;cases hoe;simp at hce
  refine wpAny_setField_rec hz₂ (by simp) fun h₃ _ hs₃=>hE h₃ _ e (fun c o c1 _ c3 _ x=>hs₃.extBut _ _ c1 (hs₂ _ _ c3 (hs₁.extBut _ _ c1 x))) ⟨oe,hs₃.extBut _ _ hez hoe,hce⟩
 ·subst e
  refine wpAny_bind (D1.item k _ _ _ lt (dr_but D1 h1 hs₁ D.zf1) fun x h₂ tk₂ p1 h1₂ hs₂=>wpAny_pure ?_)
  have hTO₂:IsPair h₂ TO a b:=hs₂.extBut _ _ D.TOi1 (hs₁.extBut _ _ D.TOz hTO)
  refine wpAny_bind (wpAny_seqItems hTO₂ rfl ?_)
  refine wpAny_bind (wpAny_updateSeq_pair hTO₂ fun h₃ hTO₃ hs₃=>?_)
  refine wpAny_bind (wpAny_letGo (wpAny_pure ?_))
  refine wpAny_bind (wpAny_bind (wpAny_onRaise ?_))
  show wpAny _ _ (Builtin.SmallTypes.nextOf (.ref i2) >>= _) _ _ _
  refine wpAny_bind (D2.done _ _ _ (dr_but D2 (dr_but D2 (dr_but D2 h2 hs₁ D.zf2) hs₂ D.jf2) hs₃ D.Tf2) fun h₄ e hs₄ he=>?_)
  obtain ⟨oe,hoe,hce⟩:=he
  have hz₄:IsZip h₄ z TI TO .ellipsis:=hs₄ _ _ D.i2z.symm (hs₃.extBut _ _ D.TOz.symm (hs₂.extBut _ _ D.i1z.symm hz₁))
  have hez:e≠z:=fun x=>by subst x;rw [hz₄] at hoe;cases hoe;simp at hce
  refine wpAny_setField_rec hz₄ (by simp) fun h₅ _ hs₅=>hE h₅ _ e (fun c o c1 c2 c3 c4 x=>hs₅.extBut _ _ c1 (hs₄ _ _ c4 (hs₃.extBut _ _ c2 (hs₂.extBut _ _ c3 (hs₁.extBut _ _ c1 x))))) ⟨oe,hs₅.extBut _ _ hez hoe,hce⟩
theorem next_zipD_item {z TI TO:Addr} {k:Nat} {a b:Value} {Q:Option Value->Shared->Prop} (D1:Draws prog w A.in1 i1 f1 n1 P1 S1) (D2:Draws prog w A.in1 i2 f2 n2 P2 S2) (D:ZA z TI TO i1 i2 f1 f2)
  (hz:IsZip s.heap z TI TO .none) (hTI:IsPair s.heap TI (.ref i1) (.ref i2)) (hTO:IsPair s.heap TO a b) (h1:S1 k s.heap) (h2:S2 k s.heap) (l1:k < n1) (l2:k < n2)
  (hQ:∀ x y h' tk,P1 k x->P2 k y->IsZip h' z TI TO (rawInt s.heap.objs.size)->IsPair h' TO x y->S1 (k+1) h'->S2 (k+1) h'->IsPair h' s.heap.objs.size x y->h'.objs.size=s.heap.objs.size+1 ->
   (∀ c o,c≠z->c≠TO->c≠i1->c≠i2->s.heap.get? c=some o->h'.get? c=some o)->Q (some (.ref s.heap.objs.size)) { s with heap:=h',toks:=tk }) :
  wpAny (model prog w) A (pyNext (.ref z)) Q E s:=by
 have hT:s.TypeIs (.ref z) "zip":=⟨_,hz,rfl⟩
 unfold pyNext
 exact wpAny_bind (wpAny_attempt (wpAny_callSpecial?_slot (name:=Str.ofString "__next__") hT PySem.F.slot_zip_next
  (wpAny_call_entry PySem.F.slot_zip_next hT PySem.F.entry_zip_next
   (zipD_item D1 D2 D hz hTI hTO h1 h2 l1 l2 fun x y h' tk p1 p2 a1 a2 a3 a4 a5 a6 a7=>wpAny_pure (hQ x y h' tk p1 p2 a1 a2 a3 a4 a5 a6 a7)) (PySem.F.args_zip_next_1 _))))
theorem next_zipD_end {z TI TO:Addr} {k:Nat} {a b:Value} {Q:Option Value->Shared->Prop} (D1:Draws prog w A.in1 i1 f1 n1 P1 S1) (D2:Draws prog w A.in1 i2 f2 n2 P2 S2) (D:ZA z TI TO i1 i2 f1 f2)
  (hz:IsZip s.heap z TI TO .none) (hTI:IsPair s.heap TI (.ref i1) (.ref i2)) (hTO:IsPair s.heap TO a b) (h1:S1 k s.heap) (h2:S2 k s.heap) (hend:k=n1∨k < n1/\k=n2)
  (hQ:∀ h' tk,(∀ c o,c≠z->c≠TO->c≠i1->c≠i2->s.heap.get? c=some o->h'.get? c=some o)->Q none { s with heap:=h',toks:=tk }):wpAny (model prog w) A (pyNext (.ref z)) Q E s:=by
 have hT:s.TypeIs (.ref z) "zip":=⟨_,hz,rfl⟩
 unfold pyNext
 refine wpAny_bind (wpAny_attempt (wpAny_callSpecial?_slot (name:=Str.ofString "__next__") hT PySem.F.slot_zip_next
  (wpAny_call_entry PySem.F.slot_zip_next hT PySem.F.entry_zip_next (zipD_end D1 D2 D hz hTI hTO h1 h2 hend fun h' tk e hk he=>?_) (PySem.F.args_zip_next_1 _))))
 obtain ⟨o,ho,hc⟩:=he
 refine wpAny_bind (wpAny_isInstance (T:="StopIteration") (b:=true) ⟨o,ho,hc⟩ isSubtype_stop ?_)
 exact wpAny_pure (hQ _ _ hk)
theorem walks_zipD {z TI TO:Addr} (D1:Draws prog w A.in1 i1 f1 n1 P1 S1) (D2:Draws prog w A.in1 i2 f2 n2 P2 S2) (D:ZA z TI TO i1 i2 f1 f2) :
  WalksT prog w A z ([z,TI,TO,i1,i2]++f1++f2) [z,TO,i1,i2] (min n1 n2) (fun i vals=>∃ x y,P1 i x/\P2 i y/\vals=#[x,y])
   (fun i h=>IsZip h z TI TO .none/\IsPair h TI (.ref i1) (.ref i2)/\(∃ a b,IsPair h TO a b)/\S1 i h/\S2 i h)
   (fun i T h=>IsZip h z TI TO (rawInt T)/\IsPair h TI (.ref i1) (.ref i2)/\(∃ a b,IsPair h TO a b)/\S1 (i+1) h/\S2 (i+1) h/\T≠z/\T≠TO/\T≠i1/\T≠i2) where
 sub:=fun c hc=>by simp at hc ⊢;rcases hc with rfl | rfl | rfl | rfl <;> simp
 frame:=fun i h h' hst hk=>by
  obtain ⟨hz,hTI,⟨a,b,hTO⟩,h1,h2⟩:=hst
  exact ⟨hk z (by simp) _ hz,hk TI (by simp) _ hTI,⟨a,b,hk TO (by simp) _ hTO⟩,D1.frame _ _ _ h1 fun b hb o e=>hk b (by simp [hb]) o e,D2.frame _ _ _ h2 fun b hb o e=>hk b (by simp [hb]) o e⟩
 item:=fun i s Q E hi hst hQ=>by
  obtain ⟨hz,hTI,⟨a,b,hTO⟩,h1,h2⟩:=hst
  refine next_zipD_item D1 D2 D hz hTI hTO h1 h2 (Nat.lt_of_lt_of_le hi (Nat.min_le_left ..)) (Nat.lt_of_lt_of_le hi (Nat.min_le_right ..)) fun x y h' tk p1 p2 a1 a2 a3 a4 a5 a6 hk=>?_
  have lt:∀ {c o},s.heap.get? c=some o->s.heap.objs.size≠c:=fun e=>Nat.ne_of_gt (Heap.lt_size e)
  obtain ⟨o1,e1⟩:=D1.live _ _ h1
  obtain ⟨o2,e2⟩:=D2.live _ _ h2
  exact hQ s.heap.objs.size #[x,y] h' tk ⟨x,y,p1,p2,rfl⟩ (Nat.le_refl _) ⟨_,a5,rfl,_,rfl⟩
   ⟨a1,hk _ _ D.TIz D.TITO D.TIi1 D.TIi2 hTI,⟨_,_,a2⟩,a3,a4,lt hz,lt hTO,lt e1,lt e2⟩
   fun c o hc e=>hk c o (fun x=>hc (by simp [x])) (fun x=>hc (by simp [x])) (fun x=>hc (by simp [x])) (fun x=>hc (by simp [x])) e
 go:=fun elts k pos i T s Q E hm hQ=>by
  obtain ⟨hz,hTI,⟨a,b,hTO⟩,h1,h2,_⟩:=hm
  refine wpAny_letOwnedTupleGo_zip hz fun h' hz' hs'=>hQ h' ⟨hz',hs'.extBut _ _ D.TIz hTI,⟨a,b,hs'.extBut _ _ D.TOz hTO⟩,dr_but D1 h1 hs' D.zf1,dr_but D2 h2 hs' D.zf2⟩ fun c o hc e=>hs'.extBut _ _ (fun x=>hc (by simp [x])) e
 apart:=fun i T h hm hT=>by
  obtain ⟨_,_,_,_,_,t1,t2,t3,t4⟩:=hm
  simp at hT
  rcases hT with rfl | rfl | rfl | rfl
  ·exact t1 rfl
  ·exact t2 rfl
  ·exact t3 rfl
  ·exact t4 rfl
 done:=fun s Q E hst hQ=>by
  obtain ⟨hz,hTI,⟨a,b,hTO⟩,h1,h2⟩:=hst
  exact next_zipD_end D1 D2 D hz hTI hTO h1 h2 (by omega) fun h' tk hk=>hQ h' tk fun c o hc e =>
   hk c o (fun x=>hc (by simp [x])) (fun x=>hc (by simp [x])) (fun x=>hc (by simp [x])) (fun x=>hc (by simp [x])) e
 self:=fun i s Q E hst hQ=>wpAny_pyIter_zip hst.1 hQ
end
abbrev zsO (x:Str) (t:Tok):Obj:={ cls:=.type (strIterType x),data:=.fields #[.str x t,.int 0 0] }
section
variable {X:Cx}
theorem drS {P:Program} {w:World} {A:Around} (hA:A.handled=none) (it:Addr) (z:Str) (t:Tok):Draws P w A.in1 it [it] z.cps.size (fun i v=>∃ c u,z.cps[i]?=some c/\v=.str ⟨#[c]⟩ u) (fun i h=>h.IsStrIter it (strIterType z) z t i):=by
 unfold strIterType
 split
 ·exact Draws.strAscii (A:=A.in1) (show A.in1.handled=none from hA) it z t
 ·exact Draws.strWide (A:=A.in1) (show A.in1.handled=none from hA) it z t
end
end L2
namespace L2
open PySem PySem.Spec PyProof.Rows
def plc (l:List Nat) (c:Nat):Int:=if c ∈ l then (l.idxOf c:Int) else -1
theorem occ_plc (x:Str) (c:Nat):(match Builtin.Str.occurrences x ⟨#[c]⟩ 0 x.length 1 with | i::_=>(i:Int) | []=>-1)=plc x.cps.toList c:=by
 rcases StrLaws.occ_head x ⟨#[c]⟩ 1 (Nat.le_refl _) with ⟨e,hn⟩ | ⟨i,r,e,hi,hk⟩
 ·rw [e]
  unfold plc
  rw [if_neg]
  intro hm
  obtain ⟨i,hi⟩:=List.mem_iff_getElem?.mp hm
  exact hn i ((StrLaws.subAt_one x c i).mpr hi)
 ·rw [e]
  have h1:=(StrLaws.subAt_one x c i).mp hi
  have hm:c ∈ x.cps.toList:=List.mem_iff_getElem?.mpr ⟨i,h1⟩
  unfold plc
  rw [if_pos hm]
  have hlt:x.cps.toList.idxOf c < x.cps.toList.length:=List.idxOf_lt_length_of_mem hm
  have h2:x.cps.toList[x.cps.toList.idxOf c]?=some c:=by rw [List.getElem?_eq_getElem hlt,List.getElem_idxOf]
  have a1:¬ x.cps.toList.idxOf c < i:=fun h=>hk _ h ((StrLaws.subAt_one x c _).mpr h2)
  have a2:¬ i < x.cps.toList.idxOf c:=fun h=>by
   have h3:=List.not_of_lt_findIdx (p:=(· == c)) (xs:=x.cps.toList) (i:=i) h
   obtain ⟨hl,h4⟩:=List.getElem?_eq_some_iff.mp h1
   simp [h4] at h3
  show (i:Int)=_
  omega
theorem occ_idx (x:Str) (c:Nat) (hm:c ∈ x.cps.toList):∃ i r,Builtin.Str.occurrences x ⟨#[c]⟩ 0 x.length 1=i::r/\(i:Int)=plc x.cps.toList c:=by
 have h:=occ_plc x c
 cases e:Builtin.Str.occurrences x ⟨#[c]⟩ 0 x.length 1 with
 | nil =>
  rw [e] at h
  unfold plc at h
  rw [if_pos hm] at h
  simp at h
  try omega
 | cons i r=>rw [e] at h;exact ⟨i,r,rfl,h⟩
section
variable {X:Cx}
def rIndexU:V->List V->Hp->VK->Prop:=fun x vs H Q=>match x,vs with
 | .str z,[.str y]=>∃ c,y=⟨#[c]⟩/\c ∈ z.cps.toList/\Q (.int (plc z.cps.toList c)) H
 | _,_=>False
theorem rIndexU_str (z y:Str) (H:Hp) (Q:VK):rIndexU (.str z) [.str y] H Q=(∃ c,y=⟨#[c]⟩/\c ∈ z.cps.toList/\Q (.int (plc z.cps.toList c)) H):=rfl
theorem jb0:MtM X "str.index" rIndexU:=by
 intro pins s σ H x vs v us Q I rx rv h
 unfold rIndexU at h
 split at h
 ·rename_i z y
  obtain ⟨c,rfl,hm,q⟩:=h
  obtain ⟨t,rfl⟩:=rx
  obtain ⟨u,rfl,⟨t',rfl⟩⟩:=rv.one
  obtain ⟨i,r,e,ei⟩:=occ_idx z c hm
  refine call_gives PySem.F.slot_str_index (typeIs_str s z t) PySem.F.entry_str_index (PySem.F.args_str_index_2 _ _) (gives_str_index z _ t t' i r e) ?_
  rw [ei]
  exact ⟨.int _,H,I.tok _,⟨_,rfl⟩,q⟩
 ·exact h.elim
end
end L2
namespace HT
open PySem PyProof.Rows
section
open PySem.SeqAt
open PySem.AutoSeq1 (wpAny_loadPart')
open PySem.MeetsSeq PySem.MeetsSeq2 PySem.MeetsSeq3
end
section
variable {prog:Program} {w:World} {A:Around} {E:Value->Shared->Prop} {s:Shared}
end
end HT
namespace L2
open PySem PySem.Spec PyProof.Rows
section
variable {X:Cx}
end
end L2
namespace L2
open PySem PySem.Spec PyProof.Rows
section
variable {prog:Program} {w:World} {A:Around} {R:Result->Shared->Prop} {I:Addr} {fp wr:List Addr} {G:Array GenState->Array GenState->Prop} {n:Nat} {P:Nat->Value->Prop} {St:Nat->Shared->Prop}
end
section
variable {prog:Program} {w:World} {A:Around} {E:Value->Shared->Prop} {s:Shared}
end
section
variable {X:Cx}
end
end L2
namespace L2
open PySem PySem.Spec PyProof.Rows
section
variable {prog:Program} {w:World} {A:Around} {E:Value->Shared->Prop} {h:Heap} {g:Array GenState} {d:Drawn} {t:Nat} {os:OsState}
variable {nm q:Str} {C N:Addr} {bs bm bmB:List Value} {hdct:Bool} {sn:List Str} {sub:List Value} {ab:Bool} {col:Option Bool} {dd:Option Addr} {k0 k1 k2 k3 k5:Option Value} {B newId initId:String}
end
end L2
namespace L2
open PySem PySem.Spec PyProof.Rows
open Builtin Builtin.ObjectAttr
section
variable {prog:Program} {w:World} {A:Around} {E:Value->Shared->Prop} {h:Heap} {g:Array GenState} {d:Drawn} {t:Nat} {os:OsState}
variable {nm q:Str} {C D N x:Addr} {bs bmB:List Value} {sn:List Str} {sub:List Value} {ab:Bool} {col:Option Bool} {dd:Option Addr} {k0 k1 k2 k3 k5:Option Value} {newId name:Str} {nid sa owner B:String} {v:Value}
end
end L2
namespace L2
open PySem PySem.Spec PyProof.Rows
open Builtin Builtin.ObjectAttr
section
variable {prog:Program} {w:World} {A:Around} {E:Value->Shared->Prop} {h:Heap} {g:Array GenState} {d:Drawn} {t:Nat} {os:OsState}
variable {nm q:Str} {C D N x dx:Addr} {bs bmB:List Value} {sn:List Str} {sub:List Value} {ab:Bool} {col:Option Bool} {dd:Option Addr} {k0 k1 k2 k3 k5:Option Value} {name:Str} {nid B:String} {v:Value} {mA:Str->Option Value}
end
end L2
namespace L2
open PySem PySem.Spec PyProof.Rows
section
variable {prog:Program} {w:World} {A:Around} {E:Value->Shared->Prop} {h:Heap} {g:Array GenState} {d:Drawn} {t:Nat} {os:OsState}
variable {nm q:Str} {C N:Addr} {bs bm bmB:List Value} {hdct:Bool} {sn:List Str} {sub:List Value} {ab:Bool} {col:Option Bool} {dd:Option Addr} {k0 k1 k2 k3 k5:Option Value} {B newId initId:String}
end
end L2
namespace L2
open PySem PySem.Spec PyProof.Rows
section
variable {X:Cx} {pins:List (Addr × Obj)} {σ:St} {H:Hp} {s:Shared} {C D N:Addr}
end
end L2
namespace L2
open PySem PySem.Spec PyProof.Rows
open Builtin Builtin.ObjectAttr
section
variable {prog:Program} {w:World} {A:Around} {E:Value->Shared->Prop} {h:Heap} {g:Array GenState} {d:Drawn} {t:Nat} {os:OsState}
variable {nm q:Str} {C D N x:Addr} {bs bmB:List Value} {sn:List Str} {sub:List Value} {ab:Bool} {col:Option Bool} {dd:Option Addr} {k0 k1 k2 k3 k5:Option Value} {nid:String} {K:PySem.W.Frag}
end
end L2
namespace L2
open PySem PySem.Spec PyProof.Rows
section
variable {X:Cx}
end
end L2
namespace L2
open PySem PySem.Spec PyProof.Rows
section
variable {X:Cx}
end
end L2
set_option autoImplicit true
set_option relaxedAutoImplicit true
namespace L2
open PySem PySem.Spec PyProof.Rows
section
variable {X:Cx} {K:PySem.W.Frag}
end
end L2
namespace HT
open PySem PyProof.Rows
section
open PySem.AutoSeq1 (wpAny_loadPart')
open PySem.MeetsSeq PySem.MeetsSeq2 PySem.MeetsSeq3
end
end HT
namespace L2
open PySem PySem.Spec PyProof.Rows
section
variable {X:Cx}
end
end L2
set_option autoImplicit true
set_option relaxedAutoImplicit true
namespace L2
open PySem PySem.Spec PyProof.Rows
section
variable {K:PySem.W.Frag} {C C' D N N':Addr} {nm q nm' q':Str} {bs bm bs' bm':List Value} {sn sn':List Str} {sub sub':List Value} {ab ab' hd hd':Bool} {col col':Option Bool} {dd dd':Option Addr} {k0 k1 k2 k3 k5 j0 j1 j2 j3 j5:Option Value} {nid nid':String}
end
end L2
namespace L2
open PySem PySem.Spec PyProof.Rows
section
variable {M:Model} {A:Around} {E:Value->Shared->Prop} {s:Shared}
end
end L2
namespace L2
open PySem PySem.Spec PyProof.Rows
section
variable {X:Cx} {pins:List (Addr × Obj)} {σ:St} {H H':Hp} {s:Shared} {a C T:Addr} {dx:Option Addr} {fl:Option Value}
end
section
variable {X:Cx} {E:XK}
end
end L2
namespace L2
open PySem PySem.Spec PyProof.Rows
section
variable {M:Model} {A:Around} {E:Value->Shared->Prop} {s:Shared} {env:Env}
variable {nm q:Str} {C N:Addr} {bs bm:List Value} {hdct:Bool} {sn:List Str} {sub:List Value} {ab:Bool} {col:Option Bool} {dd:Option Addr} {k0 k1 k2 k3 k5:Option Value} {newId:String}
end
section
variable {X:Cx} {pins:List (Addr × Obj)} {σ:St} {H H':Hp} {s:Shared} {a C D N:Addr} {dx:Option Addr}
end
end L2
namespace L2
open PySem PySem.Spec PyProof.Rows
section
variable {X:Cx} {pins:List (Addr × Obj)} {σ:St} {H H':Hp} {s:Shared} {a C D N:Addr} {dx:Option Addr} {A':Around}
end
end L2
namespace L2
open PySem PySem.Spec PyProof.Rows
section
variable {X:Cx}
end
section
variable {P:Program} {w:World} {K:PySem.W.Frag} {mg:Str->Option Value} {base:Heap}
end
section
variable {X:Cx}
end
end L2
namespace L2
open PySem PySem.Spec PyProof.Rows
section
variable {X:Cx}
theorem tyV_str (K:PySem.W.Frag) (z:Str) (H:Hp):tyV K "str" (.str z) H=True:=by simp [tyV]
theorem jcc {o e:Expr} {es:List Expr} {to:TE} {t:TA} {name:Str} {apos cpos:Pos} {id:String} {r:V->List V->Hp->VK->Prop} (slot:Slot "str" name id) (hty:typeOf (.builtin id)=pure (.type "method_descriptor")) (hm:MtM X id r) (ho:QE X o to) (ha:QA X (e::es) t)
  (hbase:attributeBase o name X.env (eval o X.env)=eval o X.env:=by rfl)
  (hfew:((backTo cpos (starEach (e::es) X.env)).all (fun x=>!x.1) && (backToKw cpos (keywordEach [] X.env)).all (fun x=>x.1.isSome)
   && decide ((e::es).length+([]:List Keyword).length+(if ([]:List Keyword).isEmpty then 0 else 1) < 30))=true:=by rfl)
  (hline:(apos.endLine == cpos.line)=true:=by rfl) (hs:starEach (e::es) X.env=(false,eval e X.env)::starEach es X.env:=by rfl) (hplain:(backTo cpos (starEach es X.env)).any (·.1)=false:=by rfl) :
  QE X (.Call (.Attribute o name apos) (e::es) [] cpos) (tBM X.K "str" r to t):=⟨jcf PySem.F.plainAttrs_str slot hty hm ho.h ha.h hbase hfew hline hs hplain⟩
end
end L2
namespace L2
open PySem PySem.Spec PyProof.Rows
section
variable {prog:Program} {w:World} {A:Around} {E:Value->Shared->Prop} {s:Shared}
theorem tupNext_item {h:Heap} {g:Array GenState} {d:Drawn} {t:Nat} {os:OsState} {it a:Addr} {i:Nat} {vs:Array Value} {u:Value} {Q:Value->Shared->Prop} (hi:h.IsTupleIter it a i) (ha:h.IsTuple a vs) (hu:vs[i]?=some u)
  (q:∀ h',h'.IsTupleIter it a (i+1)->Heap.SameBut it h h'->Q u ⟨h',g,d,t,os⟩):wpAny (model prog w) A (Builtin.SmallTypes.nextOf (.ref it)) Q E ⟨h,g,d,t,os⟩:=by
 obtain ⟨⟨ci,di,dti,si⟩,e1,c1,d1⟩:=id hi
 obtain ⟨⟨ca,da,dta,sa⟩,e2,c2,n2,d2⟩:=ha
 dsimp only at c1 d1 c2 d2
 subst c1 d1 c2 d2
 have sl:=PySem.F.slot_tuple_iterator_next
 have hT:(⟨h,g,d,t,os⟩:Shared).TypeIs (.ref it) "tuple_iterator":=hi.typeIs
 have fin:=q _ ⟨_,Heap.get?_update_self (Obj.mapFields (·.setIfInBounds 1 (rawInt (i+1)))) e1 rfl,rfl,by simp [Obj.mapFields,rawInt]⟩ (.update ..)
 refine wpAny_bind (wpAny_callSpecial?_slot hT sl (wpAny_call_entry sl hT PySem.F.entry_tuple_iterator_next ?_ (PySem.F.args_tuple_iterator_next_1 _)))
 unfold Builtin.«tuple_iterator.__next__»
 repeat (any_goals (first | assumption | with_reducible refine wpAny_loadPart_at e1 ?_ | with_reducible refine wpAny_loadPart_at e2 ?_ | wp_step))
 have e3:vs[((i:Nat):Int).toNat]?=some u:=hu
 rw [e3]
 exact wpAny_bind (wpAny_setField e1 rfl (by simp) (wpAny_pure ⟨u,rfl,wpAny_pure fin⟩))
theorem tupNext_end {h:Heap} {g:Array GenState} {d:Drawn} {t:Nat} {os:OsState} {it a:Addr} {i:Nat} {vs:Array Value} {Q:Value->Shared->Prop} (hh:A.handled=none) (hi:h.IsTupleIter it a i) (ha:h.IsTuple a vs) (hu:vs[i]?=none)
  (q:∀ h' e,Heap.ExtBut it h h'->(∃ o,h'.get? e=some o/\o.cls=.type "StopIteration")->E (.ref e) ⟨h',g,d,t,os⟩):wpAny (model prog w) A (Builtin.SmallTypes.nextOf (.ref it)) Q E ⟨h,g,d,t,os⟩:=by
 obtain ⟨⟨ci,di,dti,si⟩,e1,c1,d1⟩:=id hi
 obtain ⟨⟨ca,da,dta,sa⟩,e2,c2,n2,d2⟩:=ha
 dsimp only at c1 d1 c2 d2
 subst c1 d1 c2 d2
 have sl:=PySem.F.slot_tuple_iterator_next
 have hT:(⟨h,g,d,t,os⟩:Shared).TypeIs (.ref it) "tuple_iterator":=hi.typeIs
 have h1:A.in1.handled=none:=hh
 refine wpAny_bind (wpAny_callSpecial?_slot hT sl (wpAny_call_entry sl hT PySem.F.entry_tuple_iterator_next ?_ (PySem.F.args_tuple_iterator_next_1 _)))
 unfold Builtin.«tuple_iterator.__next__»
 repeat (any_goals (first | assumption | with_reducible refine wpAny_loadPart_at e1 ?_ | with_reducible refine wpAny_loadPart_at e2 ?_ | wp_step))
 have e3:vs[((i:Nat):Int).toNat]?=none:=hu
 rw [e3]
 refine wpAny_bind (wpAny_rule (wpAny_bind (wpAny_setField e1 rfl (by simp) ?_)))
 unfold Builtin.SmallTypes.stopIteration
 have fm:firstArgMember (.type "StopIteration") []=pure .none:=rfl
 unfold newExc
 repeat (any_goals (first | assumption | rw [fm] | wp_step))
 exact wpAny_raiseNew_none h1 (q _ _ (((Heap.SameBut.update ..).extBut.push _).push _) ⟨_,Heap.get?_push_size _ rfl,rfl⟩)
theorem dr_tup (hh:A.handled=none) (it a:Addr) (ne:a≠it) (vs:Array Value):Draws prog w A it [it,a] vs.size (fun i v=>vs[i]?=some v) (fun i h=>h.IsTupleIter it a i/\h.IsTuple a vs) where
 live:=fun _ _ st=>let ⟨o,ho,_⟩:=st.1;⟨o,ho⟩
 frame:=fun _ _ _ st hk=>by
  obtain ⟨⟨o,ho,r⟩,⟨o2,ho2,r2⟩⟩:=st
  exact ⟨⟨o,hk it (by simp) o ho,r⟩,⟨o2,hk a (by simp) o2 ho2,r2⟩⟩
 item:=fun i s Q E hi st hQ=>by
  obtain ⟨hp,g,d,t,os⟩:=s
  obtain ⟨o2,ho2,r2⟩:=st.2
  exact tupNext_item st.1 st.2 (u:=vs[i]) (by simp [hi]) fun h' hit' hs'=>hQ _ h' t (by simp [hi]) ⟨hit',⟨o2,(hs'.2 a ne).trans ho2,r2⟩⟩ hs'
 done:=fun s Q E st hE=>by
  obtain ⟨hp,g,d,t,os⟩:=s
  exact tupNext_end hh st.1 st.2 (by simp) hE
open AutoSeq1 (wpAny_loadPart') in
theorem enumT_new (a:Addr) (vs:Array Value) (n:Nat) (dct:Option Addr) (sl:Array (Option Value)) :
  Meets (Builtin.«enumerate.__new__» ⟨[.type "enumerate",.ref a],[]⟩) (fun _ R s=>s.heap.get? a=some ⟨.type "tuple",dct,.seq vs n,sl⟩ /\
   R (.ok (.ret (.ref (s.heap.push { cls:=.type "tuple_iterator",data:=.fields #[.ref a,.int 0 0] }).objs.size)))
    { s with heap:=(s.heap.push { cls:=.type "tuple_iterator",data:=.fields #[.ref a,.int 0 0] }).push { cls:=.type "enumerate",data:=.fields #[.none,.bool false,.ref s.heap.objs.size,rawInt 0,.none,.none] } }) :=
 .of_wp fun prog w A R s h=>by
  obtain ⟨hp,g,d,tk,os⟩:=s;obtain ⟨ha,h⟩:=h
  have hsb:=sub_enumerate
  have hT:Heap.IsTuple (Shared.heap ⟨hp,g,d,tk,os⟩) a vs:=⟨_,ha,rfl,n,rfl⟩
  wp_walk using wpAny_loadPart' ha
  refine wpAny_stack_any fun k=>wpAny_pure ?_
  split <;> (try (rename_i c _ _ _ _ _;generalize (c == Value.type "enumerate")=b;cases b)) <;> (wp_walk using wpAny_loadPart' ha,wpAny_pyIter_tuple hT) <;> exact ⟨_,rfl,h⟩
theorem call_enumT {a:Addr} {vs:Array Value} {Q:Value->Shared->Prop} (ht:s.heap.IsTuple a vs)
  (q:∀ h',IsEnum h' (s.heap.objs.size+1) s.heap.objs.size 0 .none->h'.IsTupleIter s.heap.objs.size a 0->(∀ b o,s.heap.get? b=some o->h'.get? b=some o)->Q (.ref (s.heap.objs.size+1)) { s with heap:=h' }) :
  wpAny (model prog w) A (call (.type "enumerate") [.ref a]) Q E s:=by
 obtain ⟨⟨c,dct,dt,sl⟩,ha,hc,n,hd⟩:=ht
 dsimp only at hc hd
 subst hc hd
 refine callType_new PySem.F.called_enumerate (by decide) (PySem.F.typeCall_enumerate_1 _) (PySem.F.newCall_enumerate_1 _) (fun obj=>PySem.F.args_object_init_2 obj _) PySem.F.entry_enumerate_new (enumT_new a vs n dct sl) ⟨ha,?_⟩
 have hz:(s.heap.push { cls:=.type "tuple_iterator",data:=.fields #[.ref a,.int 0 0] }).objs.size=s.heap.objs.size+1:=Heap.size_push ..
 have he:IsEnum ((s.heap.push { cls:=.type "tuple_iterator",data:=.fields #[.ref a,.int 0 0] }).push { cls:=.type "enumerate",data:=.fields #[.none,.bool false,.ref s.heap.objs.size,rawInt 0,.none,.none] }) (s.heap.objs.size+1) s.heap.objs.size 0 .none:=by
  have e:=Heap.get?_push_size (s.heap.push { cls:=.type "tuple_iterator",data:=.fields #[.ref a,.int 0 0] }) (o:={ cls:=.type "enumerate",data:=.fields #[.none,.bool false,.ref s.heap.objs.size,rawInt 0,.none,.none] }) rfl
  rw [hz] at e;exact e
 show _/\_
 rw [hz]
 exact ⟨⟨_,he,rfl⟩,q _ he ⟨_,Heap.get?_push_of_some _ (Heap.get?_push_size _ rfl),rfl,rfl⟩ fun b o x=>Heap.get?_push_of_some _ (Heap.get?_push_of_some _ x)⟩
end
def ItE (K:PySem.W.Frag) (a:Addr):It:=⟨fun i H=>∃ xs x,SqT K H a xs/\xs[i]?=some x,fun i H x H'=>∃ T y,H T=none/\x=.ref T/\(∀ xs,SqT K H a xs->xs[i]?=some y)/\H'=upd H T (.tup [.int (i:Int),y]),fun i H=>∃ xs,SqT K H a xs/\xs.length=i⟩
theorem turn_enumT {P:Program} {w:World} {K:PySem.W.Frag} {elts:List Expr} {kk:Nat} {pos:Pos} (a e it:Addr) (ne:e≠it):Turn P w K (.Tuple elts kk pos) (ItE K a) [e,it] e (fun i h=>(∃ old,IsEnum h e it i old)/\h.IsTupleIter it a i) where
 mem:=by simp
 obj:=fun i h st b hb=>by
  obtain ⟨⟨old,he⟩,⟨o,ho,hc,hd⟩⟩:=st
  rcases List.mem_cons.mp hb with rfl | hb
  ·exact ⟨_,he,fun v z=>by cases z⟩
  ·rw [List.mem_singleton.mp hb]
   exact ⟨o,ho,fun v z=>by rw [hd] at z;cases z⟩
 keep:=fun i h h' st k=>by
  obtain ⟨⟨old,he⟩,⟨o,ho,r⟩⟩:=st
  exact ⟨⟨old,k e (by simp) _ he⟩,⟨o,k it (by simp) o ho,r⟩⟩
 item:=by
  intro X hP hw hK hc i pins s σ H E I hf st hg
  subst hP hw hK
  obtain ⟨xs,x,hq,hx⟩:=hg
  obtain ⟨its,rv,p,hz⟩:=I.tuple hq
  obtain ⟨u,hu,ru⟩:=rv.get hx
  have fr:∀ b ∈ [e,it],b≠a:=fun b hb z=>by
   subst z
   obtain ⟨o,eo,hcl⟩:∃ o,s.heap.get? b=some o/\o.cls≠.type "tuple":=by
    obtain ⟨⟨old,he⟩,⟨o,ho,hc',hd⟩⟩:=st
    rcases List.mem_cons.mp hb with rfl | hb
    ·exact ⟨_,he,by simp⟩
    ·rw [List.mem_singleton.mp hb]
     exact ⟨o,ho,by rw [hc'];simp⟩
   obtain ⟨o2,ho2,hc2,_⟩:=p
   rw [eo] at ho2
   cases ho2
   exact hcl hc2
  have WA:=WalksT.enumerateD (dr_tup (prog:=X.prog) (w:=X.w) (A:=X.A.in1) (show X.A.in1.handled=none from I.ok.hd hc) it a (fr it (by simp)).symm its.toArray) e ne (by simp [ne,fr e (by simp)]) (by simp)
  have hlt:i < its.toArray.size:=by
   rw [List.size_toArray]
   exact (List.getElem?_eq_some_iff.mp hu).1
  refine WA.item i s _ _ hlt ⟨st.1,st.2,p⟩ fun T vs h' tk hp hT htup mid kk'=>⟨_,rfl,?_⟩
  have nTw:=WA.apart _ _ _ mid
  refine WA.go _ _ _ i T { s with heap:=h',toks:=tk } _ _ mid fun h'' st'' k''=>?_
  have tup':IsTup h'' T vs:=by
   obtain ⟨o,eo,r⟩:=htup
   exact ⟨o,k'' T o nTw eo,r⟩
  have hv:Vals [V.int (i:Int),x] vs.toList:=by
   obtain ⟨t',u',hu',rfl⟩:=hp
   rw [show its.toArray[i]?=some u from by simpa using hu] at hu'
   cases hu'
   exact .cons ⟨t',rfl⟩ (.cons ru .nil)
  refine ⟨.ref T,upd H T (.tup [.int (i:Int),x]),?_,rfl,⟨T,x,I.hok.fresh hT,rfl,fun ys hy=>by rw [I.tuple_inj hy hq];exact hx,rfl⟩,⟨st''.1,st''.2.1⟩,fun b hb=>?_⟩
  ·refine I.turnedNew (fp:=[e,it]) (wr:=[e,it]) hf (fun b o hb eo=>k'' b o hb (kk' b o hb eo)) hT (by simpa using tup') hv (by show 2<=sizeLine;decide) fun b hb=>?_
   obtain ⟨⟨old,he⟩,⟨⟨o,ho,_⟩,_⟩⟩:=st''
   rcases List.mem_cons.mp hb with rfl | hb
   ·exact ⟨_,he⟩
   ·rw [List.mem_singleton.mp hb];exact ⟨o,ho⟩
  ·have hlt:b < s.heap.objs.size:=by
    obtain ⟨⟨old,he⟩,⟨o,ho,_⟩⟩:=st
    rcases List.mem_cons.mp hb with rfl | hb
    ·exact Heap.lt_size he
    ·rw [List.mem_singleton.mp hb];exact Heap.lt_size ho
   rw [jc (Nat.ne_of_lt (Nat.lt_of_lt_of_le hlt hT))]
   exact (hf b hb).1
 done:=by
  intro X hP hw hK hc i pins s σ H E I hf st hg
  subst hP hw hK
  obtain ⟨xs,hq,hi⟩:=hg
  obtain ⟨its,rv,p,hz⟩:=I.tuple hq
  have fr:∀ b ∈ [e,it],b≠a:=fun b hb z=>by
   subst z
   obtain ⟨o,eo,hcl⟩:∃ o,s.heap.get? b=some o/\o.cls≠.type "tuple":=by
    obtain ⟨⟨old,he⟩,⟨o,ho,hc',hd⟩⟩:=st
    rcases List.mem_cons.mp hb with rfl | hb
    ·exact ⟨_,he,by simp⟩
    ·rw [List.mem_singleton.mp hb]
     exact ⟨o,ho,by rw [hc'];simp⟩
   obtain ⟨o2,ho2,hc2,_⟩:=p
   rw [eo] at ho2
   cases ho2
   exact hcl hc2
  have WA:=WalksT.enumerateD (dr_tup (prog:=X.prog) (w:=X.w) (A:=X.A.in1) (show X.A.in1.handled=none from I.ok.hd hc) it a (fr it (by simp)).symm its.toArray) e ne (by simp [ne,fr e (by simp)]) (by simp)
  have hn:its.toArray.size=i:=by rw [List.size_toArray,← rv.length];exact hi
  refine WA.done s _ _ (by rw [hn];exact ⟨st.1,st.2,p⟩) fun h' tk kk'=>⟨rfl,?_⟩
  have nw:∀ b u,H b=some u->b ∉ [e,it]:=fun b u eo hb=>by rw [(hf b hb).1] at eo;cases eo
  refine I.step (g':=s.gens) (d':=s.drawn) (ch:=[e,it]) (fun b hb=>?_) (fun b o _ _ hc e _=>kk' b o hc e) (fun b o _ _ hc e _=>⟨o.slots,kk' b o hc e⟩) (fun b o hc e n=>n) (fun b o hc e=>⟨o,kk' b o hc e⟩)
   (fun _ _ e=>e) (fun _ _ _ e=>e) (fun b ps e=>⟨#[],by rw [e];simp⟩) (fun m hm=>?_) (fun b u e=>?_) I.bare
  ·obtain ⟨_,f1,_,f3,f4,f5⟩:=hf b hb
   exact ⟨f3,f1,f4,f5⟩
  ·obtain ⟨o,es,ep,ho,rr⟩:=hm
   exact ⟨o,es,ep,kk' _ o (fun z=>(hf _ z).2.1 rfl) ho,rr⟩
  ·refine (I.hok b u e).stay (fun d v hd q=>kk' d v ?_ q) (fun _ q=>q) fun _ _ q=>q
   rcases hd with rfl | hd
   ·exact nw _ _ e
   ·exact nw _ _ hd
 self:=fun A i s Q E st q=>by
  obtain ⟨⟨old,he⟩,_⟩:=st
  exact wpAny_pyIter_enum he q
theorem loop_ET {K:PySem.W.Frag} {a:Addr} {xs:List V} {g:TG} {tb:TS} {D:Ends} {σ:L2.St} {H:Hp} (Pv:Nat->L2.St->Hp->Prop) (h0:Pv 0 σ H) (hl:∀ i σ H,i<=xs.length->Pv i σ H->H a=some (.tup xs))
  (hs:∀ i x σ H T,xs[i]?=some x->Pv i σ H->H T=none->g (.ref T) σ (upd H T (.tup [.int (i:Int),x])) fun σ2 H2=>tb { D with nx:=Pv (i+1),ct:=Pv (i+1),bk:=D.nx } σ2 H2) (hd:∀ σ H,Pv xs.length σ H->D.nx σ H):LoopR (ItE K a) g tb D σ H:=by
 refine ⟨fun i m σ H=>m=xs.length - i/\i<=xs.length/\Pv i σ H,⟨xs.length,by simp,Nat.zero_le _,h0⟩,?_⟩
 rintro i m σ H ⟨rfl,hi,p⟩
 have q:SqT K H a xs:=SqT.of (hl i σ H hi p)
 by_cases hlt:i < xs.length
 ·refine .inr ⟨⟨xs,xs[i],q,by simp [hlt]⟩,Pv (i+1),fun σ' H' p'=>⟨xs.length - (i+1),by omega,rfl,hlt,p'⟩,fun x H' y=>?_⟩
  obtain ⟨T,y',hT,e1,hy,e2⟩:=y
  subst e1 e2
  exact hs i y' σ H T (hy xs q) p hT
 ·have e:i=xs.length:=by omega
  subst e
  exact .inl ⟨⟨xs,q,rfl⟩,hd σ H p⟩
section
variable {X:Cx}
def iEnumT (K:PySem.W.Frag) (ta:TA):TI:=fun σ H R=>ta σ H fun vs H1=>∃ a,vs=[.ref a]/\(∃ xs,SqT K H1 a xs)/\R (ItE K a) H1
theorem pi_enumT {K:PySem.W.Frag} {a:Expr} {ta:TA} {p pos tpos:Pos} {elts:List Expr} {kk:Nat} (hK:X.K=K) (hg:Gl X "enumerate") (hm:X.mg "enumerate"=none) (ha:PA X [a] ta) (hs:starEach [a] X.env=[(false,eval a X.env)]:=by rfl) :
  PI X (.Tuple elts kk tpos) (.Call (.Name "enumerate" p) [a] [] pos) (iEnumT K ta):=by
 subst hK
 intro pins s σ H R I h
 refine Call_ (ld_blt I hg hm ja6 (PyProof.Rows.callWith_type1 (thn (ha pos pins s σ H _ I h) fun us s1 ⟨vs,H1,I1,r1,q1⟩=>?_) hs rfl))
 obtain ⟨ad,e,⟨xs,hx⟩,q⟩:=q1
 subst e
 obtain ⟨u,rfl,ru⟩:=vals1 r1
 cases ru
 obtain ⟨its,rv,pt,hz⟩:=I1.tuple hx
 refine call_enumT (vs:=its.toArray) pt fun h' he hi hk=>?_
 have I2:Inv X pins σ H1 { s1 with heap:=h' }:=I1.kept (t':=s1.toks) hk
 refine wpAny_pyIter_enum he ⟨s1.heap.objs.size+1,[s1.heap.objs.size+1,s1.heap.objs.size],_,_,H1,rfl,I2,turn_enumT ad (s1.heap.objs.size+1) s1.heap.objs.size (Nat.succ_ne_self _),⟨⟨.none,he⟩,hi⟩,fun b hb=>?_,q⟩
 have hb':s1.heap.objs.size<=b:=by
  rcases List.mem_cons.mp hb with rfl | hb
  ·omega
  ·rw [List.mem_singleton.mp hb];exact Nat.le_refl _
 exact I1.fpOk (H':=H1) hb' (I1.hok.fresh hb')
theorem jbc {K:PySem.W.Frag} {a:Expr} {ta:TA} {p pos tpos:Pos} {elts:List Expr} {kk:Nat} (hK:X.K=K) (hg:Gl X "enumerate") (hm:X.mg "enumerate"=none) (ha:QA X [a] ta) (hs:starEach [a] X.env=[(false,eval a X.env)]:=by rfl) :
  QI X (.Tuple elts kk tpos) (.Call (.Name "enumerate" p) [a] [] pos) (iEnumT K ta):=⟨pi_enumT hK hg hm ha.h hs⟩
end
end L2
namespace L2
open PySem PySem.Spec PyProof.Rows
section
variable {X:Cx}
end
theorem compIf_str {z:Str} {H:Hp} {D:Addr} {tt:TT} {te:TE} {E:Ends} {r:L2.St} (p:Nat->Bool) (f:Nat->V) (hz:z.length<=sizeLine) (ht:∀ c ∈ z.cps.toList,∀ l Q,Q (p c) (upd H D (.lst l))->tt (some (.str ⟨#[c]⟩)::r) (upd H D (.lst l)) Q)
  (he:∀ c ∈ z.cps.toList,p c=true->∀ l Q,Q (f c) (upd H D (.lst l))->te (some (.str ⟨#[c]⟩)::r) (upd H D (.lst l)) Q)
  (hn:∀ v,E.nx (v::r) (upd H D (.lst ((z.cps.toList.filter p).map f)))):LoopR (ItS z) (gName 0) (tEmitIf D tt te) E (none::r) (upd H D (.lst [])):=by
 have hzl:z.cps.toList.length=z.length:=by simp [Str.length]
 refine loop_str (fun i σ H'=>∃ v:Option V,σ=v::r/\H'=upd H D (.lst (((z.cps.toList.take i).filter p).map f))) ⟨none,rfl,rfl⟩ ?_ ?_
 ·rintro i c σ H' hc ⟨v,rfl,rfl⟩
  have hil:=(List.getElem?_eq_some_iff.mp hc).1
  have hm:c ∈ z.cps.toList:=List.mem_of_getElem? hc
  have et:(z.cps.toList.take (i+1))=z.cps.toList.take i++[c]:=by
   rw [List.take_succ,hc];rfl
  have hlen:(((z.cps.toList.take i).filter p).map f).length < sizeLine:=by
   have h1:=List.length_filter_le p (z.cps.toList.take i)
   rw [List.length_map]
   rw [List.length_take] at h1
   omega
  refine ht c hm _ _ ?_
  by_cases hp:p c=true
  ·rw [if_pos hp]
   refine he c hm hp _ _ ⟨_,by rw [jb];rfl,hlen,some (.str ⟨#[c]⟩),rfl,?_⟩
   rw [upd_upd,et,List.filter_append,List.map_append]
   simp [hp]
  ·rw [if_neg hp]
   refine ⟨some (.str ⟨#[c]⟩),rfl,?_⟩
   rw [et,List.filter_append,List.map_append]
   simp [hp]
 ·rintro σ H' ⟨v,rfl,rfl⟩
  have:z.cps.toList.take z.length=z.cps.toList:=List.take_of_length_le (by omega)
  rw [this]
  exact hn v
end L2
namespace L2
open PySem PySem.Spec PyProof.Rows
section
variable {prog:Program} {w:World} {A:Around} {E:Value->Shared->Prop} {s:Shared} {i1 i2:Addr} {f1 f2:List Addr} {n1 n2:Nat} {P1 P2:Nat->Value->Prop} {S1 S2:Nat->Heap->Prop}
abbrev ZO (f0 f1:Value) (TI TO:Addr):Obj:={ cls:=.type "zip",dict:=none,data:=.fields #[f0,f1,.bool false,.ref TI,.ref TO],slots:=#[] }
end
theorem Inv.walked {X:Cx} {pins:List (Addr × Obj)} {σ:L2.St} {H:Hp} {s:Shared} {h':Heap} {t':Nat} {wr:List Addr} (I:Inv X pins σ H s) (hf:∀ b ∈ wr,FpOk X pins H b) (k:∀ b o,b ∉ wr->s.heap.get? b=some o->h'.get? b=some o) :
  Inv X pins σ H { s with heap:=h',toks:=t' }:=by
 have nw:∀ b u,H b=some u->b ∉ wr:=fun b u e hb=>by rw [(hf b hb).1] at e;cases e
 refine I.step (g':=s.gens) (d':=s.drawn) (ch:=wr) (fun b hb=>?_) (fun b o _ _ hc e _=>k b o hc e) (fun b o _ _ hc e _=>⟨o.slots,k b o hc e⟩) (fun b o hc e n=>n) (fun b o hc e=>⟨o,k b o hc e⟩)
  (fun _ _ e=>e) (fun _ _ _ e=>e) (fun b ps e=>⟨#[],by rw [e];simp⟩) (fun m hm=>?_) (fun b u e=>?_) I.bare
 ·obtain ⟨_,f1,_,f3,f4,f5⟩:=hf b hb
  exact ⟨f3,f1,f4,f5⟩
 ·obtain ⟨o,es,ep,ho,rr⟩:=hm
  exact ⟨o,es,ep,k _ o (fun z=>(hf _ z).2.1 rfl) ho,rr⟩
 ·refine (I.hok b u e).stay (fun d v hd q=>k d v ?_ q) (fun _ q=>q) fun _ _ q=>q
  rcases hd with rfl | hd
  ·exact nw _ _ e
  ·exact nw _ _ hd
section
abbrev ztO (a:Addr):Obj:={ cls:=.type "tuple_iterator",data:=.fields #[.ref a,.int 0 0] }
end
section
variable {P:Program} {w:World} {K:PySem.W.Frag}
end
section
variable {X:Cx}
end
end L2
namespace L2
open PySem PySem.Spec PyProof.Rows
section
variable {X:Cx}
def ItF (a:Addr):It:=⟨fun i H=>∃ xs x,H a=some (.lst xs)/\xs[i]?=some x,fun i H v H'=>∃ T x,H T=none/\v=.ref T/\(∀ xs,H a=some (.lst xs)->xs[i]?=some x)/\H'=upd H T (.tup [.int (i:Int),x]),fun i H=>∃ xs,H a=some (.lst xs)/\xs.length=i⟩
theorem turn_enumF {P:Program} {w:World} {K:PySem.W.Frag} {elts:List Expr} {kk:Nat} {pos:Pos} (a e it:Addr) (ne:e≠it):Turn P w K (.Tuple elts kk pos) (ItF a) [e,it] e (fun i h=>(∃ old,IsEnum h e it i old)/\h.IsListIter it a i) where
 mem:=by simp
 obj:=fun i h st b hb=>by
  obtain ⟨⟨old,he⟩,⟨o,ho,hc,hd⟩⟩:=st
  simp only [List.mem_cons,List.not_mem_nil,or_false] at hb
  rcases hb with rfl | rfl
  ·exact ⟨_,he,fun v z=>by cases z⟩
  ·exact ⟨o,ho,fun v z=>by rw [hd] at z;cases z⟩
 keep:=fun i h h' st k=>⟨let ⟨old,he⟩:=st.1;⟨old,k e (by simp) _ he⟩,let ⟨o,ho,r⟩:=st.2;⟨o,k it (by simp) o ho,r⟩⟩
 item:=by
  intro X hP hw hK hc i pins s σ H E I hf st hg
  subst hP hw hK
  obtain ⟨xs,x,hq,hx⟩:=hg
  obtain ⟨its,rv,p,_⟩:=I.list (SqL.of hq)
  obtain ⟨u,hu,ru⟩:=rv.get hx
  have fr:∀ b ∈ [e,it],b≠a:=fun b hb z=>by rw [z] at hb;rw [(hf a hb).1] at hq;cases hq
  have W:=WalksT.enumerateD (Draws.list (prog:=X.prog) (w:=X.w) (A:=X.A.in1) (show X.A.in1.handled=none from I.ok.hd hc) it a (fr it (by simp)).symm its.toArray) e ne (by simp [ne,fr e (by simp)]) (by simp)
  have hlt:i < its.toArray.size:=by rw [List.size_toArray];exact (List.getElem?_eq_some_iff.mp hu).1
  refine W.item i s _ _ hlt ⟨st.1,st.2,p.isList⟩ fun T vs h' tk hp hT htup mid kk'=>⟨_,rfl,?_⟩
  have nT:=W.apart _ _ _ mid
  refine W.go _ _ _ i T { s with heap:=h',toks:=tk } _ _ mid fun h'' st'' k''=>?_
  have tup':IsTup h'' T vs:=let ⟨o,eo,r⟩:=htup;⟨o,k'' T o nT eo,r⟩
  have hv:Vals [V.int (i:Int),x] vs.toList:=by
   obtain ⟨t',u',hu',rfl⟩:=hp
   rw [show its.toArray[i]?=some u from by simpa using hu] at hu'
   cases hu'
   exact .cons ⟨t',rfl⟩ (.cons ru .nil)
  have live:∀ b ∈ [e,it],∃ o,h''.get? b=some o:=fun b hb=>by
   obtain ⟨⟨old,he⟩,⟨⟨o,ho,_⟩,_⟩⟩:=st''
   simp only [List.mem_cons,List.not_mem_nil,or_false] at hb
   rcases hb with rfl | rfl
   ·exact ⟨_,he⟩
   ·exact ⟨o,ho⟩
  refine ⟨.ref T,upd H T (.tup [.int (i:Int),x]),?_,rfl,⟨T,x,I.hok.fresh hT,rfl,fun ys hy=>by rw [hq] at hy;cases hy;exact hx,rfl⟩,⟨st''.1,st''.2.1⟩,fun b hb=>?_⟩
  ·exact I.turnedNew (fp:=[e,it]) (wr:=[e,it]) hf (fun b o hb eo=>k'' b o hb (kk' b o hb eo)) hT (by simpa using tup') hv (by show 2<=sizeLine;decide) live
  ·have hlt:b < s.heap.objs.size:=by
    obtain ⟨⟨old,he⟩,⟨o,ho,_⟩⟩:=st
    simp only [List.mem_cons,List.not_mem_nil,or_false] at hb
    rcases hb with rfl | rfl
    ·exact Heap.lt_size he
    ·exact Heap.lt_size ho
   rw [jc (Nat.ne_of_lt (Nat.lt_of_lt_of_le hlt hT))]
   exact (hf b hb).1
 done:=by
  intro X hP hw hK hc i pins s σ H E I hf st hg
  subst hP hw hK
  obtain ⟨xs,hq,hi⟩:=hg
  obtain ⟨its,rv,p,_⟩:=I.list (SqL.of hq)
  have fr:∀ b ∈ [e,it],b≠a:=fun b hb z=>by rw [z] at hb;rw [(hf a hb).1] at hq;cases hq
  have W:=WalksT.enumerateD (Draws.list (prog:=X.prog) (w:=X.w) (A:=X.A.in1) (show X.A.in1.handled=none from I.ok.hd hc) it a (fr it (by simp)).symm its.toArray) e ne (by simp [ne,fr e (by simp)]) (by simp)
  have hn:its.toArray.size=i:=by rw [List.size_toArray,← rv.length];exact hi
  exact W.done s _ _ (by rw [hn];exact ⟨st.1,st.2,p.isList⟩) fun h' tk kk'=>⟨rfl,I.walked hf kk'⟩
 self:=fun A i s Q E st q=>let ⟨_,he⟩:=st.1;wpAny_pyIter_enum he q
theorem loop_EF {a:Addr} {xs:List V} {g:TG} {tb:TS} {D:Ends} {σ:L2.St} {H:Hp} (Pv:Nat->L2.St->Hp->Prop) (h0:Pv 0 σ H) (hl:∀ i σ H,i<=xs.length->Pv i σ H->H a=some (.lst xs))
  (hs:∀ i x σ H T,xs[i]?=some x->Pv i σ H->H T=none->g (.ref T) σ (upd H T (.tup [.int (i:Int),x])) fun σ2 H2=>tb { D with nx:=Pv (i+1),ct:=Pv (i+1),bk:=D.nx } σ2 H2) (hd:∀ σ H,Pv xs.length σ H->D.nx σ H):LoopR (ItF a) g tb D σ H:=by
 refine ⟨fun i m σ H=>m+i=xs.length/\Pv i σ H,⟨xs.length,rfl,h0⟩,?_⟩
 rintro i m σ H ⟨hm,p⟩
 have q:=hl i σ H (by omega) p
 by_cases hi:i < xs.length
 ·refine .inr ⟨⟨xs,xs[i],q,by simp [hi]⟩,Pv (i+1),fun σ' H' p'=>⟨m - 1,by omega,by omega,p'⟩,fun v H' y=>?_⟩
  obtain ⟨T,x,hT,rfl,hx,rfl⟩:=y
  exact hs i x σ H T (hx xs q) p hT
 ·have e:i=xs.length:=by omega
  subst e
  exact .inl ⟨⟨xs,q,rfl⟩,hd σ H p⟩
def iEnumF (ta:TA):TI:=fun σ H R=>ta σ H fun vs H1=>∃ a xs,vs=[.ref a]/\H1 a=some (.lst xs)/\R (ItF a) H1
theorem qpi_enumF {a:Expr} {ta:TA} {p pos tpos:Pos} {elts:List Expr} {kk:Nat} (hg:Gl X "enumerate") (hm:X.mg "enumerate"=none) (ha:QA X [a] ta) (hs:starEach [a] X.env=[(false,eval a X.env)]:=by rfl) :
  QI X (.Tuple elts kk tpos) (.Call (.Name "enumerate" p) [a] [] pos) (iEnumF ta):=by
 refine ⟨fun pins s σ H R I h=>?_⟩
 refine Call_ (ld_blt I hg hm ja6 (PyProof.Rows.callWith_type1 (thn (ha.h pos pins s σ H _ I h) fun us s1 ⟨vs,H1,I1,r1,q1⟩=>?_) hs rfl))
 obtain ⟨ad,xs,rfl,hx,q⟩:=q1
 obtain ⟨u,rfl,ru⟩:=vals1 r1
 cases ru
 obtain ⟨its,rv,pt,_⟩:=I1.list (SqL.of hx)
 refine call_enumerate_list (items:=its.toArray) pt.isList fun h' he hi _ hk=>?_
 have I2:Inv X pins σ H1 { s1 with heap:=h' }:=I1.kept (t':=s1.toks) hk
 refine wpAny_pyIter_enum he ⟨s1.heap.objs.size+1,[s1.heap.objs.size+1,s1.heap.objs.size],_,_,H1,rfl,I2,turn_enumF ad (s1.heap.objs.size+1) s1.heap.objs.size (Nat.succ_ne_self _),⟨⟨.none,he⟩,hi⟩,fun b hb=>?_,q⟩
 have hb':s1.heap.objs.size<=b:=by
  simp only [List.mem_cons,List.not_mem_nil,or_false] at hb
  rcases hb with rfl | rfl
  ·exact Nat.le_add_right _ _
  ·exact Nat.le_refl _
 exact I1.fpOk (H':=H1) hb' (I1.hok.fresh hb')
end
end L2
namespace L2
open PySem PySem.Spec PyProof.Rows
section
variable {X:Cx}
end
end L2
namespace L2
open PySem PySem.Spec PyProof.Rows
def foldV (ks:Nat->Key) (vs:Nat->Value):Nat->List (Key × Value)
 | 0=>[]
 | i+1=>stored (foldV ks vs i) (ks i) (vs i)
theorem foldV_len (ks:Nat->Key) (vs:Nat->Value):∀ i,(foldV ks vs i).length<=i
 | 0=>Nat.le_refl 0
 | i+1=>by
  have ih:=foldV_len ks vs i
  show (stored _ _ _).length<=_
  unfold stored
  split
  ·rw [List.length_map];omega
  ·rw [List.length_append];simp;omega
section
variable {P:Program} {w:World} {A:Around} {R:Result->Shared->Prop} {I:Addr} {fp wr:List Addr} {n:Nat} {Pv:Nat->Value->Prop} {St:Nat->Heap->Prop}
theorem dictK_at {h h':Heap} {D:Addr} {kvs:List (Key × Value)} (x:h.DictOf (mixKind P w) D kvs) (e:∀ o,h.get? D=some o->h'.get? D=some o):h'.DictOf (mixKind P w) D kvs :=
 let ⟨o,es,ep,h1,r⟩:=x
 ⟨o,es,ep,e _ h1,r⟩
theorem dlk_loop (W:Walks P w A.in1 I fp wr n Pv St) (D:Addr) (hDf:D ∉ fp) (hu:A.in1.units < cLine) (h0:Heap) (hw0:∀ b ∈ wr,h0.get? b=none) (hD0:h0.get? D=none) (ks:Nat->Key) (bs:Nat->Value) (vs:Nat->Value)
  (hit:∀ i v,i < n->Pv i v->∃ t o c,v=.ref t/\h0.get? t=some o/\o.cls=.type "tuple"/\o.data=.seq #[bs i,vs i] c) (hkey:∀ i,i < n->(mixKind P w).is (ks i) (bs i)=true) (hn:n<=sizeLine) :
  ∀ (k i:Nat) (s:Shared),n - i=k->i<=n->St i s.heap->s.heap.DictOf (mixKind P w) D (foldV ks vs i)->(∀ b o,h0.get? b=some o->s.heap.get? b=some o) ->
   (∀ h' tk',h'.DictOf (mixKind P w) D (foldV ks vs n)->(∀ b o,h0.get? b=some o->h'.get? b=some o)->R (.ok (.ret .none)) { s with heap:=h',toks:=tk' }) ->
   codeAny (model P w) A (.builtin "dict.update.loop" ⟨[.ref D,.ref I,rawInt (i:Int),.none],[]⟩) R s:=by
 have hDw:D ∉ wr:=fun h=>hDf (W.sub _ h)
 have base:∀ (h h':Heap),(∀ b o,h0.get? b=some o->h.get? b=some o)->(∀ b o,b ∉ wr->h.get? b=some o->h'.get? b=some o)->∀ b o,h0.get? b=some o->h'.get? b=some o :=
  fun h h' k1 k2 b o e=>k2 b o (fun z=>by rw [hw0 b z] at e;cases e) (k1 b o e)
 intro k
 induction k with
 | zero =>
  intro i s hk hi hst hd kb hR
  have hin:i=n:=by omega
  subst hin
  refine codeAny_builtin dl_entry ?_
  rw [Around.under_plainId dl_plain _]
  show wpAny _ A.in1 (pyNext (.ref I) >>= _) _ _ s
  refine wpAny_bind (W.done s _ _ hst fun h' tk' hm=>?_)
  show wpAny _ A.in1 (Builtin.Dict.addKeywords D [] >>= fun _=>ret Value.none) _ _ _
  refine wpAny_bind (wpAny_pure (wpAny_pure ?_))
  have kb':=base _ _ kb hm
  exact hR h' tk' (dictK_at hd (fun o e=>hm D o hDw e)) kb'
 | succ k ih =>
  intro i s hk hi hst hd kb hR
  have hin:i < n:=by omega
  refine codeAny_builtin dl_entry ?_
  rw [Around.under_plainId dl_plain _]
  show wpAny _ A.in1 (pyNext (.ref I) >>= _) _ _ s
  refine wpAny_bind (W.item i s _ _ hin hst fun v h' tk' hv hst' hm=>?_)
  have kb':=base _ _ kb hm
  obtain ⟨t,o,c,rfl,ho,hoc,hod⟩:=hit i v hin hv
  have ho':=kb' _ _ ho
  have hd':=dictK_at hd (fun o e=>hm D o hDw e)
  refine wpAny_bind (wpAny_holding ?_)
  refine wpAny_bind (wpAny_tryCatch ?_)
  unfold Builtin.Dict.pairItems
  refine wpAny_bind (wpAny_typeOf (T:="tuple") ⟨o,ho',hoc⟩ ?_)
  rw [if_pos (by decide)]
  refine wpAny_bind (wpAny_seqItems ho' hod (wpAny_pure ?_))
  show wpAny _ A.in1 (holding [bs i,vs i] (dictSet D (bs i) (vs i))) _ _ _
  have hlen:=foldV_len ks vs i
  refine wpAny_holding (wpAny_dictSet_pairs (hsz:=by omega) (knd:=mixKind P w) (hkey i hin) hd' fun h2 hd2 hs=>?_)
  refine wpAny_pure ⟨plainId_quiet dl_plain _,?_⟩
  have kD:∀ b o,h0.get? b=some o->b≠D:=fun b o e z=>by rw [z,hD0] at e;cases e
  have kb2:∀ b o,h0.get? b=some o->h2.get? b=some o:=fun b o e=>(hs.2 b (kD b o e)).trans (kb' b o e)
  have e1:rawInt ((i:Int)+1)=rawInt ((i+1:Nat):Int):=by simp
  rw [e1]
  refine ih (i+1) _ (by omega) (by omega) (W.frame _ _ _ hst' fun b hb o e=>(hs.2 b (fun z=>hDf (z ▸ hb))).trans e) hd2 kb2 fun h3 tk3 hd3 kb3=>?_
  exact hR h3 tk3 hd3 kb3
theorem dlk_dict {E:Value->Shared->Prop} {s:Shared} {Q:Value->Shared->Prop} {l:Addr} {items:Array Value} (hh:A.handled=none) (hu:A.in1.in1.units < cLine) (hl:s.heap.IsList l items) (hnd:∀ o,s.heap.get? l=some o->o.dict=none) (ks:Nat->Key) (bs:Nat->Value) (vs:Nat->Value)
  (hit:∀ i v,items[i]?=some v->∃ t o c,v=.ref t/\s.heap.get? t=some o/\o.cls=.type "tuple"/\o.data=.seq #[bs i,vs i] c) (hkey:∀ i,i < items.size->(mixKind P w).is (ks i) (bs i)=true) (hn:items.size<=sizeLine)
  (hQ:∀ h' tk',h'.DictOf (mixKind P w) s.heap.objs.size (foldV ks vs items.size)->(∀ b o,s.heap.get? b=some o->h'.get? b=some o)->Q (.ref s.heap.objs.size) { s with heap:=h',toks:=tk' }) :
  wpAny (model P w) A (call (.type "dict") [.ref l]) Q E s:=by
 refine callType_codes (Q₁:=fun obj s1=>obj=.ref s.heap.objs.size/\s1={ s with heap:=s.heap.push { cls:=.type "dict",data:=.dict #[] } }) F.kt_called_dict (F.kt_typeCall_dict_1 _) F.entry_dict_init (kt_code_dict_new _ ⟨rfl,rfl⟩) fun obj s1 hs1=>?_
 obtain ⟨rfl,rfl⟩:=hs1
 have hnew:(s.heap.push { cls:=.type "dict",data:=.dict #[] }).DictOf (mixKind P w) s.heap.objs.size []:=Heap.DictOf.new s.heap
 have hl1:=hl.push { cls:=.type "dict",data:=.dict #[] }
 refine ⟨hnew.typeIs,F.args_dict_init_2 _ _,?_⟩
 unfold Builtin.«dict.__init__»
 refine wpAny_bind ?_
 unfold Builtin.Dict.selfAndRest
 refine wpAny_bind (wpAny_notOrdered_dict hnew.typeIs ?_)
 refine (show wpAny _ _ (pure (s.heap.objs.size,[Value.ref l])) _ _ _ from wpAny_pure ?_)
 show wpAny _ _ (Builtin.Dict.updateFrom "dict.__init__" s.heap.objs.size (.ref l) [] .none) _ _ _
 unfold Builtin.Dict.updateFrom
 refine wpAny_bind (wpAny_typeOf hl1.typeIs ?_)
 rw [if_pos (by decide)]
 refine wpAny_bind ?_
 unfold getAttr?
 refine wpAny_bind (wpAny_mkText ?_)
 unfold getAttrBy?
 obtain ⟨ol,hol0,hoc,n0,hod⟩:=id hl
 have hol:=Heap.get?_push_of_some { cls:=.type "dict",data:=.dict #[] } hol0
 refine wpAny_bind (wpAny_attempt (dl_miss hol hoc hod (hnd _ hol0) hh fun h' tk1 e hx=>?_))
 obtain ⟨ob,fs,he,hec,_⟩:=hx.there
 refine wpAny_bind (wpAny_isInstance (T:="AttributeError") (b:=true) ⟨ob,he,hec⟩ sub_AttributeError ?_)
 rw [if_pos rfl]
 refine wpAny_pure ?_
 rw [if_pos (show (Option.isNone (none:Option Value))=true from rfl)]
 refine wpAny_bind (wpAny_rule ?_)
 have keep1:∀ b o,s.heap.get? b=some o->h'.get? b=some o:=fun b o e=>hx.keeps _ _ (Heap.get?_push_of_some _ e)
 have hl2:h'.IsList l items:=⟨ol,keep1 _ _ hol0,hoc,n0,hod⟩
 have nov:∀ a,s.heap.objs.size<=a->s.heap.get? a=none:=fun a ha=>by
  cases q:s.heap.get? a with
  | none=>rfl
  | some o=>exact absurd (Heap.lt_size q) (Nat.not_lt.mpr ha)
 have hD':h'.DictOf (mixKind P w) s.heap.objs.size []:=by
  obtain ⟨o,es,ep,q1,q2⟩:=hnew
  exact ⟨o,es,ep,hx.keeps _ _ q1,q2⟩
 have hDlt:s.heap.objs.size < h'.objs.size:=by obtain ⟨o,_,_,q1,_⟩:=hD';exact Heap.lt_size q1
 have hllt:l < s.heap.objs.size:=Heap.lt_size hol0
 refine wpAny_bind (wpAny_pyIter_list hl2 ?_)
 refine wpAny_pure ⟨plainId_quiet dl_plain _,?_⟩
 have nlI:l≠h'.objs.size:=Nat.ne_of_lt (Nat.lt_trans hllt hDlt)
 have W:=Walks.list (prog:=P) (w:=w) (A:=A.in1.in1) hh h'.objs.size l nlI items
 refine dlk_loop W s.heap.objs.size (fun hm=>?_) hu s.heap (fun b hb=>?_) (nov _ (Nat.le_refl _)) ks bs vs (fun i v hi hv=>hit i v hv) hkey hn items.size 0 _ (by omega) (Nat.zero_le _) ⟨⟨_,Heap.get?_push_size _ rfl,rfl,rfl⟩,hl2.push _⟩ ?_ (fun b o e=>Heap.get?_push_of_some _ (keep1 b o e)) (fun h3 tk3 hd3 kb3=>?_)
 ·rcases List.mem_cons.mp hm with q | q
  ·exact Nat.ne_of_lt hDlt q
  ·exact Nat.ne_of_gt hllt (List.mem_singleton.mp q)
 ·rw [List.mem_singleton.mp hb]
  exact nov _ (Nat.le_of_lt hDlt)
 ·obtain ⟨o,es,ep,q1,q2⟩:=hD'
  exact ⟨o,es,ep,Heap.get?_push_of_some _ q1,q2⟩
 ·exact ⟨rfl,hQ h3 tk3 hd3 kb3⟩
end
section
variable {X:Cx}
def PairsK (H:Hp) (ys:List V) (kvs:List (Key × V)):Prop:=Paired (fun y (kv:Key × V)=>∃ t,y=.ref t/\H t=some (.tup [kV kv.1,kv.2])) ys kvs
def putAllK (kvs:List (Key × V)):List (Key × V):=kvs.foldl (fun d kv=>putK d kv.1 kv.2) []
theorem PairsK.get:∀ {H:Hp} {ys:List V} {kvs:List (Key × V)} {i:Nat} {y:V},PairsK H ys kvs->ys[i]?=some y->∃ kv t,kvs[i]?=some kv/\y=.ref t/\H t=some (.tup [kV kv.1,kv.2])
 | _,_,_,i,y,.nil,e=>by simp at e
 | _,_,_,0,y,.cons (b:=kv) ⟨t,q⟩ _,e=>by simp at e;subst e;exact ⟨kv,t,rfl,q⟩
 | _,_,_,i+1,y,.cons _ r,e=>by simp at e;obtain ⟨kv,t,h⟩:=PairsK.get (kvs:=_) r e;exact ⟨kv,t,by simpa using h.1,h.2⟩
def rDictK:List V->Hp->VK->Prop:=fun xs H Q=>match xs with
 | [.ref l]=>(∃ ys kvs,H l=some (.lst ys)/\PairsK H ys kvs/\∀ p,H p=none->Q (.ref p) (upd H p (.dK (putAllK kvs))))∨(∃ kvs,H l=some (.dK kvs)/\∀ p,H p=none->Q (.ref p) (upd H p (.dK kvs)))
 | _=>False
theorem rDictK.of {l:Addr} {H:Hp} {Q:VK} {ys:List V} {kvs:List (Key × V)} (e:H l=some (.lst ys)) (h:PairsK H ys kvs) (q:∀ p,H p=none->Q (.ref p) (upd H p (.dK (putAllK kvs)))):rDictK [.ref l] H Q:=.inl ⟨ys,kvs,e,h,q⟩
theorem jab (hc:X.calm=true) (hu:X.A.units+64 < cLine):CallR X (.type "dict") rDictK:=by
 intro pins s σ H xs us Q I r h
 unfold rDictK at h
 split at h
 ·rename_i l
  obtain ⟨u,rfl,ru⟩:=vals1 r
  cases ru
  rcases h with ⟨ys,kvs,e,hp,q⟩ | ⟨kvs,e,q⟩
  ·obtain ⟨its,rr,pl,hz⟩:=I.list (SqL.of e)
   have hl:ys.length=its.length:=rr.length
   have hlk:ys.length=kvs.length:=Paired.length hp
   have fn:∀ i,∃ p:Key × Value × Value,i < its.length->∃ kv t o c,kvs[i]?=some kv/\p.1=kv.1/\its[i]?=some (.ref t)/\s.heap.get? t=some o/\o.cls=.type "tuple"/\o.data=.seq #[p.2.1,p.2.2] c /\
     RelV (kV kv.1) p.2.1/\RelV kv.2 p.2.2:=by
    intro i
    by_cases hi:i < its.length
    ·have hy:ys[i]?=some (ys[i]'(by omega)):=by simp
     obtain ⟨kv,t,h1,h2,h3⟩:=hp.get hy
     obtain ⟨u,hu1,hu2⟩:=rr.get hy
     rw [h2] at hu2
     cases hu2
     obtain ⟨_,its2,r2,o,q1,q2,n,q3⟩:=(show ObjOk X.prog X.w H s.heap t (.tup [kV kv.1,kv.2]) from I.hok t _ h3)
     obtain ⟨u1,u2,rfl,ru1,ru2⟩:=r2.two
     exact ⟨(kv.1,u1,u2),fun _=>⟨kv,t,o,n,h1,rfl,hu1,q1,q2,q3,ru1,ru2⟩⟩
    ·exact ⟨(.inl 0,.none,.none),fun z=>absurd z hi⟩
   obtain ⟨f,hf⟩:=Classical.skolem.mp fn
   have kt:∀ i,i<=its.length->KV (putAllK (kvs.take i)) (foldV (fun i=>(f i).1) (fun i=>(f i).2.2) i):=by
    intro i
    induction i with
    | zero=>intro _;exact .nil
    | succ i ih =>
     intro hi
     obtain ⟨kv,t,o,c,h1,h2,h3,h4,h5,h6,h7,h8⟩:=hf i (by omega)
     have e1:putAllK (kvs.take (i+1))=putK (putAllK (kvs.take i)) kv.1 kv.2:=by
      rw [List.take_succ,h1]
      simp [putAllK,List.foldl_append]
     rw [e1]
     show KV _ (stored _ _ _)
     rw [← h2]
     exact (ih (by omega)).put _ h8
   have hs:sizeLine=16777216:=sizeLine_eq
   obtain ⟨ol,nl,w1,w2,w3,w4⟩:=id pl
   refine dlk_dict (P:=X.prog) (w:=X.w) (I.ok.hd hc) (by show X.A.units+1+1 < cLine;omega) pl.isList (fun o e=>by rw [w1] at e;cases e;exact w3) (fun i=>(f i).1) (fun i=>(f i).2.1) (fun i=>(f i).2.2) (fun i v hv=>?_) (fun i hi=>?_) (by simpa using (by omega:its.length<=sizeLine)) fun h' tk' hd kb=>?_
   ·have hv':its[i]?=some v:=by simpa using hv
    have hi:i < its.length:=(List.getElem?_eq_some_iff.mp hv').1
    obtain ⟨kv,t,o,c,h1,h2,h3,h4,h5,h6,h7,h8⟩:=hf i hi
    rw [h3] at hv'
    cases hv'
    exact ⟨t,o,c,rfl,h4,h5,h6⟩
   ·obtain ⟨kv,t,o,c,h1,h2,h3,h4,h5,h6,h7,h8⟩:=hf i (by simpa using hi)
    show (mixKind X.prog X.w).is (f i).1 (f i).2.1=true
    rw [h2]
    exact kV_is h7
   ·have kt1:=kt its.length (Nat.le_refl _)
    rw [List.take_of_length_le (by omega)] at kt1
    have hfl:=foldV_len (fun i=>(f i).1) (fun i=>(f i).2.2) its.length
    have hpl:(putAllK kvs).length<=sizeLine:=by have:=Paired.length kt1;omega
    have hfr:H s.heap.objs.size=none:=I.hok.fresh (Nat.le_refl _)
    rw [List.size_toArray] at hd
    refine ⟨.ref s.heap.objs.size,upd H s.heap.objs.size (.dK (putAllK kvs)),I.laid (t':=tk') kb (Nat.le_refl _) (dk_new hpl ?_ kt1 hd),rfl,q _ hfr⟩
    have:=I.big
    exact beq_eq_false_iff_ne.mpr (Nat.ne_of_gt this)
  ·exact d_copyOf I (.inl e) fun p s' hp I'=>⟨.ref p,_,I',rfl,q p hp⟩
 ·exact h.elim
end
end L2
namespace L2
open PySem PySem.Spec PyProof.Rows
section
end
section
variable {P:Program} {w:World} {K:PySem.W.Frag}
end
section
variable {X:Cx}
theorem zf {o i:Expr} {td ty:TE} {pos:Pos} (hu:X.A.units+1 < cLine) (ho:QE X o td) (hi:QE X i ty) (hs:NoSl i):QE X (.Subscript o i pos) (tDGet td ty):=⟨pe_dget hu ho.h hi.h hs⟩
end
end L2
namespace L2
open PySem PySem.Spec PyProof.Rows
theorem cf_look:∀ (names:List (Str × NameKind)) (h:Heap) (acc:List (Str × Addr)) (x:Str) (c:Addr),(cellsFrom h.objs.size names acc).lookup x=some c ->
  acc.lookup x=some c∨((pushCells h names).IsCell c none/\h.objs.size<=c/\(x,NameKind.cell) ∈ names)
 | [],h,acc,x,c,e=>.inl e
 | (n,k)::r,h,acc,x,c,e=>by
  unfold cellsFrom at e
  unfold pushCells
  by_cases hk:(k == NameKind.cell)=true
  ·rw [if_pos hk] at e ⊢
   have hk':k=.cell:=by simpa using hk
   have hsz:(h.push { cls:=.type "cell",data:=.cell none }).objs.size=h.objs.size+1:=Heap.size_push ..
   rw [← hsz] at e
   rcases cf_look r _ _ x c e with q | ⟨q1,q2,q3⟩
   ·rw [List.lookup_cons] at q
    cases hx:x == n with
    | true =>
     rw [hx] at q
     have ex:x=n:=by simpa using hx
     cases Option.some.inj q
     refine .inr ⟨⟨_,pushCells_keeps _ _ _ _ (Heap.get?_push_size _ rfl),rfl⟩,Nat.le_refl _,?_⟩
     rw [ex,hk']
     exact List.mem_cons_self ..
    | false=>rw [hx] at q;exact .inl q
   ·exact .inr ⟨q1,by omega,List.mem_cons_of_mem _ q3⟩
  ·rw [if_neg hk] at e ⊢
   rcases cf_look r h acc x c e with q | ⟨q1,q2,q3⟩
   ·exact .inl q
   ·exact .inr ⟨q1,q2,List.mem_cons_of_mem _ q3⟩
theorem cf_keep:∀ (names:List (Str × NameKind)) (n:Nat) (acc:List (Str × Addr)) (x:Str),((x,NameKind.cell) ∈ names∨∃ c,acc.lookup x=some c)->∃ c,(cellsFrom n names acc).lookup x=some c
 | [],n,acc,x,h=>h.elim (fun q=>nomatch q) id
 | (m,k)::r,n,acc,x,h=>by
  unfold cellsFrom
  by_cases hk:(k == NameKind.cell)=true
  ·rw [if_pos hk]
   refine cf_keep r _ _ x ?_
   by_cases hx:x=m
   ·subst hx
    exact .inr ⟨n,by simp [List.lookup_cons]⟩
   ·rcases h with h | ⟨c,h⟩
    ·rcases List.mem_cons.mp h with h | h
     ·exact absurd (congrArg Prod.fst h) hx
     ·exact .inl h
    ·refine .inr ⟨c,?_⟩
     rw [List.lookup_cons,show (x == m)=false by simpa using hx]
     exact h
  ·rw [if_neg hk]
   refine cf_keep r n acc x ?_
   rcases h with h | h
   ·rcases List.mem_cons.mp h with h | h
    ·have:NameKind.cell=k:=congrArg Prod.snd h
     rw [← this] at hk
     exact absurd rfl hk
    ·exact .inl h
   ·exact .inr h
theorem cf_above:∀ (names:List (Str × NameKind)) (lo n:Nat) (acc:List (Str × Addr)) (x:Str) (c:Addr),lo<=n->((x,NameKind.cell) ∈ names∨∀ c0,acc.lookup x=some c0->lo<=c0)->(cellsFrom n names acc).lookup x=some c->lo<=c
 | [],lo,n,acc,x,c,_,h,e=>h.elim (fun q=>nomatch q) fun q=>q c e
 | (m,k)::r,lo,n,acc,x,c,hl,h,e=>by
  unfold cellsFrom at e
  by_cases hk:(k == NameKind.cell)=true
  ·rw [if_pos hk] at e
   refine cf_above r lo (n+1) _ x c (by omega) ?_ e
   by_cases hx:x=m
   ·subst hx
    refine .inr fun c0 q=>?_
    simp [List.lookup_cons] at q
    rw [← q]
    exact hl
   ·rcases h with h | h
    ·rcases List.mem_cons.mp h with h | h
     ·exact absurd (congrArg Prod.fst h) hx
     ·exact .inl h
    ·refine .inr fun c0 q=>h c0 ?_
     rw [List.lookup_cons,show (x == m)=false by simpa using hx] at q
     exact q
  ·rw [if_neg hk] at e
   refine cf_above r lo n acc x c hl ?_ e
   rcases h with h | h
   ·rcases List.mem_cons.mp h with h | h
    ·have:NameKind.cell=k:=congrArg Prod.snd h
     rw [← this] at hk
     exact absurd rfl hk
    ·exact .inl h
   ·exact .inr h
theorem cf_inj:∀ (names:List (Str × NameKind)) (n:Nat) (acc:List (Str × Addr)),(∀ x c,acc.lookup x=some c->c < n)->(∀ x y c,acc.lookup x=some c->acc.lookup y=some c->x=y) ->
  ∀ x y c,(cellsFrom n names acc).lookup x=some c->(cellsFrom n names acc).lookup y=some c->x=y
 | [],_,_,_,hi=>hi
 | (m,k)::r,n,acc,hlt,hi=>by
  unfold cellsFrom
  by_cases hk:(k == NameKind.cell)=true
  ·rw [if_pos hk]
   refine cf_inj r (n+1) _ (fun x c e=>?_) fun x y c e1 e2=>?_
   ·rw [List.lookup_cons] at e
    cases hx:x == m with
    | true=>rw [hx] at e;cases Option.some.inj e;exact Nat.lt_succ_self _
    | false=>rw [hx] at e;exact Nat.lt_succ_of_lt (hlt x c e)
   ·rw [List.lookup_cons] at e1 e2
    cases hx:x == m with
    | true =>
     rw [hx] at e1
     cases Option.some.inj e1
     cases hy:y == m with
     | true=>rw [show x=m by simpa using hx,show y=m by simpa using hy]
     | false=>rw [hy] at e2;exact absurd (hlt y _ e2) (Nat.lt_irrefl _)
    | false =>
     rw [hx] at e1
     cases hy:y == m with
     | true=>rw [hy] at e2;cases Option.some.inj e2;exact absurd (hlt x _ e1) (Nat.lt_irrefl _)
     | false=>rw [hy] at e2;exact hi x y c e1 e2
  ·rw [if_neg hk]
   exact cf_inj r n acc hlt hi
theorem newEnv_in {M:Model} {A:Around} {E:Value->Shared->Prop} {s:Shared} {scope:Scope} {globals:Addr} {cl:List (Str × Addr)} {qual:Str} {env:Env} {Q:Env->Shared->Prop}
  (h:Q (newEnv scope s.heap.objs.size globals (cellsFrom (s.heap.objs.size+1) scope.names cl) qual none .none (some env) builtinsNs) { s with heap:=pushCells (s.heap.push { cls:=.type "dict",data:=.dict #[] }) scope.names }) :
  wpAny M A (newFunctionEnv scope globals cl [] qual none .none (some env)) Q E s:=by
 unfold newFunctionEnv
 refine wpAny_bind (wpAny_alloc ?_)
 refine wpAny_bind (wpAny_layCells _ (fun name kind cells=>by cases hkc:kind == NameKind.cell <;> simp [hkc]) _ _ _ _ ?_)
 rw [show ({ s with heap:=s.heap.push { cls:=.type (if (some env).isSome then "dict" else "frame"),data:=.dict #[] } }:Shared).heap.objs.size=s.heap.objs.size+1 from Heap.size_push ..]
 refine wpAny_bind ?_
 rw [List.forIn_nil]
 exact wpAny_pure (wpAny_pure h)
end L2
namespace L2
open PySem PySem.Spec PyProof.Rows
abbrev Cx.compC (X:Cx) (scope:Scope) (C:Addr) (Nc:List Str) (s3:Shared) (H3:Hp) (fp:List Addr):Cx :=
 { X with N:=Nc,s₀:=s3,H₀:=H3,env:=compEnvC scope (cellsFrom (C+1) scope.names (clOf X.env scope.names [])) C X.env,outer:=X.stack,stack:=X.stack,ex:=fp,fn:=fun x=>scope.names.lookup x == some .cell,pn:=[],xe:=fun _ _=>False }
structure CompOkC (X:Cx) (scope:Scope) (Nc:List Str) (js:List (Option Nat)):Prop where
 kind:scope.kind=.function
 loc:∀ y ∈ scope.names,y.2=.local->scope.names.lookup y.1=some .local
 free:∀ y ∈ scope.names,y.2=.free->X.env.kindOf y.1=some .cell∨X.env.kindOf y.1=some .free
 len:js.length=Nc.length
 nol:∀ x,(x,NameKind.free) ∈ scope.names->scope.names.lookup x≠some .local
 see:∀ (i j:Nat) (x:Str),js[i]?=some (some j)->Nc[i]?=some x->X.N[j]?=some x/\(x,NameKind.free) ∈ scope.names
 noc:∀ x,(x,NameKind.free) ∈ scope.names->(x,NameKind.cell) ∉ scope.names
section
variable {X:Cx} {pins:List (Addr × Obj)} {σ:L2.St} {H:Hp} {s:Shared} {scope:Scope} {Nc:List Str} {js:List (Option Nat)} {fp:List Addr}
theorem CompOkC.has (c:CompOkC X scope Nc js) (I:Inv X pins σ H s):∀ y ∈ scope.names,y.2=.free->∃ a,X.env.cells.lookup y.1=some a:=fun y hy hf=>I.ok.has _ (c.free y hy hf)
theorem relabel_kindC {env:Env} {x:Str}:∀ {l:List (Str × NameKind)},
  ((l.map fun (n,k)=>if (k == NameKind.free && env.scope.kind == .function && env.kindOf n == some .cell) then (n,NameKind.cell) else (n,k)).lookup x=some .cell ∨
   (l.map fun (n,k)=>if (k == NameKind.free && env.scope.kind == .function && env.kindOf n == some .cell) then (n,NameKind.cell) else (n,k)).lookup x=some .free)->(x,NameKind.free) ∈ l∨(x,NameKind.cell) ∈ l
 | [],h=>by simp at h
 | (n,k)::r,h=>by
  rw [List.map_cons] at h
  by_cases hx:x=n
  ·subst hx
   by_cases hcond:(k == NameKind.free && env.scope.kind == .function && env.kindOf x == some .cell)=true
   ·rw [Bool.and_eq_true,Bool.and_eq_true] at hcond
    have hk:k=.free:=by simpa using hcond.1.1
    subst hk
    exact .inl (List.mem_cons_self ..)
   ·simp only [hcond,Bool.false_eq_true,if_false,List.lookup_cons,beq_self_eq_true] at h
    rcases h with h | h
    ·cases Option.some.inj h
     exact .inr (List.mem_cons_self ..)
    ·cases Option.some.inj h
     exact .inl (List.mem_cons_self ..)
  ·have hxn:(x == n)=false:=by simpa using hx
   have ih:(x,NameKind.free) ∈ r∨(x,NameKind.cell) ∈ r:=by
    refine relabel_kindC (env:=env) ?_
    by_cases hcond:(k == NameKind.free && env.scope.kind == .function && env.kindOf n == some .cell)=true
    ·simpa only [hcond,if_true,List.lookup_cons,hxn] using h
    ·simpa only [hcond,Bool.false_eq_true,if_false,List.lookup_cons,hxn] using h
   exact ih.imp (List.mem_cons_of_mem _) (List.mem_cons_of_mem _)
theorem CompOkC.sub (c:CompOkC X scope Nc js) (I:Inv X pins σ H s) (x:Str) (a:Addr) (e:(cellsFrom (s.heap.objs.size+1) scope.names (clOf X.env scope.names [])).lookup x=some a) :
  (X.env.cells.lookup x=some a/\a < s.heap.objs.size)∨((pushCells (s.heap.push { cls:=.type "dict",data:=.dict #[] }) scope.names).IsCell a none/\s.heap.objs.size+1<=a/\(x,NameKind.cell) ∈ scope.names):=by
 have hsz:(s.heap.push { cls:=.type "dict",data:=.dict #[] }).objs.size=s.heap.objs.size+1:=Heap.size_push ..
 rw [← hsz] at e ⊢
 rcases cf_look _ _ _ x a e with q | q
 ·have q':=clOf_sub scope.names [] x a (c.has I) (fun _ _ z=>by simp at z) q
  obtain ⟨v,hc⟩:=I.cell x a q'
  exact .inl ⟨q',hc.lt⟩
 ·exact .inr q
theorem comp_okC (c:CompOkC X scope Nc js) (I:Inv X pins σ H s) (hf:∀ b ∈ fp,FpOk X pins H b) (ho:∀ b ∈ fp,∃ o,s.heap.get? b=some o):(X.compC scope s.heap.objs.size Nc s H fp).Ok:=by
 have hs:=c.has I
 have sub0:∀ x a,(clOf X.env scope.names []).lookup x=some a->X.env.cells.lookup x=some a:=fun x a=>clOf_sub _ _ x a hs (fun _ _ z=>nomatch z)
 refine ⟨I.ok.mod,c.kind,I.ok.glob,I.ok.blt,Nat.le_refl _,?_,fun x h=>?_,fun x a h e=>?_,I.ok.hd,I.ok.frames,.inl rfl,fun b hb=>⟨?_,fun x a e=>?_⟩,I.bs,
  Nat.le_trans I.ok.bsz I.sz,fun b o e hb=>?_,fun b hb hb'=>?_,I.stack,I.stkFree⟩
 ·refine cf_inj _ _ _ (fun x a e=>?_) fun x y a e1 e2=>I.ok.inj x y a (sub0 x a e1) (sub0 y a e2)
  obtain ⟨v,hc⟩:=I.cell x a (sub0 x a e)
  exact Nat.lt_succ_of_lt hc.lt
 ·refine cf_keep _ _ _ x ?_
  rcases relabel_kindC (env:=X.env) h with q | q
  ·exact .inr (clOf_has _ _ x q)
  ·exact .inl q
 ·have hm:(x,NameKind.cell) ∈ scope.names:=mem_of_lookup (by simpa using h)
  exact Nat.le_of_succ_le (cf_above _ (s.heap.objs.size+1) _ _ x a (Nat.le_refl _) (.inl hm) e)
 ·obtain ⟨o,e⟩:=ho b hb
  exact Nat.ne_of_lt (Heap.lt_size e)
 ·rcases c.sub I x a e with ⟨q,_⟩ | ⟨_,q,_⟩
  ·exact (hf b hb).2.2.2.2.1 x a q
  ·obtain ⟨o,e'⟩:=ho b hb
   have:=Heap.lt_size e'
   exact fun z=>absurd (Nat.lt_of_lt_of_le (Nat.lt_of_lt_of_le this (Nat.le_succ _)) q) (by rw [z];exact Nat.lt_irrefl _)
 ·rcases (hf b hb).2.2.2.1 with z | z
  ·exact I.ok.noex b o e z
  ·exact absurd (Nat.lt_of_lt_of_le (Heap.lt_size (I.ok.bs b o e).1) z) (Nat.lt_irrefl _)
 ·rcases List.mem_cons.mp (I.stkSub b hb') with z | z
  ·exact (hf b hb).2.1 z
  ·exact (hf b hb).2.2.1 z
theorem comp_invC (c:CompOkC X scope Nc js) (I:Inv X pins σ H s) (hf:∀ b ∈ fp,FpOk X pins H b) (ho:∀ b ∈ fp,∃ o,s.heap.get? b=some o) :
  Inv (X.compC scope s.heap.objs.size Nc s H fp) [] (compSt js σ) H { s with heap:=pushCells (s.heap.push { cls:=.type "dict",data:=.dict #[] }) scope.names }:=by
 have hk:∀ b o,s.heap.get? b=some o->(pushCells (s.heap.push { cls:=.type "dict",data:=.dict #[] }) scope.names).get? b=some o:=fun b o e=>pushCells_keeps _ _ b o (Heap.get?_push_of_some _ e)
 have hn:=(Heap.Ns.new s.heap (.type "dict")).keeps (pushCells_keeps scope.names _)
 have hs:=c.has I
 refine ⟨comp_okC c I hf ho,rfl,I.bare,Un.kept hk,⟨_,hn,fun i x v e1 e2 e3=>?_⟩,fun x a e=>?_,I.hok.fresh (Nat.le_refl _),fun x a e=>?_,(fun p hp=>nomatch hp),I.hok.kept hk,by simp only [compSt,List.length_map];exact c.len⟩
 ·have e2':(compSt js σ)[i]?=some (some v):=e2
  unfold compSt at e2'
  rw [List.getElem?_map] at e2'
  cases ej:js[i]? with
  | none=>rw [ej] at e2';cases e2'
  | some o =>
   rw [ej] at e2'
   cases o with
   | none=>cases e2'
   | some j =>
    have e4:(σ[j]?).getD none=some v:=Option.some.inj e2'
    have e5:σ[j]?=some (some v):=by
     cases q:σ[j]? with
     | none=>rw [q] at e4;cases e4
     | some w=>rw [q] at e4;exact congrArg some e4
    obtain ⟨n1,n2⟩:=c.see i j x ej e1
    have hkd:=c.free _ n2 rfl
    obtain ⟨a,ha⟩:=cf_keep scope.names (s.heap.objs.size+1) _ x (.inr (clOf_has (env:=X.env) scope.names [] x n2))
    have hax:X.env.cells.lookup x=some a:=by
     rcases c.sub I x a ha with ⟨q,_⟩ | ⟨_,_,q⟩
     ·exact q
     ·exact absurd q (c.noc x n2)
    obtain ⟨m0,_,hl⟩:=I.loc
    obtain ⟨u,r,l⟩:=hl j x v n1 e5 (by
     rcases hkd with z | z
     ·exact .inr (.inl z)
     ·exact .inr (.inr z))
    refine ⟨u,r,?_⟩
    rcases l with ⟨k,_⟩ | ⟨_,a',ha',hcell⟩
    ·rcases hkd with z | z
     ·rw [z] at k;cases k
     ·rw [z] at k;cases k
    ·have:a'=a:=Option.some.inj (ha'.symm.trans hax)
     subst this
     refine .inr ⟨?_,a',ha,?_⟩
     ·rcases e3 with z | z | z
      ·exfalso
       have q:(relabel scope X.env).names.lookup x=some .local:=z
       exact c.nol x n2 (relabel_loc q)
      ·exact .inl z
      ·exact .inr z
     ·obtain ⟨o,q,d⟩:=hcell
      exact ⟨o,hk _ o q,d⟩
 ·rcases c.sub I x a e with ⟨q,_⟩ | ⟨q,_,_⟩
  ·obtain ⟨v,o,q,d⟩:=I.cell x a q
   exact ⟨v,o,hk _ o q,d⟩
  ·exact ⟨none,q⟩
 ·rcases c.sub I x a e with ⟨q,_⟩ | ⟨_,q,_⟩
  ·exact I.freeC x a q
  ·exact I.hok.fresh (Nat.le_of_succ_le q)
theorem comp_afterC (I:Inv X pins σ H s) (hf:∀ b ∈ fp,FpOk X pins H b) {σ':L2.St} {H':Hp} {s':Shared} {h'':Heap} (J:Inv (X.compC scope s.heap.objs.size Nc s H fp) [] σ' H' s') (hs:Heap.SameBut s.heap.objs.size s'.heap h'') :
  Inv X pins σ H' { s' with heap:=h'' }:=by
 have ne:∀ b o,s.heap.get? b=some o->b≠s.heap.objs.size:=fun b o e=>Nat.ne_of_lt (Heap.lt_size e)
 have u:Un (frs X.stack) fp H H' s.heap s'.heap:=J.base
 refine I.call' (s':={ s' with heap:=h'' }) (ch:=fp) J.os ⟨fun b o e n hb hx=>?_,fun b o e n hb hx=>?_,u.free,fun b o e hx=>?_,u.tups,u.frzs,u.tbls⟩ (fun b o e=>?_) J.bare fun b hb=>?_
 ·exact (hs.2 b (ne b o e)).trans (u.keep b o e n hb hx)
 ·obtain ⟨sl,q⟩:=u.slot b o e n hb hx
  exact ⟨sl,(hs.2 b (ne b o e)).trans q⟩
 ·obtain ⟨o',q⟩:=u.there b o e hx
  exact ⟨o',(hs.2 b (ne b o e)).trans q⟩
 ·have hC:H' s.heap.objs.size=none:=J.free
  refine (J.hok b o e).stay (fun d v hd q=>(hs.2 d ?_).trans q) (fun _ q=>q) fun _ _ q=>q
  rintro rfl
  rcases hd with z | z
  ·rw [← z,hC] at e;cases e
  ·rw [hC] at z;cases z
 ·obtain ⟨_,f1,_,f3,f4,f5⟩:=hf b hb
  exact ⟨f3,f1,f4,f5⟩
end
section
variable {X:Cx} {scope:Scope} {Nc:List Str} {js:List (Option Nat)} {elt tg iter:Expr} {pos:Pos} {wi:TI} {g:TG} {te:TE}
theorem comp_coreC (hc:X.calm=true) (c:CompOkC X scope Nc js) (hi:PI X tg iter wi) (hg:∀ C s3 H3 fp,PG (X.compC scope C Nc s3 H3 fp) tg g) (he:∀ C s3 H3 fp,PE (X.compC scope C Nc s3 H3 fp) elt te)
  {pins:List (Addr × Obj)} {s:Shared} {σ:L2.St} {H:Hp} (I:Inv X pins σ H s) {RR:Value->Addr->Result->Shared->Prop} {NX:Addr->Hp->Prop}
  (h:wi σ H fun J H1=>∀ D,H1 D=none->LoopR J g (tEmit D te) { nx:=fun _ H'=>NX D H',rt:=fun _ _=>False } (compSt js σ) (upd H1 D (.lst [])))
  (fin:∀ D H3 s3 fp σ5 H5 s6,Inv X pins σ H3 s3->(∀ b ∈ fp,FpOk X pins H3 b)->Inv (X.compC scope s3.heap.objs.size Nc s3 H3 fp) [] σ5 H5 s6->NX D H5->RR (.ref D) s3.heap.objs.size (.ok .next) s6) :
  wpAny (model X.prog X.w) X.A (eval iter X.env) (fun x s₁=>wpAny (model X.prog X.w) X.A (pyIter x) (fun it s₂=>wpAny (model X.prog X.w) X.A (newList []) (fun acc s₃ =>
   wpAny (model X.prog X.w) X.A (newFunctionEnv scope X.env.globals (clOf X.env scope.names []) [] X.env.qual none .none (some X.env)) (fun cenv s₄ =>
    codeAny (model X.prog X.w) X.A (.compStart (.ListComp elt [⟨tg,iter,[],0⟩] scope pos) 0 it acc { cenv with scope:=relabel scope X.env }) (RR acc cenv.locals) s₄) X.xe s₃) X.xe s₂) X.xe s₁) X.xe s:=by
 refine thn (hi pins s σ H _ I h) fun v s1 h1=>thn h1 fun itv s2 h2=>?_
 obtain ⟨it,fp,tn,J,H2,rfl,I2,T,st2,f2,h2⟩:=h2
 refine wpAny_newObj_type ?_ (by show 0<=sizeLine;decide)
 have hD:H2 s2.heap.objs.size=none:=I2.hok.fresh (Nat.le_refl _)
 have I3:Inv X pins σ (upd H2 s2.heap.objs.size (.lst [])) { s2 with heap:=s2.heap.push { cls:=.type "list",data:=.seq ([]:List Value).toArray } } :=
  I2.laid (t':=s2.toks) (fun b u e=>Heap.get?_push_of_some _ e) (Nat.le_refl _) ⟨by show 0<=sizeLine;decide,[],0,.nil,Heap.get?_push_size _ rfl⟩
 have f3:∀ b ∈ fp,FpOk X pins (upd H2 s2.heap.objs.size (.lst [])) b:=fun b hb=>by
  obtain ⟨q0,q⟩:=f2 b hb
  obtain ⟨o,e,_⟩:=T.obj _ _ st2 b hb
  exact ⟨by rw [jc (Nat.ne_of_lt (Heap.lt_size e))];exact q0,q⟩
 have o3:∀ b ∈ fp,∃ o,(s2.heap.push { cls:=.type "list",data:=.seq ([]:List Value).toArray }).get? b=some o:=fun b hb=>by
  obtain ⟨o,e,_⟩:=T.obj _ _ st2 b hb
  exact ⟨o,Heap.get?_push_of_some _ e⟩
 have st3:tn 0 (s2.heap.push { cls:=.type "list",data:=.seq ([]:List Value).toArray }):=T.keep _ _ _ st2 fun b _ o e=>Heap.get?_push_of_some _ e
 generalize hh3:s2.heap.push { cls:=.type "list",data:=.seq ([]:List Value).toArray }=h3 at I3 o3 st3 ⊢
 refine newEnv_in ?_
 have k4:∀ b o,h3.get? b=some o->(pushCells (h3.push { cls:=.type "dict",data:=.dict #[] }) scope.names).get? b=some o:=fun b o e=>pushCells_keeps _ _ b o (Heap.get?_push_of_some _ e)
 have I4:=comp_invC c I3 f3 o3
 generalize hh4:pushCells (h3.push { cls:=.type "dict",data:=.dict #[] }) scope.names=h4 at I4 k4
 have st4:tn 0 h4:=T.keep _ _ _ st3 fun b _ o e=>k4 b o e
 obtain ⟨W,⟨m0,w0⟩,turn⟩:=h2 _ hD
 let s3:Shared:={ s2 with heap:=h3 }
 let Y:Cx:=X.compC scope h3.objs.size Nc s3 (upd H2 s2.heap.objs.size (.lst [])) fp
 have stat:∀ {H':Hp},(∀ b ∈ fp,H' b=none)->∀ b ∈ fp,FpOk Y [] H' b:=fun hn b hb=>⟨hn b hb,(I4.ok.exf b hb).1,I4.ok.exfs b hb,.inl hb,(I4.ok.exf b hb).2,(fun p hp=>nomatch hp)⟩
 have loop:codeAny (model X.prog X.w) X.A (.compLoop (.ListComp elt [⟨tg,iter,[],0⟩] scope pos) 0 (.ref it) (.ref s2.heap.objs.size) Y.env)
   (RR (.ref s2.heap.objs.size) h3.objs.size) { s2 with heap:=h4 }:=by
  refine codeAny_loop rfl (fun n s'=>∃ i σ' H',Inv Y [] σ' H' s'/\tn i s'.heap/\(∀ b ∈ fp,H' b=none)/\W i n σ' H') (fun n s5 hI=>?_) m0 ⟨0,_,_,I4,st4,fun b hb=>(f3 b hb).1,w0⟩
  obtain ⟨i,σ5,H5,I5,st5,fr5,w5⟩:=hI
  show wpAny _ X.A ((compTurn (.ListComp elt [⟨tg,iter,[],0⟩] scope pos) 0 (.ref it) (.ref s2.heap.objs.size) Y.env).onRaise (fun x=>do noteFrame x Y.env;theTreesLotGoes x)) _ _ s5
  refine wpAny_noted (wpAny_mono (E:=fun _ _=>False) ?_ (fun _ _ q=>q) fun _ _ z=>z.elim)
  rw [compTurn_list1]
  refine wpAny_bind (wpAny_standAt (wpAny_bind ?_))
  rcases turn i n σ5 H5 w5 with ⟨stop,qn⟩ | ⟨go,N,hN,step⟩
  ·refine thn (T.done Y rfl rfl rfl hc i [] s5 σ5 H5 _ I5 (stat fr5) st5 stop) fun r s6 ⟨hr,I6⟩=>?_
   subst hr
   refine wpAny_pure ?_
   exact fin _ _ s3 fp σ5 H5 s6 I3 f3 I6 qn
  ·refine thn (T.item Y rfl rfl rfl hc i [] s5 σ5 H5 _ I5 (stat fr5) st5 go) fun r s6 ⟨u,hr,h6⟩=>?_
   subst hr
   refine wpAny_bind (thn h6 fun _ s7 ⟨x,H7,I7,r7,y7,st7,fr7⟩=>?_)
   have I7':=I7.pinned (stat fr7) (T.obj _ _ st7)
   refine wpAny_bind (thn (hg _ _ _ _ _ s7 σ5 H7 x u _ I7' r7 (step x H7 y7)) fun _ s8 ⟨σ8,H8,I8,q8⟩=>?_)
   refine wpAny_bind (wpAny_bind (thn (he _ _ _ _ _ s8 σ8 H8 _ I8 q8) fun v s9 ⟨y,H9,I9,r9,ys,e9,z9,n9⟩=>?_))
   refine wpAny_bind (thn (jau (X:=Y) _ s9 σ8 H9 (.ref s2.heap.objs.size) [y] (.ref s2.heap.objs.size) [v] (fun w H'=>N σ8 H') I9 rfl (.cons r9 .nil) ⟨_,ys,y,rfl,rfl,of_lstOf e9,z9,n9⟩) fun w s10 ⟨_,H10,I10,_,n10⟩=>?_)
   refine wpAny_pure (wpAny_pure ⟨rfl,?_⟩)
   obtain ⟨m',hm,w10⟩:=hN σ8 H10 n10
   refine ⟨m',hm,i+1,σ8,H10,I10.unpinned,T.keep _ _ _ st7 fun b hb o e=>(I10.pin (b,o) (List.mem_append_right _ (List.mem_append_right _ (mem_pinsAt hb e)))).1,fun b hb=>?_,w10⟩
   obtain ⟨o,e,d⟩:=T.obj _ _ st7 b hb
   exact (I10.pin (b,o) (List.mem_append_right _ (List.mem_append_right _ (mem_pinsAt hb e)))).2.1
 exact codeAny_compStart_list loop (T.self _ 0 _ _ _ st4 loop)
theorem pe_compC (hc:X.calm=true) (c:CompOkC X scope Nc js) (hi:PI X tg iter wi) (hg:∀ C s3 H3 fp,PG (X.compC scope C Nc s3 H3 fp) tg g) (he:∀ C s3 H3 fp,PE (X.compC scope C Nc s3 H3 fp) elt te)
  (hs:∀ x,foldedSetIterable iter X.env x=pure x:=by intro _;rfl):PE X (.ListComp elt [⟨tg,iter,[],0⟩] scope pos) (tComp wi g js te):=by
 intro pins s σ H Q I h
 rw [eval_ListComp]
 refine wpAny_comprehension_free (use:=none) (g:=⟨tg,iter,[],0⟩) (gs:=[]) rfl hs (closure_of (c.has I)) c.kind c.loc
  (comp_coreC (RR:=fun acc C=>compPost (model X.prog X.w) X.A X.xe none (EP X pins σ Q) acc C) (NX:=fun D H'=>Q (.ref D) H') hc c hi hg he I h fun D H3 s3 fp σ5 H5 s6 I3 f3 I6 qn=>?_)
 obtain ⟨m,hn,_⟩:=I6.loc
 exact ⟨m,hn,fun h' hs'=>⟨.ref D,H5,comp_afterC I3 f3 I6 hs',rfl,qn⟩⟩
end
end L2
namespace L2
open PySem PySem.Spec PyProof.Rows
section
variable {X:Cx} {scope:Scope} {Nc:List Str} {js:List (Option Nat)} {elt tg iter:Expr} {pos:Pos} {wi:TI} {g:TG} {te:TE}
theorem qpe_compC (hc:X.calm=true) (c:CompOkC X scope Nc js) (hi:QI X tg iter wi) (hg:∀ C s3 H3 fp,QG (X.compC scope C Nc s3 H3 fp) tg g) (he:∀ C s3 H3 fp,QE (X.compC scope C Nc s3 H3 fp) elt te)
  (hs:∀ x,foldedSetIterable iter X.env x=pure x:=by intro _;rfl):QE X (.ListComp elt [⟨tg,iter,[],0⟩] scope pos) (tComp wi g js te):=⟨pe_compC hc c hi.h (fun C s H f=>(hg C s H f).h) (fun C s H f=>(he C s H f).h) hs⟩
def compChkC (sc:Scope) (N:List Str) (scope:Scope) (Nc:List Str) (js:List (Option Nat)):Bool :=
 (scope.kind == .function) && scope.names.all (fun y=>!(y.2 == .local) || scope.names.lookup y.1 == some .local) &&
 scope.names.all (fun y=>!(y.2 == .free) || ((sc.names.lookup y.1 == some .cell || sc.names.lookup y.1 == some .free) && !(scope.names.lookup y.1 == some .local) && !(scope.names.any fun z=>z.1 == y.1 && z.2 == .cell))) && (js.length == Nc.length) &&
 (List.range js.length).all (fun i=>match js[i]? with
  | some (some j)=>(N[j]? == Nc[i]?) && (match Nc[i]? with | some x=>scope.names.any (fun y=>y.1 == x && y.2 == .free) | none=>true)
  | _=>true)
theorem compOkC_of {sc scope:Scope} {N Nc:List Str} {js:List (Option Nat)} (hd:compChkC sc N scope Nc js=true) (hsc:X.env.scope=sc:=by rfl) (hN:X.N=N:=by rfl):CompOkC X scope Nc js:=by
 simp only [compChkC,Bool.and_eq_true,List.all_eq_true,Bool.or_eq_true,Bool.not_eq_true',beq_iff_eq,List.mem_range] at hd
 obtain ⟨⟨⟨⟨h1,h3⟩,h4⟩,h5⟩,h6⟩:=hd
 have kk:∀ x,X.env.kindOf x=sc.names.lookup x:=fun x=>by rw [← hsc];rfl
 refine ⟨h1,fun y hy e=>?_,fun y hy e=>?_,h5,fun x hx=>?_,fun i j x e1 e2=>?_,fun x hx=>?_⟩
 ·rcases h3 y hy with q | q
  ·rw [e] at q;cases q
  ·exact q
 ·rcases h4 y hy with q | q
  ·rw [e] at q;cases q
  ·rw [kk]
   exact q.1.1
 ·rcases h4 _ hx with q | q
  ·cases q
  ·intro z
   have q2:=q.1.2
   rw [z] at q2
   cases q2
 ·have hi:i < js.length:=(List.getElem?_eq_some_iff.mp e1).1
  have q:=h6 i hi
  rw [e1,e2] at q
  simp only [Bool.and_eq_true,beq_iff_eq,List.any_eq_true] at q
  refine ⟨by rw [hN];exact q.1,?_⟩
  obtain ⟨y,hy,hy1,hy2⟩:=q.2
  obtain ⟨a,b⟩:=y
  simp only at hy1 hy2
  subst hy1 hy2
  exact hy
 ·rcases h4 _ hx with q | q
  ·cases q
  ·intro z
   have q2:=q.2
   rw [List.any_eq_false] at q2
   exact q2 _ z (by simp)
def relabel0 (scope sc:Scope):Scope:={ scope with names:=scope.names.map fun (n,k)=>if (k == .free && sc.kind == .function && sc.names.lookup n == some .cell) then (n,.cell) else (n,k) }
end
end L2
namespace L2
open PySem PySem.Spec PyProof.Rows
section
variable {prog:Program} {w:World} {A:Around} {E:Value->Shared->Prop} {s:Shared}
end
end L2
namespace L2
open PySem PySem.Spec PyProof.Rows
section
variable {prog:Program} {w:World} {A:Around} {R:Result->Shared->Prop} {I:Addr} {fp wr:List Addr} {G:Array GenState->Array GenState->Prop} {n:Nat} {P:Nat->Value->Prop} {St:Nat->Shared->Prop}
end
section
variable {prog:Program} {w:World} {A:Around} {E:Value->Shared->Prop} {s:Shared}
end
end L2
namespace L2
open PySem PySem.Spec PyProof.Rows
section
variable {prog:Program} {w:World} {A:Around} {E:Value->Shared->Prop} {s:Shared}
end
end L2
namespace L2
open PySem PySem.Spec PyProof.Rows
section
variable {prog:Program} {w:World} {A:Around} {E:Value->Shared->Prop} {s:Shared}
end
end L2
namespace L2
open PySem PySem.Spec PyProof.Rows
section
variable {prog:Program} {w:World} {A:Around} {E:Value->Shared->Prop} {s:Shared}
end
end L2
namespace L2
open PySem PySem.Spec PyProof.Rows
section
variable {X:Cx} {pins:List (Addr × Obj)} {σ:L2.St} {H:Hp} {s:Shared}
end
end L2
namespace L2
open PySem PySem.Spec PyProof.Rows
def mxF (val:Nat->Int) (M:Int) (j:Nat):Nat->Int
 | 0=>M
 | k+1=>mxF val (if val j > M then val j else M) (j+1) k
def maxL:Int->List Int->Int
 | M,[]=>M
 | M,x::l=>maxL (if x > M then x else M) l
section
variable {prog:Program} {w:World} {A:Around} {E:Value->Shared->Prop} {R:Result->Shared->Prop} {I:Addr} {fp wr:List Addr} {n:Nat} {P:Nat->Value->Prop} {St:Nat->Heap->Prop} {s:Shared}
theorem tree_kw {id:String} {b:Builtin} {args:List Value} {kw:List (Str × Value)} {Q:Value->Shared->Prop} (hk:builtinKind id=none) (hp:plainId id=true) (hb:entryFor table id=some b) (ha:argsOk id ⟨args,kw⟩)
  (hc:wpAny (model prog w) A.in1 (b ⟨args,kw⟩) (fun fin s'=>match fin with
   | .done f=>(match (Except.ok f:Result) with | .ok (.ret v)=>Q v s' | .ok _=>False | .error e=>E e s')
   | .again c'=>c'.quiet=true/\codeAny (model prog w) A c' (fun r s'=>match r with | .ok (.ret v)=>Q v s' | .ok _=>False | .error e=>E e s') s') E s):wpAny (model prog w) A (call (.builtin id) args kw) Q E s:=by
 refine wpAny_call (codeAny_call_builtin hp hb ?_)
 simp only [checkBuiltinCall,hk]
 cases hsig:Manifest.signature? id with
 | none=>exact wpAny_pure hc
 | some sig =>
  have ha':Bind.checkArgs id sig ⟨args,kw⟩=pure ():=by simpa only [argsOk,hsig] using ha
  simp only [ha']
  exact wpAny_pure hc
theorem max_loopI {kw:List (Str × Value)} (W:Walks prog w A.in1 I fp wr n P St) (val:Nat->Int) (hval:∀ i v,P i v->∃ t,v=.int (val i) t) (S:Addr) (hSf:S ∉ fp) :
  ∀ (k j:Nat) (s:Shared) (M:Int) (tm:Tok) (c:Nat),n - j=k->j<=n->St j s.heap->s.heap.get? S=some { cls:=.type "list",dict:=none,data:=.seq #[.int M tm,.int M tm] c,slots:=#[] } ->
   (∀ (h':Heap) (tk:Nat) (t:Tok),(∀ b o,b ∉ S::wr->s.heap.get? b=some o->h'.get? b=some o)->R (.ok (.ret (.int (mxF val M j k) t))) { s with heap:=h',toks:=tk }) ->
   codeAny (model prog w) A (.builtin "max.loop" ⟨[.ref I,.none,.ref S],kw⟩) R s:=by
 have hSw:S ∉ wr:=fun h=>hSf (W.sub _ h)
 have nm:(toString "max"++toString ".loop":String)="max.loop":=by decide
 have nS:∀ {b:Addr},b ∉ S::wr->S≠b:=fun hb e=>hb (e ▸ List.mem_cons_self ..)
 have nW:∀ {b:Addr},b ∉ S::wr->b ∉ wr:=fun hb e=>hb (List.mem_cons_of_mem _ e)
 intro k
 induction k with
 | zero =>
  intro j s M tm c hk hj st hS hR
  have hjn:j=n:=by omega
  subst hjn
  refine codeAny_builtin PySem.F.entry_max_loop ?_
  rw [Around.under_plainId PySem.F.plain_max_loop _]
  refine show wpAny _ A.in1 (seqItems? (.ref S) >>= _) _ _ s from wpAny_bind (wpAny_seqItems hS rfl ?_)
  refine show wpAny _ A.in1 (tryCatch (pyNext (.ref I)) _ >>= _) _ _ s from wpAny_bind (wpAny_tryCatch (W.done s _ _ st fun h1 tk k1=>?_))
  have hS1:=k1 S _ hSw hS
  refine show wpAny _ A.in1 (updateSeq S (fun _=>#[]) >>= _) _ _ _ from wpAny_bind (wpAny_updateSeq hS1 rfl (wpAny_bind (wpAny_letGo (wpAny_pure ?_))))
  exact hR _ tk tm fun b o hb e=>(Heap.get?_update_other _ _ (nS hb)).trans (k1 b o (nW hb) e)
 | succ k ih =>
  intro j s M tm c hk hj st hS hR
  have hlt:j < n:=by omega
  refine codeAny_builtin PySem.F.entry_max_loop ?_
  rw [Around.under_plainId PySem.F.plain_max_loop _]
  refine show wpAny _ A.in1 (seqItems? (.ref S) >>= _) _ _ s from wpAny_bind (wpAny_seqItems hS rfl ?_)
  refine show wpAny _ A.in1 (tryCatch (pyNext (.ref I)) _ >>= _) _ _ s from wpAny_bind (wpAny_tryCatch (W.item j s _ _ hlt st fun v h1 tk hP st1 k1=>?_))
  obtain ⟨tv,rfl⟩:=hval j v hP
  have hS1:=k1 S _ hSw hS
  refine show wpAny _ A.in1 (tryCatch (holding [Value.int (val j) tv,.int (val j) tv] (richCompare .Gt (.int (val j) tv) (.int M tm) >>= _)) _ >>= _) _ _ _ from ?_
  refine wpAny_bind (wpAny_tryCatch (wpAny_holding (wpAny_bind (show wpAny _ A.in1 (compareOp .Gt (.int (val j) tv) (.int M tm)) _ _ _ from PyProof.Rows.gt_int ?_))))
  refine wpAny_bind (wpAny_holding (wpAny_truthy_bool (wpAny_bind (wpAny_letGo (wpAny_pure ?_)))))
  by_cases hb:val j > M
  ·rw [decide_eq_true hb,if_pos rfl]
   refine wpAny_bind (wpAny_updateSeq hS1 rfl (wpAny_bind (wpAny_letGo ?_)))
   rw [nm]
   refine wpAny_pure ⟨plainId_quiet PySem.F.plain_max_loop _,ih (j+1) _ (val j) tv _ (by omega) hlt (W.frame _ _ _ st1 fun b hbf o e=>(Heap.get?_update_other _ _ (fun q:S=b=>hSf (q ▸ hbf))).trans e) (Heap.get?_update_self _ hS1 rfl) fun h2 tk2 t k2=>?_⟩
   have:=hR h2 tk2 t fun b o hb e=>k2 b o hb ((Heap.get?_update_other _ _ (nS hb)).trans (k1 b o (nW hb) e))
   rwa [mxF,if_pos hb] at this
  ·rw [decide_eq_false hb,if_neg (by decide)]
   refine wpAny_bind (wpAny_letGo ?_)
   rw [nm]
   refine wpAny_pure ⟨plainId_quiet PySem.F.plain_max_loop _,ih (j+1) _ M tm c (by omega) hlt st1 hS1 fun h2 tk2 t k2=>?_⟩
   have:=hR h2 tk2 t fun b o hb e=>k2 b o hb (k1 b o (nW hb) e)
   rwa [mxF,if_neg hb] at this
theorem mxF_list:∀ (ns:List Int) (M:Int) (j:Nat) (all:List Int),all.drop j=ns->mxF (fun i=>all.getD i 0) M j ns.length=maxL M ns
 | [],M,j,all,_=>rfl
 | x::r,M,j,all,h=>by
  have hx:all.getD j 0=x:=by
   have:=congrArg (fun l:List Int=>l[0]?) h
   simp only [List.getElem?_drop,Nat.add_zero,List.getElem?_cons_zero] at this
   rw [List.getD_eq_getElem?_getD,this]
   rfl
  have hr:all.drop (j+1)=r:=by
   rw [← List.drop_drop,h]
   rfl
  rw [List.length_cons,mxF,maxL,hx]
  exact mxF_list r _ (j+1) all hr
theorem max_rest {kw:List (Str × Value)} {l:Addr} {its:List Value} {x:Int} {r:List Int} (hh:A.handled=none) (hl:s.heap.IsList l its.toArray) (hi:∀ (i:Nat) (v:Value),its[i]?=some v->∃ t,v=.int ((x::r).getD i 0) t) (hlen:its.length=(x::r).length)
  (S J:Addr) (hlJ:l≠J) (hlS:l≠S) (hJS:J≠S) (hJ:s.heap.get? J=some { cls:=.type "list_iterator",data:=.fields #[.ref l,.int 0 0] }) (hS:s.heap.get? S=some { cls:=.type "list",data:=.seq #[] })
  (hR:∀ (h':Heap) (tk:Nat) (t:Tok),(∀ b o,b≠S->b≠J->s.heap.get? b=some o->h'.get? b=some o)->R (.ok (.ret (.int (maxL x r) t))) { s with heap:=h',toks:=tk }) :
  codeAny (model prog w) A (.builtin "max.loop" ⟨[.ref J,.none,.ref S],kw⟩) R s:=by
 have W:=Walks.list (prog:=prog) (w:=w) (A:=A.in1) hh J l hlJ its.toArray
 have nm:(toString "max"++toString ".loop":String)="max.loop":=by decide
 have hSf:S ∉ [J,l]:=by simp [hJS.symm,hlS.symm]
 have hSw:S ∉ [J]:=by simp [hJS.symm]
 have hn:its.toArray.size=r.length+1:=by rw [List.size_toArray,hlen];rfl
 refine codeAny_builtin PySem.F.entry_max_loop ?_
 rw [Around.under_plainId PySem.F.plain_max_loop _]
 refine show wpAny _ A.in1 (seqItems? (.ref S) >>= _) _ _ s from wpAny_bind (wpAny_seqItems hS rfl ?_)
 refine show wpAny _ A.in1 (tryCatch (pyNext (.ref J)) _ >>= _) _ _ s from wpAny_bind (wpAny_tryCatch (W.item 0 s _ _ (by omega) ⟨⟨_,hJ,rfl,rfl⟩,hl⟩ fun v h1 tk hP st1 k1=>?_))
 obtain ⟨tv,rfl⟩:=hi 0 v (by simpa using hP)
 have hS1:=k1 S _ hSw hS
 refine show wpAny _ A.in1 (updateSeq S (fun _=>#[_,_]) >>= _) _ _ _ from wpAny_bind (wpAny_updateSeq hS1 rfl ?_)
 rw [nm]
 refine wpAny_pure ⟨plainId_quiet PySem.F.plain_max_loop _,max_loopI W (fun i=>(x::r).getD i 0) (fun i v h=>hi i v (by simpa using h)) S hSf r.length 1 _ x tv _ (by omega) (by omega) ?_ (Heap.get?_update_self _ hS1 rfl) fun h2 tk2 t k2=>?_⟩
 ·exact W.frame _ _ _ st1 fun b hb o e=>(Heap.get?_update_other _ _ (fun q:S=b=>hSf (q ▸ hb))).trans e
 ·have:=hR h2 tk2 t fun b o hb hb2 e=>k2 b o (by simp [hb,hb2]) ((Heap.get?_update_other _ _ (Ne.symm hb)).trans (k1 b o (by simp [hb2]) e))
  rwa [← mxF_list r x 1 (x::r) rfl] at this
theorem max_ints {kw:List (Str × Value)} {dv:Option Value} {l:Addr} {its:List Value} {ns:List Int} {Q:Value->Shared->Prop} (hh:A.handled=none) (hl:s.heap.IsList l its.toArray) (hi:∀ (i:Nat) (v:Value),its[i]?=some v->∃ t,v=.int (ns.getD i 0) t) (hlen:its.length=ns.length)
  (ha:argsOk "max" ⟨[.ref l],kw⟩) (hbind:Builtin.Builtins.bindParams "max" ["key","default"] 0 ⟨[],kw⟩=pure [none,dv]) (hdv:(dv.toList.map fun d=>(("default":Str),d))=kw) (hne:ns=[]->dv≠none)
  (h:∀ (h':Heap) (tk:Nat) (v:Value),(∀ b o,s.heap.get? b=some o->h'.get? b=some o)->(match ns with | []=>dv=some v | x::r=>∃ t,v=.int (maxL x r) t)->Q v { s with heap:=h',toks:=tk }) :
  wpAny (model prog w) A (call (.builtin "max") [.ref l] kw) Q E s:=by
 have nm:(toString "max"++toString ".loop":String)="max.loop":=by decide
 have hlt:l < s.heap.objs.size:=let ⟨_,g,_⟩:=hl;Heap.lt_size g
 refine tree_kw PySem.F.kind_max PySem.F.plain_max PySem.F.entry_max ha ?_
 refine show wpAny _ A.in1 (Builtin.Builtins.bindParams "max" ["key","default"] 0 ⟨[],kw⟩ >>= _) _ _ s from wpAny_bind (wpAny_of_eq hbind (wpAny_bind (wpAny_pure ?_)))
 refine wpAny_bind (wpAny_pyIter_list hl (wpAny_bind (wpAny_newObj_type ?_)))
 rw [nm]
 have hJ:((s.heap.push { cls:=.type "list_iterator",data:=.fields #[.ref l,.int 0 0] }).push { cls:=.type "list",data:=.seq ([]:List Value).toArray }).get? s.heap.objs.size=some { cls:=.type "list_iterator",data:=.fields #[.ref l,.int 0 0] }:=Heap.get?_push_of_some _ (Heap.get?_push_size _ rfl)
 have hS:((s.heap.push { cls:=.type "list_iterator",data:=.fields #[.ref l,.int 0 0] }).push { cls:=.type "list",data:=.seq ([]:List Value).toArray }).get? (s.heap.push { cls:=.type "list_iterator",data:=.fields #[.ref l,.int 0 0] }).objs.size=some { cls:=.type "list",data:=.seq #[] }:=Heap.get?_push_size _ rfl
 have hz:(s.heap.push { cls:=.type "list_iterator",data:=.fields #[.ref l,.int 0 0] }).objs.size=s.heap.objs.size+1:=Heap.size_push ..
 have kk:∀ b o,s.heap.get? b=some o->((s.heap.push { cls:=.type "list_iterator",data:=.fields #[.ref l,.int 0 0] }).push { cls:=.type "list",data:=.seq ([]:List Value).toArray }).get? b=some o:=fun b o e=>Heap.get?_push_of_some _ (Heap.get?_push_of_some _ e)
 have hl2:((s.heap.push { cls:=.type "list_iterator",data:=.fields #[.ref l,.int 0 0] }).push { cls:=.type "list",data:=.seq ([]:List Value).toArray }).IsList l its.toArray:=let ⟨o,g,c,d⟩:=hl;⟨o,kk l o g,c,d⟩
 generalize (s.heap.push { cls:=.type "list_iterator",data:=.fields #[.ref l,.int 0 0] }).push { cls:=.type "list",data:=.seq ([]:List Value).toArray }=h1 at hJ hS kk hl2
 rw [hz] at hS ⊢
 have hlJ:l≠s.heap.objs.size:=Nat.ne_of_lt hlt
 have hlS:l≠s.heap.objs.size+1:=Nat.ne_of_lt (Nat.lt_succ_of_lt hlt)
 have hJS:s.heap.objs.size≠s.heap.objs.size+1:=Nat.ne_of_lt (Nat.lt_succ_self _)
 refine wpAny_pure ⟨plainId_quiet PySem.F.plain_max_loop _,?_⟩
 have old:∀ b o,s.heap.get? b=some o->b≠s.heap.objs.size+1/\b≠s.heap.objs.size:=fun b o e=>⟨Nat.ne_of_lt (Nat.lt_succ_of_lt (Heap.lt_size e)),Nat.ne_of_lt (Heap.lt_size e)⟩
 cases ns with
 | cons x r=>exact max_rest (s:={ s with heap:=h1 }) hh hl2 hi hlen _ _ hlJ hlS hJS hJ hS fun h' tk t k=>h h' tk _ (fun b o e=>k b o (old b o e).1 (old b o e).2 (kk b o e)) ⟨t,rfl⟩
 | nil =>
  obtain ⟨d,rfl⟩:∃ d,dv=some d:=by
   cases dv with
   | none=>exact absurd rfl (hne rfl)
   | some d=>exact ⟨d,rfl⟩
  have W:=Walks.list (prog:=prog) (w:=w) (A:=A.in1) hh s.heap.objs.size l hlJ its.toArray
  have hn:its.toArray.size=0:=by rw [List.size_toArray,hlen];rfl
  refine codeAny_builtin PySem.F.entry_max_loop ?_
  rw [Around.under_plainId PySem.F.plain_max_loop _]
  refine show wpAny _ A.in1 (seqItems? (.ref (s.heap.objs.size+1)) >>= _) _ _ _ from wpAny_bind (wpAny_seqItems hS rfl ?_)
  refine show wpAny _ A.in1 (tryCatch (pyNext (.ref s.heap.objs.size)) _ >>= _) _ _ _ from wpAny_bind (wpAny_tryCatch (W.done _ _ _ (by rw [hn];exact ⟨⟨_,hJ,rfl,rfl⟩,hl2⟩) fun h2 tk k2=>?_))
  refine wpAny_bind (wpAny_rule (wpAny_pure ?_))
  exact h h2 tk d (fun b o e=>k2 b o (by simp [(old b o e).2]) (kk b o e)) rfl
end
section
variable {X:Cx}
theorem int_at2:∀ {ns:List Int} {us:List Value},Vals (ns.map V.int) us->us.length=ns.length/\∀ (i:Nat) (v:Value),us[i]?=some v->∃ t,v=.int (ns.getD i 0) t
 | [],_,.nil=>⟨rfl,fun i v h=>by simp at h⟩
 | n::ns,_,.cons h r=>by
  obtain ⟨t,rfl⟩:=h
  obtain ⟨h1,h2⟩:=int_at2 r
  refine ⟨by simp [h1],fun i v hv=>?_⟩
  cases i with
  | zero=>simp at hv;exact ⟨t,hv.symm⟩
  | succ i=>exact h2 i v (by simpa using hv)
def rMaxL:List V->Hp->VK->Prop:=fun xs H Q=>match xs with
 | [.ref l]=>∃ (x:Int) (r:List Int),H l=some (.lst ((x::r).map V.int))/\Q (.int (maxL x r)) H
 | _=>False
theorem call_maxL (hc:X.calm=true):CallR X (.builtin "max") rMaxL:=by
 intro pins s σ H xs us Q I r h
 unfold rMaxL at h
 split at h
 ·rename_i l
  obtain ⟨x,rs,e,q⟩:=h
  obtain ⟨u,rfl,ru⟩:=vals1 r
  cases ru
  obtain ⟨its,rr,pl,hz⟩:=I.list (SqL.of e)
  obtain ⟨h1,h2⟩:=int_at2 rr
  refine max_ints (kw:=[]) (dv:=none) (I.ok.hd hc) pl.isList h2 h1 (PySem.F.args_max1 _) rfl rfl (fun q=>nomatch q) fun h' tk v k hv=>?_
  obtain ⟨t,rfl⟩:=hv
  exact ⟨.int (maxL x rs),H,I.kept (t':=tk) k,⟨t,rfl⟩,q⟩
 ·exact h.elim
end
end L2
namespace L2
open PySem PySem.Spec PyProof.Rows
section
variable {X:Cx}
end
end L2
namespace L2
open PySem PySem.Spec PyProof.Rows
abbrev FZ (o:Obj):HO:=.frz o (.ext fun _=>True)
section
variable {P:Program} {w:World} {H H':Hp} {h h':Heap} {a:Addr} {o:Obj} {cs:List Addr}
theorem FZ.get (x:HOk P w H h) (e:H a=some (FZ o)):h.get? a=some o:=(x a _ e).1
theorem FZ.mk (e:h.get? a=some o):ObjOk P w H h a (FZ o):=⟨e,trivial,⟨o,e⟩,fun _ _ _ _=>trivial⟩
def hideC (H:Hp) (cs:List Addr):Hp:=fun b=>if b ∈ cs then none else H b
def backC (H H':Hp) (cs:List Addr):Hp:=fun b=>if b ∈ cs then H b else H' b
theorem hideC_in (m:a ∈ cs):hideC H cs a=none:=if_pos m
theorem hideC_out (m:a ∉ cs):hideC H cs a=H a:=if_neg m
theorem hideC_some {u:HO} (e:hideC H cs a=some u):a ∉ cs/\H a=some u:=by
 by_cases m:a ∈ cs
 ·rw [hideC_in m] at e;cases e
 ·exact ⟨m,by rwa [hideC_out m] at e⟩
theorem hideC_none (e:H a=none):hideC H cs a=none:=by unfold hideC;split <;> first | rfl | exact e
theorem backC_in (m:a ∈ cs):backC H H' cs a=H a:=if_pos m
theorem backC_out (m:a ∉ cs):backC H H' cs a=H' a:=if_neg m
theorem HOk.hideC (x:HOk P w H h) (fz:∀ c ∈ cs,∃ o,H c=some (FZ o)):HOk P w (hideC H cs) h:=fun b u q=>by
 obtain ⟨_,q'⟩:=hideC_some q
 refine (x b u q').stay (fun _ _ _ z=>z) (fun c z=>?_) fun c xs z=>?_
 ·rw [hideC_out fun m=>by obtain ⟨o,e⟩:=fz c m;rw [z] at e;cases e];exact z
 ·rw [hideC_out fun m=>by obtain ⟨o,e⟩:=fz c m;rw [z] at e;cases e];exact z
theorem Un.backC {fs:List Addr} (u:Un fs [] (hideC H cs) H' h h') (fz:∀ c ∈ cs,∃ o,H c=some (FZ o)):Un fs [] H (backC H H' cs) h h' where
 keep:=fun b o e n hb hx=>u.keep b o e (hideC_none n) hb hx
 slot:=fun b o e n hb hx=>u.slot b o e (hideC_none n) hb hx
 free:=fun b o e n hx=>by
  rw [backC_out fun m=>by obtain ⟨o,z⟩:=fz b m;rw [n] at z;cases z]
  exact u.free b o e (hideC_none n) hx
 there:=u.there
 tups:=fun b xs e=>by
  have m:b ∉ cs:=fun m=>by obtain ⟨o,z⟩:=fz b m;rw [e] at z;cases z
  rw [backC_out m];exact u.tups b xs (by rw [hideC_out m];exact e)
 frzs:=fun b o u' e=>by
  by_cases m:b ∈ cs
  ·rw [backC_in m];exact e
  ·rw [backC_out m];exact u.frzs b o u' (by rw [hideC_out m];exact e)
 tbls:=fun b ps e=>by
  have m:b ∉ cs:=fun m=>by obtain ⟨o,z⟩:=fz b m;rw [e] at z;cases z
  obtain ⟨more,q⟩:=u.tbls b ps (by rw [hideC_out m];exact e)
  exact ⟨more,by rw [backC_out m];exact q⟩
theorem HOk.backC {fs:List Addr} (x:HOk P w H h) (x':HOk P w H' h') (u:Un fs [] (L2.hideC H cs) H' h h') (fz:∀ c ∈ cs,∃ o,H c=some (FZ o)) (nf:∀ c ∈ cs,c ∉ fs):HOk P w (backC H H' cs) h':=fun b v q=>by
 by_cases m:b ∈ cs
 ·rw [backC_in m] at q
  obtain ⟨o,e⟩:=fz b m
  rw [e] at q
  cases Option.some.inj q
  exact FZ.mk (u.keep b o (FZ.get x e) (hideC_in m) (nf b m) (by simp))
 ·rw [backC_out m] at q
  have no:∀ c ∈ cs,H' c=none:=fun c hc=>by
   obtain ⟨o,e⟩:=fz c hc
   exact u.free c o (FZ.get x e) (hideC_in hc) (by simp)
  refine (x' b v q).stay (fun _ _ _ z=>z) (fun c z=>?_) fun c xs z=>?_
  ·rw [backC_out fun hc=>by rw [no c hc] at z;cases z];exact z
  ·rw [backC_out fun hc=>by rw [no c hc] at z;cases z];exact z
theorem Kp.backC {S:List Addr} (k:Kp S (L2.hideC H cs) H'):Kp S H (backC H H' cs):=by
 refine ⟨fun b o e n=>?_,fun b xs e=>?_,fun b o e=>?_⟩
 ·by_cases m:b ∈ cs
  ·rw [backC_in m];exact e
  ·rw [backC_out m];exact k.old b o (by rw [hideC_out m];exact e) n
 ·by_cases m:b ∈ cs
  ·rw [backC_in m];exact e
  ·rw [backC_out m];exact k.tup b xs (by rw [hideC_out m];exact e)
 ·by_cases m:b ∈ cs
  ·exact ⟨o,by rw [backC_in m];exact e⟩
  ·rw [backC_out m];exact k.dom b o (by rw [hideC_out m];exact e)
end
structure LamScope (ps fs:List Str) (sc:Scope):Prop where
 kind:sc.kind=.function
 co:sc.isCoroutine=false
 gen:sc.isGenerator=false
 nd:(ps++fs).Nodup
 par:∀ x ∈ ps,sc.names.lookup x=some .local
 nocell:∀ y ∈ sc.names,y.2≠.cell
 fr:∀ x ∈ fs,sc.names.lookup x=some .free
 only:∀ x,sc.names.lookup x=some .free->x ∈ fs
def cxLam (P:Program) (w:World) (K:PySem.W.Frag) (mg:Str->Option Value) (base:Heap) (N:List Str) (qual:Str) (scope:Scope) (f:Addr) (cd:Value) (cl:List (Str × Addr)) (A:Around) (outer:List Env) (s:Shared) (H:Hp):Cx where
 prog:=P
 w:=w
 K:=K
 mg:=mg
 base:=base
 A:=A.deeper (PySem.W.envX qual scope s.heap.objs.size f cd cl)
 N:=N
 s₀:=s
 H₀:=H
 env:=PySem.W.envX qual scope s.heap.objs.size f cd cl
 outer:=outer
 stack:=PySem.W.envX qual scope s.heap.objs.size f cd cl::outer
 ex:=[]
 calm:=true
 fn:=fun _=>false
 pn:=[]
 xe:=fun _ _=>False
structure Caps (H:Hp) (cl:List (Str × Addr)) (fs:List Str) (ws:List V):Prop where
 len:ws.length=fs.length
 at_:∀ (i:Nat) (x:Str) (v:V),fs[i]?=some x->ws[i]?=some v->∃ c o u,cl.lookup x=some c/\H c=some (FZ o)/\o.data=.cell (some u)/\RelV v u
 has:∀ x ∈ fs,∃ c,cl.lookup x=some c
 fz:∀ p ∈ cl,∃ o u,H p.2=some (FZ o)/\o.data=.cell u
 inj:∀ x y c,cl.lookup x=some c->cl.lookup y=some c->x=y
def CodeZ (H:Hp) (c:Addr) (qual:Str):Prop:=∃ oc vs t,H c=some (FZ oc)/\oc.data=.fields vs/\vs[1]?=some (.str qual t)
theorem zip_get {α β:Type}:∀ {l:List α} {m:List β} {i:Nat} {x:α} {y:β},l[i]?=some x->m[i]?=some y->(l.zip m)[i]?=some (x,y)
 | [],_,_,_,_,h,_=>by simp at h
 | _::_,[],_,_,_,_,h=>by simp at h
 | _::_,_::_,0,_,_,h,h'=>by simp at h h';subst h;subst h';rfl
 | _::l,_::m,i+1,_,_,h,h'=>by
  simp at h h'
  simpa using zip_get (l:=l) (m:=m) h h'
theorem lookup_rev {ps:List Str} {us:List Value} (nd:ps.Nodup) {i:Nat} {x:Str} {u:Value} (h:ps[i]?=some x) (h':us[i]?=some u):(ps.zip us).reverse.lookup x=some u:=by
 have key:∀ (l:List (Str × Value)),(l.map Prod.fst).Nodup->(x,u) ∈ l->l.lookup x=some u:=by
  intro l
  induction l with
  | nil=>intro _ m;cases m
  | cons q l ih =>
   intro nd m
   obtain ⟨y,v⟩:=q
   rw [List.map_cons,List.nodup_cons] at nd
   rcases List.mem_cons.mp m with e | m
   ·cases e;simp [List.lookup]
   ·have:x≠y:=fun e=>nd.1 (by rw [← e];exact List.mem_map.mpr ⟨(x,u),m,rfl⟩)
    rw [List.lookup_cons]
    have b:(x == y)=false:=by simpa using this
    rw [b]
    exact ih nd.2 m
 refine key _ ?_ (List.mem_reverse.mpr (List.mem_of_getElem? (zip_get h h')))
 rw [List.map_reverse]
 refine (List.reverse_perm _).nodup_iff.mpr ?_
 have:∀ (l:List Str) (m:List Value),((l.zip m).map Prod.fst).Sublist l:=by
  intro l
  induction l with
  | nil=>intro m;simp
  | cons y l ih =>
   intro m
   cases m with
   | nil=>simp
   | cons v m=>exact (ih m).cons₂ y
 exact nd.sublist (this ps us)
section
variable {P:Program} {w:World} {K:PySem.W.Frag} {mg:Str->Option Value} {base:Heap} {k:Nat} {f c':Addr} {name qual:Str} {params:Arguments} {body:Expr} {scope:Scope} {pm ct:Value} {ps fs:List Str} {cl:List (Str × Addr)} {sp:Sp}
theorem inv_lam {A:Around} {outer:List Env} {s:Shared} {h1:Heap} {tk:Tok} {H:Hp} {us:List Value} {vs ws:List V} (S:LamScope ps fs scope) (hd:A.handled=none) (e0:Env0 P w K mg base A outer s H) (hl:vs.length=ps.length) (r:Vals vs us) (cap:Caps H cl fs ws)
  (hns:h1.Ns s.heap.objs.size fun y=>(ps.zip us).reverse.lookup y) (hk:∀ b o,s.heap.get? b=some o->h1.get? b=some o) :
  Inv (cxLam P w K mg base (ps++fs) qual scope f (.ref c') cl A outer s (hideC H (cl.map Prod.snd))) [] (vs.map some++ws.map some) (hideC H (cl.map Prod.snd)) { s with heap:=h1,toks:=tk }:=by
 have fz:∀ c ∈ cl.map Prod.snd,∃ o,H c=some (FZ o):=fun c hc=>by
  obtain ⟨p,hp,rfl⟩:=List.mem_map.mp hc
  obtain ⟨o,u,e,_⟩:=cap.fz p hp
  exact ⟨o,e⟩
 have hok:=HOk.hideC e0.hok fz
 have inC:∀ x c,cl.lookup x=some c->c ∈ cl.map Prod.snd:=fun x c e=>List.mem_map.mpr ⟨(x,c),PySem.mem_of_lookup e,rfl⟩
 have noA:∀ b:Addr,b ∉ (cxLam P w K mg base (ps++fs) qual scope f (.ref c') cl A outer s (hideC H (cl.map Prod.snd))).ex:=fun b z=>absurd (show b ∈ ([]:List Addr) from z) (by simp)
 refine ⟨⟨e0.mod,S.kind,rfl,rfl,Nat.le_refl _,cap.inj,fun y hy=>?_,fun y c z=>(by cases z),fun _=>hd,Around.frames_deeper e0.frames,.inr ⟨rfl,rfl⟩,fun b z=>absurd z (noA b),fun b o e=>⟨(e0.bs b o e).1,hideC_none (e0.bs b o e).2⟩,e0.bsz,fun b _ _=>noA b,fun b z=>absurd z (noA b),e0.funs,fun b z=>hideC_none (e0.frf b z)⟩,
  rfl,e0.bare,Un.kept hk,⟨_,hns,fun i y v q1 q2 q3=>?_⟩,fun y c h=>?_,hideC_none (e0.hok.fresh (Nat.le_refl _)),fun y c h=>hideC_in (inC y c h),fun p hp=>absurd (show p ∈ ([]:List (Addr × Obj)) from hp) (by simp),hok.kept hk,?_⟩
 ·have hy:scope.names.lookup y=some .cell∨scope.names.lookup y=some .free:=hy
  rcases hy with hy | hy
  ·exact absurd rfl (S.nocell _ (PySem.mem_of_lookup hy))
  ·exact cap.has y (S.only y hy)
 ·have q1:(ps++fs)[i]?=some y:=q1
  by_cases hi:i < ps.length
  ·rw [List.getElem?_append_left hi] at q1
   rw [List.getElem?_append_left (by rw [List.length_map];omega),List.getElem?_map] at q2
   have ha:vs[i]?=some v:=by
    cases e:vs[i]? with
    | none=>rw [e] at q2;cases q2
    | some a=>rw [e] at q2;cases q2;rfl
   obtain ⟨u,hu,rv⟩:=r.get ha
   exact ⟨u,rv,.inl ⟨S.par y (List.mem_of_getElem? q1),lookup_rev (S.nd.sublist (List.sublist_append_left _ _)) q1 hu⟩⟩
  ·rw [List.getElem?_append_right (by omega)] at q1
   rw [List.getElem?_append_right (by rw [List.length_map];omega),List.length_map,hl,List.getElem?_map] at q2
   have ha:ws[i - ps.length]?=some v:=by
    cases e:ws[i - ps.length]? with
    | none=>rw [e] at q2;cases q2
    | some a=>rw [e] at q2;cases q2;rfl
   obtain ⟨c,o,u,e1,e2,e3,rv⟩:=cap.at_ _ y v q1 ha
   exact ⟨u,rv,.inr ⟨.inr (S.fr y (List.mem_of_getElem? q1)),c,e1,o,hk _ _ (FZ.get e0.hok e2),e3⟩⟩
 ·obtain ⟨o,u,e,d⟩:=cap.fz (y,c) (PySem.mem_of_lookup h)
  exact ⟨u,o,hk _ _ (FZ.get e0.hok e),d⟩
 ·show (vs.map some++ws.map some).length=(ps++fs).length
  rw [List.length_append,List.length_append,List.length_map,List.length_map,hl,cap.len]
theorem fn_lam (S:LamScope ps fs scope) (len:∀ vs H Q E,sp vs H Q E->vs.length=ps.length)
  (hbody:∀ (vs:List V) (H:Hp) (Q:VK) (E:XK),sp vs H Q E->H f=some (FZ (PySem.W.kla_obj name qual params body scope cl pm c' ct))/\CodeZ H c' qual/\∃ ws,Caps H cl fs ws /\
   ∀ (A:Around) (outer:List Env) (s:Shared),Room k (A.deeper (PySem.W.envX qual scope s.heap.objs.size f (.ref c') cl)) ->
    ∃ t,PE (cxLam P w K mg base (ps++fs) qual scope f (.ref c') cl A outer s (hideC H (cl.map Prod.snd))) body t/\t (vs.map some++ws.map some) (hideC H (cl.map Prod.snd)) fun v H'=>(∀ c ∈ cl.map Prod.snd,H' c=none)->Q v (backC H H' (cl.map Prod.snd))) :
  FnOk P w K mg base CX0 (k+1) f (PySem.W.kla_fn name qual params body scope cl pm (.ref c') ct) ps sp:=by
 refine ⟨len,fun A outer s H args us vs Q E hr e0 hb r hsp=>?_⟩
 have hl:=len _ _ _ _ hsp
 obtain ⟨hf,⟨oc,vc,tc,hc,hoc,hv1⟩,ws,cap,hb0⟩:=hbody vs H Q E hsp
 have lim:s.heap.NoLimit:=e0.mod.nolimit.keeps fun b o e=>(e0.bs b o e).1
 have fz:∀ c ∈ cl.map Prod.snd,∃ o,H c=some (FZ o):=fun c hc=>by
  obtain ⟨p,hp,rfl⟩:=List.mem_map.mp hc
  obtain ⟨o,u,e,_⟩:=cap.fz p hp
  exact ⟨o,e⟩
 refine PySem.W.kla_callFunE hr.depth (FZ.get e0.hok hf) rfl S.co S.gen rfl ⟨c',oc,vc,tc,rfl,FZ.get e0.hok hc,hoc,hv1⟩ (hb _ _ _ _ ?_)
 refine wpAny_newFunctionEnv S.nocell (fun y hy=>S.par _ (List.of_mem_zip hy).1) (fun h1 hns hsb=>⟨lim.fresh _ hsb,?_⟩) S.kind
 show codeAny _ _ (.expr body (PySem.W.envX qual scope s.heap.objs.size f (.ref c') cl)) _ _
 have hk:∀ b o,s.heap.get? b=some o->h1.get? b=some o:=fun b o e=>hsb.extBut b o (Nat.ne_of_lt (Heap.lt_size e)) (Heap.get?_push_of_some _ e)
 obtain ⟨t,ht,hq⟩:=hb0 A outer s (hr.deeper _)
 have I:=inv_lam (f:=f) (c':=c') (qual:=qual) (tk:=s.toks+(ps.zip us).length) S hr.hd e0 hl r cap hns hk
 refine PySem.W.kla_codeExpr (wpAny_mono (ht [] _ _ _ _ I hq) (fun u s' hs=>?_) fun e s' hs=>False.elim hs)
 obtain ⟨v,H',J,rv,q⟩:=hs
 have nf:∀ c ∈ cl.map Prod.snd,c ∉ frs outer:=fun c hc z=>by
  obtain ⟨o,e⟩:=fz c hc
  rw [e0.frf c z] at e;cases e
 exact ⟨v,_,J.os,J.bare,Un.backC J.base fz,HOk.backC e0.hok J.hok J.base fz nf,rv,q fun c hc=>by
  obtain ⟨o,e⟩:=fz c hc
  exact J.base.free c o (FZ.get e0.hok e) (hideC_in hc) (by intro z;exact absurd (show c ∈ ([]:List Addr) from z) (by simp))⟩
end
end L2
namespace L2
open PySem PySem.Spec PyProof.Rows
section
variable {X:Cx}
def tCallD (P:Program) (w:World) (K:PySem.W.Frag) (mg:Str->Option Value) (base:Heap) (k i:Nat) (t:TA):TE:=fun σ H Q=>∃ (f:Addr) (o:Obj) (fd:FuncData) (ps:List Str) (sp:Sp),σ[i]?=some (some (.ref f))/\o.data=.func fd /\
 FnOk P w K mg base CX0 k f fd ps sp/\Binds K fd ps []/\t σ H fun vs H1=>H1 f=some (FZ o)/\sp vs H1 Q E0
theorem pe_callD {P:Program} {w:World} {K:PySem.W.Frag} {mg:Str->Option Value} {base:Heap} (hP:X.prog=P) (hw:X.w=w) (hK:X.K=K) (hM:X.mg=mg) (hB:X.base=base) {k:Nat} {x:Str} {p pos:Pos} {e:Expr} {es:List Expr} {t:TA} (i:Nat) (hr:Room k X.A) (ha:PA X (e::es) t)
  (hN:X.N[i]?=some x:=by rfl) (hv:Vis X.env.scope x:=by first | exact Or.inl rfl | exact Or.inr (Or.inl rfl) | exact Or.inr (Or.inr rfl))
  (hdb:(x == ("__debug__":Str))=false:=by decide) (hcd:(x == ("__classdict__":Str))=false:=by decide) (he:starEach (e::es) X.env=(false,eval e X.env)::starEach es X.env:=by rfl) :
  PE X (.Call (.Name x p) (e::es) [] pos) (tCallD P w K mg base k i t):=by
 subst hP;subst hw;subst hK;subst hM;subst hB
 intro pins s σ H Q I h
 obtain ⟨f,o,fd,ps,sp,e0,hd,F,hb,h⟩:=h
 refine wpAny_Call_Name_kw (thn (jcj hN hv hdb hcd pins s σ H (fun v H'=>v=.ref f/\t σ H' fun vs H1=>H1 f=some (FZ o)/\sp vs H1 Q E0) I ⟨_,e0,rfl,h⟩) fun u s1 ⟨v,H1,I1,r,hv1,h1⟩=>?_)
 subst hv1
 cases r
 refine callWith_def (o:=o) (fd:=fd) hd (thn (ha pos pins s1 σ H1 _ I1 h1) fun us s2 ⟨vs,H2,I2,r2,q1,q2⟩=>⟨FZ.get I2.hok q1,?_⟩) he
 exact run_fn F hr hb .nil j9 I2 r2 (by rw [List.append_nil];exact q2)
def showC (H:Hp) (cs:List (Addr × Obj)):Hp:=fun b=>match cs.lookup b with
 | some o=>some (FZ o)
 | none=>H b
theorem showC_in {H:Hp} {cs:List (Addr × Obj)} {b:Addr} {o:Obj} (e:cs.lookup b=some o):showC H cs b=some (FZ o):=by unfold showC;rw [e]
theorem showC_out {H:Hp} {cs:List (Addr × Obj)} {b:Addr} (e:cs.lookup b=none):showC H cs b=H b:=by unfold showC;rw [e]
theorem lookup_mem {cs:List (Addr × Obj)} {b:Addr} (h:b ∈ cs.map Prod.fst):∃ o,cs.lookup b=some o:=by
 cases e:cs.lookup b with
 | some o=>exact ⟨o,rfl⟩
 | none =>
  obtain ⟨p,hp,rfl⟩:=List.mem_map.mp h
  have:=List.lookup_eq_none_iff.mp e p hp
  simp at this
theorem lookup_notin {cs:List (Addr × Obj)} {b:Addr} (h:b ∉ cs.map Prod.fst):cs.lookup b=none:=by
 refine List.lookup_eq_none_iff.mpr fun p hp=>?_
 simp only [bne_iff_ne,ne_eq]
 rintro rfl
 exact h (List.mem_map.mpr ⟨p,hp,rfl⟩)
theorem Inv.env0C {pins:List (Addr × Obj)} {σ:St} {H:Hp} {s:Shared} {cs:List (Addr × Obj)} (I:Inv X pins σ H s) (hc:∀ b o,cs.lookup b=some o->s.heap.get? b=some o/\H b=none/\X.base.get? b=none/\b ∉ frs X.stack) :
  Env0 X.prog X.w X.K X.mg X.base X.A X.stack s (showC H cs):=by
 have e:=I.env0
 refine ⟨e.frames,e.mod,fun b o q=>⟨(e.bs b o q).1,?_⟩,e.bsz,e.funs,fun b hb=>?_,fun b u q=>?_,e.bare⟩
 ·cases z:cs.lookup b with
  | some o'=>rw [(hc b o' z).2.2.1] at q;cases q
  | none=>rw [showC_out z];exact (e.bs b o q).2
 ·cases z:cs.lookup b with
  | some o'=>exact absurd hb (hc b o' z).2.2.2
  | none=>rw [showC_out z];exact e.frf b hb
 ·cases z:cs.lookup b with
  | some o' =>
   rw [showC_in z] at q
   cases Option.some.inj q
   exact FZ.mk (hc b o' z).1
  | none =>
   rw [showC_out z] at q
   have no:∀ c,(∃ v,H c=some v)->showC H cs c=H c:=fun c ⟨v,hv⟩=>showC_out (by
    cases y:cs.lookup c with
    | none=>rfl
    | some o=>rw [(hc c o y).2.1] at hv;cases hv)
   exact (e.hok b u q).stay (fun _ _ _ y=>y) (fun c y=>by rw [no c ⟨_,y⟩];exact y) fun c xs y=>by rw [no c ⟨_,y⟩];exact y
theorem Un.hideS {fs:List Addr} {P:Program} {w:World} {H H':Hp} {h h':Heap} {cs:List (Addr × Obj)} (u:Un fs [] (showC H cs) H' h h') (x':HOk P w H' h') (hc:∀ b o,cs.lookup b=some o->h.get? b=some o/\H b=none):Un fs [] H (hideC H' (cs.map Prod.fst)) h h':=by
 have out:∀ b v,H b=some v->cs.lookup b=none:=fun b v e=>by
  cases y:cs.lookup b with
  | none=>rfl
  | some o=>rw [(hc b o y).2] at e;cases e
 have nin:∀ b v,H b=some v->b ∉ cs.map Prod.fst:=fun b v e m=>by
  obtain ⟨o,y⟩:=lookup_mem m
  rw [out b v e] at y;cases y
 have kept:∀ b o,cs.lookup b=some o->h'.get? b=some o:=fun b o z=>FZ.get x' (u.frzs b o _ (showC_in z))
 refine ⟨fun b o e n hb hx=>?_,fun b o e n hb hx=>?_,fun b o e n hx=>?_,u.there,fun b xs e=>?_,fun b o v e=>?_,fun b ps e=>?_⟩
 ·cases z:cs.lookup b with
  | some o' =>
   have:=(hc b o' z).1
   rw [e] at this;cases this
   exact kept b o z
  | none=>exact u.keep b o e (by rw [showC_out z];exact n) hb hx
 ·cases z:cs.lookup b with
  | some o' =>
   have:=(hc b o' z).1
   rw [e] at this;cases this
   exact ⟨o.slots,kept b o z⟩
  | none=>exact u.slot b o e (by rw [showC_out z];exact n) hb hx
 ·cases z:cs.lookup b with
  | some o' =>
   refine hideC_in (Classical.byContradiction fun m=>?_)
   rw [lookup_notin m] at z;cases z
  | none=>exact hideC_none (u.free b o e (by rw [showC_out z];exact n) hx)
 ·rw [hideC_out (nin b _ e)];exact u.tups b xs (by rw [showC_out (out b _ e)];exact e)
 ·rw [hideC_out (nin b _ e)];exact u.frzs b o v (by rw [showC_out (out b _ e)];exact e)
 ·obtain ⟨more,q⟩:=u.tbls b ps (by rw [showC_out (out b _ e)];exact e)
  exact ⟨more,by rw [hideC_out (nin b _ e)];exact q⟩
variable {pins:List (Addr × Obj)} {σ:St} {H:Hp} {s:Shared}
def CellsAt (σ:St) (H:Hp) (js:List (Nat × Addr)) (cs:List (Addr × Obj)):Prop :=
 Paired (fun (j:Nat × Addr) (p:Addr × Obj)=>p.1=j.2/\H j.2=none/\∃ v u,σ[j.1]?=some (some v)/\p.2.data=.cell (some u)/\RelV v u) js cs
theorem Inv.cellAt (I:Inv X pins σ H s) {i:Nat} {c:Addr} {x:Str} {v:V} (hN:X.N[i]?=some x) (hk:X.env.kindOf x=some .cell) (hf:X.fn x=true) (hl:X.env.cells.lookup x=some c) (e:σ[i]?=some (some v)) :
  ∃ o u,s.heap.get? c=some o/\o.data=.cell (some u)/\RelV v u/\H c=none/\X.base.get? c=none/\c ∉ frs X.stack:=by
 obtain ⟨m,hns,loc⟩:=I.loc
 obtain ⟨u,rv,lk⟩:=loc i x v hN e (.inr (.inl hk))
 rcases lk with ⟨k,_⟩ | ⟨_,c',e',o,ho,hd⟩
 ·rw [hk] at k;cases k
 ·rw [hl] at e'
  cases Option.some.inj e'
  have ge:=I.ok.cab x c hf hl
  refine ⟨o,u,ho,hd,rv,I.freeC x c hl,Heap.get?_none_of_le (Nat.le_trans I.ok.bsz ge),fun hb=>?_⟩
  rcases List.mem_cons.mp (I.stkSub c hb) with z | z
  ·obtain ⟨ol,es,ep,e1,e2,_⟩:=hns
   rw [← z,ho] at e1
   cases Option.some.inj e1
   rw [hd] at e2;cases e2
  ·obtain ⟨_,ob,hob,_⟩:=I.ok.funs.mem z
   exact absurd (Heap.lt_size hob) (Nat.not_lt.mpr ge)
theorem cells_of (I:Inv X pins σ H s):∀ {js:List (Nat × Addr)},(∀ j ∈ js,∃ x,X.N[j.1]?=some x/\X.env.kindOf x=some .cell/\X.fn x=true/\X.env.cells.lookup x=some j.2)->(∀ j ∈ js,∃ v,σ[j.1]?=some (some v)) ->
  ∃ cs,CellsAt σ H js cs/\∀ b o,cs.lookup b=some o->s.heap.get? b=some o/\H b=none/\X.base.get? b=none/\b ∉ frs X.stack
 | [],_,_=>⟨[],.nil,fun b o z=>by cases z⟩
 | j::js,h1,h2=>by
  obtain ⟨cs,pr,hc⟩:=cells_of I (js:=js) (fun i hi=>h1 i (.tail _ hi)) fun i hi=>h2 i (.tail _ hi)
  obtain ⟨x,e1,e2,e3,e4⟩:=h1 j (.head _)
  obtain ⟨v,e5⟩:=h2 j (.head _)
  obtain ⟨o,u,q1,q2,q3,q4,q5,q6⟩:=I.cellAt e1 e2 e3 e4 e5
  refine ⟨(j.2,o)::cs,.cons ⟨rfl,q4,v,u,e5,q2,q3⟩ pr,fun b o' z=>?_⟩
  rw [List.lookup_cons] at z
  split at z
  ·rename_i hb
   cases Option.some.inj z
   have:b=j.2:=by simpa using hb
   subst this
   exact ⟨q1,q4,q5,q6⟩
  ·exact hc b o' z
end
end L2
namespace L2
open PySem PySem.Spec PyProof.Rows
theorem among_snoc {pos pos':Pos} {c:Value} (l:List Value) (h:TriplesOk l) {v:Value} (e:codeAmong pos' (l++[rawInt pos.line,rawInt pos.col,c])=some v):codeAmong pos' l=some v∨v=c:=by
 fun_induction TriplesOk l with
 | case1 =>
  simp only [List.nil_append,codeAmong,rawInt] at e
  split at e
  ·exact .inr (Option.some.inj e).symm
  ·cases e
 | case2 a t b u x rest ih =>
  simp only [List.cons_append,codeAmong] at e ⊢
  split at e
  ·rename_i hc;rw [if_pos hc];exact .inl e
  ·rename_i hc;rw [if_neg hc];exact ih h e
 | case3 l h1 h2=>exact h.elim
def TabOk (H:Hp) (Pt:Addr) (qual:Str):Prop:=∃ ps,H Pt=some (.tbl ps)/\TriplesOk ps.toList/\∀ pos cv,codeAmong pos ps.toList=some cv->∃ c,cv=.ref c/\CodeZ H c qual
theorem CodeZ.kp {S:List Addr} {H H':Hp} {c:Addr} {qual:Str} (k:Kp S H H') (n:c ∉ S) (x:CodeZ H c qual):CodeZ H' c qual:=let ⟨oc,vs,t,e,r⟩:=x;⟨oc,vs,t,k.old _ _ e n,r⟩
def tLam (Pt:Addr) (qual:Str) (params:Arguments) (body:Expr) (scope:Scope) (cl:List (Str × Addr)) (pm:Value):TE:=fun σ H Q=>TabOk H Pt qual/\∀ f c ct H',H f=none->Kp [Pt] H H'->H' f=some (FZ (PySem.W.kla_obj "<lambda>" qual params body scope cl pm c ct))->CodeZ H' c qual->TabOk H' Pt qual->Q (.ref f) H'
section
variable {X:Cx}
theorem pe_lambda {params:Arguments} {body:Expr} {scope:Scope} {pos:Pos} {c Pt:Addr} {cl:List (Str × Addr)} (hdef:defaultsOf params X.env=([],[])) (hcl:closureFor scope X.env=pure cl) (hcode:X.env.code=.ref c) (hC:PySem.W.CodeHd X.base c Pt) (hbt:X.base.BuiltinsAt X.mg Pt) :
  PE X (.Lambda params body scope pos) (tLam Pt (X.env.qual++"<lambda>") params body scope cl ((X.mg "__name__").getD .none)):=by
 intro pins s σ H Q I h
 obtain ⟨⟨ps,hP,ht,hin⟩,h⟩:=h
 have oP:s.heap.get? Pt=some (PySem.W.tabObj ps):=I.hok Pt _ hP
 have hgs:s.heap.Ns mainGlobals X.mg:=I.mod.glob.keeps I.bk
 have hgP:mainGlobals≠Pt:=fun q=>by
  obtain ⟨o,es,ep,e,hd,_⟩:=hgs
  rw [q,oP] at e;cases e;cases hd
 have hb:s.heap.BuiltinsAt X.mg Pt:=let ⟨bm,o,b1,b2,b3,b4,b5,r⟩:=hbt;⟨bm,o,b1,b2,b3,b4,I.bk _ _ b5,r⟩
 have C:=hC.keeps I.bk
 refine PySem.W.kla_eval hdef ?_
 cases hf:codeAmong pos ps.toList with
 | some cv =>
  obtain ⟨c',rfl,cz⟩:=hin pos cv hf
  refine PySem.W.kla_makeFunctionHit (mg:=X.mg) hcl I.ok.glob hgs hcode C oP ht hf hb fun ctv h' tk hk hsz=>?_
  have hf:H h'.objs.size=none:=I.hok.fresh hsz
  have kp:Kp [Pt] H (upd H h'.objs.size (FZ (PySem.W.kla_obj "<lambda>" (X.env.qual++"<lambda>") params body scope cl ((X.mg "__name__").getD .none) c' ctv))):=(Kp.refl [Pt] H).new hf
  have kp0:Kp [] H (upd H h'.objs.size (FZ (PySem.W.kla_obj "<lambda>" (X.env.qual++"<lambda>") params body scope cl ((X.mg "__name__").getD .none) c' ctv))):=(Kp.refl [] H).new hf
  refine ⟨.ref h'.objs.size,_,I.laid (t':=tk) (fun b u e=>Heap.get?_push_of_some _ (hk b u e)) hsz (FZ.mk (Heap.get?_push_size _ rfl)),rfl,h _ c' ctv _ hf kp jb (cz.kp kp0 (by simp)) ⟨ps,kp0.old _ _ hP (by simp),ht,fun p v e=>?_⟩⟩
  obtain ⟨c2,e2,z⟩:=hin p v e
  exact ⟨c2,e2,z.kp kp0 (by simp)⟩
 | none =>
  refine PySem.W.kla_makeFunction (mg:=X.mg) hcl I.ok.glob hgs hcode C oP ht hf hgP hb fun c' ctv h' tk hx hge hlt hrec htb=>?_
  obtain ⟨c₂,oc,vs,t,e2,hoc,hd,hv⟩:=hrec
  cases e2
  have lP:Pt < s.heap.objs.size:=Heap.lt_size oP
  have lt:∀ b u,H b=some u->b < s.heap.objs.size:=fun b u e=>(I.hok b u e).lt
  have nPc:Pt≠c':=Nat.ne_of_lt (Nat.lt_of_lt_of_le lP hge)
  have nPf:Pt≠h'.objs.size:=Nat.ne_of_lt (Nat.lt_trans (Nat.lt_of_lt_of_le lP hge) hlt)
  have ncf:c'≠h'.objs.size:=Nat.ne_of_lt hlt
  have fC:H c'=none:=I.hok.fresh hge
  have fF:H h'.objs.size=none:=I.hok.fresh (Nat.le_trans hge (Nat.le_of_lt hlt))
  let o1:Obj:=PySem.W.kla_obj "<lambda>" (X.env.qual++"<lambda>") params body scope cl ((X.mg "__name__").getD .none) c' ctv
  let ps':Array Value:=ps++#[rawInt pos.line,rawInt pos.col,.ref c']
  let H':Hp:=upd (upd (upd H Pt (.tbl ps')) c' (FZ oc)) h'.objs.size (FZ o1)
  have eF:H' h'.objs.size=some (FZ o1):=jb
  have eC:H' c'=some (FZ oc):=by show upd _ _ _ c'=_;rw [jc ncf,jb]
  have eP:H' Pt=some (.tbl ps'):=by show upd _ _ _ Pt=_;rw [jc nPf,jc nPc,jb]
  have eO:∀ b,b≠Pt->b≠c'->b≠h'.objs.size->H' b=H b:=fun b n1 n2 n3=>by show upd _ _ _ b=_;rw [jc n3,jc n2,jc n1]
  have eS:∀ b,b < s.heap.objs.size->b≠Pt->H' b=H b:=fun b l n=>eO b n (Nat.ne_of_lt (Nat.lt_of_lt_of_le l hge)) (Nat.ne_of_lt (Nat.lt_trans (Nat.lt_of_lt_of_le l hge) hlt))
  have kp:Kp [Pt] H H':=by
   refine ⟨fun b o e n=>?_,fun b xs e=>?_,fun b o e=>?_⟩
   ·rw [eS b (lt b _ e) (by simpa using n)];exact e
   ·rw [eS b (lt b _ e) (fun z=>by rw [z,hP] at e;cases e)];exact e
   ·by_cases z:b=Pt
    ·exact ⟨_,by rw [z];exact eP⟩
    ·exact ⟨o,by rw [eS b (lt b _ e) z];exact e⟩
  have kept:∀ b o,b≠Pt->s.heap.get? b=some o->(h'.push o1).get? b=some o:=fun b o n e=>Heap.get?_push_of_some _ (hx b o n e)
  have un:Un (frs X.stack) [] H H' s.heap (h'.push o1):=by
   refine ⟨fun b o e n _ _=>kept b o (fun z=>by rw [z,hP] at n;cases n) e,fun b o e n _ _=>⟨o.slots,kept b o (fun z=>by rw [z,hP] at n;cases n) e⟩,fun b o e n _=>?_,fun b o e _=>?_,fun b xs e=>kp.tup b xs e,fun b o u e=>?_,fun b qs e=>?_⟩
   ·rw [eS b (Heap.lt_size e) (fun z=>by rw [z,hP] at n;cases n)];exact n
   ·by_cases z:b=Pt
    ·exact ⟨_,by rw [z];exact Heap.get?_push_of_some _ htb⟩
    ·exact ⟨o,kept b o z e⟩
   ·exact kp.old b _ e (by simp;intro z;rw [z,hP] at e;cases e)
   ·by_cases z:b=Pt
    ·subst z
     rw [hP] at e
     cases Option.some.inj e
     exact ⟨_,eP⟩
    ·exact ⟨#[],by rw [eS b (lt b _ e) z,e];simp⟩
  have hok:HOk X.prog X.w H' (h'.push o1):=fun b u q=>by
   by_cases z1:b=h'.objs.size
   ·subst z1
    rw [eF] at q
    cases Option.some.inj q
    exact FZ.mk (Heap.get?_push_size _ rfl)
   ·by_cases z2:b=c'
    ·subst z2
     rw [eC] at q
     cases Option.some.inj q
     exact FZ.mk (Heap.get?_push_of_some _ hoc)
    ·by_cases z3:b=Pt
     ·subst z3
      rw [eP] at q
      cases Option.some.inj q
      exact Heap.get?_push_of_some _ htb
     ·rw [eO b z3 z2 z1] at q
      refine (I.hok b u q).stay (fun d v hd' e=>kept d v ?_ e) (fun d e=>?_) fun d xs e=>kp.tup d xs e
      ·rcases hd' with rfl | hd'
       ·exact z3
       ·intro z;rw [z,hP] at hd';cases hd'
      ·exact kp.old d _ e (by simp;intro z;rw [z,hP] at e;cases e)
  have nC:∀ c2,(∃ o,H c2=some (FZ o))->c2 ∉ [Pt]:=fun c2 ⟨o,e⟩ m=>by
   rw [List.mem_singleton.mp m,hP] at e;cases e
  refine ⟨.ref h'.objs.size,H',I.call (g':=s.gens) (d':=s.drawn) (t':=tk) (ch:=[]) un hok I.bare (fun b z=>absurd z (by simp)),rfl,h _ c' ctv H' fF kp eF ⟨oc,vs,t,eC,hd,hv⟩ ⟨ps',eP,?_,fun p v e=>?_⟩⟩
  ·have hl:ps'.toList=ps.toList++[rawInt pos.line,rawInt pos.col,.ref c']:=by simp [ps']
   rw [hl];exact TriplesOk_snoc _ _ _ _ ht
  ·have hl:ps'.toList=ps.toList++[rawInt pos.line,rawInt pos.col,.ref c']:=by simp [ps']
   rw [hl] at e
   rcases among_snoc _ ht e with e | rfl
   ·obtain ⟨c2,e2,z⟩:=hin p v e
    exact ⟨c2,e2,z.kp kp (nC c2 (let ⟨oc,_,_,q,_⟩:=z;⟨oc,q⟩))⟩
   ·exact ⟨c',rfl,oc,vs,t,eC,hd,hv⟩
end
end L2
namespace L2
open PySem PySem.Spec PyProof.Rows
theorem codeTab {h:Heap} {c P:Addr} {ps:Array Value} (C:PySem.W.CodeHd h c P) (e:h.get? P=some (PySem.W.tabObj ps)):isCodeTable h P:=(C.tab e).isCodeTable
theorem law_callT {P:Program} {w:World} {K:PySem.W.Frag} {mg mb:Str->Option Value} {CX:CXT} {k:Nat} {fa a:Addr} {fd:FuncData} {x:Str} {sp:Sp} {s₁:Shared} {vs:List Value} {ns:List Int} {ts:List Addr}
  (KX:K.In s₁.heap) (hns:s₁.heap.Ns mainGlobals mg) (hb:s₁.heap.Ns builtinsNs mb) (hbb:∀ x:Str,x≠"__name__"->mb x=bootBuiltins x) (hlim:s₁.heap.NoLimit) (hg:s₁.gens=#[])
  (ha:s₁.heap.get? a=some { cls:=.type "list",data:=.seq vs.toArray }) (hi:IntsAre vs ns) (hl:ns.length<=sizeLine) (hr:Room k callerA)
  (hts:∀ t ∈ ts,s₁.heap.get? t=some (PySem.W.tabObj #[])) (hcd:∀ t ∈ ts,∃ c,PySem.W.CodeHd s₁.heap c t) (hKt:∀ t ∈ ts,K.lookup t=none) (hbm:∀ t ∈ ts,s₁.heap.BuiltinsAt mg t)
  (F:∀ base:Heap,K.In base->base.Ns mainGlobals mg->(∀ t ∈ ts,base.BuiltinsAt mg t)->FnOk P w K mg base CX k fa fd [x] sp) (hbind:∀ (s:Shared) (u:Value),BindsTo s fd ⟨[u],[]⟩ [(x,u)])
  (hsp:∀ H:Hp,SqL K H a (ns.map V.int)->(∀ t ∈ ts,H t=some (.tbl #[]))->sp [.ref a] H (fun v _=>v=.bl true) fun _ _ _=>False)
  (hCX:∀ H e s',CX [] H s₁ (fun _ _ _=>False) e s'->False) :
  codeAny (model P w) callerA (.call (.ref fa) ⟨[.ref a],[]⟩) (fun r s'=>r=.ok (.ret (.bool true))/\OldK s₁.heap s'.heap/\s'.os=s₁.os/\AllBare s'.gens) s₁:=by
 have rv:=vals_ints hi
 have lenV:=hi.length
 have naT:a ∉ ts:=fun m=>by
  have:=hts a m
  rw [ha] at this
  cases this
 have core:∀ H:Hp,(∀ b,H b=none∨(∃ o xs,H b=some (.frz o (.lst xs)))∨b ∈ ts)->(∀ t ∈ ts,H t=some (.tbl #[]))->SqL K H a (ns.map V.int)->HOk P w H s₁.heap->(∀ b,H b≠none->b=a∨b ∈ ts)->(H a≠none->K.lookup a=none) ->
   codeAny (model P w) callerA (.call (.ref fa) ⟨[.ref a],[]⟩) (fun r s'=>r=.ok (.ret (.bool true))/\OldK s₁.heap s'.heap/\s'.os=s₁.os/\AllBare s'.gens) s₁:=by
  intro H hO hT hS hok hA hK
  have base_of:∀ {b:Addr} {o:Obj},s₁.heap.get? b=some o->H b=none->(hidT s₁.heap H).get? b=some o:=fun e n=>hidT_get e n
  have noB:∀ {b:Addr} {o:Obj},s₁.heap.get? b=some o->(∀ vs n,o.data≠.seq vs n)->(∀ vs,o.data≠.fields vs)->H b=none:=fun {b o} e d1 d2=>by
   cases q:H b with
   | none=>rfl
   | some u =>
    rcases hA b (by rw [q];simp) with e' | e'
    ·subst e'
     rw [ha] at e;cases e
     exact absurd rfl (d1 _ _)
    ·rw [hts b e'] at e;cases e
     exact absurd rfl (d2 _)
  have nsK:∀ {b:Addr} {m:Str->Option Value},s₁.heap.Ns b m->(hidT s₁.heap H).Ns b m:=fun {b m} ⟨o,es,ep,e,d,r⟩=>⟨o,es,ep,base_of e (noB e (by rw [d];nofun) (by rw [d];nofun)),d,r⟩
  have hKb:K.In (hidT s₁.heap H):=fun b o e=>base_of (KX b o e) (by
   cases q:H b with
   | none=>rfl
   | some u =>
    rcases hA b (by rw [q];simp) with e' | e'
    ·subst e'
     rw [hK (by rw [q];simp)] at e;cases e
    ·rw [hKt b e'] at e;cases e)
  have hBb:∀ t ∈ ts,(hidT s₁.heap H).BuiltinsAt mg t:=fun t ht=>let ⟨bm,o,b1,b2,b3,b4,b5,b6,b7,b8⟩:=hbm t ht
   ⟨bm,o,b1,b2,b3,b4,base_of b5 (noB b5 (by rw [b8];nofun) (by rw [b8];nofun)),b6,b7,b8⟩
  have hM:Mod K mg (hidT s₁.heap H):=⟨hKb,nsK hns,⟨mb,nsK hb,hbb⟩,let ⟨mc,h1,h2⟩:=hlim;⟨mc,nsK h1,h2⟩⟩
  have e0:Env0 P w K mg (hidT s₁.heap H) callerA [] s₁ H:=⟨rfl,hM,fun b o e=>of_hidT e,Nat.le_of_eq (hidT_size _ _),trivial,fun b hb=>absurd (show b ∈ ([]:List Addr) from hb) (by simp),hok,.of_eq hg⟩
  refine codeAny_mono ((F _ hKb (nsK hns) hBb).run callerA [] s₁ H ⟨[.ref a],[]⟩ [.ref a] [.ref a] _ _ hr e0 (hbind s₁ (.ref a)) (.cons rfl .nil) (hsp H hS hT)) fun r s' h=>?_
  cases r with
  | error e=>exact (hCX H e s' h).elim
  | ok fl =>
   cases fl with
   | next=>exact False.elim h
   | brk=>exact False.elim h
   | cont=>exact False.elim h
   | ret u =>
    obtain ⟨v,H',os,bare,un,hok',r',q⟩:=h
    have q':v=.bl true:=q
    subst q'
    obtain rfl:u=Value.bool true:=r'
    have grown:∀ b ∈ ts,∃ ps,s'.heap.get? b=some (PySem.W.tabObj ps):=fun b m=>by
     obtain ⟨more,e⟩:=un.tbls b #[] (hT b m)
     exact ⟨_,hok' b _ e⟩
    have keep:∀ b o,b ∉ ts->s₁.heap.get? b=some o->s'.heap.get? b=some o:=fun b o m e=>by
     cases q:H b with
     | none=>exact un.keep b o e q (by intro z;exact absurd (show b ∈ ([]:List Addr) from z) (by simp)) (by simp)
     | some u =>
      rcases hO b with z | ⟨ob,xs,z⟩ | z
      ·rw [q] at z;cases z
      ·have z2:=un.frzs b ob _ z
       obtain ⟨e1,_⟩:=hok b _ z
       obtain ⟨e2,_⟩:=hok' b _ z2
       rw [e] at e1;cases e1
       exact e2
      ·exact absurd z m
    refine ⟨rfl,⟨fun b o e=>?_,fun b o e=>?_⟩,os,bare⟩
    ·by_cases m:b ∈ ts
     ·obtain ⟨c,hc⟩:=hcd b m
      obtain ⟨ps,hP⟩:=grown b m
      have e2:=hts b m
      rw [e] at e2
      cases Option.some.inj e2
      exact .inr (.inl ⟨codeTab hc (hts b m),rfl,#[],ps,rfl,by rw [Array.empty_append];exact hP⟩)
     ·exact .inl (keep b o m e)
    ·by_cases m:b ∈ ts
     ·obtain ⟨ps,hP⟩:=grown b m
      exact ⟨_,hP⟩
     ·exact ⟨o,keep b o m e⟩
 cases hk:K.lookup a with
 | some o =>
  have e:=KX a o hk
  rw [ha] at e
  cases e
  refine core (fun b=>if b ∈ ts then some (.tbl #[]) else none) (fun b=>?_) (fun t m=>if_pos m) (.inr ⟨_,vs.toArray,_,hk,rfl,rfl,rfl,by rw [List.size_toArray,lenV];exact hl,by simpa using rv⟩) (fun b u z=>?_) (fun b z=>?_) fun z=>absurd (if_neg naT) z
  ·by_cases m:b ∈ ts
   ·exact .inr (.inr m)
   ·exact .inl (if_neg m)
  ·by_cases m:b ∈ ts
   ·have z':=(if_pos m).symm.trans z
    cases z'
    exact hts b m
   ·have z':=(if_neg m).symm.trans z
    cases z'
  ·by_cases m:b ∈ ts
   ·exact .inr m
   ·exact absurd (if_neg m) z
 | none =>
  refine core (fun b=>if b ∈ ts then some (.tbl #[]) else if b=a then some (.frz { cls:=.type "list",data:=.seq vs.toArray } (.lst (ns.map V.int))) else none) (fun b=>?_) (fun t m=>if_pos m) (.inl (.inr ⟨{ cls:=.type "list",data:=.seq vs.toArray },(if_neg naT).trans (if_pos rfl)⟩)) (fun b u z=>?_) (fun b z=>?_) fun _=>hk
  ·by_cases m:b ∈ ts
   ·exact .inr (.inr m)
   ·by_cases hb:b=a
    ·exact .inr (.inl ⟨_,_,(if_neg m).trans (if_pos hb)⟩)
    ·exact .inl ((if_neg m).trans (if_neg hb))
  ·by_cases m:b ∈ ts
   ·have z':=(if_pos m).symm.trans z
    cases z'
    exact hts b m
   ·by_cases hb:b=a
    ·have z':=((if_neg m).trans (if_pos hb)).symm.trans z
     cases z'
     subst hb
     exact ⟨ha,by rw [List.length_map];exact hl,vs,_,rv,ha⟩
    ·have z':=((if_neg m).trans (if_neg hb)).symm.trans z
     cases z'
  ·by_cases m:b ∈ ts
   ·exact .inr m
   ·by_cases hb:b=a
    ·exact .inl hb
    ·exact absurd ((if_neg m).trans (if_neg hb)) z
theorem walk_ofT {l:PySem.W.OpenLaw} {n k:Nat} {q:Program} {loose:List Str} {XP:(Str->Option Value)->Heap->Prop} {YP:World->Heap->Prop} {d:DefRec} {K:Params->PySem.W.Frag} {CX:World->CXT} {sp:World->Sp} {x:Str} {ts:List Addr}
  (hn:l.most=some n) (hn2:n<=sizeLine) (hdf:d.params.defaults=[]) (hr:Room k callerA)
  (hY:∀ (w:World) (h:Heap),YP w h->(K w.params).In h) (hT:∀ (w:World) (h:Heap),YP w h->∀ t ∈ ts,h.get? t=some (PySem.W.tabObj #[]))
  (hC:∀ (w:World) (h:Heap),(K w.params).In h->∀ t ∈ ts,∃ c,PySem.W.CodeHd h c t) (hN:∀ w:World,∀ t ∈ ts,(K w.params).lookup t=none)
  (F:∀ (w:World) (mg:Str->Option Value) (fa:Addr) (h:Heap),(K w.params).In h->h.Ns mainGlobals mg->mg d.name=some (.ref fa) ->
   ∃ fd:FuncData,(∀ (s:Shared) (u:Value),BindsTo s fd ⟨[u],[]⟩ [(x,u)]) /\
    ∀ base:Heap,(K w.params).In base->base.Ns mainGlobals mg->(∀ t ∈ ts,base.BuiltinsAt mg t)->FnOk l.prog w (K w.params) mg base (CX w) k fa fd [x] (sp w))
  (hsp:∀ (w:World) (H:Hp) (a:Addr) (ns:List Int),ns.length<=n->SqL (K w.params) H a (ns.map V.int)->(∀ t ∈ ts,H t=some (.tbl #[]))->sp w [.ref a] H (fun v _=>v=.bl true) fun _ _ _=>False)
  (hCX:∀ (w:World) (H:Hp) (s:Shared) (e:Value) (s':Shared),CX w [] H s (fun _ _ _=>False) e s'->False) :
  PySem.W.WalkO q loose XP YP l.row.toRowW d [] (fun f vs=>PySem.call f vs):=by
 refine Att.attach_call hn hdf fun w s₀ s₁ mg mb fa o pm cd doc a vs ns G Y ho hd hcd hmg hobj hints hlen hg=>?_
 have KX:=hY w _ Y
 have TX:=hT w _ Y
 obtain ⟨fd,hb,hF⟩:=F w mg fa _ KX G.T.g hmg
 refine law_callT (ts:=ts) KX G.T.g G.T.b G.T.builtins G.T.nolimit hg hobj hints (Nat.le_trans hlen hn2) hr TX (hC w _ KX) (hN w) (fun t ht=>?_) hF hb (fun H hS hT=>hsp w H a ns hlen hS hT) fun H e s'=>hCX w H s₁ e s'
 obtain ⟨bm,ob,b1,b2,b3,b4,b5,b6⟩:=G.T.bmain
 refine ⟨bm,ob,b1,b2,fun q=>?_,fun q=>?_,b3,b4,b5,b6⟩
 ·obtain ⟨o,es,ep,e,hd,_⟩:=G.T.g
  rw [q,e] at b3;cases b3;rw [hd] at b6;cases b6
 ·rw [q,TX t ht] at b3;cases b3;cases b4
end L2
namespace L2
open PySem PySem.Spec PyProof.Rows
section
variable {X:Cx} {o i:Expr} {td ty:TE} {pos:Pos}
theorem qpe_callD {P:Program} {w:World} {K:PySem.W.Frag} {mg:Str->Option Value} {base:Heap} (hP:X.prog=P) (hw:X.w=w) (hK:X.K=K) (hM:X.mg=mg) (hB:X.base=base) {k:Nat} {x:Str} {p pos:Pos} {e:Expr} {es:List Expr} {t:TA} (i:Nat) (hr:Room k X.A) (ha:QA X (e::es) t)
  (hN:X.N[i]?=some x:=by rfl) (hv:Vis X.env.scope x:=by first | exact Or.inl rfl | exact Or.inr (Or.inl rfl) | exact Or.inr (Or.inr rfl))
  (hdb:(x == ("__debug__":Str))=false:=by decide) (hcd:(x == ("__classdict__":Str))=false:=by decide) (he:starEach (e::es) X.env=(false,eval e X.env)::starEach es X.env:=by rfl) :
  QE X (.Call (.Name x p) (e::es) [] pos) (tCallD P w K mg base k i t):=⟨pe_callD hP hw hK hM hB i hr ha.h hN hv hdb hcd he⟩
theorem qpe_lambda {params:Arguments} {body:Expr} {scope:Scope} {pos:Pos} {c Pt:Addr} {cl:List (Str × Addr)} {qual:Str} {pm:Value} (hq:X.env.qual++"<lambda>"=qual) (hpm:(X.mg "__name__").getD .none=pm) (hcode:X.env.code=.ref c) (hC:PySem.W.CodeHd X.base c Pt) (hbt:X.base.BuiltinsAt X.mg Pt)
  (hdef:defaultsOf params X.env=([],[]):=by rfl) (hcl:closureFor scope X.env=pure cl:=by rfl):QE X (.Lambda params body scope pos) (tLam Pt qual params body scope cl pm):=by
 subst hq;subst hpm
 exact ⟨pe_lambda hdef hcl hcode hC hbt⟩
structure QPP (X:Cx) (pos:Pos) (keys:List (Option Expr)) (values:List Expr) (trs:List (TE × TE)):Prop where
 h:PPs X pos keys values trs
theorem qpps_nil {pos:Pos}:QPP X pos [] [] []:=⟨pps_nil⟩
theorem qpps_cons {pos:Pos} {k v:Expr} {ks:List (Option Expr)} {vs:List Expr} {tk tv:TE} {trs:List (TE × TE)} (hk:QE X k tk) (hv:QE X v tv) (hr:QPP X pos ks vs trs):QPP X pos (some k::ks) (v::vs) ((tk,tv)::trs):=⟨pps_cons hk.h hv.h hr.h⟩
theorem qpe_disp {pos:Pos} {keys:List (Option Expr)} {values:List Expr} {trs:List (TE × TE)} (h:QPP X pos keys values trs) (hall:keys.all (·.isSome)=true:=by rfl) (hl:keys.length=values.length:=by rfl) (h0:keys≠[]:=by nofun) (h15:keys.length<=15:=by decide):QE X (.Dict keys values pos) (tDisp trs):=⟨pe_disp h.h hall hl h0 h15⟩
end
theorem Fun.okC {P:Program} {w:World} {K:PySem.W.Frag} {mg:Str->Option Value} {base:Heap} {x qual:Str} {st:Stmt} {f:Addr} {fd:FuncData} {N ps:List Str} {k:Nat} {sp:Sp} (F:Fun K x qual st f fd) (S:FnScope N ps (jg st)) (len:∀ vs H Q E,sp vs H Q E->vs.length=ps.length)
  (hbody:∀ (A:Around) (outer:List Env) (s:Shared) (H:Hp) (vs:List V) (Q:VK) (E:XK),Room k (A.deeper (envOfC qual (jg st) s.heap.objs.size f fd.code))->sp vs H Q E ->
   ∃ t,PSs (cxOf CX0 P w K mg base N qual (jg st) f fd.code A outer s H E).nox (ju st) t/\t { nx:=fun _ H'=>Q .non H',rt:=Q } (start N vs) H):FnOk P w K mg base CX0 (k+1) f fd ps sp:=by
 obtain ⟨oc,od,kV,doc,pm,an,cdv,ct,osl,rfl,lk,hcd⟩:=F.ex
 refine fn_of lk hcd S len fun A outer s H vs Q E hr hsp=>?_
 obtain ⟨t,h,q⟩:=hbody A outer s H vs Q E hr hsp
 exact ⟨t,h.nox,q⟩
theorem Caps.kp {S:List Addr} {H H':Hp} {cl:List (Str × Addr)} {fs:List Str} {ws:List V} (k:Kp S H H') (n:∀ p ∈ cl,p.2 ∉ S) (c:Caps H cl fs ws):Caps H' cl fs ws :=
 ⟨c.len,fun i x v e1 e2=>let ⟨a,o,u,h1,h2,h3,h4⟩:=c.at_ i x v e1 e2;⟨a,o,u,h1,k.old _ _ h2 (n (x,a) (PySem.mem_of_lookup h1)),h3,h4⟩,c.has,fun p hp=>let ⟨o,u,e,d⟩:=c.fz p hp;⟨o,u,k.old _ _ e (n p hp),d⟩,c.inj⟩
theorem TabOk.kp {S:List Addr} {H H':Hp} {Pt:Addr} {qual:Str} (k:Kp S H H') (n:Pt ∉ S) (hc:∀ c o,H c=some (FZ o)->c ∉ S) (x:TabOk H Pt qual):TabOk H' Pt qual :=
 let ⟨ps,e,t,h⟩:=x
 ⟨ps,k.old _ _ e n,t,fun p v q=>let ⟨c,e2,z⟩:=h p v q;⟨c,e2,z.kp k (let ⟨oc,_,_,q,_⟩:=z;hc c oc q)⟩⟩
end L2
namespace L2
open PySem PySem.Spec PyProof.Rows
def ItDn (hi:Int) (n:Nat):It:=⟨fun i _=>i < n,fun i H x H'=>H'=H/\x=.int (hi - i),fun i _=>n<=i⟩
theorem turn_down {P:Program} {w:World} {K:PySem.W.Frag} {tg:Expr} (it:Addr) (hi:Int) (n:Nat):Turn P w K tg (ItDn hi n) [it] it (fun i h=>IsRangeIter h it (hi+(i:Nat) * (-1)) ((n:Int) - (i:Nat)) (-1)) where
 mem:=List.mem_singleton.mpr rfl
 obj:=fun i h st b hb=>by
  obtain rfl:=List.mem_singleton.mp hb
  exact ⟨_,st,fun v z=>nomatch (show Data.fields _=Data.cell v from z)⟩
 keep:=fun i h h' st k=>k it (List.mem_singleton.mpr rfl) _ st
 item:=by
  intro X hP hw hK hc i pins s σ H E I hf st hg
  subst hP hw hK
  obtain ⟨f0,f1,f2,f3,f4,f5⟩:=hf it (List.mem_singleton.mpr rfl)
  refine (Walks.range (prog:=X.prog) (w:=X.w) (I.ok.hd hc) it hi (-1) n).item i s _ _ hg st fun v h' tk hv st' kk=>?_
  obtain ⟨t,rfl⟩:=hv
  have I1:Inv X pins σ H { s with heap:=h',toks:=tk }:=I.turned (fun b o hb e=>kk b o (by simpa using hb) e) f0 f1 f3 f4 f5
  exact ⟨_,rfl,go_of (s:={ s with heap:=h',toks:=tk }) (n:="range_iterator") st' rfl rfl (by decide) ⟨.int (hi - i),H,I1,⟨t,congrArg (fun z:Int=>Value.int z t) (by omega)⟩,⟨rfl,rfl⟩,st',fun b hb=>(hf b hb).1⟩⟩
 done:=by
  intro X hP hw hK hc i pins s σ H E I hf st hg
  subst hP hw hK
  obtain ⟨f0,f1,f2,f3,f4,f5⟩:=hf it (List.mem_singleton.mpr rfl)
  exact wpAny_pyNext_range_end (I.ok.hd hc) st (by have:n<=i:=hg;omega) fun h' eb=>⟨rfl,I.turned (t':=s.toks) (fun b o hb e=>eb b o hb e) f0 f1 f3 f4 f5⟩
 self:=fun _ _ _ _ _ st h=>wpAny_pyIter_rangeiter st h
theorem size_down (n:Nat):Builtin.Range.rangeSize ((n:Int) - 1) (-1) (-1)=(n:Int):=by
 unfold Builtin.Range.rangeSize
 simp
 try omega
theorem small_down {n:Nat} (h:n < 2 ^ 60):Builtin.Range.small ((n:Int) - 1) (-1) (-1)=true:=by
 unfold Builtin.Range.small
 rw [size_down]
 simp [Builtin.Range.rangeFitsLong]
 try omega
section
variable {X:Cx} {tg:Expr}
def iRngDn (ta:TA):TI:=fun σ H R=>ta σ H fun vs H1=>∃ n:Nat,vs=[.int ((n:Int) - 1),.int (-1),.int (-1)]/\n < 2 ^ 60/\R (ItDn ((n:Int) - 1) n) H1
theorem pi_range3 {a b c:Expr} {ta:TA} {p pos:Pos} (hg:Gl X "range") (hm:X.mg "range"=none) (ha:PA X [a,b,c] ta) (hs:starEach [a,b,c] X.env=[(false,eval a X.env),(false,eval b X.env),(false,eval c X.env)]:=by rfl) (hs2:starEach [b,c] X.env=[(false,eval b X.env),(false,eval c X.env)]:=by rfl) :
  PI X tg (.Call (.Name "range" p) [a,b,c] [] pos) (iRngDn ta):=by
 intro pins s σ H R I h
 refine Call_ (ld_blt I hg hm boot_range (PyProof.Rows.callWith_type1 (thn (ha pos pins s σ H _ I h) fun us s1 ⟨vs,H1,I1,r1,q1⟩=>?_) (by rw [hs,hs2]) (by rw [hs2];rfl)))
 obtain ⟨n,e,hn,q⟩:=q1
 subst e
 cases r1 with
 | cons r rr =>
  cases rr with
  | cons r' rr =>
   cases rr with
   | cons r'' rr =>
    cases rr
    obtain ⟨t,rfl⟩:=r
    obtain ⟨t',rfl⟩:=r'
    obtain ⟨t'',rfl⟩:=r''
    refine call_range_3 (by decide) ?_ (.inl (PyProof.noPylong_small (by omega)))
    refine wpAny_pyIter_range (IsRange.new ..) (small_down hn) ?_
    have I2:Inv X pins σ H1 { s1 with heap:=s1.heap.push { cls:=.type "range",data:=.fields #[.int ((n:Int) - 1) t,.int (-1) t',.int (-1) t''] },toks:=s1.toks }:=I1.kept fun b o e=>Heap.get?_push_of_some _ e
    refine ⟨_,[_],_,_,H1,rfl,I2.kept (t':=s1.toks) fun b o e=>Heap.get?_push_of_some _ e,turn_down _ ((n:Int) - 1) n,?_,fun b hb=>?_,q⟩
    ·show IsRangeIter _ _ (((n:Int) - 1)+((0:Nat):Int) * (-1)) ((n:Int) - ((0:Nat):Int)) (-1)
     rw [size_down]
     have e1:((n:Int) - 1)+((0:Nat):Int) * (-1)=(n:Int) - 1:=by omega
     have e2:(n:Int) - ((0:Nat):Int)=(n:Int):=by omega
     rw [e1,e2]
     exact Heap.get?_push_size _ rfl
    ·obtain rfl:=List.mem_singleton.mp hb
     exact I2.fpOk (Nat.le_refl _) (I2.hok.fresh (Nat.le_refl _))
theorem qpi_range3 {a b c:Expr} {ta:TA} {p pos:Pos} (hg:Gl X "range") (hm:X.mg "range"=none) (ha:QA X [a,b,c] ta) (hs:starEach [a,b,c] X.env=[(false,eval a X.env),(false,eval b X.env),(false,eval c X.env)]:=by rfl) (hs2:starEach [b,c] X.env=[(false,eval b X.env),(false,eval c X.env)]:=by rfl) :
  QI X tg (.Call (.Name "range" p) [a,b,c] [] pos) (iRngDn ta):=⟨pi_range3 hg hm ha.h hs hs2⟩
end
theorem loop_down {hi:Int} {n:Nat} {g:TG} {tb:TS} {D:Ends} {σ:L2.St} {H:Hp} (Pv:Nat->L2.St->Hp->Prop) (h0:Pv 0 σ H)
  (hs:∀ i σ H,i < n->Pv i σ H->g (.int (hi - i)) σ H fun σ2 H2=>tb { D with nx:=Pv (i+1),ct:=Pv (i+1),bk:=D.nx } σ2 H2) (hd:∀ σ H,Pv n σ H->D.nx σ H):LoopR (ItDn hi n) g tb D σ H:=by
 refine ⟨fun i m σ H=>m=n - i/\i<=n/\Pv i σ H,⟨n,by simp,Nat.zero_le _,h0⟩,?_⟩
 rintro i m σ H ⟨rfl,hi,p⟩
 by_cases hlt:i < n
 ·refine .inr ⟨hlt,Pv (i+1),fun σ' H' p'=>⟨n - (i+1),by omega,rfl,hlt,p'⟩,?_⟩
  rintro x H' ⟨rfl,rfl⟩
  exact hs i σ _ hlt p
 ·obtain rfl:i=n:=by omega
  exact .inl ⟨Nat.le_refl _,hd σ H p⟩
end L2
namespace L2
open PySem PySem.Spec PyProof.Rows
section
variable {X:Cx}
end
section
variable {P:Program} {w:World} {K:PySem.W.Frag}
theorem Inv.apartT {X:Cx} {pins:List (Addr × Obj)} {σ:St} {H:Hp} {s:Shared} (I:Inv X pins σ H s) {c d:Addr} {xs:List V} (h:SqT X.K H c xs) (f:FpOk X pins H d):d≠c:=by
 rintro rfl
 rcases h with (h | ⟨_,h⟩) | ⟨o,its,n,hk,_⟩
 ·rw [f.1] at h;cases h
 ·rw [f.1] at h;cases h
 ·have hb:=I.ok.mod.kin _ _ hk
  rcases f.2.2.2.1 with m | m
  ·exact I.ok.noex _ _ hb m
  ·exact absurd (Heap.lt_size (I.ok.bs _ _ hb).1) (Nat.not_lt.mpr m)
end
section
variable {X:Cx}
end
end L2
namespace L2
open PySem PySem.Spec PyProof.Rows
section
variable {env:Env} {es:List Expr}
end
end L2
namespace L2
open PySem PySem.Spec PyProof.Rows
section
variable {X:Cx} {o e f:Expr} {apos cpos:Pos} {td ty tx:TE}
def tDisp0:TE:=fun _ H Q=>∀ p,H p=none->Q (.ref p) (upd H p (.dK []))
theorem pe_disp0 {pos:Pos}:PE X (.Dict [] [] pos) tDisp0:=by
 intro pins s σ H Q I q
 have hn:=I.hok.fresh (Nat.le_refl s.heap.objs.size)
 have I1:=I.laid (a:=s.heap.objs.size) (o:=.dK []) (h':=s.heap.push { cls:=.type "dict",data:=.dict #[] }) (t':=s.toks) (fun _ _ q=>Heap.get?_push_of_some _ q) (Nat.le_refl _) (dk_empty s.heap I.big)
 exact wpAny_Dict_empty ⟨.ref s.heap.objs.size,_,I1,rfl,q _ hn⟩
theorem jba {pos:Pos}:QE X (.Dict [] [] pos) tDisp0:=⟨pe_disp0⟩
def tDSet (td ty tx:TE):TE:=fun σ H Q=>td σ H fun x H1=>∃ a,x=.ref a/\IsD H1 a/\ty σ H1 fun y H2=>tx σ H2 fun z H3=>∃ kvs k,H3 a=some (.dK kvs)/\y=kV k/\kvs.length < sizeLine /\
 (∀ v,valV kvs k=some v->Q v H3)/\(valV kvs k=none->Q z (upd H3 a (.dK (putK kvs k z))))
theorem pe_dset (ho:PE X o td) (he:PE X e ty) (hf:PE X f tx) (m:M2 X o "setdefault" apos e f cpos):PE X (.Call (.Attribute o "setdefault" apos) [e,f] [] cpos) (tDSet td ty tx):=by
 intro pins s σ H Q I h
 refine wpAny_Call_method m.base m.few m.line PySem.F.plainAttrs_dict PySem.F.slot_dict_setdefault PySem.F.type_dict_setdefault (thn (ho pins s σ H _ I h) fun u s1 ⟨x,H1,I1,rx,a,ex,d,q1⟩=>?_)
 subst ex
 obtain rfl:u=Value.ref a:=rx
 obtain ⟨t1,t2,_⟩:=isD_at I1 d
 refine ⟨t1,t2,?_⟩
 rw [m.trees]
 refine Calls.callWith_builtin rfl (Calls.evalArgs_plain (Calls.spliced_cons (thn (he pins s1 σ H1 _ I1 q1) fun iv s2 ⟨y,H2,I2,ry,q2⟩ =>
  Calls.spliced_cons (thn (hf pins s2 σ H2 _ I2 q2) fun fv s3 ⟨z,H3,I3,rz,kvs,k,ea,ey,hl,q3,q4⟩=>Calls.spliced_nil ?_))))
 subst ey
 obtain ⟨zz,hd,vs,rel,dd⟩:=dk_of I3.hok ea
 have hz:vs.length<=sizeLine:=by rw [← rel.length];exact zz
 refine call_meetsIn PySem.F.slot_dict_setdefault dd.typeIs PySem.F.entry_dict_setdefault (PySem.F.args_dict_setdefault_3 _ _ _) (kt_meets_setdefault (mixKind X.prog X.w) a (kV_is ry) hd fv) ⟨vs,dd,hz,fun v hv=>?_,fun hn h' dd' hs=>?_⟩
 ·cases l:valV kvs k with
  | none =>
   have:=rel.val k
   rw [l,hv] at this
   cases this
  | some v' =>
   obtain ⟨w',hw,rw'⟩:=RelO.some_of (v:=v') (o:=valueAt vs k) (by rw [← l];exact rel.val k)
   rw [hv] at hw
   cases hw
   exact ⟨v',H3,I3.tok _,rw',q3 v' l⟩
 ·have ln:valV kvs k=none:=by
   cases l:valV kvs k with
   | none=>rfl
   | some v' =>
    obtain ⟨w',hw,_⟩:=RelO.some_of (v:=v') (o:=valueAt vs k) (by rw [← l];exact rel.val k)
    rw [hn] at hw;cases hw
  have hlp:(putK kvs k z).length<=sizeLine:=by have:=length_putK kvs k z;omega
  have he':∃ q,h'.get? a=some q:=let ⟨q,_,_,hq,_⟩:=dd';⟨q,hq⟩
  exact ⟨z,_,d_write I3 (by rw [ea];exact True.intro) hs he' (dk_new hlp hd (rel.put k rz) dd'),rz,q4 ln⟩
theorem qpe_dset (ho:QE X o td) (he:QE X e ty) (hf:QE X f tx) (m:M2 X o "setdefault" apos e f cpos):QE X (.Call (.Attribute o "setdefault" apos) [e,f] [] cpos) (tDSet td ty tx):=⟨pe_dset ho.h he.h hf.h m⟩
end
end L2
namespace L2
open PySem PySem.Spec PyProof.Rows
section
variable {X:Cx} {pins:List (Addr × Obj)} {σ:St} {H:Hp} {s:Shared}
end
end L2
namespace L2
open PySem PySem.Spec PyProof.Rows
structure FunD (K:PySem.W.Frag) (x qual:Str) (st:Stmt) (f:Addr) (fd:FuncData) (td:Addr):Prop where
 ex:∃ (oc:Value) (od:Option Addr) (kV doc pm:Value) (an:Option Addr) (cdv ct:Value) (osl:Array (Option Value)),
  fd=PySem.W.fnOf x qual (jw st) (ju st) (jg st) (.ref td) kV doc pm an cdv ct/\K.lookup f=some ⟨oc,od,.func fd,osl⟩/\PySem.W.codeIn K cdv qual=true
 kp:PySem.W.keepIn K (.ref f)=true
section
variable {P:Program} {w:World} {K:PySem.W.Frag} {mg:Str->Option Value} {base:Heap} {x qual:Str} {st:Stmt} {f td:Addr} {fd:FuncData} {N ps:List Str} {k:Nat} {sp:Sp}
theorem FunD.ok (F:FunD K x qual st f fd td) (S:FnScope N ps (jg st)) (len:∀ vs H Q E,sp vs H Q E->vs.length=ps.length)
  (hbody:∀ (cdv:Value) (A:Around) (outer:List Env) (s:Shared) (H:Hp) (vs:List V) (Q:VK) (E:XK),Room k (A.deeper (envOfC qual (jg st) s.heap.objs.size f cdv))->sp vs H Q E ->
   ∃ t,PSs (cxOf CX0 P w K mg base N qual (jg st) f cdv A outer s H E).nox (ju st) t/\t { nx:=fun _ H'=>Q .non H',rt:=Q } (start N vs) H):FnOk P w K mg base CX0 (k+1) f fd ps sp:=by
 obtain ⟨oc,od,kV,doc,pm,an,cdv,ct,osl,rfl,lk,hcd⟩:=F.ex
 refine fn_of lk hcd S len fun A outer s H vs Q E hr hsp=>?_
 obtain ⟨t,h,q⟩:=hbody cdv A outer s H vs Q E hr hsp
 exact ⟨t,h.nox,q⟩
theorem FunD.binds {ds:List Value} {o:Obj} {items:Array Value} {n:Nat} (F:FunD K x qual st f fd td) (lk:K.lookup td=some o) (hs:o.data=.seq items n)
  (h:∀ (kV doc pm:Value) (an:Option Addr) (cdv ct:Value) (us:List Value),(us++ds).length=ps.length->∃ g,bindArgs (PySem.W.fnOf x qual (jw st) (ju st) (jg st) (.ref td) kV doc pm an cdv ct) ⟨us,[]⟩=(seqItems? (.ref td) >>= g)/\g (some items)=pure (ps.zip (us++ds))):Binds K fd ps ds:=by
 obtain ⟨oc,od,kV,doc,pm,an,cdv,ct,osl,rfl,_,_⟩:=F.ex
 intro s us hK hl
 obtain ⟨g,h1,h2⟩:=h kV doc pm an cdv ct us hl
 exact BindsTo.of_defaults (T:=td) rfl (hK _ _ lk) hs h1 h2
theorem funD_mk {oc:Value} {od an:Option Addr} {osl:Array (Option Value)} {kV doc pm cdv ct:Value} (l:K.lookup f=some ⟨oc,od,.func (PySem.W.fnOf x qual (jw st) (ju st) (jg st) (.ref td) kV doc pm an cdv ct),osl⟩)
  (c:PySem.W.codeIn K cdv qual=true) (k:PySem.W.keepIn K (.ref f)=true):FunD K x qual st f (PySem.W.fnOf x qual (jw st) (ju st) (jg st) (.ref td) kV doc pm an cdv ct) td:=⟨⟨oc,od,kV,doc,pm,an,cdv,ct,osl,rfl,l,c⟩,k⟩
end
end L2
namespace L2
open PySem PySem.Spec PyProof.Rows
section
variable {X:Cx} {o e:Expr} {apos cpos:Pos} {td ty:TE}
end
end L2
namespace L2
open PySem PySem.Spec PyProof.Rows
structure ZN (h h':Heap) (x:Str) (t:Tok) (b:Addr):Prop where
 z:h'.get? (h.objs.size+4)=some (ZO .none (.bool false) (h.objs.size+2) (h.objs.size+3))
 ti:IsPair h' (h.objs.size+2) (.ref h.objs.size) (.ref (h.objs.size+1))
 to:IsPair h' (h.objs.size+3) .none .none
 i1:h'.IsStrIter h.objs.size (strIterType x) x t 0
 i2:h'.IsTupleIter (h.objs.size+1) b 0
 old:∀ c o,h.get? c=some o->h'.get? c=some o
def znH (h:Heap) (x:Str) (t:Tok) (b:Addr):Heap:=((((h.push (zsO x t)).push (ztO b)).push { cls:=.type "tuple",data:=.seq #[.ref h.objs.size,.ref (h.objs.size+1)] }).push { cls:=.type "tuple",data:=.seq #[.none,.none] }).push (ZO .none (.bool false) (h.objs.size+2) (h.objs.size+3))
theorem zn_of (h:Heap) (x:Str) (t:Tok) (b:Addr):ZN h (znH h x t b) x t b:=by
 have P:∀ (k:Heap) (o:Obj) {c:Addr} {u:Obj},k.get? c=some u->(k.push o).get? c=some u:=fun k o {c u} e=>Heap.get?_push_of_some o e
 have t1:(h.push (zsO x t)).objs.size=h.objs.size+1:=by rw [Heap.size_push]
 have t2:((h.push (zsO x t)).push (ztO b)).objs.size=h.objs.size+2:=by rw [Heap.size_push,t1]
 have t3:(((h.push (zsO x t)).push (ztO b)).push { cls:=.type "tuple",data:=.seq #[.ref h.objs.size,.ref (h.objs.size+1)] }).objs.size=h.objs.size+3:=by rw [Heap.size_push,t2]
 have t4:((((h.push (zsO x t)).push (ztO b)).push { cls:=.type "tuple",data:=.seq #[.ref h.objs.size,.ref (h.objs.size+1)] }).push { cls:=.type "tuple",data:=.seq #[.none,.none] }).objs.size=h.objs.size+4:=by rw [Heap.size_push,t3]
 unfold znH
 refine ⟨?_,?_,?_,⟨_,P _ _ (P _ _ (P _ _ (P _ _ (Heap.get?_push_size _ rfl)))),rfl,rfl⟩,⟨ztO b,?_,rfl,rfl⟩,fun c o e=>P _ _ (P _ _ (P _ _ (P _ _ (P _ _ e))))⟩
 ·rw [← t4];exact Heap.get?_push_size _ rfl
 ·rw [← t2];exact P _ _ (P _ _ (Heap.get?_push_size _ rfl))
 ·rw [← t3];exact P _ _ (Heap.get?_push_size _ rfl)
 ·rw [← t1];exact P _ _ (P _ _ (P _ _ (Heap.get?_push_size _ rfl)))
theorem meets_zipST (x:Str) (t:Tok) (b:Addr) (vb:Array Value) :
  Meets (Builtin.«zip.__new__» ⟨[.type "zip",.str x t,.ref b],[]⟩) (fun _ R s=>s.heap.IsTuple b vb/\R (.ok (.ret (.ref (s.heap.objs.size+4)))) { s with heap:=znH s.heap x t b }) :=
 .of_wp fun prog w A R s h=>by
  obtain ⟨hp,g,d,tk,os⟩:=s
  obtain ⟨hb,h⟩:=h
  have hsub:=sub_zip
  have hb':(Heap.push hp (zsO x t)).IsTuple b vb:=hb.push _
  wp_walk using wpAny_pyIter_strU,wpAny_pyIter_tuple hb'
  refine ⟨_,rfl,?_⟩
  simp only [Heap.size_push]
  exact h
theorem call_zipST {prog:Program} {w:World} {A:Around} {E:Value->Shared->Prop} {s:Shared} {x:Str} {t:Tok} {b:Addr} {vb:Array Value} {Q:Value->Shared->Prop} (hb:s.heap.IsTuple b vb)
  (q:∀ h',ZN s.heap h' x t b->Q (.ref (s.heap.objs.size+4)) { s with heap:=h' }):wpAny (model prog w) A (call (.type "zip") [.str x t,.ref b]) Q E s:=by
 refine callType_new PySem.F.called_zip (by decide) (PySem.F.typeCall_zip_2 _ _) (PySem.F.newCall_zip_2 _ _) (fun obj=>PySem.F.args_object_init_3 obj _ _) PySem.F.entry_zip_new (meets_zipST x t b vb) ⟨hb,?_⟩
 have m:=zn_of s.heap x t b
 exact ⟨⟨_,m.z,rfl⟩,q _ m⟩
def ItZN (K:PySem.W.Frag) (x:Str) (b:Addr):It:=⟨fun i H=>∃ ys y,SqT K H b ys/\i < x.length/\ys[i]?=some y,
 fun i H v H'=>∃ T y,H T=none/\v=.ref T/\(∀ ys,SqT K H b ys->ys[i]?=some y)/\H'=upd H T (.tup [.str ⟨#[x.cps.toList.getD i 0]⟩,y]),fun i H=>∃ ys,SqT K H b ys/\i=min x.length ys.length⟩
section
variable {P:Program} {w:World} {K:PySem.W.Frag}
def ZTN (x:Str) (t:Tok) (b z TI TO i1 i2:Addr) (i:Nat) (h:Heap):Prop:=IsZip h z TI TO .none/\IsPair h TI (.ref i1) (.ref i2)/\(∃ x y,IsPair h TO x y)/\h.IsStrIter i1 (strIterType x) x t i/\h.IsTupleIter i2 b i
theorem ZTN.tys {x:Str} {t:Tok} {b z TI TO i1 i2:Addr} {i:Nat} {h:Heap} (t:ZTN x t b z TI TO i1 i2 i h):∀ c ∈ [z,TI,TO,i1,i2],∃ o,h.get? c=some o/\(∀ v,o.data≠.cell v):=by
 obtain ⟨e0,e1,⟨x,y,e2⟩,⟨o3,e3,_,d3⟩,⟨o4,e4,_,d4⟩⟩:=t
 intro c hc
 simp only [List.mem_cons,List.not_mem_nil,or_false] at hc
 rcases hc with rfl | rfl | rfl | rfl | rfl
 ·exact ⟨_,e0,fun v q=>by cases q⟩
 ·exact ⟨_,e1,fun v q=>by cases q⟩
 ·exact ⟨_,e2,fun v q=>by cases q⟩
 ·exact ⟨_,e3,fun v q=>by rw [d3] at q;cases q⟩
 ·exact ⟨_,e4,fun v q=>by rw [d4] at q;cases q⟩
theorem za_moreN {z TI TO i1 i2 b:Addr} (D:ZA z TI TO i1 i2 [i1] [i2]) (nb:∀ d ∈ [z,TI,TO,i1,i2],d≠b):ZA z TI TO i1 i2 [i1] [i2,b] :=
 ⟨D.TIz,D.TOz,D.i1z,D.i2z,D.TITO,D.TIi1,D.TIi2,D.TOi1,D.TOi2,D.i12,D.zf1,by simpa using ⟨D.i2z.symm,nb z (by simp)⟩,
  D.Tf1,by simpa using ⟨D.TOi2,nb TO (by simp)⟩,by simpa using ⟨D.i12,nb i1 (by simp)⟩,by simpa using D.i12.symm⟩
theorem turn_zipN {elts:List Expr} {kk:Nat} {pos:Pos} (x:Str) (t:Tok) (b z TI TO i1 i2:Addr) (D:ZA z TI TO i1 i2 [i1] [i2]):Turn P w K (.Tuple elts kk pos) (ItZN K x b) [z,TI,TO,i1,i2] z (ZTN x t b z TI TO i1 i2) where
 mem:=.head _
 obj:=fun i h st c hc=>st.tys c hc
 keep:=fun i h h' st k=>by
  obtain ⟨e0,e1,⟨x,y,e2⟩,⟨o3,e3,r3⟩,⟨o4,e4,r4⟩⟩:=st
  exact ⟨k z (by simp) _ e0,k TI (by simp) _ e1,⟨x,y,k TO (by simp) _ e2⟩,⟨o3,k i1 (by simp) _ e3,r3⟩,⟨o4,k i2 (by simp) _ e4,r4⟩⟩
 item:=by
  intro X hP hw hK hc i pins s σ H E I hf st hg
  subst hP hw hK
  obtain ⟨ys,y',hy,gx,gy⟩:=hg
  obtain ⟨vb,rb,pb,_⟩:=I.tuple hy
  obtain ⟨v,hv,rv⟩:=rb.get gy
  have n2:∀ d ∈ [z,TI,TO,i1,i2],d≠b:=fun d hd=>I.apartT hy (hf d hd)
  have h0:X.A.in1.handled=none:=I.ok.hd hc
  have W:=walks_zipD (A:=X.A) (drS (P:=X.prog) (w:=X.w) (A:=X.A) h0 i1 x t) (dr_tup (prog:=X.prog) (w:=X.w) h0 i2 b (n2 i2 (by simp)).symm vb.toArray) (za_moreN D n2)
  have la:i < x.cps.size:=gx
  have lb:i < vb.toArray.size:=by rw [List.size_toArray];exact (List.getElem?_eq_some_iff.mp hv).1
  refine W.item i s _ _ (by omega) ⟨st.1,st.2.1,st.2.2.1,st.2.2.2.1,⟨st.2.2.2.2,pb⟩⟩ fun T vs h' tk hp hT htup mid kk'=>⟨_,rfl,?_⟩
  have nT:=W.apart _ _ _ mid
  refine W.go _ _ _ i T { s with heap:=h',toks:=tk } _ _ mid fun h'' st'' k''=>?_
  have tup':IsTup h'' T vs:=let ⟨o,eo,r⟩:=htup;⟨o,k'' T o nT eo,r⟩
  have hv':Vals [.str ⟨#[x.cps.toList.getD i 0]⟩,y'] vs.toList:=by
   obtain ⟨x1,y1,⟨c,u,hc1,rfl⟩,p2,rfl⟩:=hp
   rw [show vb.toArray[i]?=some v from by simpa using hv] at p2
   cases p2
   have e1:x.cps.toList.getD i 0=c:=by
    have:x.cps.toList[i]?=some c:=by simpa using hc1
    rw [List.getD_eq_getElem?_getD,this];rfl
   exact .cons ⟨u,by rw [e1]⟩ (.cons rv .nil)
  have Z':ZTN x t b z TI TO i1 i2 (i+1) h'':=⟨st''.1,st''.2.1,st''.2.2.1,st''.2.2.2.1,st''.2.2.2.2.1⟩
  refine ⟨.ref T,upd H T (.tup [.str ⟨#[x.cps.toList.getD i 0]⟩,y']),?_,rfl,⟨T,y',I.hok.fresh hT,rfl,fun zs q=>by rw [I.tuple_inj q hy];exact gy,rfl⟩,Z',fun c hb=>?_⟩
  ·refine I.turnedNew (fp:=[z,TI,TO,i1,i2]) (wr:=[z,TO,i1,i2]) (fun c hb=>hf c (by simp at hb ⊢;rcases hb with r | r | r | r <;> simp [r])) (fun c o hb eo=>k'' c o hb (kk' c o hb eo)) hT (by simpa using tup') hv' (by show 2<=sizeLine;decide) fun c hb=>?_
   obtain ⟨o,eo,_⟩:=Z'.tys c (by simp at hb ⊢;rcases hb with r | r | r | r <;> simp [r])
   exact ⟨o,eo⟩
  ·obtain ⟨o,eo,_⟩:=st.tys c hb
   rw [jc (Nat.ne_of_lt (Nat.lt_of_lt_of_le (Heap.lt_size eo) hT))]
   exact (hf c hb).1
 done:=by
  intro X hP hw hK hc i pins s σ H E I hf st hg
  subst hP hw hK
  obtain ⟨ys,hy,hi⟩:=hg
  obtain ⟨vb,rb,pb,_⟩:=I.tuple hy
  have n2:∀ d ∈ [z,TI,TO,i1,i2],d≠b:=fun d hd=>I.apartT hy (hf d hd)
  have h0:X.A.in1.handled=none:=I.ok.hd hc
  have W:=walks_zipD (A:=X.A) (drS (P:=X.prog) (w:=X.w) (A:=X.A) h0 i1 x t) (dr_tup (prog:=X.prog) (w:=X.w) h0 i2 b (n2 i2 (by simp)).symm vb.toArray) (za_moreN D n2)
  have hn:min x.cps.size vb.toArray.size=i:=by rw [show vb.toArray.size=ys.length from by rw [List.size_toArray,← rb.length]];exact hi.symm
  refine W.done s _ _ (by rw [hn];exact ⟨st.1,st.2.1,st.2.2.1,st.2.2.2.1,⟨st.2.2.2.2,pb⟩⟩) fun h' tk kk'=>⟨rfl,?_⟩
  exact I.walked (fun c hb=>hf c (by simp at hb ⊢;rcases hb with r | r | r | r <;> simp [r])) kk'
 self:=fun A i s Q E st q=>wpAny_pyIter_zip st.1 q
end
theorem loop_ZN {K:PySem.W.Frag} {x:Str} {b:Addr} {ys:List V} {g:TG} {tb:TS} {D:Ends} {σ:L2.St} {H:Hp} (Pv:Nat->L2.St->Hp->Prop) (h0:Pv 0 σ H) (hl:ys.length=x.length) (ha:∀ i σ H,i<=x.length->Pv i σ H->SqT K H b ys)
  (hs:∀ i y σ H T,i < x.length->ys[i]?=some y->Pv i σ H->H T=none->g (.ref T) σ (upd H T (.tup [.str ⟨#[x.cps.toList.getD i 0]⟩,y])) fun σ2 H2=>tb { D with nx:=Pv (i+1),ct:=Pv (i+1),bk:=D.nx } σ2 H2) (hd:∀ σ H,Pv x.length σ H->D.nx σ H):LoopR (ItZN K x b) g tb D σ H:=by
 refine ⟨fun i m σ H=>m+i=x.length/\Pv i σ H,⟨x.length,rfl,h0⟩,?_⟩
 rintro i m σ H ⟨hm,p⟩
 have e2:=ha i σ H (by omega) p
 by_cases hi:i < x.length
 ·refine .inr ⟨⟨ys,ys[i]'(by omega),e2,hi,by simp [hl,hi]⟩,Pv (i+1),fun σ' H' p'=>⟨m - 1,by omega,by omega,p'⟩,fun v H' q=>?_⟩
  obtain ⟨T,y,hT,rfl,q2,rfl⟩:=q
  exact hs i y σ H T hi (q2 ys e2) p hT
 ·obtain rfl:i=x.length:=by omega
  exact .inl ⟨⟨ys,e2,by omega⟩,hd σ H p⟩
section
variable {X:Cx}
def iZipN (K:PySem.W.Frag) (ta:TA):TI:=fun σ H R=>ta σ H fun vs H1=>∃ x b ys,vs=[.str x,.ref b]/\SqT K H1 b ys/\R (ItZN K x b) H1
theorem qpi_zipN {K:PySem.W.Frag} (hK:X.K=K) {a b:Expr} {ta:TA} {p pos tpos:Pos} {elts:List Expr} {kk:Nat} (hg:Gl X "zip") (hm:X.mg "zip"=none) (ha:QA X [a,b] ta) (hs:starEach [a,b] X.env=[(false,eval a X.env),(false,eval b X.env)]:=by rfl) (hs2:starEach [b] X.env=[(false,eval b X.env)]:=by rfl) :
  QI X (.Tuple elts kk tpos) (.Call (.Name "zip" p) [a,b] [] pos) (iZipN K ta):=by
 subst hK
 refine ⟨fun pins s σ H R I h=>?_⟩
 refine Call_ (ld_blt I hg hm bt_zip (PyProof.Rows.callWith_type1 (thn (ha.h pos pins s σ H _ I h) fun us s1 ⟨vs,H1,I1,r1,q1⟩=>?_) (by rw [hs,hs2]) (by rw [hs2];rfl)))
 obtain ⟨x,d,ys,rfl,ed,q⟩:=q1
 obtain ⟨u1,u2,rfl,ru,rv⟩:=vals2 r1
 obtain ⟨t,rfl⟩:=ru
 cases rv
 obtain ⟨vb,rb,pb,_⟩:=I1.tuple ed
 refine call_zipST pb fun h' M=>?_
 have I2:Inv X pins σ H1 { s1 with heap:=h' }:=I1.kept (t':=s1.toks) M.old
 have D:ZA (s1.heap.objs.size+4) (s1.heap.objs.size+2) (s1.heap.objs.size+3) s1.heap.objs.size (s1.heap.objs.size+1) [s1.heap.objs.size] [s1.heap.objs.size+1]:=by
  constructor <;> simp <;> omega
 refine wpAny_pyIter_zip M.z ⟨s1.heap.objs.size+4,_,_,_,H1,rfl,I2,turn_zipN x t d _ _ _ _ _ D,⟨M.z,M.ti,⟨_,_,M.to⟩,M.i1,M.i2⟩,fun b hb=>?_,q⟩
 have hb':s1.heap.objs.size<=b:=by
  simp only [List.mem_cons,List.not_mem_nil,or_false] at hb
  rcases hb with rfl | rfl | rfl | rfl | rfl <;> first | exact Nat.le_refl _ | exact Nat.le_add_right _ _
 exact I1.fpOk (H':=H1) hb' (I1.hok.fresh hb')
end
end L2
namespace L2
open PySem PySem.Spec PyProof.Rows
section
variable {prog:Program} {w:World} {J:Type} [DecidableEq J] {knd:HeapKind prog w J} {A:Around} {E:Value->Shared->Prop} {s:Shared} {d a:Addr} {k:J} {xs:List (J × Addr × Value)} {x:Value}
end
section
variable {X:Cx} {o e f:Expr} {apos cpos:Pos} {td ty tx:TE}
end
end L2
namespace L2
open PySem PySem.Spec PyProof.Rows
section
variable {X:Cx}
end
end L2
namespace L2
open PySem PySem.Spec PyProof.Rows
section
variable {X:Cx} {pins:List (Addr × Obj)} {σ:St} {H:Hp} {s:Shared}
theorem Inv.thaw {d:Addr} {o:Obj} {u:HO} (I:Inv X pins σ H s) (e:H d=some (.frz o u)) (n0:∀ o u,X.H₀ d≠some (.frz o u)):Inv X pins σ (upd H d u) s:=by
 have ne:∀ b v,H b=v->(∀ o u,v≠some (.frz o u))->b≠d:=fun b v q n z=>n o u (by rw [← q,z,e])
 have stay:∀ {b:Addr} {v:HO},ObjOk X.prog X.w H s.heap b v->ObjOk X.prog X.w (upd H d u) s.heap b v:=fun x=>x.stay (fun _ _ _ q=>q) (fun c q=>by rw [jc (ne c _ q (fun _ _ z=>nomatch z))];exact q) fun c xs q=>by rw [jc (ne c _ q (fun _ _ z=>nomatch z))];exact q
 refine ⟨I.ok,I.os,I.bare,⟨I.base.keep,I.base.slot,fun b ob q n hx=>?_,I.base.there,fun b xs q=>?_,fun b ob v q=>?_,fun b ps q=>?_⟩,I.loc,I.cell,?_,fun x c q=>?_,fun p hp=>?_,fun b v q=>?_,I.len⟩
 ·have:=I.base.free b ob q n hx
  rw [jc (ne b _ this (fun _ _ z=>nomatch z))];exact this
 ·have:=I.base.tups b xs q
  rw [jc (ne b _ this (fun _ _ z=>nomatch z))];exact this
 ·rw [jc (fun z=>n0 ob v (by rw [← z];exact q))];exact I.base.frzs b ob v q
 ·obtain ⟨more,this⟩:=I.base.tbls b ps q
  exact ⟨more,by rw [jc (ne b _ this (fun _ _ z=>nomatch z))];exact this⟩
 ·rw [jc (ne _ _ I.free (fun _ _ z=>nomatch z))];exact I.free
 ·have:=I.freeC x c q
  rw [jc (ne _ _ this (fun _ _ z=>nomatch z))];exact this
 ·obtain ⟨h1,h2,h3⟩:=I.pin p hp
  exact ⟨h1,by rw [jc (ne _ _ h2 (fun _ _ z=>nomatch z))];exact h2,h3⟩
 ·by_cases hb:b=d
  ·subst hb
   rw [jb] at q
   cases q
   exact stay (show ObjOk X.prog X.w H s.heap b (.frz o u) from I.hok b _ e).2
  ·rw [jc hb] at q
   exact stay (I.hok b v q)
def tThaw (H0:Hp) (t:TS):TS:=fun D σ H=>∃ d,(∀ o u,H0 d≠some (.frz o u))/\t { D with nx:=fun σ' H'=>∃ o u,H' d=some (.frz o u)/\D.nx σ' (upd H' d u) } σ H
theorem ps_thaw {st:Stmt} {t:TS} (h:PS X st t):PS X st (tThaw X.H₀ t):=by
 intro pins s σ H D I ⟨d,n0,q⟩
 refine thn (h pins s σ H _ I q) fun fl s' hs=>?_
 cases fl with
 | next=>obtain ⟨σ',H',I',o,u,e,q'⟩:=hs;exact ⟨σ',upd H' d u,I'.thaw e n0,q'⟩
 | _=>exact hs
theorem ja3 {st:Stmt} {t:TS} (h:QS X st t):QS X st (tThaw X.H₀ t):=⟨ps_thaw h.h⟩
end
def ItK (d:Addr) (kvs:List (Key × V)) (o:Obj):It:=⟨fun i H=>i < kvs.length/\H d=some (.frz o (.dK kvs)),fun i H x H'=>H'=H/\∃ kv,kvs[i]?=some kv/\x=kV kv.1,fun i H=>kvs.length<=i/\H d=some (.frz o (.dK kvs))⟩
theorem dK_at {P:Program} {w:World} {H:Hp} {h:Heap} {d:Addr} {o:Obj} {kvs:List (Key × V)} (ok:HOk P w H h) (e:H d=some (.frz o (.dK kvs))) :
  h.get? d=some o/\(d == sysModules)=false/\o.ExactDict/\∃ es ep,o.data=.dict es ep/\es.size=kvs.length/\∀ (i:Nat) (kv:Key × V),kvs[i]?=some kv->∃ en,es[i]?=some en/\RelV (kV kv.1) en.key:=by
 obtain ⟨g,z,y,vs,r,o',es,ep,q1,q2,q3,q4,q5,q6⟩:=(show ObjOk P w H h d (.frz o (.dK kvs)) from ok d _ e)
 rw [g] at q1
 cases q1
 have two:∀ {kvs:List (Key × V)} {vs:List (Key × Value)} {l:List DictEntry},KV kvs vs->Pairs (mixKind P w) l vs->l.length=kvs.length/\∀ (i:Nat) (kv:Key × V),kvs[i]?=some kv->∃ en,l[i]?=some en/\RelV (kV kv.1) en.key:=by
  intro kvs vs l r
  induction r generalizing l with
  | nil=>intro p;cases p;exact ⟨rfl,fun i kv e=>by simp at e⟩
  | cons h _ ih =>
   intro p
   cases p with
   | cons h1 _ t =>
    obtain ⟨i1,i2⟩:=ih t
    refine ⟨by simp [i1],fun i kv e=>?_⟩
    cases i with
    | zero =>
     simp at e
     subst e
     refine ⟨_,rfl,?_⟩
     rw [h.1]
     rcases keyIs_shape h1 with ⟨j,t,e1,e2⟩ | ⟨x,t,e1,e2⟩
     ·rw [e1,e2];exact ⟨t,rfl⟩
     ·rw [e1,e2];exact ⟨t,rfl⟩
    | succ i=>simp at e;obtain ⟨en,a,b⟩:=i2 i kv e;exact ⟨en,by simpa using a,b⟩
 obtain ⟨h1,h2⟩:=two r q5
 exact ⟨g,y,q2,es,ep,q3,by simpa using h1,fun i kv e=>by obtain ⟨en,a,b⟩:=h2 i kv e;exact ⟨en,by simpa using a,b⟩⟩
theorem turn_dK {P:Program} {w:World} {K:PySem.W.Frag} {tg:Expr} (d it:Addr) (kvs:List (Key × V)) (o:Obj) (es:Array DictEntry) (ep:Nat) (hdo:o.data=.dict es ep) (hes:es.size=kvs.length):Turn P w K tg (ItK d kvs o) [it] it (fun i h=>h.IsKeyIter it d i es.size ep) where
 mem:=by simp
 obj:=fun i h st b hb=>by
  cases List.mem_singleton.mp hb
  obtain ⟨oi,e,c,q⟩:=st
  exact ⟨oi,e,fun v z=>by rw [q] at z;cases z⟩
 keep:=fun i h h' st k=>st.at fun o e=>k it (by simp) o e
 item:=by
  intro X hP hw hK hc i pins s σ H E I hf st hg
  subst hP hw hK
  obtain ⟨g,_,_,es',ep',q3,_,all⟩:=dK_at I.hok hg.2
  rw [hdo] at q3
  cases q3
  obtain ⟨kv,hkv⟩:∃ kv,kvs[i]?=some kv:=⟨kvs[i]'hg.1,by simp⟩
  obtain ⟨en,h1,h2⟩:=all i kv hkv
  obtain ⟨f0,f1,f2,f3,f4,f5⟩:=hf it (by simp)
  refine kd_item st g hdo h1 fun h' st' sb=>?_
  have I1:Inv X pins σ H { s with heap:=h' }:=I.turned (t':=s.toks) (fun b o hb e=>(sb.2 b hb).trans e) f0 f1 f3 f4 f5
  obtain ⟨oi,ei,c,q⟩:=id st'
  exact ⟨en.key,rfl,go_of (s:={ s with heap:=h' }) ei c q (by decide) ⟨kV kv.1,H,I1,h2,⟨rfl,kv,hkv,rfl⟩,st',fun b hb=>(hf b hb).1⟩⟩
 done:=by
  intro X hP hw hK hc i pins s σ H E I hf st hg
  subst hP hw hK
  obtain ⟨g,_⟩:=dK_at I.hok hg.2
  obtain ⟨f0,f1,f2,f3,f4,f5⟩:=hf it (by simp)
  have hi:=hg.1
  exact kd_end (I.ok.hd hc) st g hdo (by omega) fun h' eb=>⟨rfl,I.turned (t':=s.toks) (fun b o hb e=>eb b o hb e) f0 f1 f3 f4 f5⟩
 self:=fun _ _ _ _ _ st h=>wpAny_pyIter_keyiter st h
section
variable {X:Cx} {tg:Expr}
def rDK (x:V) (H1:Hp) (R:It->Hp->Prop):Prop:=∃ d kvs,x=.ref d/\((H1 d=some (.dK kvs)/\∀ o,R (ItK d kvs o) (upd H1 d (.frz o (.dK kvs))))∨∃ o,H1 d=some (.frz o (.dK kvs))/\R (ItK d kvs o) H1)
def iDK (ta:TE):TI:=fun σ H R=>ta σ H fun x H1=>rDK x H1 R
theorem pi_dK {l:Expr} {tl:TE} (hl:PE X l tl):PI X tg l (iDK tl):=by
 intro pins s σ H R I h
 refine thn (hl pins s σ H _ I h) fun v s1 ⟨x,H1,I1,r1,d,kvs,ex,q1⟩=>?_
 subst ex
 cases r1
 have fin:∀ (H2:Hp) (o:Obj),Inv X pins σ H2 s1->H2 d=some (.frz o (.dK kvs))->R (ItK d kvs o) H2->wpAny (model X.prog X.w) X.A (pyIter (.ref d)) (PIE X pins σ tg R) X.xe s1:=by
  intro H2 o I2 e q
  obtain ⟨g,hS,q2,es,ep,q3,hes,_⟩:=dK_at I2.hok e
  refine kd_iter hS g q2 q3 ⟨s1.heap.objs.size,[s1.heap.objs.size],_,_,H2,rfl,I2.kept (t':=s1.toks) fun b o e=>Heap.get?_push_of_some _ e,turn_dK d _ kvs o es ep q3 hes,⟨_,Heap.get?_push_size _ rfl,rfl,rfl⟩,fun b hb=>?_,q⟩
  cases List.mem_singleton.mp hb
  exact I2.fpOk (Nat.le_refl _) (I2.hok.fresh (Nat.le_refl _))
 rcases q1 with ⟨e,q1⟩ | ⟨o,e,q1⟩
 ·obtain ⟨z,hS,vs,r,o,es,ep,w1,w2⟩:=(show ObjOk X.prog X.w H1 s1.heap d (.dK kvs) from I1.hok d _ e)
  exact fin (upd H1 d (.frz o (.dK kvs))) o (I1.write (t':=s1.toks) (x:=d) (e:=d) (by rw [e];exact True.intro) (.inl rfl) (fun b u _ q=>q) ⟨o,w1⟩ ⟨w1,z,hS,vs,r,o,es,ep,w1,w2⟩) jb (q1 o)
 ·exact fin H1 o I1 e q1
theorem jaz {l:Expr} {tl:TE} (hl:QE X l tl):QI X tg l (iDK tl):=⟨pi_dK hl.h⟩
end
theorem loop_dK {d:Addr} {kvs:List (Key × V)} {o:Obj} {g:TG} {tb:TS} {D:Ends} {σ:L2.St} {H:Hp} (Pv:Nat->L2.St->Hp->Prop) (h0:Pv 0 σ H) (hl:∀ i σ H,i<=kvs.length->Pv i σ H->H d=some (.frz o (.dK kvs)))
  (hs:∀ i kv σ H,kvs[i]?=some kv->Pv i σ H->g (kV kv.1) σ H fun σ2 H2=>tb { D with nx:=Pv (i+1),ct:=Pv (i+1),bk:=D.nx } σ2 H2) (hd:∀ σ H,Pv kvs.length σ H->D.nx σ H):LoopR (ItK d kvs o) g tb D σ H:=by
 refine ⟨fun i m σ H=>m+i=kvs.length/\Pv i σ H,⟨kvs.length,rfl,h0⟩,?_⟩
 rintro i m σ H ⟨hm,p⟩
 have fz:=hl i σ H (by omega) p
 rcases Nat.lt_or_ge i kvs.length with hi | hi
 ·refine .inr ⟨⟨hi,fz⟩,Pv (i+1),fun σ' H' p'=>⟨m - 1,by omega,by omega,p'⟩,?_⟩
  rintro x H' ⟨rfl,kv,hkv,rfl⟩
  exact hs i kv σ H' hkv p
 ·obtain rfl:i=kvs.length:=by omega
  exact .inl ⟨⟨hi,fz⟩,hd σ H p⟩
section
variable {H:Hp} {D:Addr} {r:L2.St} {tt:TT} {te:TE} {E:Ends}
theorem compIf_dK {d:Addr} {kvs:List (Key × V)} {o:Obj} (p:V->Bool) (f:V->V) (hd:H d=some (.frz o (.dK kvs))) (hD:H D=none) (hz:kvs.length<=sizeLine)
  (ht:∀ x ∈ kvs.map (fun kv=>kV kv.1),∀ l Q,Q (p x) (upd H D (.lst l))->tt (some x::r) (upd H D (.lst l)) Q) (he:∀ x ∈ kvs.map (fun kv=>kV kv.1),p x=true->∀ l Q,Q (f x) (upd H D (.lst l))->te (some x::r) (upd H D (.lst l)) Q)
  (hn:∀ v,E.nx (v::r) (upd H D (.lst (((kvs.map fun kv=>kV kv.1).filter p).map f)))):LoopR (ItK d kvs o) (gName 0) (tEmitIf D tt te) E (none::r) (upd H D (.lst [])):=by
 have ne:d≠D:=je hd hD
 refine loop_dK (fun i σ H'=>∃ v:Option V,σ=v::r/\H'=upd H D (.lst ((((kvs.map fun kv=>kV kv.1).take i).filter p).map f))) ⟨none,rfl,rfl⟩ ?_ ?_ ?_
 ·rintro i σ H' _ ⟨v,_,rfl⟩
  rw [jc ne];exact hd
 ·rintro i kv σ H' hx0 ⟨v,rfl,rfl⟩
  have hx:(kvs.map fun kv=>kV kv.1)[i]?=some (kV kv.1):=by rw [List.getElem?_map,hx0];rfl
  have hl:i < kvs.length:=(List.getElem?_eq_some_iff.mp hx0).1
  have hm:=List.mem_of_getElem? hx
  have hf:((((kvs.map fun kv=>kV kv.1).take i).filter p).map f).length<=i:=by
   rw [List.length_map]
   exact Nat.le_trans (List.length_filter_le _ _) (by rw [List.length_take];omega)
  refine ht _ hm _ _ ?_
  by_cases q:p (kV kv.1)=true
  ·rw [q,if_pos rfl]
   refine he _ hm q _ _ ⟨_,by rw [jb];rfl,by omega,some (kV kv.1),rfl,?_⟩
   rw [upd_D,filt_step p f _ i _ hx,if_pos q]
  ·rw [if_neg q]
   refine ⟨some (kV kv.1),rfl,?_⟩
   rw [filt_step p f _ i _ hx,if_neg q,List.append_nil]
 ·rintro σ H' ⟨v,rfl,rfl⟩
  have:=hn v
  rw [List.take_of_length_le (by simp)]
  exact this
end
end L2
namespace L2
open PySem PySem.Spec PyProof.Rows
section
variable {X:Cx}
def rLenD:List V->Hp->VK->Prop:=fun xs H Q=>∃ a kvs,xs=[.ref a]/\Rd H a (.dK kvs)/\Q (.int (kvs.length:Int)) H
theorem ja7:CallR X (.builtin "len") rLenD:=by
 intro pins s σ H xs us Q I r h
 obtain ⟨a,kvs,rfl,e,q⟩:=h
 obtain ⟨u,rfl,rx⟩:=vals1 r
 cases rx
 exact d_len I e fun t s' I'=>⟨.int _,H,I',⟨t,rfl⟩,q⟩
def rPopD:V->List V->Hp->VK->Prop:=fun x vs H Q=>∃ a kvs k v,x=.ref a/\vs=[kV k]/\H a=some (.dK kvs)/\valV kvs k=some v/\Q v (upd H a (.dK (dropK kvs k)))
theorem mt_popD:MtM X "dict.pop" rPopD:=by
 intro pins s σ H x vs v us Q I rx rv h
 obtain ⟨a,kvs,k,y,rfl,rfl,e,l,q⟩:=h
 cases rx
 obtain ⟨u,rfl,ru⟩:=rv.one
 exact d_pop I e ru l (.inl rfl) fun w' s' I' rw'=>⟨y,_,I',rw',q⟩
def isDk (x:V) (H:Hp):Prop:=∃ p kvs,x=.ref p/\H p=some (.dK kvs)
def tBMD (r:V->List V->Hp->VK->Prop) (to:TE) (t:TA):TE:=fun σ H Q=>to σ H fun x H1=>isDk x H1/\t σ H1 fun xs H2=>r x xs H2 Q
theorem qpe_bmD {o e:Expr} {es:List Expr} {to:TE} {t:TA} {name:Str} {apos cpos:Pos} {id:String} {r:V->List V->Hp->VK->Prop} (slot:Slot "dict" name id) (hty:typeOf (.builtin id)=pure (.type "method_descriptor")) (hm:MtM X id r) (ho:QE X o to) (ha:QA X (e::es) t) (mono:∀ σ H Q Q',(∀ v H',Q v H'->Q' v H')->to σ H Q->to σ H Q')
  (hbase:attributeBase o name X.env (eval o X.env)=eval o X.env:=by rfl)
  (hfew:((backTo cpos (starEach (e::es) X.env)).all (fun x=>!x.1) && (backToKw cpos (keywordEach [] X.env)).all (fun x=>x.1.isSome)
   && decide ((e::es).length+([]:List Keyword).length+(if ([]:List Keyword).isEmpty then 0 else 1) < 30))=true:=by rfl)
  (hline:(apos.endLine == cpos.line)=true:=by rfl) (hs:starEach (e::es) X.env=(false,eval e X.env)::starEach es X.env:=by rfl) (hplain:(backTo cpos (starEach es X.env)).any (·.1)=false:=by rfl) :
  QE X (.Call (.Attribute o name apos) (e::es) [] cpos) (tBMD r to t) :=
 ⟨(jcf PySem.F.plainAttrs_dict slot hty hm ho.h ha.h hbase hfew hline hs hplain).imp fun σ H Q h=>mono σ H _ _ (fun v H' q=>⟨by
  obtain ⟨⟨p,kvs,rfl,e⟩,_⟩:=q
  exact .inr (.inr (.inl ⟨rfl,.inl ⟨kvs,e⟩⟩)),q.2⟩) h⟩
def Mono (t:TE):Prop:=∀ σ H (Q Q':VK),(∀ v H',Q v H'->Q' v H')->t σ H Q->t σ H Q'
theorem mono_v (i:Nat):Mono (tVar i):=mono_var
theorem mono_ix {a b:TE} (ha:Mono a) (hb:Mono b):Mono (tOp rIxU a b):=fun σ H Q Q' h q=>ha σ H _ _ (fun x H1 q1=>hb σ H1 _ _ (fun y H2 q2=>by
 unfold rIxU at q2 ⊢
 split at q2
 ·exact ⟨q2.1,let ⟨c,e,q3⟩:=q2.2;⟨c,e,h _ _ q3⟩⟩
 ·exact let ⟨xs,e,v,e2,q3⟩:=q2;⟨xs,e,v,e2,h _ _ q3⟩
 ·exact q2.elim) q1) q
theorem mono_nil:Mono (tLst tNil):=fun σ H Q Q' h q=>⟨q.1,fun p hp=>h _ _ (q.2 p hp)⟩
theorem mono_dset {a b c:TE} (ha:Mono a) (hb:Mono b) (hc:Mono c):Mono (tDSet a b c):=fun σ H Q Q' h q=>ha σ H _ _ (fun x H1 ⟨d,e,i,q1⟩=>⟨d,e,i,hb σ H1 _ _ (fun y H2 q2=>hc σ H2 _ _ (fun z H3 ⟨kvs,k,e1,e2,e3,q3,q4⟩=>⟨kvs,k,e1,e2,e3,fun v hv=>h _ _ (q3 v hv),fun hn=>h _ _ (q4 hn)⟩) q2) q1⟩) q
end
end L2
namespace L2
open PySem PySem.Spec PyProof.Rows
section
variable {X:Cx} {pins:List (Addr × Obj)} {σ:St} {H:Hp} {s:Shared}
theorem run_fnCD {k:Nat} {f:Addr} {fd:FuncData} {ps:List Str} {sp:Sp} {Q:VK} {us ds:List Value} {vs dvs:List V} {cs:List (Addr × Obj)} (F:FnOk X.prog X.w X.K X.mg X.base CX0 k f fd ps sp) (hr:Room k X.A) (hb:Binds X.K fd ps ds) (hd:Vals dvs ds)
  (I:Inv X pins σ H s) (r:Vals vs us) (hc:∀ b o,cs.lookup b=some o->s.heap.get? b=some o/\H b=none/\X.base.get? b=none/\b ∉ frs X.stack)
  (h:sp (vs++dvs) (showC H cs) (fun v H2=>Q v (hideC H2 (cs.map Prod.fst))) E0):wpAny (model X.prog X.w) X.A (call (.ref f) us) (EP X pins σ Q) X.xe s:=by
 have r2:Vals (vs++dvs) (us++ds):=r.append hd
 have hl:(us++ds).length=ps.length:=by rw [← r2.length];exact F.len _ _ _ _ h
 refine wpAny_call (codeAny_mono (F.run X.A X.stack s (showC H cs) ⟨us,[]⟩ (us++ds) (vs++dvs) _ E0 hr (I.env0C hc) (hb s us I.kIn hl) r2 h) fun r s' hq=>?_)
 cases r with
 | error e=>exact False.elim hq
 | ok fl =>
  cases fl with
  | ret u =>
   obtain ⟨v,H',os,bare,un,hok,rv,q⟩:=hq
   refine I.after ⟨v,_,os,bare,Un.hideS un hok fun b o z=>⟨(hc b o z).1,(hc b o z).2.1⟩,HOk.hideC hok fun c m=>?_,rv,q⟩
   obtain ⟨o,z⟩:=lookup_mem m
   exact ⟨o,un.frzs c o _ (showC_in z)⟩
  | next=>exact False.elim hq
  | brk=>exact False.elim hq
  | cont=>exact False.elim hq
def tCallCD (js:List (Nat × Addr)) (sp:Sp) (dvs:List V) (t:TA):TE:=fun σ H Q=>t σ H fun vs H1=>(∀ j ∈ js,∃ v,σ[j.1]?=some (some v))/\∀ cs,CellsAt σ H1 js cs->sp (vs++dvs) (showC H1 cs) (fun v H2=>Q v (hideC H2 (cs.map Prod.fst))) E0
theorem qpe_callCD {k:Nat} {f:Addr} {fd:FuncData} {ps:List Str} {sp:Sp} {x:Str} {p pos:Pos} {e:Expr} {es:List Expr} {t:TA} {ds:List Value} {dvs:List V} (js:List (Nat × Addr)) (hjs:∀ j ∈ js,∃ x,X.N[j.1]?=some x/\X.env.kindOf x=some .cell/\X.fn x=true/\X.env.cells.lookup x=some j.2)
  (F:FnOk X.prog X.w X.K X.mg X.base CX0 k f fd ps sp) (hr:Room k X.A) (hg:Gl X x) (hm:X.mg x=some (.ref f)) (hk:PySem.W.keepIn X.K (.ref f)=true) (hb:Binds X.K fd ps ds) (hd:Vals dvs ds) (ha:QA X (e::es) t)
  (hdb:(x == ("__debug__":Str))=false:=by decide) (he:starEach (e::es) X.env=(false,eval e X.env)::starEach es X.env:=by rfl) (hpl:(backTo pos (starEach es X.env)).any (·.1)=false:=by rfl) :
  QE X (.Call (.Name x p) (e::es) [] pos) (tCallCD js sp dvs t):=by
 refine ⟨fun pins s σ H Q I h=>?_⟩
 refine wpAny_Call_Name_kw (ld_glob I hg hm ?_ hdb)
 refine PySem.W.callWith_K (h₀:=X.base) I.ok.mod.kin hk (thn (ha.h pos pins s σ H _ I h) fun us s1 ⟨vs,H1,I1,r,hb1,q⟩=>⟨I1.kIn,?_⟩) he hpl
 obtain ⟨cs,pr,hc⟩:=cells_of I1 hjs hb1
 exact run_fnCD F hr hb hd I1 r hc (q cs pr)
end
end L2
namespace L2
open PySem PySem.Spec PyProof.Rows
section
variable {X:Cx}
theorem jb7 {o i value:Expr} {td ty tv:TE} {tpos pos:Pos} {op:Operator} {rd:V->V->Hp->VK->Prop} (hu:X.A.units+1 < cLine) (ho:QE X o td) (hi:QE X i ty) (hv:QE X value tv) (hop:PIp X op rd)
  (ha:∀ ov iv new,augStore i ov iv new=(do holding [new,ov,iv] (setItem ov iv new);release [new,ov,iv] [];pure .next):=by intros;rfl):QS X (.AugAssign (.Subscript o i tpos) op value pos) (sDAug td ty tv rd):=⟨ps_daug hu ho.h hi.h hv.h (fun pins s σ H x y u v Q I rx ry h=>hop pins s σ H x y u v Q I rx ry h) ha⟩
def rSumG:List V->Hp->VK->Prop:=fun xs H Q=>∃ p,xs=[.ref p]/\∃ ns:List Int,H p=some (.lst (ns.map V.int))/\Q (.int ns.sum) H
theorem jat (hc:X.calm=true):CallR X (.builtin "sum") rSumG:=by
 intro pins s σ H xs us Q I r h
 obtain ⟨p,rfl,ns,e,q⟩:=h
 obtain ⟨u,rfl,ru⟩:=vals1 r
 cases ru
 obtain ⟨its,rr,pl,_⟩:=I.list (SqL.of e)
 have isl:=pl.isList
 have plt:p < s.heap.objs.size:=by obtain ⟨_,e,_⟩:=isl;exact Heap.lt_size e
 have hlen:its.length=ns.length:=by have:=rr.length;simpa using this.symm
 refine call_sum_walkG (wpAny_pyIter_list isl ?_)
 refine ⟨s.heap.objs.size,[s.heap.objs.size,p],[s.heap.objs.size],its.toArray.size,_,_,fun i=>(ns[i]?).getD 0,rfl,Walks.list (A:=X.A.in1) (I.ok.hd hc) _ p (Nat.ne_of_lt plt) its.toArray,
  ⟨⟨_,Heap.get?_push_size _ rfl,rfl,rfl⟩,isl.push _⟩,?_,fun i v hp=>?_,fun h' tk t' hk=>?_⟩
 ·intro b hb
  show b < (s.heap.objs.push _).size
  rw [Array.size_push]
  rcases List.mem_cons.mp hb with rfl | hb
  ·exact Nat.lt_succ_self _
  ·rw [List.mem_singleton.mp hb];exact Nat.lt_succ_of_lt plt
 ·obtain ⟨n,t,e1,rfl⟩:=vals_intsI rr i v (by simpa using hp)
  exact ⟨t,by show Value.int n t=Value.int ((ns[i]?).getD 0) t;rw [e1];rfl⟩
 ·rw [List.size_toArray,hlen,preSum_list ns ns.length (Nat.le_refl _),List.take_length]
  exact ⟨.int _,H,I.kept (kept_it hk),⟨_,rfl⟩,q⟩
end
end L2
namespace My
open PySem
def toS (l:List Nat):Str:=⟨l.toArray⟩
theorem toS_app (l:List Nat) (c:Nat):toS l++(⟨#[c]⟩:Str)=toS (l++[c]):=by
 show (⟨l.toArray++#[c]⟩:Str)=⟨(l++[c]).toArray⟩
 simp
theorem toS_len (l:List Nat):(toS l).length=l.length:=by simp [toS,Str.length]
end My
namespace My
open PySem L2 PyProof.Rows
theorem last_of {α:Type} {xs:List α} {x:α} (h:xs[xs.length - 1]?=some x):xs=xs.dropLast++[x]:=by
 have hne:xs≠[]:=by rintro rfl;simp at h
 have e:=List.dropLast_concat_getLast hne
 have e2:xs.getLast hne=x:=by
  rw [List.getLast_eq_getElem hne]
  have:=(List.getElem?_eq_some_iff.mp h).2
  exact this
 rw [← e2,e]
theorem atI_m1 {α:Type} {xs:List α} {v:α} (h:xs[xs.length - 1]?=some v):atI xs (-1)=some v:=by
 rw [last_of h]
 exact atI_last _ _
end My
namespace My
structure Mc where
 n:Nat
 m:Nat
 d:Nat->Nat->Nat
 y:Nat->Bool
structure Mc.ok (M:Mc):Prop where
 lt:∀ r a,r < M.n->a < M.m->M.d r a < M.n
def Mc.led (M:Mc) (r:Nat) (w:List Nat):Nat:=w.foldl M.d r
def Mc.ws (M:Mc) (w:List Nat):Prop:=∀ a ∈ w,a < M.m
def Mc.eq (M:Mc) (r s:Nat):Prop:=∀ w,M.ws w->M.y (M.led r w)=M.y (M.led s w)
theorem Mc.led_lt {M:Mc} (h:M.ok):∀ {w:List Nat} {r:Nat},r < M.n->M.ws w->M.led r w < M.n
 | [],r,hr,_=>hr
 | a::w,r,hr,hw=>Mc.led_lt h (w:=w) (h.lt r a hr (hw a (.head _))) fun b hb=>hw b (.tail _ hb)
theorem Mc.eq_step {M:Mc} {r s a:Nat} (h:M.eq r s) (ha:a < M.m):M.eq (M.d r a) (M.d s a):=fun w hw=>h (a::w) fun b hb=>by
 rcases List.mem_cons.mp hb with rfl | hb
 ·exact ha
 ·exact hw b hb
theorem Mc.eq_y {M:Mc} {r s:Nat} (h:M.eq r s):M.y r=M.y s:=h [] (by simp [Mc.ws])
def Enough (M:Mc) (G:Nat->Nat) (due:List (Nat × Nat)):Prop :=
 ∀ E:Nat->Nat->Prop,(∀ r s,E r s->r < M.n/\s < M.n/\G r=G s)->(∀ i a,(i,a) ∈ due->∀ r s,E r s->(G (M.d r a)=i↔G (M.d s a)=i))->∀ a,a < M.m->∀ r s,E r s->G (M.d r a)=G (M.d s a)
structure Pt (M:Mc) (G:Nat->Nat) (p:Nat) (due:List (Nat × Nat)):Prop where
 lt:∀ r,r < M.n->G r < p
 co:∀ r s,r < M.n->s < M.n->M.eq r s->G r=G s
 ye:∀ r s,r < M.n->s < M.n->G r=G s->M.y r=M.y s
 du:∀ i a,(i,a) ∈ due->i < p/\a < M.m
 en:Enough M G due
theorem Pt.step {M:Mc} (ok:M.ok) {G G':Nat->Nat} {p p':Nat} {due due':List (Nat × Nat)} {i a:Nat} {par:Nat->Nat} (h:Pt M G p (due++[(i,a)])) (pp:p<=p') (lt':∀ r,r < M.n->G' r < p') (pr:∀ r,r < M.n->par (G' r)=G r) (po:∀ k,k < p->par k=k)
  (sp:∀ r s,r < M.n->s < M.n->G' r=G' s->(G (M.d r a)=i↔G (M.d s a)=i)) (sm:∀ r s,r < M.n->s < M.n->G r=G s->(G (M.d r a)=i↔G (M.d s a)=i)->G' r=G' s)
  (d1:∀ q ∈ due,q ∈ due') (d2:∀ k b,p<=k->k < p'->b < M.m->(k,b) ∈ due') (d3:∀ k b,(k,b) ∈ due'->k < p'/\b < M.m):Pt M G' p' due':=by
 have ha:a < M.m:=(h.du i a (by simp)).2
 refine ⟨lt',fun r s hr hs e=>?_,fun r s hr hs e=>h.ye r s hr hs (by rw [← pr r hr,← pr s hs,e]),d3,?_⟩
 ·refine sm r s hr hs (h.co r s hr hs e) ?_
  rw [h.co _ _ (ok.lt r a hr ha) (ok.lt s a hs ha) (Mc.eq_step e ha)]
 ·intro E hE hS b hb r s ers
  have key:=h.en E (fun r s e=>by
   obtain ⟨h1,h2,h3⟩:=hE r s e
   exact ⟨h1,h2,by rw [← pr r h1,← pr s h2,h3]⟩) (fun j c hj r s e=>by
   obtain ⟨h1,h2,h3⟩:=hE r s e
   rcases List.mem_append.mp hj with hj' | hj'
   ·have hc:=(h.du j c hj).2
    have jp:=(h.du j c hj).1
    have l1:=ok.lt r c h1 hc
    have l2:=ok.lt s c h2 hc
    have old:=hS j c (d1 _ hj') r s e
    have new:∀ k,p<=k->k < p'->(G' (M.d r c)=k↔G' (M.d s c)=k):=fun k k1 k2=>hS k c (d2 k c k1 k2 hc) r s e
    have one:∀ r s,r < M.n->s < M.n->M.d r c < M.n->M.d s c < M.n->(G' (M.d r c)=j↔G' (M.d s c)=j)->(∀ k,p<=k->k < p'->(G' (M.d r c)=k↔G' (M.d s c)=k))->G (M.d r c)=j->G (M.d s c)=j:=fun r s _ _ q1 q2 o n g=>by
     by_cases c1:G' (M.d r c) < p
     ·have:G' (M.d r c)=j:=by rw [← po _ c1,pr _ q1,g]
      rw [← pr _ q2,o.mp this,po j jp]
     ·have:=(n (G' (M.d r c)) (by omega) (lt' _ q1)).mp rfl
      rw [← pr _ q2,this,pr _ q1,g]
    exact ⟨one r s h1 h2 l1 l2 old new,one s r h2 h1 l2 l1 old.symm fun k k1 k2=>(new k k1 k2).symm⟩
   ·simp at hj'
    obtain ⟨rfl,rfl⟩:=hj'
    exact sp r s h1 h2 h3) b hb r s ers
  obtain ⟨h1,h2,h3⟩:=hE r s ers
  have l1:=ok.lt r b h1 hb
  have l2:=ok.lt s b h2 hb
  by_cases c1:G' (M.d r b) < p
  ·by_cases c2:G' (M.d s b) < p
   ·rw [← po _ c1,← po _ c2,pr _ l1,pr _ l2,key]
   ·have:=(hS _ b (d2 (G' (M.d s b)) b (by omega) (lt' _ l2) hb) r s ers).mpr rfl
    exact this
  ·exact ((hS _ b (d2 (G' (M.d r b)) b (by omega) (lt' _ l1) hb) r s ers).mp rfl).symm
theorem Pt.done {M:Mc} (ok:M.ok) {G:Nat->Nat} {p:Nat} (h:Pt M G p []) {r s:Nat} (hr:r < M.n) (hs:s < M.n):G r=G s↔M.eq r s:=by
 refine ⟨fun e w hw=>?_,h.co r s hr hs⟩
 have st:=h.en (fun r s=>r < M.n/\s < M.n/\G r=G s) (fun r s h=>h) (by simp)
 induction w generalizing r s with
 | nil=>exact h.ye r s hr hs e
 | cons a w ih =>
  have ha:=hw a (.head _)
  exact ih (ok.lt r a hr ha) (ok.lt s a hs ha) (st a ha r s ⟨hr,hs,e⟩) fun b hb=>hw b (.tail _ hb)
theorem Pt.first {M:Mc} {G:Nat->Nat} {p:Nat} {due:List (Nat × Nat)} (lt:∀ r,r < M.n->G r < p) (ye:∀ r s,r < M.n->s < M.n->(G r=G s↔M.y r=M.y s)) (all:∀ i a,i < p->a < M.m->(i,a) ∈ due) (du:∀ i a,(i,a) ∈ due->i < p/\a < M.m) (ok:M.ok):Pt M G p due:=by
 refine ⟨lt,fun r s hr hs e=>(ye r s hr hs).mpr (Mc.eq_y e),fun r s hr hs e=>(ye r s hr hs).mp e,du,fun E hE hS a ha r s e=>?_⟩
 obtain ⟨h1,h2,_⟩:=hE r s e
 exact ((hS _ a (all _ a (lt _ (ok.lt r a h1 ha)) ha) r s e).mp rfl).symm
end My
namespace My
structure CI (M:Mc) (G0:Nat->Nat) (p0 i a:Nat) (rest:List Nat) (G:Nat->Nat) (p:Nat):Prop where
 pp:p0<=p
 lt:∀ r,r < M.n->G r < p
 par:∃ par:Nat->Nat,(∀ r,r < M.n->par (G r)=G0 r)/\∀ k,k < p0->par k=k
 un:∀ r,r < M.n->G0 r ∈ rest->G r=G0 r
 sp:∀ r s,r < M.n->s < M.n->G0 r=G0 s->G0 r ∉ rest->(G r=G s↔(G0 (M.d r a)=i↔G0 (M.d s a)=i))
theorem CI.init {M:Mc} {G0:Nat->Nat} {p0 i a:Nat} {gk:List Nat} (lt:∀ r,r < M.n->G0 r < p0) (no:∀ r,r < M.n->G0 r ∉ gk->G0 (M.d r a)≠i):CI M G0 p0 i a gk G0 p0 :=
 ⟨Nat.le_refl _,lt,⟨id,fun _ _=>rfl,fun _ _=>rfl⟩,fun _ _ _=>rfl,fun r s hr hs e n=>⟨fun _=>⟨fun h=>absurd h (no r hr n),fun h=>absurd h (no s hs (e ▸ n))⟩,fun _=>e⟩⟩
theorem CI.same {M:Mc} {G0 G:Nat->Nat} {p0 i a g p:Nat} {rest:List Nat} (h:CI M G0 p0 i a (g::rest) G p) (all:∀ r,r < M.n->G0 r=g->G0 (M.d r a)=i):CI M G0 p0 i a rest G p:=by
 refine ⟨h.pp,h.lt,h.par,fun r hr m=>h.un r hr (.tail _ m),fun r s hr hs e n=>?_⟩
 by_cases c:G0 r=g
 ·have u1:=h.un r hr (c ▸ .head _)
  have u2:=h.un s hs (by rw [← e,c];exact .head _)
  exact ⟨fun _=>⟨fun _=>all s hs (by rw [← e];exact c),fun _=>all r hr c⟩,fun _=>by rw [u1,u2,e]⟩
 ·exact h.sp r s hr hs e (fun z=>(List.mem_cons.mp z).elim c n)
theorem CI.cut {M:Mc} {G0 G G':Nat->Nat} {p0 i a g p:Nat} {rest sh:List Nat} (h:CI M G0 p0 i a (g::rest) G p) (ng:g ∉ rest) (gp:g < p0) (sub:∀ r ∈ sh,r < M.n/\G0 r=g) (how:(∀ r,r < M.n->G0 r=g->(r ∈ sh↔G0 (M.d r a)=i))∨∀ r,r < M.n->G0 r=g->(r ∈ sh↔¬ G0 (M.d r a)=i))
  (hG:∀ r,r < M.n->G' r=if r ∈ sh then p else G r):CI M G0 p0 i a rest G' (p+1):=by
 have pp:=h.pp
 refine ⟨by omega,fun r hr=>?_,?_,fun r hr m=>?_,fun r s hr hs e n=>?_⟩
 ·rw [hG r hr];have:=h.lt r hr;split <;> omega
 ·obtain ⟨par,h1,h2⟩:=h.par
  refine ⟨fun k=>if k=p then g else par k,fun r hr=>?_,fun k hk=>by show (if k=p then g else par k)=k;rw [if_neg (by omega)];exact h2 k hk⟩
  show (if G' r=p then g else par (G' r))=G0 r
  have:=h.lt r hr
  rw [hG r hr]
  by_cases c:r ∈ sh
  ·rw [if_pos c,if_pos rfl];exact (sub r c).2.symm
  ·rw [if_neg c,if_neg (by omega)];exact h1 r hr
 ·have c:r ∉ sh:=fun c=>ng ((sub r c).2 ▸ m)
  rw [hG r hr,if_neg c];exact h.un r hr (.tail _ m)
 ·rw [hG r hr,hG s hs]
  have l1:=h.lt r hr
  have l2:=h.lt s hs
  by_cases c:G0 r=g
  ·have c':G0 s=g:=by rw [← e];exact c
   have u1:=h.un r hr (c ▸ .head _)
   have u2:=h.un s hs (c' ▸ .head _)
   have key:((if r ∈ sh then p else G r)=if s ∈ sh then p else G s)↔(r ∈ sh↔s ∈ sh):=by
    by_cases m1:r ∈ sh <;> by_cases m2:s ∈ sh
    ·simp [m1,m2]
    ·rw [if_pos m1,if_neg m2];exact ⟨fun z=>by omega,fun z=>absurd (z.mp m1) m2⟩
    ·rw [if_neg m1,if_pos m2];exact ⟨fun z=>by omega,fun z=>absurd (z.mpr m2) m1⟩
    ·rw [if_neg m1,if_neg m2,u1,u2];exact ⟨fun _=>⟨fun z=>absurd z m1,fun z=>absurd z m2⟩,fun _=>e⟩
   rw [key]
   rcases how with w | w
   ·rw [w r hr c,w s hs c']
   ·rw [w r hr c,w s hs c']
    exact ⟨fun z=>⟨fun x=>Classical.byContradiction fun y=>(z.mpr y) x,fun x=>Classical.byContradiction fun y=>(z.mp y) x⟩,fun z=>⟨fun x y=>x (z.mpr y),fun x y=>x (z.mp y)⟩⟩
  ·have m1:r ∉ sh:=fun m=>c (sub r m).2
   have m2:s ∉ sh:=fun m=>c (by rw [e];exact (sub s m).2)
   rw [if_neg m1,if_neg m2]
   exact h.sp r s hr hs e (fun z=>(List.mem_cons.mp z).elim c n)
theorem Pt.task {M:Mc} (ok:M.ok) {G0 G:Nat->Nat} {p0 p i a:Nat} {due due':List (Nat × Nat)} (h:Pt M G0 p0 (due++[(i,a)])) (c:CI M G0 p0 i a [] G p) (d1:∀ q ∈ due,q ∈ due') (d2:∀ k b,p0<=k->k < p->b < M.m->(k,b) ∈ due') (d3:∀ k b,(k,b) ∈ due'->k < p/\b < M.m):Pt M G p due':=by
 obtain ⟨par,h1,h2⟩:=c.par
 refine h.step ok c.pp c.lt h1 h2 (fun r s hr hs e=>?_) (fun r s hr hs e q=>(c.sp r s hr hs e (by simp)).mpr q) d1 d2 d3
 have e0:G0 r=G0 s:=by rw [← h1 r hr,← h1 s hs,e]
 exact (c.sp r s hr hs e0 (by simp)).mp e
end My
namespace My
def Pth (W:Nat->List Nat):Nat->Nat->Nat->Prop
 | 0,a,b=>a=b
 | k+1,a,b=>∃ c,Pth W k a c/\b ∈ W c
theorem Pth.cat {W:Nat->List Nat} {a b:Nat} {k:Nat} (h:Pth W k a b):∀ {j c:Nat},Pth W j b c->Pth W (k+j) a c
 | 0,c,h2=>by cases h2;exact h
 | j+1,c,⟨d,h2,h3⟩=>⟨d,Pth.cat h h2,h3⟩
structure Gr (lv:List Nat) (W:Nat->List Nat):Prop where
 nd:lv.Nodup
 cl:∀ g ∈ lv,∀ t ∈ W g,t ∈ lv
 z:0 ∈ lv
 rc:∀ r ∈ lv,∃ k,Pth W k 0 r
def tot (lv:List Nat) (W:Nat->List Nat) (r:Nat):Nat:=(lv.flatMap W).count r
theorem Gr.path_mem {lv:List Nat} {W:Nat->List Nat} (g:Gr lv W) {a:Nat} (ha:a ∈ lv):∀ {k b:Nat},Pth W k a b->b ∈ lv
 | 0,b,h=>by cases h;exact ha
 | k+1,b,⟨c,h,hb⟩=>g.cl c (Gr.path_mem g ha h) b hb
theorem tot_cons (x:Nat) (S:List Nat) (W:Nat->List Nat) (t:Nat):tot (x::S) W t=(W x).count t+tot S W t:=by
 unfold tot;rw [List.flatMap_cons,List.count_append]
theorem tot_erase {W:Nat->List Nat} {t:Nat}:∀ {lv:List Nat} {x:Nat},x ∈ lv->tot lv W t=(W x).count t+tot (lv.erase x) W t
 | y::lv,x,h=>by
  rw [List.erase_cons]
  by_cases c:y=x
  ·subst c;rw [if_pos (by simp),tot_cons]
  ·rw [if_neg (by simpa using c),tot_cons,tot_cons,tot_erase ((List.mem_cons.mp h).resolve_left (fun z=>c z.symm))]
   omega
theorem tot_le {W:Nat->List Nat} {t:Nat}:∀ {S lv:List Nat},S.Nodup->(∀ x ∈ S,x ∈ lv)->tot S W t<=tot lv W t
 | [],_,_,_=>by simp [tot]
 | x::S,lv,nd,sub=>by
  obtain ⟨nx,nd'⟩:=List.nodup_cons.mp nd
  rw [tot_cons,tot_erase (sub x (.head _))]
  have:=tot_le (W:=W) (t:=t) (S:=S) (lv:=lv.erase x) nd' fun y hy=>(List.mem_erase_of_ne (fun e:y=x=>nx (e ▸ hy))).mpr (sub y (.tail _ hy))
  omega
theorem tot_pos {lv:List Nat} {W:Nat->List Nat} {r:Nat}:0 < tot lv W r↔∃ g ∈ lv,r ∈ W g:=by
 unfold tot
 rw [List.count_pos_iff,List.mem_flatMap]
theorem Gr.pos {lv:List Nat} {W:Nat->List Nat} (g:Gr lv W) {r:Nat} (hr:r ∈ lv) (nz:r≠0):0 < tot lv W r:=by
 obtain ⟨k,h⟩:=g.rc r hr
 cases k with
 | zero=>exact absurd h.symm nz
 | succ k =>
  obtain ⟨c,h1,h2⟩:=h
  exact tot_pos.mpr ⟨c,g.path_mem g.z h1,h2⟩
structure KI (lv:List Nat) (W:Nat->List Nat) (p:Nat) (Wj:List Nat) (dn:List Nat) (c d:Nat->Int):Prop where
 nd:dn.Nodup
 sub:∀ r ∈ dn,r ∈ lv
 ce:∀ r ∈ lv,c r=(tot lv W r:Int) - (tot (dn.take p) W r+Wj.count r:Nat)
 me:∀ r ∈ lv,(r ∈ dn↔c r=0)
 dd:∀ r ∈ lv,0<=d r/\(d r=0∨Pth W (d r).toNat 0 r)
 up:∀ u ∈ dn.take p,∀ t ∈ W u,d u+1<=d t
theorem KI.init {lv:List Nat} {W:Nat->List Nat} (g:Gr lv W) {dn:List Nat} (h:dn=if (tot lv W 0:Int)=0 then [0] else []):KI lv W 0 [] dn (fun r=>(tot lv W r:Nat)) (fun _=>0):=by
 refine ⟨?_,?_,fun r _=>by simp [tot],fun r hr=>?_,fun r _=>⟨by omega,.inl rfl⟩,by simp⟩
 ·subst h;split <;> simp
 ·subst h;split
  ·simpa using g.z
  ·simp
 ·subst h
  by_cases z:r=0
  ·subst z
   split
   ·rename_i e;simpa using e
   ·rename_i e;simpa using e
  ·have:=g.pos hr z
   split
   ·simp [z];omega
   ·simp;omega
theorem take_succ_eq {l:List Nat} {p u:Nat} (h:l[p]?=some u):l.take (p+1)=l.take p++[u]:=by rw [List.take_add_one,h];rfl
theorem tot_snoc (S:List Nat) (u:Nat) (W:Nat->List Nat) (t:Nat):tot (S++[u]) W t=tot S W t+(W u).count t:=by
 unfold tot;rw [List.flatMap_append,List.count_append];simp
theorem KI.fresh {lv:List Nat} {W:Nat->List Nat} {p j u t:Nat} {dn:List Nat} {c d:Nat->Int} (K:KI lv W p ((W u).take j) dn c d) (hu:dn[p]?=some u) (ht:(W u)[j]?=some t) (tl:t ∈ lv):1<=c t:=by
 rw [K.ce t tl]
 have h1:=tot_le (W:=W) (t:=t) (S:=dn.take (p+1)) (lv:=lv) (K.nd.sublist (List.take_sublist _ _)) fun x hx=>K.sub x (List.mem_of_mem_take hx)
 rw [take_succ_eq hu,tot_snoc] at h1
 have h2:((W u).take j).count t+1<=(W u).count t:=by
  have e:(W u).take (j+1)=(W u).take j++[t]:=by rw [List.take_add_one,ht];rfl
  have:((W u).take (j+1)).count t<=(W u).count t:=(List.take_sublist _ _).count_le t
  rw [e,List.count_append] at this
  simpa using this
 omega
theorem KI.step {lv:List Nat} {W:Nat->List Nat} {p j u t:Nat} {dn:List Nat} {c d:Nat->Int} (g:Gr lv W) (K:KI lv W p ((W u).take j) dn c d) (hu:dn[p]?=some u) (ht:(W u)[j]?=some t) (uj:∀ x ∈ (W u).take j,d u+1<=d x) :
  let c':=fun r=>if r=t then c t - 1 else c r
  let d':=fun r=>if r=t then max (d t) (d u+1) else d r
  let dn':=if c t - 1=0 then dn++[t] else dn
  KI lv W p ((W u).take (j+1)) dn' c' d'/\dn'[p]?=some u/\d' u=d u/\∀ x ∈ (W u).take (j+1),d' u+1<=d' x:=by
 intro c' d' dn'
 have um:=List.mem_of_getElem? hu
 have ul:=K.sub u um
 have tl:=g.cl u ul t (List.mem_of_getElem? ht)
 have c1:=K.fresh hu ht tl
 have tn:t ∉ dn:=fun m=>by have:=(K.me t tl).mp m;omega
 have ut:u≠t:=fun e=>tn (e ▸ um)
 have pl:=(List.getElem?_eq_some_iff.mp hu).1
 have tj:(W u).take (j+1)=(W u).take j++[t]:=by rw [List.take_add_one,ht];rfl
 have pre:∃ s,dn'=dn++s:=by
  show ∃ s,(if c t - 1=0 then dn++[t] else dn)=dn++s
  split
  ·exact ⟨_,rfl⟩
  ·exact ⟨[],by simp⟩
 obtain ⟨s,es⟩:=pre
 have tp:dn'.take p=dn.take p:=by rw [es,List.take_append_of_le_length (by omega)]
 have du:d' u=d u:=if_neg ut
 have dge:∀ r,d r<=d' r:=fun r=>by
  show d r<=if r=t then max (d t) (d u+1) else d r
  split
  ·rename_i e;rw [e];omega
  ·omega
 refine ⟨⟨?_,?_,fun r hr=>?_,fun r hr=>?_,fun r hr=>?_,fun x hx y hy=>?_⟩,?_,du,fun x hx=>?_⟩
 ·show (if c t - 1=0 then dn++[t] else dn).Nodup
  split
  ·rw [List.nodup_append]
   exact ⟨K.nd,by simp,fun a ha b hb e=>tn ((e.trans (List.mem_singleton.mp hb)) ▸ ha)⟩
  ·exact K.nd
 ·intro r hr
  have hr:r ∈ if c t - 1=0 then dn++[t] else dn:=hr
  split at hr
  ·rcases List.mem_append.mp hr with h | h
   ·exact K.sub r h
   ·cases List.mem_singleton.mp h;exact tl
  ·exact K.sub r hr
 ·rw [tp,tj,List.count_append]
  show (if r=t then c t - 1 else c r)=_
  by_cases e:r=t
  ·subst e
   rw [if_pos rfl,K.ce r hr];simp;omega
  ·have:[t].count r=0:=List.count_eq_zero.mpr (by simpa using e)
   rw [if_neg e,K.ce r hr,this];omega
 ·show r ∈ (if c t - 1=0 then dn++[t] else dn)↔(if r=t then c t - 1 else c r)=0
  by_cases e:r=t
  ·subst e
   rw [if_pos rfl]
   split
   ·rename_i h;simp [h]
   ·rename_i h;simp [h,tn]
  ·rw [if_neg e,← K.me r hr]
   split
   ·simp [e]
   ·rfl
 ·obtain ⟨h1,h2⟩:=K.dd r hr
  show 0<=(if r=t then max (d t) (d u+1) else d r)/\_
  refine ⟨by have:=dge r;show 0<=d' r;omega,?_⟩
  show (if r=t then max (d t) (d u+1) else d r)=0∨Pth W (if r=t then max (d t) (d u+1) else d r).toNat 0 r
  by_cases e:r=t
  ·subst e
   rw [if_pos rfl]
   obtain ⟨u1,u2⟩:=K.dd u ul
   by_cases q:d u+1<=d r
   ·rw [Int.max_eq_left q];exact h2
   ·rw [Int.max_eq_right (by omega)]
    refine .inr ?_
    have pu:Pth W (d u).toNat 0 u:=by
     rcases u2 with z | z
     ·by_cases uz:u=0
      ·rw [z,uz];exact rfl
      ·
       have cu:=(K.me u ul).mp um
       rw [K.ce u ul] at cu
       have tp':=g.pos ul uz
       exfalso
       have:0 < tot (dn.take p) W u∨0 < ((W u).take j).count u:=by omega
       rcases this with h | h
       ·obtain ⟨x,hx,hxu⟩:=tot_pos.mp h
        have q1:=K.up x hx u hxu
        have q2:=(K.dd x (K.sub x (List.mem_of_mem_take hx))).1
        omega
       ·have q1:=uj u (List.count_pos_iff.mp h)
        omega
     ·exact z
    rw [show (d u+1).toNat=(d u).toNat+1 by omega]
    exact ⟨u,pu,List.mem_of_getElem? ht⟩
  ·rw [if_neg e];exact h2
 ·rw [tp] at hx
  have:=K.up x hx y hy
  have xn:x≠t:=fun e=>tn (e ▸ List.mem_of_mem_take hx)
  have:=dge y
  show (if x=t then max (d t) (d u+1) else d x)+1<=d' y
  rw [if_neg xn];omega
 ·rw [es,List.getElem?_append_left pl];exact hu
 ·rw [du]
  rw [tj] at hx
  rcases List.mem_append.mp hx with h | h
  ·have:=uj x h
   have:=dge x
   omega
  ·cases List.mem_singleton.mp h
   show d u+1<=if t=t then max (d t) (d u+1) else d t
   rw [if_pos rfl];omega
theorem KI.room {lv:List Nat} {W:Nat->List Nat} {p u:Nat} {dn:List Nat} {c d:Nat->Int} (K:KI lv W p (W u) dn c d) (hu:dn[p]?=some u) (uj:∀ x ∈ W u,d u+1<=d x):KI lv W (p+1) [] dn c d:=by
 refine ⟨K.nd,K.sub,fun r hr=>?_,K.me,K.dd,fun x hx=>?_⟩
 ·rw [K.ce r hr,take_succ_eq hu,tot_snoc];simp
 ·rw [take_succ_eq hu] at hx
  rcases List.mem_append.mp hx with h | h
  ·exact K.up x h
  ·cases List.mem_singleton.mp h;exact uj
theorem KI.pth {lv:List Nat} {W:Nat->List Nat} {dn:List Nat} {c d:Nat->Int} (g:Gr lv W) (K:KI lv W dn.length [] dn c d) {r:Nat} (hr:r ∈ dn):Pth W (d r).toNat 0 r:=by
 have rl:=K.sub r hr
 obtain ⟨h1,h2 | h2⟩:=K.dd r rl
 ·by_cases z:r=0
  ·rw [h2,z];exact rfl
  ·have cu:=(K.me r rl).mp hr
   rw [K.ce r rl] at cu
   have tp:=g.pos rl z
   have:0 < tot (dn.take dn.length) W r:=by simp at cu ⊢;omega
   obtain ⟨x,hx,hxu⟩:=tot_pos.mp this
   have q1:=K.up x hx r hxu
   have q2:=(K.dd x (K.sub x (List.mem_of_mem_take hx))).1
   omega
 ·exact h2
theorem KI.max {lv:List Nat} {W:Nat->List Nat} {dn:List Nat} {c d:Nat->Int} (g:Gr lv W) (K:KI lv W dn.length [] dn c d) (all:∀ r ∈ lv,r ∈ dn):∀ {k r:Nat},Pth W k 0 r->(k:Int)<=d r
 | 0,r,h=>by cases h;exact (K.dd 0 g.z).1
 | k+1,r,⟨x,h,hr⟩=>by
  have:=KI.max g K all h
  have xl:=g.path_mem g.z h
  have:=K.up x (by rw [List.take_length];exact all x xl) r hr
  omega
theorem KI.round {lv:List Nat} {W:Nat->List Nat} {dn:List Nat} {c d:Nat->Int} (g:Gr lv W) (K:KI lv W dn.length [] dn c d) {r:Nat} (hr:r ∈ lv) (nr:r ∉ dn):∀ k:Nat,∃ s,s ∈ lv/\s ∉ dn/\Pth W k s r:=by
 have one:∀ r,r ∈ lv->r ∉ dn->∃ x,x ∈ lv/\x ∉ dn/\r ∈ W x:=fun r hr nr=>by
  have cn:c r≠0:=fun z=>nr ((K.me r hr).mpr z)
  rw [K.ce r hr,List.take_length] at cn
  refine Classical.byContradiction fun no=>cn ?_
  have le:=tot_le (W:=W) (t:=r) K.nd K.sub
  have ge:tot lv W r<=tot dn W r:=by
   have key:∀ S:List Nat,S.Nodup->(∀ x ∈ S,x ∈ lv)->tot S W r=tot (S.filter fun x=>decide (x ∈ dn)) W r:=fun S=>by
    induction S with
    | nil=>intro _ _;rfl
    | cons x S ih =>
     intro nd sub
     obtain ⟨_,nd'⟩:=List.nodup_cons.mp nd
     have i:=ih nd' fun y hy=>sub y (.tail _ hy)
     by_cases m:x ∈ dn
     ·rw [List.filter_cons,if_pos (by simpa using m),tot_cons,tot_cons,i]
     ·rw [List.filter_cons,if_neg (by simpa using m),tot_cons,i]
      have:(W x).count r=0:=List.count_eq_zero.mpr fun h=>no ⟨x,sub x (.head _),m,h⟩
      omega
   rw [key lv g.nd fun x h=>h]
   exact tot_le (g.nd.filter _) fun x hx=>by simpa using (List.mem_filter.mp hx).2
  simp;omega
 intro k
 induction k generalizing r with
 | zero=>exact ⟨r,hr,nr,rfl⟩
 | succ k ih =>
  obtain ⟨x,h1,h2,h3⟩:=one r hr nr
  obtain ⟨s,q1,q2,q3⟩:=ih h1 h2
  exact ⟨s,q1,q2,x,q3,h3⟩
end My
namespace My
def Wd (M:Mc):Nat->Nat->List (List Nat)
 | 0,r=>if M.y r then [[]] else []
 | n+1,r=>(List.range M.m).flatMap fun a=>(Wd M n (M.d r a)).map (a::·)
def Rb (M:Mc):Nat->Nat->Bool
 | 0,r=>M.y r
 | n+1,r=>(List.range M.m).any fun a=>Rb M n (M.d r a)
def cn (M:Mc) (n r:Nat):Nat:=(Wd M n r).length
def Al (M:Mc) (n:Nat):List (List Nat):=(List.range n).flatMap fun i=>Wd M i 0
theorem Rb_iff (M:Mc):∀ (n r:Nat),Rb M n r=true↔Wd M n r≠[]
 | 0,r=>by
  show M.y r=true↔(if M.y r then [[]] else [])≠[]
  cases M.y r <;> simp
 | n+1,r=>by
  show (List.range M.m).any _=true↔(List.range M.m).flatMap _≠[]
  rw [List.any_eq_true]
  refine ⟨fun ⟨a,ha,h⟩ e=>?_,fun h=>Classical.byContradiction fun no=>h ?_⟩
  ·have:=List.flatMap_eq_nil_iff.mp e a ha
   exact (Rb_iff M n _).mp h (List.map_eq_nil_iff.mp this)
  ·refine List.flatMap_eq_nil_iff.mpr fun a ha=>List.map_eq_nil_iff.mpr (Classical.byContradiction fun c=>no ⟨a,ha,(Rb_iff M n _).mpr c⟩)
theorem fm_at {α β:Type} {f:α->List β}:∀ {l:List α} {i:Nat} {x:β},(l.flatMap f)[i]?=some x->∃ a j,l[a]?.isSome/\(∃ y,l[a]?=some y/\(f y)[j]?=some x)/\i=(((l.take a).map fun y=>(f y).length).sum)+j
 | [],i,x,h=>by simp at h
 | y::l,i,x,h=>by
  rw [List.flatMap_cons] at h
  by_cases c:i < (f y).length
  ·rw [List.getElem?_append_left c] at h
   exact ⟨0,i,rfl,⟨y,rfl,h⟩,by simp⟩
  ·rw [List.getElem?_append_right (by omega)] at h
   obtain ⟨a,j,h1,⟨z,h2,h3⟩,h4⟩:=fm_at h
   refine ⟨a+1,j,by simpa using h1,⟨z,by simpa using h2,h3⟩,?_⟩
   rw [List.take_succ_cons,List.map_cons,List.sum_cons];omega
theorem fm_range {β:Type} {f:Nat->List β} {n i:Nat} {x:β} (h:((List.range n).flatMap f)[i]?=some x):∃ a j,a < n/\(f a)[j]?=some x/\i=((List.range a).map fun y=>(f y).length).sum+j:=by
 obtain ⟨a,j,h1,⟨y,h2,h3⟩,h4⟩:=fm_at h
 obtain ⟨an,e⟩:=List.getElem?_eq_some_iff.mp h2
 rw [List.getElem_range] at e
 rw [List.length_range] at an
 subst e
 refine ⟨a,j,an,h3,?_⟩
 rw [List.take_range,Nat.min_eq_left (by omega)] at h4
 exact h4
def rk (M:Mc):Nat->List Nat->Nat
 | _,[]=>0
 | r,a::w=>((List.range a).map fun b=>cn M w.length (M.d r b)).sum+rk M (M.d r a) w
theorem Wd_at (M:Mc):∀ (n r i:Nat) (w:List Nat),(Wd M n r)[i]?=some w->w.length=n/\M.ws w/\M.y (M.led r w)=true/\rk M r w=i
 | 0,r,i,w,h=>by
  have h:(if M.y r then [[]] else []:List (List Nat))[i]?=some w:=h
  cases e:M.y r with
  | false=>rw [e] at h;simp at h
  | true =>
   rw [e] at h
   cases i with
   | zero=>simp at h;subst h;exact ⟨rfl,by simp [Mc.ws],e,rfl⟩
   | succ i=>simp at h
 | n+1,r,i,w,h=>by
  obtain ⟨a,j,am,h1,h2⟩:=fm_range h
  rw [List.getElem?_map] at h1
  obtain ⟨u,hu,rfl⟩:=Option.map_eq_some_iff.mp h1
  obtain ⟨h3,h4,h5,h6⟩:=Wd_at M n _ j u hu
  refine ⟨by rw [List.length_cons,h3],fun b hb=>(List.mem_cons.mp hb).elim (fun e=>e ▸ am) (h4 b),h5,?_⟩
  show ((List.range a).map fun b=>cn M u.length (M.d r b)).sum+rk M (M.d r a) u=i
  rw [h6,h2,h3]
  simp [cn]
theorem Wd_mem (M:Mc):∀ (w:List Nat) (r:Nat),M.ws w->M.y (M.led r w)=true->w ∈ Wd M w.length r
 | [],r,_,h=>by
  show [] ∈ if M.y r then [[]] else []
  have:M.y r=true:=h
  rw [this];simp
 | a::w,r,hw,h=>by
  refine List.mem_flatMap.mpr ⟨a,List.mem_range.mpr (hw a (.head _)),List.mem_map.mpr ⟨w,?_,rfl⟩⟩
  exact Wd_mem M w _ (fun b hb=>hw b (.tail _ hb)) h
theorem Al_at (M:Mc) {N i:Nat} {w:List Nat} (h:(Al M N)[i]?=some w):w.length < N/\M.ws w/\M.y (M.led 0 w)=true/\((List.range w.length).map fun s=>cn M s 0).sum+rk M 0 w=i:=by
 obtain ⟨a,j,an,h1,h2⟩:=fm_range h
 obtain ⟨h3,h4,h5,h6⟩:=Wd_at M a 0 j w h1
 refine ⟨by omega,h4,h5,?_⟩
 rw [h6,h2,h3]
 simp [cn]
theorem Al_len (M:Mc) (N:Nat):(Al M N).length=((List.range N).map fun s=>cn M s 0).sum:=by
 unfold Al;rw [List.length_flatMap];rfl
theorem Al_succ (M:Mc) (N:Nat):Al M (N+1)=Al M N++Wd M N 0:=by
 unfold Al;rw [List.range_succ,List.flatMap_append];simp
theorem Al_add (M:Mc) (N:Nat):∀ k,∃ s,Al M (N+k)=Al M N++s/\((∀ j,N<=j->Wd M j 0=[])->s=[])
 | 0=>⟨[],by simp,fun _=>rfl⟩
 | k+1=>by
  obtain ⟨s,h1,h2⟩:=Al_add M N k
  refine ⟨s++Wd M (N+k) 0,by rw [← Nat.add_assoc,Al_succ,h1,List.append_assoc],fun h=>?_⟩
  rw [h2 h,h _ (by omega)];rfl
theorem cn_succ (M:Mc) (n r:Nat):cn M (n+1) r=((List.range M.m).map fun a=>cn M n (M.d r a)).sum:=by
 show ((List.range M.m).flatMap _).length=_
 rw [List.length_flatMap]
 congr 1
 refine List.map_congr_left fun a _=>?_
 simp [cn]
def extW (M:Mc) (R:Nat->Bool) (x:List Nat × Nat):List (List Nat × Nat):=((List.range M.m).filter fun a=>R (M.d x.2 a)).map fun a=>(x.1++[a],M.d x.2 a)
def Pf (M:Mc) (N:Nat):Nat->List (List Nat × Nat)
 | 0=>if Rb M N 0 then [([],0)] else []
 | j+1=>(Pf M N j).flatMap (extW M (Rb M (N - (j+1))))
def Fl (M:Mc) (k:Nat) (x:List Nat × Nat):List (List Nat):=(Wd M k x.2).map (x.1++·)
theorem fm_filter {α β:Type} {f:α->List β} {p:α->Bool}:∀ {l:List α},(∀ x ∈ l,p x=false->f x=[])->(l.filter p).flatMap f=l.flatMap f
 | [],_=>rfl
 | x::l,h=>by
  rw [List.filter_cons,List.flatMap_cons]
  have i:=fm_filter (l:=l) fun y hy=>h y (.tail _ hy)
  cases c:p x with
  | true=>rw [if_pos rfl,List.flatMap_cons,i]
  | false=>rw [if_neg (by simp),i,h x (.head _) c];rfl
theorem ext_Fl (M:Mc) (k:Nat) (x:List Nat × Nat):(extW M (Rb M k) x).flatMap (Fl M k)=Fl M (k+1) x:=by
 unfold extW Fl
 rw [List.flatMap_map,fm_filter]
 ·show _=(List.map _ ((List.range M.m).flatMap _))
  rw [List.map_flatMap]
  congr 1
  funext a
  rw [List.map_map]
  refine List.map_congr_left fun w _=>?_
  show x.1++[a]++w=x.1++(a::w)
  simp
 ·intro a _ h
  have:Wd M k (M.d x.2 a)=[]:=Classical.byContradiction fun c=>by rw [(Rb_iff M k _).mpr c] at h;cases h
  simp [this]
theorem Pf_fl (M:Mc) (N:Nat):∀ j,j<=N->(Pf M N j).flatMap (Fl M (N - j))=Wd M N 0
 | 0,_=>by
  show (if Rb M N 0 then [([],0)] else []).flatMap _=_
  cases c:Rb M N 0 with
  | true=>simp [Fl]
  | false =>
   have:Wd M N 0=[]:=Classical.byContradiction fun z=>by rw [(Rb_iff M N 0).mpr z] at c;cases c
   simp [this]
 | j+1,h=>by
  show ((Pf M N j).flatMap _).flatMap _=_
  rw [List.flatMap_assoc,← Pf_fl M N j (by omega),show N - j=N - (j+1)+1 by omega]
  congr 1
  funext x
  exact ext_Fl M _ x
theorem Pf_mem (M:Mc) (N:Nat):∀ j,∀ x ∈ Pf M N j,Rb M (N - j) x.2=true/\x.1.length=j/\M.ws x.1/\x.2=M.led 0 x.1
 | 0,x,h=>by
  have h:x ∈ if Rb M N 0 then [([],0)] else []:=h
  cases c:Rb M N 0 with
  | true =>
   rw [c] at h
   cases List.mem_singleton.mp h
   exact ⟨c,rfl,by simp [Mc.ws],rfl⟩
  | false=>rw [c] at h;simp at h
 | j+1,x,h=>by
  obtain ⟨y,hy,hx⟩:=List.mem_flatMap.mp h
  obtain ⟨a,ha,rfl⟩:=List.mem_map.mp hx
  obtain ⟨ha,hr⟩:=List.mem_filter.mp ha
  obtain ⟨h1,h2,h3,h4⟩:=Pf_mem M N j y hy
  refine ⟨hr,by simp [h2],fun b hb=>?_,?_⟩
  ·rcases List.mem_append.mp hb with z | z
   ·exact h3 b z
   ·cases List.mem_singleton.mp z;exact List.mem_range.mp ha
  ·show M.d y.2 a=M.led 0 (y.1++[a])
   unfold Mc.led
   rw [List.foldl_append,h4];rfl
theorem Pf_end (M:Mc) (N:Nat):(Pf M N N).map Prod.fst=Wd M N 0:=by
 have:=Pf_fl M N N (Nat.le_refl _)
 rw [Nat.sub_self] at this
 rw [← this,List.map_eq_flatMap]
 have key:∀ l:List (List Nat × Nat),(∀ x ∈ l,[x.1]=Fl M 0 x)->(l.flatMap fun x=>[x.1])=l.flatMap (Fl M 0):=fun l h=>by
  induction l with
  | nil=>rfl
  | cons x l ih=>rw [List.flatMap_cons,List.flatMap_cons,h x (.head _),ih fun y hy=>h y (.tail _ hy)]
 refine key _ fun x hx=>?_
 have h:=(Pf_mem M N N x hx).1
 rw [Nat.sub_self] at h
 have h:M.y x.2=true:=h
 unfold Fl
 show _=List.map _ (if M.y x.2 then [[]] else [])
 rw [h];simp
theorem take_fm {α β:Type} {f:α->List β}:∀ (k:Nat) (l:List α),(∀ x ∈ l,f x≠[])->((l.take k).flatMap f).take k=(l.flatMap f).take k
 | 0,l,_=>by simp
 | k+1,[],_=>by simp
 | k+1,x::l,h=>by
  rw [List.take_succ_cons,List.flatMap_cons,List.flatMap_cons,List.take_append,List.take_append]
  congr 1
  have h1:0 < (f x).length:=List.length_pos_iff.mpr (h x (.head _))
  have i:=take_fm k l fun y hy=>h y (.tail _ hy)
  have e:∀ L:List β,L.take (k+1 - (f x).length)=(L.take k).take (k+1 - (f x).length):=fun L=>by rw [List.take_take,Nat.min_eq_left (by omega)]
  rw [e,i,← e]
theorem ext_ne (M:Mc) {k:Nat} {x:List Nat × Nat} (h:Rb M (k+1) x.2=true):extW M (Rb M k) x≠[]:=by
 obtain ⟨a,ha,h⟩:=List.any_eq_true.mp h
 intro e
 have:=List.map_eq_nil_iff.mp e
 exact absurd (List.mem_filter.mpr ⟨ha,h⟩) (by rw [this];simp)
theorem Pf_take (M:Mc) {N j K:Nat} (hj:j < N):(((Pf M N j).take K).flatMap (extW M (Rb M (N - (j+1))))).take K=(Pf M N (j+1)).take K:=by
 refine take_fm K (Pf M N j) fun x hx=>ext_ne M ?_
 have:=(Pf_mem M N j x hx).1
 rw [show N - (j+1)+1=N - j by omega];exact this
theorem take_more {α:Type} {K:Nat} {L S:List α} (h:(L.take K).length < K):(L.take K)++S.take (K - (L.take K).length)=(L++S).take K:=by
 rw [List.length_take] at h ⊢
 have:L.length < K:=by omega
 rw [List.take_append,List.take_of_length_le (by omega),Nat.min_eq_right (by omega)]
theorem take_full {α:Type} {K:Nat} {L S:List α} (h:K<=(L.take K).length):(L++S).take K=L.take K:=by
 rw [List.length_take] at h
 rw [List.take_append,show K - L.length=0 by omega];simp
end My
namespace My
open PySem L2
local macro_rules
 | `(tactic| simp!)=>`(tactic| simp only [tSeq,tIfS,tTest,tOp,tVar,tC,tAsg,gName,gSub,tRet,tNext,tDrop,tAnd,tOr,tNot,tAndV,tOrV,tB,tIf,tCall,rI0,rI,rAddW_int,rAddW_str,rMulW_int,rMulW_ref,rLtU_int,rLtU_str,rLeU_int,rLeU_str,rIxU_str,rIxU_ref,rLenU_str,rLenU_ref,rMaxU_int,rIntU_int,rIntU_bl,rListU_str,rListU_ref,rPopU_ref,rAppendU_ref,rExtendU_ref,rClearU_ref,rEqU_int,rEqU_bl,rEqU_str,rEqU_ref,rNeU_int,rNeU_bl,rNeU_str,rNeU_ref,rIsU_ty,rSetU_ref,isL_ref,lstOf_lst,tupOf_tup,seqOf_lst,seqOf_tup,Option.isSome_some,tBML,tBML0,tCB,tCons,tNil,tLst,tTup,tSl,tPart,tNoPart,rSlU_str,iAny,iRng1,iRng2,iEnumT,iEnumF,rMinU_int,tDNotIn,sDPut,tAug,ipI,tFor_eq,tComp,tCompIf,compSt,tUn,rU,tTru,rTru_ref,rTru_bl,rTru_str,rPop0U_ref,rInU_str,tBM0,tBM,tyV_str,rIndexU_str,rAnyU_ref,Option.bind_some,Option.bind_none,Option.getD_some,L2.start,List.map_cons,List.map_nil,List.length_cons,List.length_nil,List.cons_append,List.nil_append,List.append_nil,List.cons.injEq,List.replicate,List.getElem?_cons_zero,List.getElem?_cons_succ,List.set_cons_zero,List.set_cons_succ,Nat.reduceSub,Nat.reduceAdd,Nat.reduceLeDiff,Option.some.injEq,V.int.injEq,V.bl.injEq,V.str.injEq,V.ref.injEq,HO.lst.injEq,HO.tup.injEq,exists_eq_left',exists_eq_left,exists_and_left,true_and,and_true,jb,upd_upd,atI_0,atI_1,atI_2,Bool.not_true,Bool.not_false,decide_eq_true_eq,Bool.false_eq_true,if_false,if_true,reduceIte,reduceCtorEq,tCallD,tLam,tDisp,tPairs,tDisp0,tDSet,tDGet,tDisp,tPairs,tThaw,iDK,tBMD,tTru,rTru_ref,tCallCD,sDAug,rSumG,iZipN,iRngDn])
 | `(tactic| simp! [$ls,*])=>`(tactic| simp only [tSeq,tIfS,tTest,tOp,tVar,tC,tAsg,gName,gSub,tRet,tNext,tDrop,tAnd,tOr,tNot,tAndV,tOrV,tB,tIf,tCall,rI0,rI,rAddW_int,rAddW_str,rMulW_int,rMulW_ref,rLtU_int,rLtU_str,rLeU_int,rLeU_str,rIxU_str,rIxU_ref,rLenU_str,rLenU_ref,rMaxU_int,rIntU_int,rIntU_bl,rListU_str,rListU_ref,rPopU_ref,rAppendU_ref,rExtendU_ref,rClearU_ref,rEqU_int,rEqU_bl,rEqU_str,rEqU_ref,rNeU_int,rNeU_bl,rNeU_str,rNeU_ref,rIsU_ty,rSetU_ref,isL_ref,lstOf_lst,tupOf_tup,seqOf_lst,seqOf_tup,Option.isSome_some,tBML,tBML0,tCB,tCons,tNil,tLst,tTup,tSl,tPart,tNoPart,rSlU_str,iAny,iRng1,iRng2,iEnumT,iEnumF,rMinU_int,tDNotIn,sDPut,tAug,ipI,tFor_eq,tComp,tCompIf,compSt,tUn,rU,tTru,rTru_ref,rTru_bl,rTru_str,rPop0U_ref,rInU_str,tBM0,tBM,tyV_str,rIndexU_str,rAnyU_ref,Option.bind_some,Option.bind_none,Option.getD_some,L2.start,List.map_cons,List.map_nil,List.length_cons,List.length_nil,List.cons_append,List.nil_append,List.append_nil,List.cons.injEq,List.replicate,List.getElem?_cons_zero,List.getElem?_cons_succ,List.set_cons_zero,List.set_cons_succ,Nat.reduceSub,Nat.reduceAdd,Nat.reduceLeDiff,Option.some.injEq,V.int.injEq,V.bl.injEq,V.str.injEq,V.ref.injEq,HO.lst.injEq,HO.tup.injEq,exists_eq_left',exists_eq_left,exists_and_left,true_and,and_true,jb,upd_upd,atI_0,atI_1,atI_2,Bool.not_true,Bool.not_false,decide_eq_true_eq,Bool.false_eq_true,if_false,if_true,reduceIte,reduceCtorEq,tCallD,tLam,tDisp,tPairs,tDisp0,tDSet,tDGet,tDisp,tPairs,tThaw,iDK,tBMD,tTru,rTru_ref,tCallCD,sDAug,rSumG,iZipN,iRngDn,$ls,*])
def top (i:Nat):Stmt:=PySem.Challenge.pw_calmword_k11_the_first_texts.main.body.getD i (.Pass ⟨0,0,0,0⟩)
def BoxO (o:HO):Prop:=∃ c s,o=.lst [.int c,.int s]/\1<=s/\s<=2147483629
def spTake:Sp:=fun vs H Q _=>∃ b w o,vs=[.ref b,.int w]/\H b=some o/\BoxO o/\0 < w/\w < 1073741824/\∀ d o,0<=d->d < w->BoxO o->Q (.int d) (upd H b o)
def spBox (K:PySem.W.Frag):Sp:=fun vs H Q _=>∃ (a:Addr) (k:Int) (ns:List Int),vs=[.ref a,.int k]/\SqL K H a (ns.map V.int)/\0<=k/\k<=1000/\∀ b o,H b=none->BoxO o->Q (.ref b) (upd H b o)
section
variable {P:Program} {w:World} {K:PySem.W.Frag} {mg:Str->Option Value} {base:Heap}
abbrev yt:Stmt:=top 23
theorem jar:FnScope ["_law_box_here","_law_wide","_law_digit","_law_one"] ["_law_box_here","_law_wide"] (jg yt):=⟨rfl,rfl,rfl,by decide +kernel,rfl,by decide +kernel,by decide +kernel⟩
theorem ok__law_take {f:Addr} {fd:FuncData} (F:Fun K "_law_take" "_law_take" yt f fd):FnOk P w K mg base CX0 1 f fd ["_law_box_here","_law_wide"] spTake:=by
 refine F.ok jar (fun vs H Q E h=>?_) (fun cdv A outer s H vs Q E hr h=>?_)
 ·obtain ⟨b,w,o,rfl,_⟩:=h
  rfl
 ·obtain ⟨b,w,o,rfl,hb,⟨c,sd,rfl,s1,s2⟩,w0,w1,k⟩:=h
  refine ⟨_,(QSs.h (jf (yb (j4 jbm (jn ix_U (qpv 0) jh (fun _ _=>rfl)) jh (j8 _)) (jf (jj (i:=2) jar.nd rfl (by first | exact Or.inl rfl | exact Or.inr rfl) (jt jac (jn ix_U (qpv 0) jh (fun _ _=>rfl)) (qpv 1)))
  (jf (jbv (jt jbf (jn ix_U (qpv 0) jh (fun _ _=>rfl)) (qpv 1)) (jbu (qpv 0) jh set_U))
  (ji (jz (qpv 2))))) ke)
  (jf (jj (i:=3) jar.nd rfl (by first | exact Or.inl rfl | exact Or.inr rfl) (jt jac (jt zj (jn ix_U (qpv 0) jh (fun _ _=>rfl)) jh) jh))
  (jf (jbv (jt yp (jt jac (jt yp (jt zj (qpv 3) jh) jh) jh) jh) (jbu (qpv 0) jh set_U))
  (ji (jz (jt jac (jt jbf (jt yp (jt zj (qpv 3) jh) (jn ix_U (qpv 0) jh (fun _ _=>rfl))) jh) (qpv 1)))))))),?_⟩
  have m1:∀ z m:Int,0 < m->0<=z % m/\z % m < m:=fun z m h=>⟨Int.emod_nonneg z (by omega),Int.emod_lt_of_pos z h⟩
  simp! [hb]
  refine ite2 (fun hc=>?_) (fun _=>?_)
  ·refine ⟨w0,⟨w0,w1⟩,0,rfl,?_⟩
   simp! [hb]
   exact k _ _ (m1 c w w0).1 (m1 c w w0).2 ⟨_,_,rfl,s1,s2⟩
  ·have q1:=m1 (sd * 69623) 2147483647 (by decide)
   refine ⟨.inl ⟨by omega,by omega⟩,by decide,.inl ⟨by omega,by omega⟩,by decide,1,rfl,?_⟩
   simp! [hb]
   have q2:=m1 (sd * 69623 % 2147483647 * 48271+30103) 2147483629 (by decide)
   refine ⟨.inl ⟨by omega,by omega⟩,⟨by decide,by decide⟩,w0,?_⟩
   exact k _ _ (m1 _ w w0).1 (m1 _ w w0).2 ⟨_,_,rfl,by omega,by omega⟩
structure TBox (mg:Str->Option Value):Prop where
 n_len:mg "len"=none
 n_int:mg "int"=none
abbrev zo:Stmt:=top 22
theorem z5:FnScope ["_law_script","_law_k","_law_cell","_law_seed"] ["_law_script","_law_k"] (jg zo):=⟨rfl,rfl,rfl,by decide +kernel,rfl,by decide +kernel,by decide +kernel⟩
theorem ok__law_box {f:Addr} {fd:FuncData} (F:Fun K "_law_box" "_law_box" zo f fd) (T:TBox mg):FnOk P w K mg base CX0 1 f fd ["_law_script","_law_k"] (spBox K):=by
 refine F.ok z5 (fun vs H Q E h=>?_) (fun cdv A outer s H vs Q E hr h=>?_)
 ·obtain ⟨a,k,ns,rfl,_⟩:=h
  rfl
 ·obtain ⟨a,k,ns,rfl,hS,k0,k1,kk⟩:=h
  refine ⟨_,(QSs.h (jf (jj (i:=2) z5.nd rfl (by first | exact Or.inl rfl | exact Or.inr rfl) (jt yp (jt zj jh (qpv 1)) jh))
  (jf (yb (j4 ja9 (qpv 1) (jo zw (by rfl) T.n_len jx (ja (qpv 0) jd)) (j8 _)) (ji (jj (i:=2) z5.nd rfl (by first | exact Or.inl rfl | exact Or.inr rfl) (jn jbq (qpv 0) (qpv 1) (fun _ _=>rfl)))) (ji (yb (j4 jbm (jo zw (by rfl) T.n_len jx (ja (qpv 0) jd)) jh (j8 _)) (ji (jj (i:=2) z5.nd rfl (by first | exact Or.inl rfl | exact Or.inr rfl) (jt yp (qpv 2) (jt zj (jt jac (jn jbq (qpv 0) (jt jac (qpv 1) (jo zw (by rfl) T.n_len jx (ja (qpv 0) jd))) (fun _ _=>rfl)) jh) jh)))) ke)))
  (jf (jj (i:=3) z5.nd rfl (by first | exact Or.inl rfl | exact Or.inr rfl) (jt yp (jt jac (jt yp (jt zj (jt jac (qpv 2) jh) jh) (jt zj jh (qpv 1))) jh) jh))
  (ji (jz (kf (ja (jt zj (qpv 2) (j6 jas (by rfl) T.n_int jbj (ja (zx op_ge (qpv 2) (jt op_pow jh jh) (j8 _)) jd))) (ja (qpv 3) jd))))))))),?_⟩
  have m1:∀ z m:Int,0 < m->0<=z % m/\z % m < m:=fun z m h=>⟨Int.emod_nonneg z (by omega),Int.emod_lt_of_pos z h⟩
  have tail:∀ cell:Int,(0:Int) < 2147483629/\CMul (cell % 2147483629) 48271/\CMul 40692 k/\(0:Int) < 2147483629/\CPow 10 18/\CMul cell (if (10:Int) ^ (18:Int).toNat<=cell then 1 else 0)/\2<=sizeLine /\
    ∀ p,H p=none->Q (.ref p) (upd H p (.lst [.int (cell * (if (10:Int) ^ (18:Int).toNat<=cell then 1 else 0)),.int ((cell % 2147483629 * 48271+40692 * k) % 2147483629+1)])):=by
   intro cell
   have q1:=m1 cell 2147483629 (by decide)
   have q2:=m1 (cell % 2147483629 * 48271+40692 * k) 2147483629 (by decide)
   refine ⟨by decide,.inl ⟨by omega,by omega⟩,.inl ⟨by decide,by decide⟩,by decide,⟨by decide,by decide,by decide⟩,.inr ?_,by decide,fun p hp=>kk p _ hp ⟨_,_,rfl,by omega,by omega⟩⟩
   split <;> constructor <;> decide
  simp!
  refine ⟨.inl ⟨by decide,by decide⟩,ns.map V.int,.inl hS,?_⟩
  rw [List.length_map]
  refine ite2 (fun h=>?_) (fun h=>?_)
  ·obtain ⟨z,hz⟩:∃ z,ns[k.toNat]?=some z:=⟨ns[k.toNat]'(by omega),by simp⟩
   refine ⟨a,_,k,.int z,rfl,rfl,hS,atI_of k0 (by rw [List.getElem?_map,hz];rfl),?_⟩
   simp!
   exact tail z
  ·refine ⟨ns.map V.int,.inl hS,?_⟩
   rw [List.length_map]
   refine ite2 (fun h2=>?_) (fun h2=>?_)
   ·refine ⟨ns.map V.int,.inl hS,?_⟩
    rw [List.length_map]
    have q:=m1 k (ns.length:Int) (by omega)
    obtain ⟨z,hz⟩:∃ z,ns[(k % (ns.length:Int)).toNat]?=some z:=⟨ns[(k % (ns.length:Int)).toNat]'(by omega),by simp⟩
    refine ⟨by omega,a,_,_,.int z,rfl,rfl,hS,atI_of q.1 (by rw [List.getElem?_map,hz];rfl),?_⟩
    simp!
    have q3:=m1 z 2147483629 (by decide)
    refine ⟨by decide,.inl ⟨by omega,by omega⟩,?_⟩
    exact tail _
   ·exact tail _
end
structure Letters (z:Str) (m:Nat):Prop where
 lo:1<=z.length
 hi:z.length<=m
 az:∀ c ∈ z.cps.toList,97<=c/\c<=122
 nd:z.cps.toList.Nodup
def chV (c:Nat):V:=.str ⟨#[c]⟩
def spLetters:Sp:=fun vs H Q _=>∃ (b:Addr) (m:Nat) (o:HO),vs=[.ref b,.int (m:Int)]/\H b=some o/\BoxO o/\1<=m/\m<=4/\∀ z o' H',Letters z m->BoxO o'->H' b=some o'->Kp [b] H H'->Q (.str z) H'
theorem erase_perm {α:Type}:∀ (l:List α) (i:Nat) (x:α),l[i]?=some x->(x::l.eraseIdx i).Perm l
 | [],i,x,h=>by simp at h
 | a::l,0,x,h=>by simp at h;subst h;exact List.Perm.refl _
 | a::l,i+1,x,h=>by
  rw [List.eraseIdx_cons_succ]
  exact (List.Perm.swap _ _ _).trans ((erase_perm l i x (by simpa using h)).cons a)
theorem map_erase {α β:Type} (f:α->β):∀ (l:List α) (i:Nat),(l.map f).eraseIdx i=(l.eraseIdx i).map f
 | [],_=>rfl
 | _::_,0=>rfl
 | a::l,i+1=>by rw [List.map_cons,List.eraseIdx_cons_succ,List.eraseIdx_cons_succ,List.map_cons,map_erase f l i]
theorem abc_sgn:sgn (Str.ofString "abcdefghijklmnopqrstuvwxyz")=((List.range 26).map (97+·)).map chV:=by decide +kernel
structure TLetters (mg:Str->Option Value) (ft:Addr):Prop where
 n_len:mg "len"=none
 n_list:mg "list"=none
 n_range:mg "range"=none
 m0z:mg "_law_take"=some (.ref ft)
section
variable {P:Program} {w:World} {K:PySem.W.Frag} {mg:Str->Option Value} {base:Heap}
abbrev yq:Stmt:=top 24
theorem zd:FnScope ["_law_box_here","_law_most","_law_pool","_law_found","_law_k"] ["_law_box_here","_law_most"] (jg yq):=⟨rfl,rfl,rfl,by decide +kernel,rfl,by decide +kernel,by decide +kernel⟩
theorem ok__law_letters {f ft:Addr} {fd fdt:FuncData} (F:Fun K "_law_letters" "_law_letters" yq f fd) (T:TLetters mg ft) (F0z:Fun K "_law_take" "_law_take" yt ft fdt) (b0z:Binds K fdt ["_law_box_here","_law_wide"] [])
  (G0z:FnOk P w K mg base CX0 1 ft fdt ["_law_box_here","_law_wide"] spTake):FnOk P w K mg base CX0 2 f fd ["_law_box_here","_law_most"] spLetters:=by
 refine F.ok zd (fun vs H Q E h=>?_) (fun cdv A outer s H vs Q E hr h=>?_)
 ·obtain ⟨b,m,o,rfl,_⟩:=h
  rfl
 ·obtain ⟨b,m,o,rfl,hb,ho,m1,m4,k⟩:=h
  refine ⟨_,(QSs.h (jf (jj (i:=2) zd.nd rfl (by first | exact Or.inl rfl | exact Or.inr rfl) (j6 (jbl rfl) (by rfl) T.n_list jbe (ja jbt jd)))
  (jf (jj (i:=3) zd.nd rfl (by first | exact Or.inl rfl | exact Or.inr rfl) jbt)
  (jf (kg PassesOwn.never rfl (yd rfl T.n_range (ja (jt yp jh (jq G0z (hr.mono (by decide)) rfl T.m0z F0z.kp b0z .nil j9 (ja (qpv 0) (ja (qpv 1) jd)))) jd)) (jm (i:=4) zd.nd rfl (by first | exact Or.inl rfl | exact Or.inr rfl)) (ji (jj (i:=3) zd.nd rfl (by first | exact Or.inl rfl | exact Or.inr rfl) (jt yp (qpv 3) (yi PySem.F.slot_list_pop PySem.F.type_list_pop mt_popU (qpv 2) (ja (jq G0z (hr.mono (by decide)) rfl T.m0z F0z.kp b0z .nil j9 (ja (qpv 0) (ja (jo jr (by rfl) T.n_len jx (ja (qpv 2) jd)) jd))) jd) mono_var)))))
  (ji (jz (qpv 3))))))),?_⟩
  simp!
  refine ⟨by decide,fun p hp=>?_⟩
  have npb:b≠p:=je hb hp
  obtain ⟨c0,s0,rfl,_,_⟩:=id ho
  refine ⟨b,(m:Int),_,rfl,by rw [jc npb];exact hb,ho,by omega,by omega,fun d o1 d0 d1 ho1=>?_⟩
  simp!
  obtain ⟨n,rfl⟩:∃ n:Nat,d=(n:Int):=⟨d.toNat,by omega⟩
  have en:(1+(n:Int)).toNat=n+1:=by omega
  refine ⟨by omega,by omega,?_⟩
  rw [en]
  refine loop_range (fun i σ H'=>∃ l R o' v,σ=[some (.ref b),some (.int (m:Int)),some (.ref p),some (.str (toS l)),v]/\H' b=some o'/\BoxO o'/\H' p=some (.lst (R.map chV))/\Kp [b] H H'/\l.length=i/\R.length+i=26 /\
   (l++R).Nodup/\∀ c ∈ l++R,97<=c/\c<=122) ?_ ?_ ?_
  ·refine ⟨[],(List.range 26).map (97+·),o1,none,rfl,jb,ho1,?_,?_,rfl,by simp,?_,?_⟩
   ·rw [jc npb.symm,jb,abc_sgn]
   ·exact ((Kp.refl [b] H).new hp).set (by rw [jc npb];exact hb) (.inl (by simp))
   ·decide
   ·decide
  ·rintro i σ H' hi ⟨l,R,o',v,rfl,hb',ho',hp',kp,hl,hR,nd,az⟩
   simp! [hp']
   obtain ⟨c1,s1,rfl,_,_⟩:=id ho'
   refine ⟨b,_,_,rfl,hb',ho',by rw [List.length_map];omega,by rw [List.length_map];omega,fun d o2 d0 d1 ho2=>?_⟩
   rw [List.length_map] at d1
   have hp2:upd H' b o2 p=some (.lst (R.map chV)):=by rw [jc npb.symm];exact hp'
   simp! [hp2]
   obtain ⟨c,hc⟩:∃ c,R[d.toNat]?=some c:=⟨R[d.toNat]'(by omega),by simp⟩
   have hc':(R.map chV)[d.toNat]?=some (.str ⟨#[c]⟩):=by rw [List.getElem?_map,hc];rfl
   refine ⟨d0,_,hc',?_⟩
   simp!
   have pm:=erase_perm R d.toNat c hc
   have e1:((l++[c])++R.eraseIdx d.toNat).Perm (l++R):=by
    rw [List.append_assoc]
    exact pm.append_left l
   have hlen:(R.eraseIdx d.toNat).length+1=R.length:=by
    have:=pm.length_eq
    simpa using this
   refine ⟨?_,l++[c],R.eraseIdx d.toNat,o2,_,⟨toS_app l c,rfl⟩,by rw [jc npb,jb],ho2,map_erase chV R _,?_,by simp [hl],by omega,?_,?_⟩
   ·rw [toS_len]
    show l.length+1<=sizeLine
    have:sizeLine=16777216:=PySem.sizeLine_eq
    omega
   ·exact (kp.set hb' (.inl (by simp))).set hp2 (.inr hp)
   ·exact e1.nodup_iff.mpr nd
   ·exact fun x hx=>az x (e1.mem_iff.mp hx)
  ·rintro σ H' ⟨l,R,o',v,rfl,hb',ho',hp',kp,hl,hR,nd,az⟩
   simp! [hp']
   exact k (toS l) o' H' ⟨by rw [toS_len];omega,by rw [toS_len];omega,fun c hc=>az c (List.mem_append_left _ (by simpa [toS] using hc)),by simpa [toS] using (List.nodup_append.mp nd).1⟩ ho' hb' kp
end
theorem _root_.L2.Kp.seq {S:List Addr} {K:PySem.W.Frag} {H H':Hp} {a:Addr} {xs:List V} (e:Kp S H H') (n:a ∉ S) (h:SqL K H a xs):SqL K H' a xs:=by
 rcases h with (h | ⟨o,h⟩) | h
 ·exact .inl (.inl (e.old _ _ h n))
 ·exact .inl (.inr ⟨o,e.old _ _ h n⟩)
 ·exact .inr h
theorem exQ {X:Cx} {ss:List Stmt} {t:TS} {R:TS->Prop} (q:QSs X ss t) (h:R t):∃ t,PSs X ss t/\R t:=⟨t,q.h,h⟩
def nV (n:Nat):V:=.int (n:Int)
def dk (r:Nat):L2.Key × V:=(.inl (r:Int),.bl true)
theorem dk_inj {x r:Nat} (z:(dk x).1=.inl (r:Int)):x=r:=Int.ofNat.inj (Sum.inl.inj z)
theorem val_dk (S:List Nat) (r:Nat):valV (S.map dk) (.inl (r:Int))=if r ∈ S then some (.bl true) else none:=by
 induction S with
 | nil=>rfl
 | cons x S ih =>
  rw [List.map_cons]
  by_cases h:x=r
  ·subst h
   rw [valV_pos (p:=dk x) (r:=S.map dk) (k:=.inl (x:Int)) rfl,if_pos (.head _)];rfl
  ·rw [valV_neg (fun z=>h (dk_inj z)),ih]
   by_cases h2:r ∈ S
   ·rw [if_pos h2,if_pos (.tail _ h2)]
   ·rw [if_neg h2,if_neg (fun z=>(List.mem_cons.mp z).elim (fun e=>h e.symm) h2)]
theorem drop_dk (S:List Nat) (r:Nat):dropK (S.map dk) (.inl (r:Int))=(S.filter fun x=>decide (x≠r)).map dk:=by
 unfold dropK
 rw [List.filter_map]
 congr 1
 refine List.filter_congr fun x _=>?_
 show decide ((dk x).1≠_)=_
 exact decide_eq_decide.mpr ⟨fun h z=>h (by rw [z];rfl),fun h z=>h (dk_inj z)⟩
theorem jck:∀ (S T:List Nat),(T++S).Nodup->(S.map dk).foldl (fun d kv=>putK d kv.1 kv.2) (T.map dk)=(T++S).map dk
 | [],T,_=>by simp
 | x::S,T,nd=>by
  have nx:x ∉ T:=fun h=>by
   rw [List.nodup_append] at nd
   exact nd.2.2 x h x (.head _) rfl
  rw [List.map_cons,List.foldl_cons,putK_new _ (show valV (T.map dk) (dk x).1=none by rw [show (dk x).1=.inl (x:Int) from rfl,val_dk,if_neg nx])]
  have:=jck S (T++[x]) (by simpa using nd)
  rw [List.map_append] at this
  rw [show T.map dk++[((dk x).1,(dk x).2)]=T.map dk++[x].map dk from rfl,this]
  simp
theorem putAll_dk {S:List Nat} (nd:S.Nodup):putAllK (S.map dk)=S.map dk:=by
 have:=jck S [] (by simpa using nd)
 simpa [putAllK] using this
theorem kp_back {d:Addr} {H H1:Hp} {o:HO} (k:Kp [d] H H1) (h:H d=some o) (nt:∀ xs,o≠.tup xs):Kp [] H (upd H1 d o):=by
 refine ⟨fun a u e _=>?_,fun a xs e=>?_,fun a u e=>?_⟩
 ·by_cases c:a=d
  ·subst c;rw [jb];rw [h] at e;exact e
  ·rw [jc c];exact k.old a u e (by simpa using c)
 ·have c:a≠d:=fun z=>by rw [z,h] at e;exact nt xs (Option.some.inj e)
  rw [jc c];exact k.tup a xs e
 ·by_cases c:a=d
  ·exact ⟨o,by rw [c,jb]⟩
  ·obtain ⟨o',e'⟩:=k.dom a u e
   exact ⟨o',by rw [jc c];exact e'⟩
theorem kp_setK {S:List Addr} {H H1:Hp} (k:Kp S H H1) {b:Addr} {kvs:List (Key × V)} {o:HO} (hb:H1 b=some (.dK kvs)) (h:b ∈ S∨H b=none):Kp S H (upd H1 b o):=by
 have ne:∀ c u,H c=some u->c ∉ S->c≠b:=fun c u e n z=>by
  subst z
  rcases h with h | h
  ·exact n h
  ·rw [h] at e;cases e
 refine ⟨fun c u e n=>by rw [jc (ne c u e n)];exact k.old c u e n,fun c ys e=>?_,fun c u e=>?_⟩
 ·have e1:=k.tup c ys e
  have:c≠b:=fun z=>by rw [z,hb] at e1;cases e1
  rw [jc this];exact e1
 ·obtain ⟨o',e'⟩:=k.dom c u e
  by_cases q:c=b
  ·subst q;exact ⟨o,jb⟩
  ·exact ⟨o',by rw [jc q];exact e'⟩
def gsF (gs:List Nat) (L:List Nat) (p:Nat):List Nat:=L.foldl (fun g r=>g.set r p) gs
theorem gsF_len (L:List Nat) (p:Nat):∀ gs:List Nat,(gsF gs L p).length=gs.length:=by
 unfold gsF
 induction L with
 | nil=>intro gs;rfl
 | cons x L ih=>intro gs;rw [List.foldl_cons,ih];simp
theorem gsF_at (L:List Nat) (p r:Nat):∀ gs:List Nat,r < gs.length->(gsF gs L p)[r]?=if r ∈ L then some p else gs[r]?:=by
 unfold gsF
 induction L with
 | nil=>intro gs _;simp
 | cons x L ih =>
  intro gs hr
  rw [List.foldl_cons,ih _ (by simpa using hr),List.getElem?_set]
  by_cases h1:r ∈ L
  ·rw [if_pos h1,if_pos (.tail _ h1)]
  ·rw [if_neg h1]
   by_cases h2:x=r
   ·subst h2
    rw [if_pos rfl,if_pos hr,if_pos (.head _)]
   ·rw [if_neg h2,if_neg (fun z=>(List.mem_cons.mp z).elim (fun e=>h2 e.symm) h1)]
theorem gsF_snoc (gs L:List Nat) (x p:Nat):gsF gs (L++[x]) p=(gsF gs L p).set x p:=by simp [gsF]
structure PS (H:Hp) (pp pg:Addr) (n:Nat) (ds:List Addr) (Ss:List (List Nat)) (gs:List Nat):Prop where
 hp:H pp=some (.lst (ds.map V.ref))
 hg:H pg=some (.lst (gs.map nV))
 gl:gs.length=n
 dl:ds.length=Ss.length
 at_:∀ (i:Nat) d S,ds[i]?=some d->Ss[i]?=some S->H d=some (.dK (S.map dk))
 nd:ds.Nodup
 ns:∀ S ∈ Ss,S.Nodup
 mem:∀ (i:Nat) S,Ss[i]?=some S->∀ r,r ∈ S↔r < n/\gs[r]?=some i
 ne:pp≠pg
 n9:n<=1000
 gt:∀ (r g:Nat),gs[r]?=some g->g < ds.length
theorem PS.kp {H H':Hp} {pp pg:Addr} {n:Nat} {ds:List Addr} {Ss:List (List Nat)} {gs:List Nat} (h:PS H pp pg n ds Ss gs) (k:Kp [] H H'):PS H' pp pg n ds Ss gs :=
 ⟨k.old _ _ h.hp (by simp),k.old _ _ h.hg (by simp),h.gl,h.dl,fun i d S e1 e2=>k.old _ _ (h.at_ i d S e1 e2) (by simp),h.nd,h.ns,h.mem,h.ne,h.n9,h.gt⟩
theorem PS.get {H:Hp} {pp pg:Addr} {n:Nat} {ds:List Addr} {Ss:List (List Nat)} {gs:List Nat} (h:PS H pp pg n ds Ss gs) {i:Nat} {S:List Nat} (e:Ss[i]?=some S):∃ d,ds[i]?=some d/\H d=some (.dK (S.map dk)):=by
 have hi:=(List.getElem?_eq_some_iff.mp e).1
 have e1:ds[i]?=some (ds[i]'(by rw [h.dl];exact hi)):=List.getElem?_eq_getElem _
 exact ⟨_,e1,h.at_ i _ S e1 e⟩
theorem nodup_leN:∀ {l zs:List Nat},l.Nodup->(∀ x ∈ l,x ∈ zs)->l.length<=zs.length
 | [],_,_,_=>Nat.zero_le _
 | x::l,zs,nd,h=>by
  obtain ⟨hx,nd'⟩:=List.nodup_cons.mp nd
  have hm:=h x (.head _)
  have:=nodup_leN (l:=l) (zs:=zs.erase x) nd' fun y hy=>(List.mem_erase_of_ne (fun e:y=x=>hx (e ▸ hy))).mpr (h y (.tail _ hy))
  rw [List.length_erase_of_mem hm] at this
  have hp:0 < zs.length:=List.length_pos_of_mem hm
  rw [List.length_cons]
  omega
theorem len_lt {S:List Nat} {n:Nat} (nd:S.Nodup) (h:∀ r ∈ S,r < n):S.length<=n:=by
 have q:=nodup_leN (zs:=List.range n) nd fun x hx=>List.mem_range.mpr (h x hx)
 simpa using q
def prT (y x:V) (H:Hp):Prop:=∃ t,x=.ref t/\H t=some (.tup [y,.bl true])
theorem prT_firm (y:V):Firm (prT y):=fun S x H1 H2 k ⟨t,e,h⟩=>⟨t,e,k.tup _ _ h⟩
theorem jbi {H:Hp}:∀ {L:List Nat} {xs:List V},Paired (fun y x=>prT y x H) (L.map nV) xs->PairsK H xs (L.map dk)
 | [],xs,h=>by cases h;exact .nil
 | r::L,xs,h=>by
  rw [List.map_cons] at h
  cases h with
  | cons a t =>
   obtain ⟨q,e,g⟩:=a
   exact .cons ⟨q,e,g⟩ (jbi t)
def notL (L:List Nat):V->Bool
 | .int i=>!decide (i.toNat ∈ L)
 | _=>false
theorem notL_map (L S:List Nat):((S.map dk).map (fun kv=>kV kv.1)).filter (notL L)=(S.filter fun q=>!decide (q ∈ L)).map nV:=by
 rw [List.map_map,show (fun kv:L2.Key × V=>kV kv.1) ∘ dk=nV from rfl,List.filter_map]
 congr 1
def spCut:Sp:=fun vs H Q _=>∃ (pp pg ps:Addr) (n:Nat) (ds:List Addr) (Ss:List (List Nat)) (gs:List Nat) (i:Nat) (S L:List Nat),vs=[.ref pp,.ref pg,.int (i:Int),.ref ps]/\PS H pp pg n ds Ss gs/\Ss[i]?=some S/\H ps=some (.lst (L.map nV))/\L.Nodup/\(∀ r ∈ L,r ∈ S)/\ps≠pp/\ps≠pg/\Ss.length<=1000 /\
 ((L=[]∨L.length=S.length)->∀ H',Kp [] H H'->Q (.bl false) H') /\
 (¬ (L=[]∨L.length=S.length)->∀ (sh:List Nat) (d':Addr) (H':Hp),sh.Nodup->sh≠[]->H d'=none->(∀ r ∈ sh,r ∈ S)->((∀ r,r ∈ sh↔r ∈ L)∨∀ r,r ∈ sh↔r ∈ S/\r ∉ L)->PS H' pp pg n (ds++[d']) (Ss.set i (S.filter fun r=>!decide (r ∈ sh))++[sh]) (gsF gs sh ds.length)->Kp (pp::pg::ds) H H'->Q (.bl true) H')
structure TCut (mg:Str->Option Value):Prop where
 n_len:mg "len"=none
 n_dict:mg "dict"=none
section
variable {P:Program} {w:World} {K:PySem.W.Frag} {mg:Str->Option Value} {base:Heap}
abbrev jad:Stmt:=top 12
theorem jbd:FnScope ["parts","groups","number","share","part","inside","room"] ["parts","groups","number","share"] (jg jad):=⟨rfl,rfl,rfl,by decide +kernel,rfl,by decide +kernel,by decide +kernel⟩
theorem ok_cut {f:Addr} {fd:FuncData} (F:Fun K "cut" "cut" jad f fd) (T:TCut mg):FnOk P w K mg base CX0 1 f fd ["parts","groups","number","share"] spCut:=by
 refine F.ok jbd (fun vs H Q E h=>?_) (fun cdv A outer s H vs Q E hr h=>?_)
 ·obtain ⟨pp,pg,ps,n,ds,Ss,gs,i,S,L,rfl,_⟩:=h
  rfl
 ·obtain ⟨pp,pg,ps,n,ds,Ss,gs,i,S,L,rfl,ph,hS,hL,ndL,subL,nsp,nsg,l9,kF,kT⟩:=h
  have hu:=hr.units
  have hsz:sizeLine=16777216:=PySem.sizeLine_eq
  have hu1:(A.deeper (PyProof.Rows.envOfC (Str.ofString "cut") (jg jad) s.heap.objs.size f cdv)).units+1 < cLine:=by omega
  obtain ⟨d,hd,hdd⟩:=ph.get hS
  have ndS:=ph.ns S (List.mem_of_getElem? hS)
  have Sn:S.length<=n:=len_lt ndS fun r hr=>((ph.mem i S hS r).mp hr).1
  have n9:=ph.n9
  have Ll:L.length<=S.length:=nodup_leN ndL subL
  refine exQ (jf (jj (i:=4) jbd.nd rfl (by first | exact Or.inl rfl | exact Or.inr rfl) (jn ix_U (qpv 0) (qpv 2) (fun _ _=>rfl)))
  (yg (yb (QW.pt (jaq (j4 (yv hu) (jo jr (by rfl) T.n_len jx (ja (qpv 3) jd)) jh (j8 _)) (jam (j4 (yv hu) (jo jr (by rfl) T.n_len jx (ja (qpv 3) jd)) (jo ja7 (by rfl) T.n_len jx (ja (qpv 4) jd)) (j8 _))))) (ji (jz z4)) ke)
  (yg (yb (j4 jbm (jt zj jh (jo jr (by rfl) T.n_len jx (ja (qpv 3) jd))) (jo ja7 (by rfl) T.n_len jx (ja (qpv 4) jd)) (j8 _)) (jf (jj (i:=5) jbd.nd rfl (by first | exact Or.inl rfl | exact Or.inr rfl) (j6 (jab rfl hu) (by rfl) T.n_dict jax (ja (kj rfl (compOk_of (sc:=jg jad) (N:=["parts","groups","number","share","part","inside","room"]) (Nc:=["room"]) (js:=[none]) (by decide +kernel)) (j7 (K:=K) (qpv 3) rfl) (fun _ _ _ _=>(jm (i:=0) (show List.Nodup [("room":Str)] from by decide +kernel) rfl (by first | exact Or.inl rfl | exact Or.inr rfl))) (fun _ _ _ _=>(y9 (ja (qpv 0) (ja z4 jd))))) jd)))
  (ji (ja3 (qps_setcIf (i:=3) jbd.nd rfl (by first | exact Or.inl rfl | exact Or.inr rfl) rfl (compOk_of (sc:=jg jad) (N:=["parts","groups","number","share","part","inside","room"]) (Nc:=["room","inside"]) (js:=[none,some 5]) (by decide +kernel)) (jaz (qpv 4)) (fun _ _ _ _=>(jm (i:=0) (show List.Nodup [("room":Str),("inside":Str)] from by decide +kernel) rfl (by first | exact Or.inl rfl | exact Or.inr rfl))) (fun _ _ _ _=>(jbg (jal hu1 (qpv 0) (qpv 1)) (by with_unfolding_all rfl))) (fun _ _ _ _=>(qpv 0)))))) ke)
  (jf (kg PassesOwn.never rfl (j7 (K:=K) (qpv 3) rfl) (jm (i:=6) jbd.nd rfl (by first | exact Or.inl rfl | exact Or.inr rfl)) (jf (km (qpe_bmD PySem.F.slot_dict_pop PySem.F.type_dict_pop mt_popD (qpv 4) (ja (qpv 6) jd) mono_var))
  (ji (jbv (jo jr (by rfl) T.n_len jx (ja (qpv 0) jd)) (jbu (qpv 1) (qpv 6) set_U)))))
  (jf (km (yi PySem.F.slot_list_append PySem.F.type_list_append ya (qpv 0) (ja (j6 (jab rfl hu) (by rfl) T.n_dict jax (ja (kj rfl (compOk_of (sc:=jg jad) (N:=["parts","groups","number","share","part","inside","room"]) (Nc:=["room"]) (js:=[none]) (by decide +kernel)) (j7 (K:=K) (qpv 3) rfl) (fun _ _ _ _=>(jm (i:=0) (show List.Nodup [("room":Str)] from by decide +kernel) rfl (by first | exact Or.inl rfl | exact Or.inr rfl))) (fun _ _ _ _=>(y9 (ja (qpv 0) (ja z4 jd))))) jd)) jd) mono_var))
  (ji (jz z4))))))) ?_
  simp! [ph.hp]
  refine ⟨.ref d,atI_nat (by rw [List.getElem?_map,hd];rfl),?_⟩
  refine ⟨fun σ' H'=>σ'=[some (.ref pp),some (.ref pg),some (.int (i:Int)),some (.ref ps),some (.ref d),none,none]/\H=H'/\¬ (L=[]∨L.length=S.length),?_,?_⟩
  ·simp! [hL]
   rw [List.length_map]
   refine ite2 (fun h=>kF (.inl (List.length_eq_zero_iff.mp (by omega))) H (Kp.refl _ _)) (fun h=>⟨d,S.map dk,rfl,.inl hdd,?_⟩)
   rw [List.length_map]
   dsimp only
   rw [rEqU_int]
   refine ⟨_,rfl,ite2 (fun h2=>kF (.inr (by have:=of_decide_eq_true h2;omega)) H (Kp.refl _ _)) (fun h2=>⟨rfl,fun z=>z.elim (fun e=>h (by rw [e];rfl)) (fun e=>h2 (by rw [e];simp))⟩)⟩
  rintro _ _ ⟨rfl,rfl,nn⟩
  refine ⟨fun σ' H'=>∃ (ps':Addr) (sh:List Nat) (v5:Option V),σ'=[some (.ref pp),some (.ref pg),some (.int (i:Int)),some (.ref ps'),some (.ref d),v5,none]/\H' ps'=some (.lst (sh.map nV))/\ps'≠pp/\ps'≠pg/\sh.Nodup/\sh≠[]/\(∀ r ∈ sh,r ∈ S)/\((∀ r,r ∈ sh↔r ∈ L)∨∀ r,r ∈ sh↔r ∈ S/\r ∉ L)/\Kp [] H H',?_,?_⟩
  ·simp! [hL]
   refine ⟨.inl ⟨by decide,by decide⟩,d,S.map dk,rfl,.inl hdd,_,rfl,?_⟩
   rw [List.length_map,List.length_map]
   refine ite2 (fun h=>?_) (fun h=>⟨ps,L,none,⟨rfl,rfl⟩,hL,nsp,nsg,ndL,fun z=>nn (.inl z),subL,.inl (fun _=>Iff.rfl),Kp.refl _ _⟩)
   simp only [hL]
   intro D hD
   refine comp_listK prT prT_firm hL hD (by rw [List.length_map];omega) (fun j y H1 Q' hy k1 q=>?_) fun v xs H3 k3 hD3 pr=>?_
   ·simp!
    exact ⟨by omega,fun t ht=>q _ _ ((Kp.refl [] H1).new ht) ⟨t,rfl,jb⟩⟩
   dsimp only
   refine rDictK.of hD3 (jbi pr) fun pi hpi=>?_
   rw [putAll_dk ndL]
   have k4:Kp [] H (upd H3 pi (.dK (L.map dk))):=k3.new hpi
   have ndp:d≠pi:=je (k3.old _ _ hdd (by simp)) hpi
   have e4:upd H3 pi (.dK (L.map dk)) pi=some (.dK (L.map dk)):=jb
   generalize upd H3 pi (.dK (L.map dk))=H4 at k4 e4 ⊢
   have d4:=k4.old _ _ hdd (by simp)
   simp!
   refine ⟨d,fun o u z=>?_,d,S.map dk,rfl,.inl ⟨d4,fun o D2 hD2=>?_⟩⟩
   ·have z':H d=some (.frz o u):=z
    rw [hdd] at z';cases z'
   have e4z:upd H4 d (.frz o (.dK (S.map dk))) pi=some (.dK (L.map dk)):=by rw [jc ndp.symm];exact e4
   have Di:pi≠D2:=je e4z hD2
   have dD:d≠D2:=je jb hD2
   have D24:H4 D2=none:=by rwa [jc dD.symm] at hD2
   have D20:H D2=none:=k4.free D24
   refine compIf_dK (notL L) id jb hD2 (by rw [List.length_map];omega) (fun x hx l Q' q=>?_) (fun x hx _ l Q' q=>?_) fun vv=>?_
   ·obtain ⟨kv,hkv,rfl⟩:=List.mem_map.mp hx
    obtain ⟨y,hy,rfl⟩:=List.mem_map.mp hkv
    simp!
    refine ⟨_,DGet.k (k:=.inl (y:Int)) (kvs:=L.map dk) (by rw [jc Di];exact e4z),?_⟩
    rw [val_dk]
    have:notL L (kV (dk y).1)=!(if y ∈ L then some (V.bl true) else none).isSome:=by
     show (!decide (y ∈ L))=_
     by_cases h:y ∈ L <;> simp [h]
    rw [← this]
    exact q
   ·simp!
    exact q
   rw [List.map_id,notL_map]
   dsimp only
   have kz:Kp [d] H (upd (upd H4 d (.frz o (.dK (S.map dk)))) D2 (.lst ((S.filter fun q=>!decide (q ∈ L)).map nV))):=(kp_setK (k4.mono (by simp)) d4 (.inl (by simp))).new hD2
   refine ⟨o,.dK (S.map dk),by rw [jc dD,jb],S.filter fun q=>!decide (q ∈ L),by rw [jc dD.symm,jb],?_,?_,ndS.filter _,?_,fun r hr=>(List.mem_filter.mp hr).1,.inr fun r=>by simp [List.mem_filter],kp_back kz hdd (fun xs z=>nomatch z)⟩
   ·exact fun z=>by rw [z,ph.hp] at D20;cases D20
   ·exact fun z=>by rw [z,ph.hg] at D20;cases D20
   ·intro z
    have:S.length<=L.length:=nodup_leN ndS fun r hr=>by
     have:=List.filter_eq_nil_iff.mp z r hr
     simpa using this
    exact nn (.inr (by omega))
  rintro _ H2 ⟨ps',sh,v5,rfl,hsh,np1,np2,nds,nes,subs,how,k2⟩
  simp! [hsh]
  have ph2:=ph.kp k2
  have hd2:=k2.old _ _ hdd (by simp)
  have d1:d≠pp:=fun z=>by rw [z,ph.hp] at hdd;cases hdd
  have d2:d≠pg:=fun z=>by rw [z,ph.hg] at hdd;cases hdd
  have d3:d≠ps':=fun z=>by rw [z,hsh] at hd2;cases hd2
  refine loop_list (xs:=sh.map nV) (fun j σ H'=>∃ v6:Option V,σ=[some (.ref pp),some (.ref pg),some (.int (i:Int)),some (.ref ps'),some (.ref d),v5,v6]/\H' d=some (.dK ((S.filter fun r=>!decide (r ∈ sh.take j)).map dk))/\H' pg=some (.lst ((gsF gs (sh.take j) ds.length).map nV))/\H' ps'=some (.lst (sh.map nV))/\Kp [pg,d] H2 H') ?_ ?_ ?_ ?_
  ·refine ⟨none,rfl,?_,ph2.hg,hsh,Kp.refl _ _⟩
   rw [hd2,show (S.filter fun r=>!decide (r ∈ sh.take 0))=S from List.filter_eq_self.mpr fun r _=>by simp]
  ·rintro j σ H' _ ⟨v6,rfl,_,_,h,_⟩
   exact h
  ·rintro j x σ H3 hx ⟨v6,rfl,h1,h2,h3,k3⟩
   rw [List.getElem?_map] at hx
   obtain ⟨r,hr,rfl⟩:=Option.map_eq_some_iff.mp hx
   have rs:=List.mem_of_getElem? hr
   have rS:=subs r rs
   obtain ⟨rn,rg⟩:=(ph.mem i S hS r).mp rS
   have nt:r ∉ sh.take j:=fun z=>by
    obtain ⟨m,hm⟩:=List.getElem?_of_mem z
    have hmj:m < j:=by have:=(List.getElem?_eq_some_iff.mp hm).1;rw [List.length_take] at this;omega
    rw [List.getElem?_take,if_pos hmj] at hm
    have hml:=(List.getElem?_eq_some_iff.mp hm).1
    have:=(List.getElem?_inj hml nds).mp (hm.trans hr.symm)
    omega
   have tk:sh.take (j+1)=sh.take j++[r]:=by rw [List.take_add_one,hr];rfl
   have hp3:H3 pp=some (.lst (ds.map V.ref)):=k3.old _ _ ph2.hp (by simp [ph.ne,d1.symm])
   simp!
   refine ⟨⟨d,_,rfl,h1⟩,d,_,.inl (r:Int),.bl true,rfl,rfl,h1,?_,?_⟩
   ·rw [val_dk,if_pos (List.mem_filter.mpr ⟨rS,by simpa using nt⟩)]
   rw [drop_dk,List.filter_filter]
   have ef:S.filter (fun x=>decide (x≠r) && !decide (x ∈ sh.take j))=S.filter fun x=>!decide (x ∈ sh.take (j+1)):=List.filter_congr fun x _=>by
    rw [tk]
    by_cases c1:x=r
    ·simp [c1]
    ·simp [c1]
   rw [ef]
   have k4:Kp [pg,d] H2 (upd H3 d (.dK ((S.filter fun x=>!decide (x ∈ sh.take (j+1))).map dk))):=kp_setK k3 h1 (.inl (by simp))
   refine ⟨_,by rw [jc d1.symm,hp3];rfl,?_⟩
   unfold nV
   rw [rSetU_ref,jc d2.symm,h2]
   refine ⟨_,rfl,r,?_,?_,?_,?_,?_⟩
   ·unfold ixN
    rw [List.length_map,gsF_len,ph.gl,if_pos (by omega),if_pos (by omega)];simp
   ·rw [jc d2,jb]
   ·rw [jb,tk,gsF_snoc,List.map_set,List.length_map];rfl
   ·rw [jc np2,jc d3.symm];exact h3
   ·exact k4.set (by rw [jc d2.symm];exact h2) (.inl (by simp))
  ·rintro σ H3 ⟨v6,rfl,h1,h2,h3,k3⟩
   rw [List.length_map,List.take_length] at h1 h2
   have hp3:H3 pp=some (.lst (ds.map V.ref)):=k3.old _ _ ph2.hp (by simp [ph.ne,d1.symm])
   have shl:sh.length<=S.length:=nodup_leN nds subs
   have dsl:=ph.dl
   simp! [h3]
   refine ⟨by rw [hp3];rfl,fun D hD=>?_⟩
   refine comp_listK prT prT_firm h3 hD (by rw [List.length_map];omega) (fun j y H1 Q' hy k1 q=>?_) fun v xs H4 k4 hD4 pr=>?_
   ·simp!
    exact ⟨by omega,fun t ht=>q _ _ ((Kp.refl [] H1).new ht) ⟨t,rfl,jb⟩⟩
   dsimp only
   refine rDictK.of hD4 (jbi pr) fun d' hd'=>?_
   rw [putAll_dk nds]
   have hp4:=k4.old _ _ hp3 (by simp)
   have npd':pp≠d':=je hp4 hd'
   have g4:=k4.old _ _ h2 (by simp)
   have ngd':pg≠d':=je g4 hd'
   have dd4:=k4.old _ _ h1 (by simp)
   have ndd':d≠d':=je dd4 hd'
   have k5:Kp (pp::pg::ds) H (upd (upd H4 d' (.dK (sh.map dk))) pp (.lst (ds.map V.ref++[V.ref d']))):=by
    have a1:Kp (pp::pg::ds) H H3:=(k2.mono (by simp)).trans (k3.mono (fun x hx=>by
     simp only [List.mem_cons,List.not_mem_nil,or_false] at hx
     rcases hx with rfl | rfl
     ·simp
     ·exact .tail _ (.tail _ (List.mem_of_getElem? hd))))
    exact ((a1.trans (k4.mono (by simp))).new hd').set (by rw [jc npd'];exact hp4) (.inl (by simp))
   refine ⟨_,by rw [jc npd',hp4];rfl,by rw [List.length_map];omega,kT nn sh d' _ nds nes (k2.free (k3.free (k4.free hd'))) subs how ?_ k5⟩
   have hi:i < ds.length:=(List.getElem?_eq_some_iff.mp hd).1
   have old:∀ (j:Nat) (dd:Addr) (U:List Nat),ds[j]?=some dd->Ss[j]?=some U->j≠i->upd (upd H4 d' (.dK (sh.map dk))) pp (.lst (ds.map V.ref++[V.ref d'])) dd=some (.dK (U.map dk)):=fun j dd U e1 e2 nj=>by
    have hdU:=ph.at_ j dd U e1 e2
    have c1:dd≠pp:=fun z=>by rw [z,ph.hp] at hdU;cases hdU
    have c2:dd≠pg:=fun z=>by rw [z,ph.hg] at hdU;cases hdU
    have c3:dd≠d:=fun z=>by
     rw [z] at e1
     exact nj ((List.getElem?_inj (List.getElem?_eq_some_iff.mp e1).1 ph.nd).mp (e1.trans hd.symm))
    have q4:H4 dd=some (.dK (U.map dk)):=k4.old _ _ (k3.old _ _ (k2.old _ _ hdU (by simp)) (by simp [c2,c3])) (by simp)
    rw [jc c1,jc (je q4 hd')];exact q4
   have fr:∀ x ∈ ds,x≠d':=fun x hx z=>by
    obtain ⟨j,hj⟩:=List.getElem?_of_mem hx
    have hjl:=(List.getElem?_eq_some_iff.mp hj).1
    have e2:Ss[j]?=some (Ss[j]'(by omega)):=List.getElem?_eq_getElem _
    have hU:=ph.at_ j x _ hj e2
    have:=k4.dom x _ (k3.dom x _ (k2.old _ _ hU (by simp))|>.choose_spec)
    obtain ⟨o',e'⟩:=this
    rw [z,hd'] at e';cases e'
   refine ⟨by rw [jb,List.map_append];rfl,by rw [jc ph.ne.symm,jc ngd'];exact g4,by rw [gsF_len];exact ph.gl,by simp [dsl],fun j dd U e1 e2=>?_,?_,fun U hU=>?_,fun j U e2 r=>?_,ph.ne,ph.n9,fun r g e=>?_⟩
   ·rcases Nat.lt_trichotomy j ds.length with l | l | l
    ·rw [List.getElem?_append_left l] at e1
     rw [List.getElem?_append_left (by rw [List.length_set];omega)] at e2
     by_cases c:j=i
     ·subst c
      rw [hd] at e1
      cases e1
      rw [List.getElem?_set_self (by omega)] at e2
      cases e2
      rw [jc d1,jc ndd'];exact dd4
     ·rw [List.getElem?_set_ne (fun z=>c z.symm)] at e2
      exact old j dd U e1 e2 c
    ·subst l
     rw [List.getElem?_append_right (Nat.le_refl _)] at e1
     rw [List.getElem?_append_right (by rw [List.length_set];omega),List.length_set,show ds.length - Ss.length=0 by omega] at e2
     simp at e1 e2
     subst e1 e2
     rw [jc npd'.symm,jb]
    ·rw [List.getElem?_eq_none (by simp;omega)] at e1
     cases e1
   ·rw [List.nodup_append]
    exact ⟨ph.nd,by simp,fun a ha b hb e=>fr a ha (e.trans (List.mem_singleton.mp hb))⟩
   ·rcases List.mem_append.mp hU with h | h
    ·rcases List.mem_or_eq_of_mem_set h with h | rfl
     ·exact ph.ns U h
     ·exact ndS.filter _
    ·cases List.mem_singleton.mp h;exact nds
   ·have key:r < n->(gsF gs sh ds.length)[r]?=if r ∈ sh then some ds.length else gs[r]?:=fun hr=>gsF_at sh ds.length r gs (by rw [ph.gl];exact hr)
    rcases Nat.lt_trichotomy j ds.length with l | l | l
    ·rw [List.getElem?_append_left (by rw [List.length_set];omega)] at e2
     by_cases c:j=i
     ·subst c
      rw [List.getElem?_set_self (by omega)] at e2
      cases e2
      rw [List.mem_filter]
      refine ⟨fun ⟨h1',h2'⟩=>?_,fun ⟨h1',h2'⟩=>?_⟩
      ·obtain ⟨q1,q2⟩:=(ph.mem j S hS r).mp h1'
       refine ⟨q1,?_⟩
       rw [key q1,if_neg (by simpa using h2')];exact q2
      ·rw [key h1'] at h2'
       by_cases m:r ∈ sh
       ·rw [if_pos m] at h2';simp at h2';omega
       ·rw [if_neg m] at h2'
        exact ⟨(ph.mem j S hS r).mpr ⟨h1',h2'⟩,by simpa using m⟩
     ·rw [List.getElem?_set_ne (fun z=>c z.symm)] at e2
      have mm:=ph.mem j U e2 r
      refine ⟨fun h=>?_,fun ⟨h1',h2'⟩=>?_⟩
      ·obtain ⟨q1,q2⟩:=mm.mp h
       refine ⟨q1,?_⟩
       have m:r ∉ sh:=fun m=>by
        have:=((ph.mem i S hS r).mp (subs r m)).2
        rw [q2] at this;simp at this;exact c this
       rw [key q1,if_neg m];exact q2
      ·rw [key h1'] at h2'
       by_cases m:r ∈ sh
       ·rw [if_pos m] at h2';simp at h2';omega
       ·rw [if_neg m] at h2';exact mm.mpr ⟨h1',h2'⟩
    ·subst l
     rw [List.getElem?_append_right (by rw [List.length_set];omega),List.length_set,show ds.length - Ss.length=0 by omega] at e2
     simp at e2
     subst e2
     refine ⟨fun h=>?_,fun ⟨h1',h2'⟩=>?_⟩
     ·have q1:=((ph.mem i S hS r).mp (subs r h)).1
      exact ⟨q1,by rw [key q1,if_pos h]⟩
     ·rw [key h1'] at h2'
      by_cases m:r ∈ sh
      ·exact m
      ·rw [if_neg m] at h2'
       have:=ph.gt r _ h2'
       omega
    ·rw [List.getElem?_eq_none (by simp;omega)] at e2
     cases e2
   ·have hr:r < gs.length:=by
     have:=(List.getElem?_eq_some_iff.mp e).1
     rwa [gsF_len] at this
    rw [gsF_at sh ds.length r gs hr] at e
    rw [List.length_append,List.length_cons,List.length_nil]
    by_cases m:r ∈ sh
    ·rw [if_pos m] at e;simp at e;omega
    ·rw [if_neg m] at e
     have:=ph.gt r g e
     omega
end
def lk (la:Nat->Addr) (g:Nat):L2.Key × V:=(.inl (g:Int),.ref (la g))
theorem val_lk (la:Nat->Addr) (gk:List Nat) (g:Nat):valV (gk.map (lk la)) (.inl (g:Int))=if g ∈ gk then some (.ref (la g)) else none:=by
 induction gk with
 | nil=>rfl
 | cons x S ih =>
  rw [List.map_cons]
  by_cases h:x=g
  ·subst h
   rw [valV_pos (p:=lk la x) (r:=S.map (lk la)) (k:=.inl (x:Int)) rfl,if_pos (.head _)];rfl
  ·rw [valV_neg (fun z=>h (Int.ofNat.inj (Sum.inl.inj z))),ih]
   by_cases h2:g ∈ S
   ·rw [if_pos h2,if_pos (.tail _ h2)]
   ·rw [if_neg h2,if_neg (fun z=>(List.mem_cons.mp z).elim (fun e=>h e.symm) h2)]
structure LD (H0 H:Hp) (pl:Addr) (gk:List Nat) (la:Nat->Addr) (T:List Nat) (G:Nat->Nat):Prop where
 hl:H pl=some (.dK (gk.map (lk la)))
 nd:gk.Nodup
 inj:∀ g ∈ gk,∀ g' ∈ gk,la g=la g'->g=g'
 fr:∀ g ∈ gk,H0 (la g)=none
 at_:∀ g ∈ gk,H (la g)=some (.lst ((T.filter fun q=>decide (G q=g)).map nV))
 all:∀ q ∈ T,G q ∈ gk
 ne:∀ g ∈ gk,∃ q ∈ T,G q=g
theorem flat_len {Sr:Nat->List Nat} {n:Nat} (le:∀ r,(Sr r).length<=n):∀ S:List Nat,(S.flatMap Sr).length<=S.length * n
 | []=>by simp
 | x::S=>by
  have:=flat_len le S
  have:=le x
  rw [List.flatMap_cons,List.length_append,List.length_cons,Nat.add_mul]
  omega
theorem filt_snoc (T:List Nat) (G:Nat->Nat) (q g:Nat):(T++[q]).filter (fun x=>decide (G x=g))=T.filter (fun x=>decide (G x=g))++if G q=g then [q] else []:=by
 rw [List.filter_append]
 congr 1
 by_cases h:G q=g <;> simp [h]
theorem filt_none {T:List Nat} {G:Nat->Nat} {g:Nat} (h:∀ x ∈ T,G x≠g):T.filter (fun x=>decide (G x=g))=[]:=List.filter_eq_nil_iff.mpr fun x hx=>by simpa using h x hx
structure Src (H:Hp) (ps:Addr) (sl:List Addr) (Sr:Nat->List Nat) (n:Nat):Prop where
 hs:H ps=some (.lst (sl.map V.ref))
 ln:sl.length=n
 at_:∀ (r:Nat) a,sl[r]?=some a->H a=some (.lst ((Sr r).map nV))
 lt:∀ r q,q ∈ Sr r->q < n
 le:∀ r,(Sr r).length<=n
def spLI:Sp:=fun vs H Q _=>∃ (d ps pg:Addr) (n:Nat) (S:List Nat) (sl:List Addr) (Sr:Nat->List Nat) (gs:List Nat),vs=[.ref d,.ref ps,.ref pg]/\H d=some (.dK (S.map dk))/\Src H ps sl Sr n/\H pg=some (.lst (gs.map nV))/\gs.length=n/\n<=1000/\S.length<=1000/\(∀ r ∈ S,r < n) /\
 ∀ pl gk la H',H pl=none->LD H H' pl gk la (S.flatMap Sr) (fun q=>gs.getD q 0)->Kp [] H H'->Q (.ref pl) H'
section
variable {P:Program} {w:World} {K:PySem.W.Frag} {mg:Str->Option Value} {base:Heap}
abbrev yk:Stmt:=top 11
theorem zt:FnScope ["part","sources","groups","leading","room","source"] ["part","sources","groups"] (jg yk):=⟨rfl,rfl,rfl,by decide +kernel,rfl,by decide +kernel,by decide +kernel⟩
theorem ok_leading_into {f:Addr} {fd:FuncData} (F:Fun K "leading_into" "leading_into" yk f fd):FnOk P w K mg base CX0 1 f fd ["part","sources","groups"] spLI:=by
 refine F.ok zt (fun vs H Q E h=>?_) (fun cdv A outer s H vs Q E hr h=>?_)
 ·obtain ⟨d,ps,pg,n,S,sl,Sr,gs,rfl,_⟩:=h
  rfl
 ·obtain ⟨d,ps,pg,n,S,sl,Sr,gs,rfl,hd,src,hg,gl,n9,s9,sn,k⟩:=h
  have hu:=hr.units
  have hsz:sizeLine=16777216:=PySem.sizeLine_eq
  have hu1:(A.deeper (PyProof.Rows.envOfC (Str.ofString "leading_into") (jg yk) s.heap.objs.size f cdv)).units+1 < cLine:=by omega
  refine exQ (jf (jj (i:=3) zt.nd rfl (by first | exact Or.inl rfl | exact Or.inr rfl) jba)
  (jf (ja3 (kg PassesOwn.never rfl (jaz (qpv 0)) (jm (i:=4) zt.nd rfl (by first | exact Or.inl rfl | exact Or.inr rfl)) (ji (kg PassesOwn.never rfl (j7 (K:=K) (jn ix_U (qpv 1) (qpv 4) (fun _ _=>rfl)) rfl) (jm (i:=5) zt.nd rfl (by first | exact Or.inl rfl | exact Or.inr rfl)) (ji (km (yi PySem.F.slot_list_append PySem.F.type_list_append ya (qpe_dset (qpv 3) (jn ix_U (qpv 2) (qpv 5) (fun _ _=>rfl)) (kf jd) ⟨rfl,rfl,rfl,rfl⟩) (ja (qpv 5) jd) (mono_dset (mono_v _) (mono_ix (mono_v _) (mono_v _)) mono_nil))))))))
  (ji (jz (qpv 3))))) ?_
  simp!
  intro pl hpl
  have ndl:d≠pl:=je hd hpl
  refine ⟨d,fun o u z=>?_,d,S.map dk,rfl,.inl ⟨by rw [jc ndl];exact hd,fun o=>?_⟩⟩
  ·have z':H d=some (.frz o u):=z
   rw [hd] at z';cases z'
  refine loop_dK (fun i σ H'=>∃ (v4 v5:Option V) (gk:List Nat) (la:Nat->Addr),σ=[some (.ref d),some (.ref ps),some (.ref pg),some (.ref pl),v4,v5]/\H' d=some (.frz o (.dK (S.map dk)))/\LD H H' pl gk la ((S.take i).flatMap Sr) (fun q=>gs.getD q 0)/\Kp [d] H H') ?_ ?_ ?_ ?_
  ·refine ⟨none,none,[],fun _=>0,rfl,jb,⟨by rw [jc ndl.symm,jb];rfl,List.nodup_nil,by simp,by simp,by simp,by simp,by simp⟩,kp_setK (((Kp.refl [d] H).new hpl)) (by rw [jc ndl];exact hd) (.inl (by simp))⟩
  ·rintro i σ H' _ ⟨_,_,_,_,rfl,h,_⟩
   exact h
  ·rintro i kv σ H1 hkv ⟨v4,v5,gk,la,rfl,h1,ld,kp⟩
   rw [List.getElem?_map] at hkv
   obtain ⟨r,hr',rfl⟩:=Option.map_eq_some_iff.mp hkv
   have rS:=List.mem_of_getElem? hr'
   have rn:=sn r rS
   have ea:sl[r]?=some (sl[r]'(by rw [src.ln];exact rn)):=List.getElem?_eq_getElem _
   generalize sl[r]'(by rw [src.ln];exact rn)=a at ea
   have ha:=src.at_ r a ea
   have nad:a≠d:=fun z=>by rw [z,hd] at ha;cases ha
   have npd:ps≠d:=fun z=>by have:=src.hs;rw [z,hd] at this;cases this
   have ngd:pg≠d:=fun z=>by rw [z,hd] at hg;cases hg
   have ps1:=kp.old _ _ src.hs (by simpa using npd)
   have ha1:=kp.old _ _ ha (by simpa using nad)
   simp!
   rw [show kV (dk r).1=V.int (r:Int) from rfl,rIxU_ref,ps1]
   refine ⟨_,rfl,.ref a,atI_nat (by rw [List.getElem?_map,ea];rfl),?_⟩
   simp only [ha1]
   have tk:(S.take (i+1)).flatMap Sr=(S.take i).flatMap Sr++Sr r:=by rw [List.take_add_one,hr'];simp
   have srl:=src.le r
   refine loop_list (xs:=(Sr r).map nV) (fun j σ H'=>∃ (v5:Option V) (gk:List Nat) (la:Nat->Addr),σ=[some (.ref d),some (.ref ps),some (.ref pg),some (.ref pl),some (.int (r:Int)),v5]/\H' d=some (.frz o (.dK (S.map dk)))/\LD H H' pl gk la ((S.take i).flatMap Sr++(Sr r).take j) (fun q=>gs.getD q 0)/\H' a=some (.lst ((Sr r).map nV))/\Kp [d] H H') ?_ ?_ ?_ ?_
   ·exact ⟨v5,gk,la,rfl,h1,by simpa using ld,ha1,kp⟩
   ·rintro j σ H' _ ⟨_,_,_,rfl,_,_,h,_⟩
    exact h
   ·rintro j x σ H2 hx ⟨v5,gk,la,rfl,h2,ld2,ha2,kp2⟩
    rw [List.getElem?_map] at hx
    obtain ⟨q,hq,rfl⟩:=Option.map_eq_some_iff.mp hx
    have qn:=src.lt r q (List.mem_of_getElem? hq)
    have hg2:=kp2.old _ _ hg (by simpa using ngd)
    have tj:(Sr r).take (j+1)=(Sr r).take j++[q]:=by rw [List.take_add_one,hq];rfl
    have hT:((S.take i).flatMap Sr++(Sr r).take j).length<=1001000:=by
     have q1:=flat_len src.le (S.take i)
     have q2:(S.take i).length<=1000:=by rw [List.length_take];omega
     have q3:=Nat.mul_le_mul q2 n9
     have q4:((Sr r).take j).length<=n:=by rw [List.length_take];omega
     rw [List.length_append]
     omega
    have gkT:gk.length<=((S.take i).flatMap Sr++(Sr r).take j).length:=by
     have:=nodup_leN (zs:=((S.take i).flatMap Sr++(Sr r).take j).map fun q=>gs.getD q 0) ld2.nd fun g hg'=>by
      obtain ⟨x,hx,e⟩:=ld2.ne g hg'
      exact List.mem_map.mpr ⟨x,hx,e⟩
     rwa [List.length_map] at this
    rw [tj,← List.append_assoc]
    generalize (S.take i).flatMap Sr++(Sr r).take j=U at ld2 hT gkT ⊢
    have gq:gs[q]?=some (gs.getD q 0):=by rw [List.getD_eq_getElem?_getD,List.getElem?_eq_getElem (by omega)];rfl
    generalize hgd:gs.getD q 0=g at gq
    simp!
    refine ⟨.inl ⟨_,.inl ld2.hl⟩,?_⟩
    unfold nV
    rw [rIxU_ref,hg2]
    refine ⟨_,rfl,nV g,atI_nat (by rw [List.getElem?_map,gq];rfl),by omega,fun p hp=>⟨gk.map (lk la),by rw [jc (je ld2.hl hp)];exact ld2.hl,.inl (g:Int),rfl,by rw [List.length_map];omega,fun v hv=>?_,fun hv=>?_⟩⟩
    ·rw [val_lk] at hv
     by_cases m:g ∈ gk
     ·rw [if_pos m] at hv
      cases hv
      have hl2:=ld2.at_ g m
      have np:la g≠p:=je hl2 hp
      have nfl:=ld2.fr g m
      have nd':la g≠d:=fun z=>by rw [z,hd] at nfl;cases nfl
      have na':la g≠a:=fun z=>by rw [z,ha] at nfl;cases nfl
      have npl:la g≠pl:=fun z=>by have:=ld2.hl;rw [← z,hl2] at this;cases this
      have el:upd H2 p (.lst []) (la g)=some (.lst ((U.filter fun x=>decide (gs.getD x 0=g)).map nV)):=by rw [jc np];exact hl2
      refine ⟨by show (lstOf _).isSome=true;rw [el];rfl,?_⟩
      rw [rAppendU_ref,el]
      refine ⟨_,rfl,?_,?_,gk,la,⟨?_,ld2.nd,ld2.inj,ld2.fr,fun g' hg'=>?_,fun x hx=>?_,fun g' hg'=>?_⟩,?_,?_⟩
      ·rw [List.length_map]
       have:=List.length_filter_le (fun x=>decide (gs.getD x 0=g)) U
       omega
      ·rw [jc nd'.symm,jc (je h2 hp)];exact h2
      ·rw [jc npl.symm,jc (je ld2.hl hp)];exact ld2.hl
      ·rw [filt_snoc,hgd]
       by_cases c:g'=g
       ·subst c
        rw [jb,if_pos rfl,List.map_append];rfl
       ·rw [if_neg (fun z=>c z.symm),List.append_nil,jc (fun z=>c (ld2.inj g' hg' g m z)),jc (je (ld2.at_ g' hg') hp)]
        exact ld2.at_ g' hg'
      ·rcases List.mem_append.mp hx with h | h
       ·exact ld2.all x h
       ·cases List.mem_singleton.mp h;rw [hgd];exact m
      ·obtain ⟨x,hx,e⟩:=ld2.ne g' hg'
       exact ⟨x,List.mem_append_left _ hx,e⟩
      ·rw [jc na'.symm,jc (je ha2 hp)];exact ha2
      ·exact (kp2.new hp).set el (.inr nfl)
     ·rw [if_neg m] at hv;cases hv
    ·rw [val_lk] at hv
     have m:g ∉ gk:=fun m=>by rw [if_pos m] at hv;cases hv
     have np:pl≠p:=je ld2.hl hp
     have hp0:H p=none:=kp2.free hp
     have nov:∀ x ∈ U,gs.getD x 0≠g:=fun x hx z=>m (z ▸ ld2.all x hx)
     have laq:∀ x ∈ gk,(if x=g then p else la x)=la x:=fun x hx=>if_neg (fun z:x=g=>m (z ▸ hx))
     have ek:putK (gk.map (lk la)) (.inl (g:Int)) (V.ref p)=(gk++[g]).map (lk fun x=>if x=g then p else la x):=by
      rw [putK_new _ (by rw [val_lk,if_neg m]),List.map_append]
      congr 1
      ·exact List.map_congr_left fun x hx=>by show (_,V.ref (la x))=(_,V.ref (if x=g then p else la x));rw [laq x hx]
      ·unfold lk;simp
     rw [ek,jc np.symm,jb]
     have k3:Kp [d] H (upd (upd H2 p (.lst [])) pl (.dK ((gk++[g]).map (lk fun x=>if x=g then p else la x)))):=kp_setK (kp2.new hp) (by rw [jc np];exact ld2.hl) (.inr hpl)
     refine ⟨rfl,[],rfl,by rw [List.length_nil];omega,?_,gk++[g],fun x=>if x=g then p else la x,⟨by rw [jc np,jb],?_,fun x hx y hy e=>?_,fun x hx=>?_,fun g' hg'=>?_,fun x hx=>?_,fun g' hg'=>?_⟩,?_,k3.set (by rw [jc np.symm,jb]) (.inr hp0)⟩
     ·rw [jc (je h2 hp),jc ndl,jc (je h2 hp)];exact h2
     ·rw [List.nodup_append]
      exact ⟨ld2.nd,by simp,fun x hx y hy e=>m ((e.trans (List.mem_singleton.mp hy)) ▸ hx)⟩
     ·have one:∀ z ∈ gk++[g],z ∈ gk∨z=g:=fun z hz=>by simpa using hz
      have fp:∀ z ∈ gk,la z≠p:=fun z hz=>je (ld2.at_ z hz) hp
      rcases one x hx with h | rfl <;> rcases one y hy with h' | rfl
      ·simp only [laq x h,laq y h'] at e;exact ld2.inj x h y h' e
      ·simp only [laq x h,if_true] at e;exact absurd e (fp x h)
      ·simp only [laq y h',if_true] at e;exact absurd e.symm (fp y h')
      ·rfl
     ·rcases List.mem_append.mp hx with h | h
      ·simp only [laq x h];exact ld2.fr x h
      ·cases List.mem_singleton.mp h;simp only [if_true];exact hp0
     ·rw [filt_snoc,hgd]
      rcases List.mem_append.mp hg' with h | h
      ·have hl2:=ld2.at_ g' h
       have npl:la g'≠pl:=fun z=>by have:=ld2.hl;rw [← z,hl2] at this;cases this
       simp only [laq g' h]
       rw [jc (je hl2 hp),jc npl,jc (je hl2 hp),if_neg (fun z:g=g'=>m (by rw [z];exact h)),List.append_nil]
       exact hl2
      ·cases List.mem_singleton.mp h
       simp only [if_true]
       rw [jb,filt_none nov];rfl
     ·rcases List.mem_append.mp hx with h | h
      ·exact List.mem_append_left _ (ld2.all x h)
      ·cases List.mem_singleton.mp h;rw [hgd];simp
     ·rcases List.mem_append.mp hg' with h | h
      ·obtain ⟨x,hx,e⟩:=ld2.ne g' h
       exact ⟨x,List.mem_append_left _ hx,e⟩
      ·cases List.mem_singleton.mp h
       exact ⟨q,by simp,hgd⟩
     ·have nal:a≠pl:=fun z=>by rw [z] at ha;rw [hpl] at ha;cases ha
      rw [jc (je ha2 hp),jc nal,jc (je ha2 hp)];exact ha2
   ·rintro σ H2 ⟨v5,gk,la,rfl,h2,ld2,ha2,kp2⟩
    rw [List.length_map,List.take_length,← tk] at ld2
    exact ⟨_,_,rfl,h2,gk,la,ld2,kp2⟩
  ·rintro σ H1 ⟨v4,v5,gk,la,rfl,h1,ld,kp⟩
   rw [List.length_map,List.take_length] at ld
   simp!
   refine ⟨o,.dK (S.map dk),h1,?_⟩
   have kb:=kp_back kp hd (fun xs z=>nomatch z)
   have nf:∀ g ∈ gk,la g≠d:=fun g hg' z=>by have:=ld.fr g hg';rw [z,hd] at this;cases this
   exact k pl gk la _ hpl ⟨by rw [jc ndl.symm];exact ld.hl,ld.nd,ld.inj,ld.fr,fun g hg'=>by rw [jc (nf g hg')];exact ld.at_ g hg',ld.all,ld.ne⟩ kb
end
def RowsM (H:Hp) (us:List V) (mv:List (List Nat)):Prop:=Paired (fun v row=>∃ a,v=.ref a/\H a=some (.tup (row.map nV))) us mv
theorem RowsM.kp {S:List Addr} {H H':Hp} {us:List V} {mv:List (List Nat)} (k:Kp S H H') (h:RowsM H us mv):RowsM H' us mv:=Paired.mapP h fun _ _ ⟨a,e,h⟩=>⟨a,e,k.tup _ _ h⟩
theorem RowsM.get {H:Hp} {us:List V} {mv:List (List Nat)} (h:RowsM H us mv) {i:Nat} {row:List Nat} (hi:mv[i]?=some row):∃ a,us[i]?=some (.ref a)/\H a=some (.tup (row.map nV)):=by
 induction h generalizing i with
 | nil=>simp at hi
 | cons h _ ih =>
  cases i with
  | zero=>obtain ⟨a,e,g⟩:=h;simp at hi;subst hi;exact ⟨a,by simp [e],g⟩
  | succ i=>obtain ⟨a,e,g⟩:=ih (by simpa using hi);exact ⟨a,by simpa using e,g⟩
def dM (mv:List (List Nat)) (r a:Nat):Nat:=(mv.getD r []).getD a 0
structure MvOk (mv:List (List Nat)) (m:Nat):Prop where
 ln:∀ row ∈ mv,row.length=m
 lt:∀ row ∈ mv,∀ x ∈ row,x < mv.length
theorem MvOk.at_ {mv:List (List Nat)} {m r a:Nat} (h:MvOk mv m) (hr:r < mv.length) (ha:a < m):(mv.getD r [])[a]?=some (dM mv r a)/\dM mv r a < mv.length:=by
 have hm:mv.getD r [] ∈ mv:=by rw [List.getD_eq_getElem?_getD,List.getElem?_eq_getElem hr];exact List.getElem_mem _
 have hl:a < (mv.getD r []).length:=by rw [h.ln _ hm];exact ha
 have e:(mv.getD r [])[a]?=some (dM mv r a):=by unfold dM;rw [List.getD_eq_getElem?_getD (l:=mv.getD r []),List.getElem?_eq_getElem hl];rfl
 exact ⟨e,h.lt _ hm _ (List.mem_of_getElem? e)⟩
def srcF (mv:List (List Nat)) (a i r:Nat):List Nat:=(List.range i).filter fun q=>decide (dM mv q a=r)
def spLF:Sp:=fun vs H Q _=>∃ (pm:Addr) (us:List V) (mv:List (List Nat)) (m a:Nat),vs=[.ref pm,.int (a:Int)]/\H pm=some (.tup us)/\RowsM H us mv/\MvOk mv m/\a < m/\mv.length<=1000 /\
 ∀ ps sl H',H ps=none->(∀ x ∈ sl,H x=none)->Src H' ps sl (srcF mv a mv.length) mv.length->Kp [] H H'->Q (.ref ps) H'
structure TLF (mg:Str->Option Value):Prop where
 n_enumerate:mg "enumerate"=none
section
variable {P:Program} {w:World} {K:PySem.W.Frag} {mg:Str->Option Value} {base:Heap}
abbrev zc:Stmt:=top 10
theorem jai:FnScope ["moves","sign","sources","room","row"] ["moves","sign"] (jg zc):=⟨rfl,rfl,rfl,by decide +kernel,rfl,by decide +kernel,by decide +kernel⟩
theorem ok_led_from {f:Addr} {fd:FuncData} (F:Fun K "led_from" "led_from" zc f fd) (T:TLF mg):FnOk P w K mg base CX0 1 f fd ["moves","sign"] spLF:=by
 refine F.ok jai (fun vs H Q E h=>?_) (fun cdv A outer s H vs Q E hr h=>?_)
 ·obtain ⟨pm,us,mv,m,a,rfl,_⟩:=h
  rfl
 ·obtain ⟨pm,us,mv,m,a,rfl,hm,rw',ok,am,n9,k⟩:=h
  have hu:=hr.units
  have hsz:sizeLine=16777216:=PySem.sizeLine_eq
  have ul:us.length=mv.length:=Paired.length rw'
  refine exQ (jf (jag (i:=2) jai.nd rfl (by first | exact Or.inl rfl | exact Or.inr rfl) rfl (compOk_of (sc:=jg zc) (N:=["moves","sign","sources","room","row"]) (Nc:=["room"]) (js:=[none]) (by decide +kernel)) (j7 (K:=K) (qpv 0) rfl) (fun _ _ _ _=>(jm (i:=0) (show List.Nodup [("room":Str)] from by decide +kernel) rfl (by first | exact Or.inl rfl | exact Or.inr rfl))) (fun _ _ _ _=>(kf jd)))
  (jf (kg PassesOwn.never rfl (jbc (K:=K) rfl rfl T.n_enumerate (ja (qpv 0) jd)) (jaf (n:=2) rfl (yh (jm (i:=3) jai.nd rfl (by first | exact Or.inl rfl | exact Or.inr rfl)) (yh (jm (i:=4) jai.nd rfl (by first | exact Or.inl rfl | exact Or.inr rfl)) z8)) (K:=K) rfl) (ji (km (yi PySem.F.slot_list_append PySem.F.type_list_append ya (jn ix_U (qpv 2) (jn ix_U (qpv 4) (qpv 1) (fun _ _=>rfl)) (fun _ _=>rfl)) (ja (qpv 3) jd) (mono_ix (mono_v _) (mono_ix (mono_v _) (mono_v _)))))))
  (ji (jz (qpv 2))))) ?_
  simp! [hm]
  intro D hD
  refine loop_tup (xs:=us) (fun i σ H'=>∃ (v:Option V) (sl:List Addr),σ=[v]/\H' D=some (.lst (sl.map V.ref))/\sl.length=i/\sl.Nodup/\(∀ x ∈ sl,H' x=some (.lst [])/\H x=none)/\Kp [] H H') ?_ ?_ ?_ ?_
  ·exact ⟨none,[],rfl,jb,rfl,List.nodup_nil,by simp,(Kp.refl [] H).new hD⟩
  ·rintro i σ H' _ ⟨_,_,rfl,_,_,_,_,kp⟩
   exact kp.tup _ _ hm
  ·rintro i x σ H1 hx ⟨v,sl,rfl,h1,hl,nd,al,kp⟩
   have hil:=(List.getElem?_eq_some_iff.mp hx).1
   simp! [tEmit]
   have nxD:∀ x ∈ sl,x≠D:=fun x hx z=>by
    have:=(al x hx).1
    rw [z,h1] at this
    cases sl with
    | nil=>cases hx
    | cons y l=>simp at this
   refine ⟨by omega,fun p hp=>⟨_,by rw [jc (je h1 hp),h1];rfl,by rw [List.length_map];omega,sl++[p],by simp,by simp [hl],?_,fun x hx=>?_,(kp.new hp).set (by rw [jc (je h1 hp)];exact h1) (.inr hD)⟩⟩
   ·rw [List.nodup_append]
    exact ⟨nd,by simp,fun x hx y hy e=>je (al x hx).1 hp (e.trans (List.mem_singleton.mp hy))⟩
   ·rcases List.mem_append.mp hx with h | h
    ·obtain ⟨q1,q2⟩:=al x h
     exact ⟨by rw [jc (nxD x h),jc (je q1 hp)];exact q1,q2⟩
    ·cases List.mem_singleton.mp h
     exact ⟨by rw [jc (je h1 hp).symm,jb],kp.free hp⟩
  ·rintro σ H1 ⟨v,sl,rfl,h1,hl,nd,al,kp⟩
   simp!
   refine ⟨⟨us,SqT.of (kp.tup _ _ hm)⟩,?_⟩
   have slD:∀ (r:Nat) (x:Addr),sl[r]?=some x->x≠D/\H x=none:=fun r x e=>by
    obtain ⟨q1,q2⟩:=al x (List.mem_of_getElem? e)
    refine ⟨fun z=>?_,q2⟩
    rw [z,h1] at q1
    cases sl with
    | nil=>simp at e
    | cons y l=>simp at q1
   refine loop_ET (xs:=us) (fun i σ H'=>∃ (v3 v4:Option V),σ=[some (.ref pm),some (.int (a:Int)),some (.ref D),v3,v4]/\H' D=some (.lst (sl.map V.ref))/\(∀ (r:Nat) (x:Addr),sl[r]?=some x->H' x=some (.lst ((srcF mv a i r).map nV)))/\Kp [] H H') ⟨none,none,rfl,h1,fun r x e=>by rw [(al x (List.mem_of_getElem? e)).1];simp [srcF],kp⟩ ?_ ?_ ?_
   ·rintro i σ H' _ ⟨_,_,rfl,_,_,kp'⟩
    exact kp'.tup _ _ hm
   ·rintro i x σ H2 tt hx ⟨v3,v4,rfl,hD2,al2,kp2⟩ htt
    have hil:i < mv.length:=by rw [← ul];exact (List.getElem?_eq_some_iff.mp hx).1
    obtain ⟨e1,tl⟩:=ok.at_ hil am
    obtain ⟨c,hc,hcr⟩:=(rw'.kp kp2).get (show mv[i]?=some (mv.getD i []) by rw [List.getD_eq_getElem?_getD,List.getElem?_eq_getElem hil];rfl)
    rw [hx] at hc
    cases hc
    refine ⟨tt,[.int (i:Int),.ref c],rfl,SqT.of jb,rfl,⟨_,_,rfl,⟨_,_,rfl,rfl,?_⟩⟩⟩
    have kT:Kp [] H2 (upd H2 tt (.tup [.int (i:Int),.ref c])):=(Kp.refl [] H2).new htt
    generalize upd H2 tt (.tup [.int (i:Int),.ref c])=H3 at kT ⊢
    have hD3:=kT.old _ _ hD2 (by simp)
    have hc3:=kT.tup _ _ hcr
    have kp3:=kp2.trans kT
    simp! [hD3,hc3]
    have ex:sl[dM mv i a]?=some (sl[dM mv i a]'(by omega)):=List.getElem?_eq_getElem _
    generalize sl[dM mv i a]'(by omega)=x at ex
    have hx3:=kT.old _ _ (al2 _ x ex) (by simp)
    refine ⟨nV (dM mv i a),atI_nat (by rw [List.getElem?_map,e1];rfl),?_⟩
    unfold nV
    rw [rIxU_ref,hD3]
    refine ⟨_,rfl,.ref x,atI_nat (by rw [List.getElem?_map,ex];rfl),by show (lstOf _).isSome=true;rw [hx3];rfl,?_⟩
    rw [rAppendU_ref,hx3]
    obtain ⟨nxD,hx0⟩:=slD _ x ex
    refine ⟨_,rfl,?_,_,_,⟨rfl,rfl⟩,by rw [jc nxD.symm];exact hD3,fun r y ey=>?_,kp3.set hx3 (.inr hx0)⟩
    ·rw [List.length_map]
     have:=List.length_filter_le (fun q=>decide (dM mv q a=dM mv i a)) (List.range i)
     unfold srcF
     rw [List.length_range] at this
     omega
    ·have sn:srcF mv a (i+1) r=srcF mv a i r++if dM mv i a=r then [i] else []:=by
      unfold srcF
      rw [List.range_succ,List.filter_append]
      congr 1
      by_cases h:dM mv i a=r <;> simp [h]
     rw [sn]
     by_cases c:dM mv i a=r
     ·subst c
      rw [ex] at ey
      cases ey
      rw [jb,if_pos rfl,List.map_append];rfl
     ·have ny:y≠x:=fun z=>by
       rw [z] at ey
       exact c ((List.getElem?_inj (List.getElem?_eq_some_iff.mp ex).1 nd).mp (ex.trans ey.symm))
      rw [jc ny,if_neg c,List.append_nil]
      exact kT.old _ _ (al2 r y ey) (by simp)
   ·rintro σ H2 ⟨v3,v4,rfl,hD2,al2,kp2⟩
    simp!
    rw [ul] at al2
    refine k D sl H2 hD (fun x hx=>(al x hx).2) ⟨hD2,by omega,al2,fun r q hq=>?_,fun r=>?_⟩ kp2
    ·have:=(List.mem_filter.mp hq).1
     exact List.mem_range.mp this
    ·have:=List.length_filter_le (fun q=>decide (dM mv q a=r)) (List.range mv.length)
     unfold srcF
     rwa [List.length_range] at this
end
def Ky (X:List Addr) (Hs H:Hp):Prop:=∀ x u,Hs x=some u->x ∉ X->(∀ kvs,u≠.dK kvs)->H x=some u
theorem Ky.refl (X:List Addr) (H:Hp):Ky X H H:=fun _ _ e _ _=>e
theorem Ky.kp {X S:List Addr} {Hs H H':Hp} (h:Ky X Hs H) (k:Kp S H H') (hS:∀ x ∈ S,x ∈ X∨Hs x=none∨∃ kvs,H x=some (.dK kvs)):Ky X Hs H':=fun x u e n1 n3=>k.old x u (h x u e n1 n3) fun m=>by
 rcases hS x m with z | z | ⟨kvs,z⟩
 ·exact n1 z
 ·rw [z] at e;cases e
 ·rw [h x u e n1 n3] at z;exact n3 kvs (Option.some.inj z)
structure SrA (H:Hp) (X:List Addr) (psr:Addr) (mv:List (List Nat)) (m:Nat) (as:List Addr):Prop where
 nx:psr ∉ X
 hs:H psr=some (.lst (as.map V.ref))
 ln:as.length=m
 at_:∀ (a:Nat) x,as[a]?=some x->x ∉ X/\∃ sl,(∀ y ∈ sl,y ∉ X)/\Src H x sl (srcF mv a mv.length) mv.length
theorem SrA.ky {Hs H:Hp} {X:List Addr} {psr:Addr} {mv:List (List Nat)} {m:Nat} {as:List Addr} (h:SrA Hs X psr mv m as) (k:Ky X Hs H):SrA H X psr mv m as:=by
 refine ⟨h.nx,k _ _ h.hs h.nx (fun _ z=>nomatch z),h.ln,fun a x e=>?_⟩
 obtain ⟨h1,sl,h2,s⟩:=h.at_ a x e
 exact ⟨h1,sl,h2,k _ _ s.hs h1 (fun _ z=>nomatch z),s.ln,fun r y ey=>k _ _ (s.at_ r y ey) (h2 y (List.mem_of_getElem? ey)) (fun _ z=>nomatch z),s.lt,s.le⟩
def DuP (H:Hp) (xs:List V) (due:List (Nat × Nat)):Prop:=Paired (fun v (q:Nat × Nat)=>∃ t,v=.ref t/\H t=some (.tup [nV q.1,nV q.2])) xs due
theorem DuP.kp {S:List Addr} {H H':Hp} {xs:List V} {due:List (Nat × Nat)} (k:Kp S H H') (h:DuP H xs due):DuP H' xs due:=Paired.mapP h fun _ _ ⟨t,e,g⟩=>⟨t,e,k.tup _ _ g⟩
theorem DuP.app {H:Hp} {xs zs:List V} {d1 d2:List (Nat × Nat)} (a:DuP H xs d1) (b:DuP H zs d2):DuP H (xs++zs) (d1++d2):=by
 induction a with
 | nil=>exact b
 | cons h _ ih=>exact .cons h ih
theorem DuP.last {H:Hp} {xs:List V} {due:List (Nat × Nat)} {q:Nat × Nat} (h:DuP H xs (due++[q])):∃ ys t,xs=ys++[.ref t]/\DuP H ys due/\H t=some (.tup [nV q.1,nV q.2]):=by
 induction due generalizing xs with
 | nil =>
  cases h with
  | cons a b =>
   cases b
   obtain ⟨t,rfl,g⟩:=a
   exact ⟨[],t,rfl,.nil,g⟩
 | cons d due ih =>
  cases h with
  | cons a b =>
   obtain ⟨ys,t,e,hy,g⟩:=ih b
   exact ⟨_::ys,t,by rw [e];rfl,.cons a hy,g⟩
theorem gG {gs:List Nat} {n r g:Nat} (hl:gs.length=n) (hr:r < n):gs[r]?=some g↔gs.getD r 0=g:=by
 rw [List.getD_eq_getElem?_getD,List.getElem?_eq_getElem (by omega)];simp
theorem PS.memG {H:Hp} {pp pg:Addr} {n:Nat} {ds:List Addr} {Ss:List (List Nat)} {gs:List Nat} (h:PS H pp pg n ds Ss gs) {g:Nat} {S:List Nat} (e:Ss[g]?=some S) (r:Nat):r ∈ S↔r < n/\gs.getD r 0=g:=by
 rw [h.mem g S e r]
 exact ⟨fun ⟨a,b⟩=>⟨a,(gG h.gl a).mp b⟩,fun ⟨a,b⟩=>⟨a,(gG h.gl a).mpr b⟩⟩
theorem PS.setL {H H':Hp} {pp pg x:Addr} {n:Nat} {ds:List Addr} {Ss:List (List Nat)} {gs:List Nat} {xs:List V} (h:PS H pp pg n ds Ss gs) (k:Kp [x] H H') (hx:H x=some (.lst xs)) (n1:x≠pp) (n2:x≠pg):PS H' pp pg n ds Ss gs :=
 ⟨k.old _ _ h.hp (by simpa using n1.symm),k.old _ _ h.hg (by simpa using n2.symm),h.gl,h.dl,fun i d S e1 e2=>k.old _ _ (h.at_ i d S e1 e2) (by
  have:=h.at_ i d S e1 e2
  simp only [List.mem_singleton]
  intro z
  rw [z,hx] at this
  cases this),h.nd,h.ns,h.mem,h.ne,h.n9,h.gt⟩
structure GW (H0 Hs:Hp) (n:Nat) (pg pp pd:Addr) (H:Hp) (ds:List Addr) (Ss:List (List Nat)) (gs:List Nat) (due:List (Nat × Nat)):Prop where
 ps:PS H pp pg n ds Ss gs
 ky:Ky [pp,pg] Hs H
 du:∃ xs,H pd=some (.lst xs)/\DuP H xs due
 kp:Kp [] H0 H
 f1:H0 pp=none
 f2:H0 pg=none
 f3:H0 pd=none
 f4:Hs pd=none
 fd:∀ d ∈ ds,H0 d=none
 n1:pd≠pp
 n2:pd≠pg
 ns:∀ S ∈ Ss,S≠[]
theorem PS.isd {H:Hp} {pp pg:Addr} {n:Nat} {ds:List Addr} {Ss:List (List Nat)} {gs:List Nat} (h:PS H pp pg n ds Ss gs) {d:Addr} (hd:d ∈ ds):∃ kvs,H d=some (.dK kvs):=by
 obtain ⟨j,hj⟩:=List.getElem?_of_mem hd
 have hjl:=(List.getElem?_eq_some_iff.mp hj).1
 exact ⟨_,h.at_ j d _ hj (List.getElem?_eq_getElem (by have:=h.dl;omega))⟩
section
variable {H0 Hs H H':Hp} {n:Nat} {pg pp pd:Addr} {ds:List Addr} {Ss:List (List Nat)} {gs:List Nat} {due due':List (Nat × Nat)}
theorem GW.kp0 (h:GW H0 Hs n pg pp pd H ds Ss gs due) (k:Kp [] H H'):GW H0 Hs n pg pp pd H' ds Ss gs due:=by
 obtain ⟨xs,e,d⟩:=h.du
 exact ⟨h.ps.kp k,h.ky.kp k (by simp),⟨xs,k.old _ _ e (by simp),d.kp k⟩,h.kp.trans k,h.f1,h.f2,h.f3,h.f4,h.fd,h.n1,h.n2,h.ns⟩
theorem GW.setd (h:GW H0 Hs n pg pp pd H ds Ss gs due) {xs':List V} (d:DuP H xs' due'):GW H0 Hs n pg pp pd (upd H pd (.lst xs')) ds Ss gs due':=by
 obtain ⟨xs,e,_⟩:=h.du
 have k:Kp [pd] H (upd H pd (.lst xs')):=(Kp.refl [pd] H).set e (.inl (by simp))
 exact ⟨h.ps.setL k e h.n1 h.n2,h.ky.kp k (fun x hx=>by simp at hx;subst hx;exact .inr (.inl h.f4)),⟨xs',jb,d.kp k⟩,h.kp.set e (.inr h.f3),h.f1,h.f2,h.f3,h.f4,h.fd,h.n1,h.n2,h.ns⟩
theorem GW.cut (h:GW H0 Hs n pg pp pd H ds Ss gs due) {d':Addr} {i:Nat} {S sh gs':List Nat} (p':PS H' pp pg n (ds++[d']) (Ss.set i S++[sh]) gs') (k:Kp (pp::pg::ds) H H') (hd:H d'=none) (s1:S≠[]) (s2:sh≠[]):GW H0 Hs n pg pp pd H' (ds++[d']) (Ss.set i S++[sh]) gs' due:=by
 obtain ⟨xs,e,d⟩:=h.du
 have npd:pd ∉ pp::pg::ds:=fun m=>by
  rcases List.mem_cons.mp m with z | m
  ·exact h.n1 z
  rcases List.mem_cons.mp m with z | m
  ·exact h.n2 z
  obtain ⟨kvs,z⟩:=h.ps.isd m
  rw [e] at z;cases z
 refine ⟨p',h.ky.kp k fun x hx=>?_,⟨xs,k.old _ _ e npd,d.kp k⟩,h.kp.trans' k fun x hx=>.inr ?_,h.f1,h.f2,h.f3,h.f4,fun x hx=>?_,h.n1,h.n2,fun U hU=>?_⟩
 ·rcases List.mem_cons.mp hx with rfl | hx
  ·exact .inl (by simp)
  rcases List.mem_cons.mp hx with rfl | hx
  ·exact .inl (by simp)
  exact .inr (.inr (h.ps.isd hx))
 ·rcases List.mem_cons.mp hx with rfl | hx
  ·exact h.f1
  rcases List.mem_cons.mp hx with rfl | hx
  ·exact h.f2
  exact h.fd x hx
 ·rcases List.mem_append.mp hx with hx | hx
  ·exact h.fd x hx
  ·cases List.mem_singleton.mp hx;exact h.kp.free hd
 ·rcases List.mem_append.mp hU with hU | hU
  ·rcases List.mem_or_eq_of_mem_set hU with hU | rfl
   ·exact h.ns U hU
   ·exact s1
  ·cases List.mem_singleton.mp hU;exact s2
theorem GW.le (h:GW H0 Hs n pg pp pd H ds Ss gs due):ds.length<=n:=by
 have:=nodup_leN (l:=List.range ds.length) (zs:=(List.range n).map fun r=>gs.getD r 0) List.nodup_range fun k hk=>by
  have hk:=List.mem_range.mp hk
  have e:Ss[k]?=some (Ss[k]'(by have:=h.ps.dl;omega)):=List.getElem?_eq_getElem _
  obtain ⟨r,hr⟩:=List.exists_mem_of_ne_nil _ (h.ns _ (List.mem_of_getElem? e))
  obtain ⟨h1,h2⟩:=(h.ps.memG e r).mp hr
  exact List.mem_map.mpr ⟨r,List.mem_range.mpr h1,h2⟩
 simpa using this
end
theorem mem_T {mv:List (List Nat)} {a q n:Nat} {S:List Nat}:q ∈ S.flatMap (srcF mv a n)↔q < n/\dM mv q a ∈ S:=by
 unfold srcF
 simp only [List.mem_flatMap,List.mem_filter,List.mem_range,decide_eq_true_eq]
 exact ⟨fun ⟨x,h1,h2,h3⟩=>⟨h2,h3 ▸ h1⟩,fun ⟨h1,h2⟩=>⟨_,h2,h1,rfl⟩⟩
theorem nd_T {mv:List (List Nat)} {a n:Nat}:∀ {S:List Nat},S.Nodup->(S.flatMap (srcF mv a n)).Nodup
 | [],_=>List.nodup_nil
 | x::S,nd=>by
  obtain ⟨nx,nd⟩:=List.nodup_cons.mp nd
  rw [List.flatMap_cons,List.nodup_append]
  refine ⟨(List.nodup_range).filter _,nd_T nd,fun y hy z hz e=>?_⟩
  subst e
  have h1:=(mem_T.mp hz).2
  have h2:=(List.mem_filter.mp hy).2
  simp at h2
  rw [h2] at h1
  exact nx h1
theorem full_of {L S:List Nat} (nd:L.Nodup) (sub:∀ r ∈ L,r ∈ S) (e:L.length=S.length) {r:Nat} (hr:r ∈ S):r ∈ L:=Classical.byContradiction fun n=>by
 have:=nodup_leN (l:=r::L) (zs:=S) (List.nodup_cons.mpr ⟨n,nd⟩) fun x hx=>by
  rcases List.mem_cons.mp hx with rfl | hx
  ·exact hr
  ·exact sub x hx
 rw [List.length_cons] at this
 omega
theorem CI.part {M:Mc} {G0 G:Nat->Nat} {p0 i a g p:Nat} {rest:List Nat} (h:CI M G0 p0 i a (g::rest) G p) (gp:g < p0) {r:Nat} (hr:r < M.n):G r=g↔G0 r=g:=by
 obtain ⟨par,h1,h2⟩:=h.par
 refine ⟨fun e=>?_,fun e=>?_⟩
 ·rw [← h1 r hr,e,h2 g gp]
 ·rw [h.un r hr (e ▸ .head _),e]
theorem rest_ne {L S sh:List Nat} (ndL:L.Nodup) (sub:∀ r ∈ L,r ∈ S) (nn:¬ (L=[]∨L.length=S.length)) (ndS:S.Nodup) (how:(∀ r,r ∈ sh↔r ∈ L)∨∀ r,r ∈ sh↔r ∈ S/\r ∉ L):S.filter (fun r=>!decide (r ∈ sh))≠[]:=fun z=>by
 have all:∀ r ∈ S,r ∈ sh:=fun r hr=>by
  have:=List.filter_eq_nil_iff.mp z r hr
  simpa using this
 rcases how with w | w
 ·exact nn (.inr (Nat.le_antisymm (nodup_leN ndL sub) (nodup_leN ndS fun r hr=>(w r).mp (all r hr))))
 ·cases hL:L with
  | nil=>exact nn (.inl hL)
  | cons x L' =>
   have hx:x ∈ L:=by rw [hL];exact .head _
   exact ((w x).mp (all x (sub x hx))).2 hx
def mcOf (mv:List (List Nat)) (m:Nat) (ys:List Bool):Mc:=⟨mv.length,m,dM mv,fun r=>ys.getD r false⟩
theorem mcOf_ok {mv:List (List Nat)} {m:Nat} {ys:List Bool} (h:MvOk mv m):(mcOf mv m ys).ok:=⟨fun _ _ hr ha=>(h.at_ hr ha).2⟩
def allB (k m:Nat):List (Nat × Nat):=(List.range m).map fun b=>(k,b)
theorem mem_allB {k m k' b:Nat}:(k',b) ∈ allB k m↔k'=k/\b < m:=by
 unfold allB
 simp only [List.mem_map,List.mem_range,Prod.mk.injEq]
 exact ⟨fun ⟨x,h1,h2,h3⟩=>⟨h2.symm,h3 ▸ h1⟩,fun ⟨h1,h2⟩=>⟨b,h2,h1.symm,rfl⟩⟩
def tkT (k:Nat) (y x:V) (H:Hp):Prop:=∃ t,x=.ref t/\H t=some (.tup [nV k,y])
theorem tkT_firm (k:Nat) (y:V):Firm (tkT k y):=fun S x H1 H2 kp ⟨t,e,h⟩=>⟨t,e,kp.tup _ _ h⟩
theorem du_of {H:Hp} {k:Nat}:∀ {L:List Nat} {xs:List V},Paired (fun y x=>tkT k y x H) (L.map nV) xs->DuP H xs (L.map fun b=>(k,b))
 | [],xs,h=>by cases h;exact .nil
 | r::L,xs,h=>by
  rw [List.map_cons] at h
  cases h with
  | cons a t =>
   obtain ⟨q,e,g⟩:=a
   exact .cons ⟨q,e,g⟩ (du_of t)
theorem jca {H:Hp}:∀ {L:List Nat} {xs:List V},Paired (fun (i:Nat) x=>prT (.int (0+(i:Int))) x H) L xs->PairsK H xs (L.map dk)
 | [],xs,h=>by cases h;exact .nil
 | r::L,xs,h=>by
  cases h with
  | cons a t =>
   obtain ⟨q,e,g⟩:=a
   rw [Int.zero_add] at g
   exact .cons ⟨q,e,g⟩ (jca t)
theorem PS.one {H:Hp} {pp pg d:Addr} {n:Nat} (hp:H pp=some (.lst [.ref d])) (hg:H pg=some (.lst ((List.replicate n 0).map nV))) (hd:H d=some (.dK ((List.range n).map dk))) (ne:pp≠pg) (n9:n<=1000):PS H pp pg n [d] [List.range n] (List.replicate n 0):=by
 refine ⟨hp,hg,by simp,rfl,fun i x S e1 e2=>?_,by simp,fun S hS=>?_,fun i S e r=>?_,ne,n9,fun r g e=>?_⟩
 ·cases i with
  | zero=>simp at e1 e2;subst e1 e2;exact hd
  | succ i=>simp at e1
 ·simp at hS;subst hS;exact List.nodup_range
 ·cases i with
  | zero=>simp at e;subst e;simp [List.getElem?_replicate]
  | succ i=>simp at e
 ·rw [List.getElem?_replicate] at e
  split at e
  ·cases e;simp
  ·cases e
def J1 (H:Hp) (mv:List (List Nat)) (m:Nat) (ys:List Bool) (H':Hp) (psg pg pp:Addr) (ds:List Addr) (Ss:List (List Nat)) (gs:List Nat):Prop :=
 PS H' pp pg mv.length ds Ss gs/\H' psg=some (.lst ((List.range m).map nV))/\psg ∉ [pp,pg]/\Kp [] H H'/\H pp=none/\H pg=none/\(∀ d ∈ ds,H d=none)/\(∀ S ∈ Ss,S≠[]) /\
  ∀ r s,r < mv.length->s < mv.length->(gs.getD r 0=gs.getD s 0↔ys.getD r false=ys.getD s false)
def spGR:Sp:=fun vs H Q _=>∃ (pm py:Addr) (us:List V) (mv:List (List Nat)) (m:Nat) (ys:List Bool),vs=[.ref pm,.ref py]/\H pm=some (.tup us)/\RowsM H us mv/\MvOk mv m/\H py=some (.lst (ys.map V.bl))/\ys.length=mv.length/\1<=mv.length/\mv.length<=1000/\m<=1000 /\
 ∀ (pg:Addr) (gs:List Nat) (H':Hp),H pg=none->H' pg=some (.lst (gs.map nV))->gs.length=mv.length->(∀ r s,r < mv.length->s < mv.length->(gs.getD r 0=gs.getD s 0↔(mcOf mv m ys).eq r s))->(∀ r,r < mv.length->gs.getD r 0 < mv.length)->Kp [] H H'->Q (.ref pg) H'
structure TGR (mg:Str->Option Value) (fc fl fi:Addr):Prop where
 n_len:mg "len"=none
 n_list:mg "list"=none
 n_range:mg "range"=none
 n_dict:mg "dict"=none
 m_cut:mg "cut"=some (.ref fc)
 m15z:mg "led_from"=some (.ref fl)
 m13z:mg "leading_into"=some (.ref fi)
section
variable {P:Program} {w:World} {K:PySem.W.Frag} {mg:Str->Option Value} {base:Heap}
abbrev jv:Stmt:=top 9
theorem ka:FnScope ["moves","yes","signs","groups","parts","sources","due","part","task","leading"] ["moves","yes"] (jg jv):=⟨rfl,rfl,rfl,by decide +kernel,rfl,by decide +kernel,by decide +kernel⟩
theorem ok_groups_of_rooms {f fc fl fi:Addr} {fd fdc fdl fdi:FuncData} (F:Fun K "groups_of_rooms" "groups_of_rooms" jv f fd) (T:TGR mg fc fl fi) (F_cut:Fun K "cut" "cut" jad fc fdc) (b_cut:Binds K fdc ["parts","groups","number","share"] [])
  (G_cut:FnOk P w K mg base CX0 1 fc fdc ["parts","groups","number","share"] spCut) (F15z:Fun K "led_from" "led_from" zc fl fdl) (b15z:Binds K fdl ["moves","sign"] [])
  (G15z:FnOk P w K mg base CX0 1 fl fdl ["moves","sign"] spLF) (F13z:Fun K "leading_into" "leading_into" yk fi fdi) (b13z:Binds K fdi ["part","sources","groups"] [])
  (G13z:FnOk P w K mg base CX0 1 fi fdi ["part","sources","groups"] spLI):FnOk P w K mg base CX0 2 f fd ["moves","yes"] spGR:=by
 refine F.ok ka (fun vs H Q E h=>?_) (fun cdv A outer s H vs Q E hr h=>?_)
 ·obtain ⟨pm,py,us,mv,m,ys,rfl,_⟩:=h
  rfl
 ·obtain ⟨pm,py,us,mv,m,ys,rfl,hm,rw',ok,hy,yl,n1,n9,m9,k⟩:=h
  have hu:=hr.units
  have hsz:sizeLine=16777216:=PySem.sizeLine_eq
  have hu1:(A.deeper (PyProof.Rows.envOfC (Str.ofString "groups_of_rooms") (jg jv) s.heap.objs.size f cdv)).units+1 < cLine:=by omega
  have ul:us.length=mv.length:=Paired.length rw'
  refine exQ (jf (jj (i:=2) ka.nd rfl (by first | exact Or.inl rfl | exact Or.inr rfl) (j6 (call_listR rfl) (by rfl) T.n_list jbe (ja (j6 call_rangeU (by rfl) T.n_range bt_range (ja (jo jr (by rfl) T.n_len jx (ja (jn ix_U (qpv 0) jh (fun _ _=>rfl)) jd)) jd)) jd)))
  (jf (jag (i:=3) ka.nd rfl (by first | exact Or.inl rfl | exact Or.inr rfl) rfl (compOk_of (sc:=jg jv) (N:=["moves","yes","signs","groups","parts","sources","due","part","task","leading"]) (Nc:=["room"]) (js:=[none]) (by decide +kernel)) (j7 (K:=K) (qpv 0) rfl) (fun _ _ _ _=>(jm (i:=0) (show List.Nodup [("room":Str)] from by decide +kernel) rfl (by first | exact Or.inl rfl | exact Or.inr rfl))) (fun _ _ _ _=>jh))
  (jf (jj (i:=4) ka.nd rfl (by first | exact Or.inl rfl | exact Or.inr rfl) (kf (ja (j6 (jab rfl hu) (by rfl) T.n_dict jax (ja (kj rfl (compOk_of (sc:=jg jv) (N:=["moves","yes","signs","groups","parts","sources","due","part","task","leading"]) (Nc:=["room"]) (js:=[none]) (by decide +kernel)) (yd rfl T.n_range (ja (jo jr (by rfl) T.n_len jx (ja (qpv 0) jd)) jd)) (fun _ _ _ _=>(jm (i:=0) (show List.Nodup [("room":Str)] from by decide +kernel) rfl (by first | exact Or.inl rfl | exact Or.inr rfl))) (fun _ _ _ _=>(y9 (ja (qpv 0) (ja z4 jd))))) jd)) jd)))
  (yg (km (jq G_cut (hr.mono (by decide)) rfl T.m_cut F_cut.kp b_cut .nil j9 (ja (qpv 4) (ja (qpv 3) (ja jh (ja (ja1 rfl (compOk_of (sc:=jg jv) (N:=["moves","yes","signs","groups","parts","sources","due","part","task","leading"]) (Nc:=["room","yes"]) (js:=[none,some 1]) (by decide +kernel)) (yd rfl T.n_range (ja (jo jr (by rfl) T.n_len jx (ja (qpv 1) jd)) jd)) (fun _ _ _ _=>(jm (i:=0) (show List.Nodup [("room":Str),("yes":Str)] from by decide +kernel) rfl (by first | exact Or.inl rfl | exact Or.inr rfl))) (fun _ _ _ _=>(zr (jn ix_U (qpv 1) (qpv 0) (fun _ _=>rfl)))) (fun _ _ _ _=>(qpv 0))) jd))))))
  (yg (jag (i:=5) ka.nd rfl (by first | exact Or.inl rfl | exact Or.inr rfl) rfl (compOk_of (sc:=jg jv) (N:=["moves","yes","signs","groups","parts","sources","due","part","task","leading"]) (Nc:=["sign","moves"]) (js:=[none,some 0]) (by decide +kernel)) (j7 (K:=K) (qpv 2) rfl) (fun _ _ _ _=>(jm (i:=0) (show List.Nodup [("sign":Str),("moves":Str)] from by decide +kernel) rfl (by first | exact Or.inl rfl | exact Or.inr rfl))) (fun _ _ _ _=>(jq G15z (hr.mono (by decide)) rfl T.m15z F15z.kp b15z .nil j9 (ja (qpv 1) (ja (qpv 0) jd)))))
  (jf (jj (i:=6) ka.nd rfl (by first | exact Or.inl rfl | exact Or.inr rfl) (kf jd))
  (yg (kg PassesOwn.never rfl (yd rfl T.n_range (ja (jo jr (by rfl) T.n_len jx (ja (qpv 4) jd)) jd)) (jm (i:=7) ka.nd rfl (by first | exact Or.inl rfl | exact Or.inr rfl)) (ji (km (yi PySem.F.slot_list_extend PySem.F.type_list_extend ja0 (qpv 6) (ja (kj rfl (compOk_of (sc:=jg jv) (N:=["moves","yes","signs","groups","parts","sources","due","part","task","leading"]) (Nc:=["sign","part"]) (js:=[none,some 7]) (by decide +kernel)) (j7 (K:=K) (qpv 2) rfl) (fun _ _ _ _=>(jm (i:=0) (show List.Nodup [("sign":Str),("part":Str)] from by decide +kernel) rfl (by first | exact Or.inl rfl | exact Or.inr rfl))) (fun _ _ _ _=>(y9 (ja (qpv 1) (ja (qpv 0) jd))))) jd) mono_var))))
  (jf (jav PassesOwn.never (qpt_tru (qpv 6)) (jf (jj (i:=8) ka.nd rfl (by first | exact Or.inl rfl | exact Or.inr rfl) (jb6 PySem.F.slot_list_pop PySem.F.type_list_pop mt_pop0U (qpv 6) mono_var))
  (jf (jj (i:=9) ka.nd rfl (by first | exact Or.inl rfl | exact Or.inr rfl) (jq G13z (hr.mono (by decide)) rfl T.m13z F13z.kp b13z .nil j9 (ja (jn ix_U (qpv 4) (jn ix_U (qpv 8) jh (fun _ _=>rfl)) (fun _ _=>rfl)) (ja (jn ix_U (qpv 5) (jn ix_U (qpv 8) jh (fun _ _=>rfl)) (fun _ _=>rfl)) (ja (qpv 3) jd)))))
  (ji (kg PassesOwn.never rfl (jaz (qpv 9)) (jm (i:=7) ka.nd rfl (by first | exact Or.inl rfl | exact Or.inr rfl)) (ji (yb (zr (jq G_cut (hr.mono (by decide)) rfl T.m_cut F_cut.kp b_cut .nil j9 (ja (qpv 4) (ja (qpv 3) (ja (qpv 7) (ja (zf hu1 (qpv 9) (qpv 7) (fun _ _=>rfl)) jd)))))) (ji (km (yi PySem.F.slot_list_extend PySem.F.type_list_extend ja0 (qpv 6) (ja (kj rfl (compOk_of (sc:=jg jv) (N:=["moves","yes","signs","groups","parts","sources","due","part","task","leading"]) (Nc:=["sign","parts"]) (js:=[none,some 4]) (by decide +kernel)) (j7 (K:=K) (qpv 2) rfl) (fun _ _ _ _=>(jm (i:=0) (show List.Nodup [("sign":Str),("parts":Str)] from by decide +kernel) rfl (by first | exact Or.inl rfl | exact Or.inr rfl))) (fun _ _ _ _=>(y9 (ja (jt jay (jo jr (by rfl) T.n_len jx (ja (qpv 1) jd)) jh) (ja (qpv 0) jd))))) jd) mono_var))) ke)))))))
  (ji (jz (qpv 3))))))))))) ?_
  obtain ⟨c0,hc0,hr0⟩:=rw'.get (show mv[0]?=some (mv.getD 0 []) by rw [List.getD_eq_getElem?_getD,List.getElem?_eq_getElem (by omega)];rfl)
  have l0:(mv.getD 0 []).length=m:=ok.ln _ (by rw [List.getD_eq_getElem?_getD,List.getElem?_eq_getElem (by omega)];exact List.getElem_mem _)
  simp! [hm]
  refine ⟨.ref c0,atI_nat (j:=0) hc0,?_⟩
  simp! [hr0]
  rw [List.length_map,l0]
  refine ⟨by omega,by omega,fun pr hpr=>⟨0,m,jb,by decide,by decide,by omega,by omega,by omega,fun psg hsg=>?_⟩⟩
  have k1:Kp [] H (upd (upd H pr (.rng 0 m)) psg (.lst ((List.range ((m:Int) - 0).toNat).map fun i=>V.int (0+(i:Nat))))):=((Kp.refl [] H).new hpr).new hsg
  have e1:upd (upd H pr (.rng 0 m)) psg (.lst ((List.range ((m:Int) - 0).toNat).map fun i=>V.int (0+(i:Nat)))) psg=some (.lst ((List.range m).map nV)):=by
   rw [jb,show ((m:Int) - 0).toNat=m by omega]
   congr 2
   exact List.map_congr_left fun i _=>by rw [Int.zero_add];rfl
  generalize upd (upd H pr (.rng 0 m)) psg (.lst ((List.range ((m:Int) - 0).toNat).map fun i=>V.int (0+(i:Nat))))=H1 at k1 e1 ⊢
  have hm1:=k1.tup _ _ hm
  simp only [hm1]
  intro pg hpg
  refine comp_tup (fun _=>nV 0) hm1 hpg (by omega) (fun x hx l Q' q=>q) fun vv=>?_
  have k2:Kp [] H (upd H1 pg (.lst (us.map fun _=>nV 0))):=k1.new hpg
  have e2:upd H1 pg (.lst (us.map fun _=>nV 0)) pg=some (.lst ((List.replicate mv.length 0).map nV)):=by
   rw [jb,← ul,List.map_replicate,List.map_const']
  have g2:upd H1 pg (.lst (us.map fun _=>nV 0)) psg=some (.lst ((List.range m).map nV)):=by rw [jc (je e1 hpg)];exact e1
  have nsg:=je e1 hpg
  have hg0:H pg=none:=k1.free hpg
  generalize upd H1 pg (.lst (us.map fun _=>nV 0))=H2 at k2 e2 g2 ⊢
  refine ⟨us,by rw [k2.tup _ _ hm];rfl,by omega,by omega,fun D1 hD1=>?_⟩
  rw [show ((us.length:Int)).toNat=mv.length by omega]
  refine comp_rangeK (fun i=>prT (.int (0+(i:Int)))) (fun i=>prT_firm _) hD1 (by omega) (fun i H' Q' hi k' q=>?_) fun v1 xs H3 k3 hx3 pr3=>?_
  ·simp!
   exact ⟨by omega,fun t ht=>q _ _ ((Kp.refl [] H').new ht) ⟨t,rfl,jb⟩⟩
  dsimp only
  refine rDictK.of hx3 (jca pr3) fun d0 hd0=>⟨by omega,fun pp hpp=>?_⟩
  rw [putAll_dk List.nodup_range] at hpp ⊢
  have k4:Kp [] H (upd (upd H3 d0 (.dK ((List.range mv.length).map dk))) pp (.lst [.ref d0])):=((k2.trans k3).new hd0).new hpp
  have k34:Kp [] H2 (upd (upd H3 d0 (.dK ((List.range mv.length).map dk))) pp (.lst [.ref d0])):=(k3.new hd0).new hpp
  have nd0:d0≠pp:=je jb hpp
  have g4:=k34.old _ _ g2 (by simp)
  have e4:=k34.old _ _ e2 (by simp)
  have ngp:pg≠pp:=je ((k3.new hd0).old _ _ e2 (by simp)) hpp
  have nsp:psg≠pp:=je ((k3.new hd0).old _ _ g2 (by simp)) hpp
  have hp0:H pp=none:=((k2.trans k3).new hd0).free hpp
  have hd00:H d0=none:=(k2.trans k3).free hd0
  have ps4:PS (upd (upd H3 d0 (.dK ((List.range mv.length).map dk))) pp (.lst [.ref d0])) pp pg mv.length [d0] [List.range mv.length] (List.replicate mv.length 0):=PS.one jb e4 (by rw [jc nd0,jb]) ngp.symm n9
  generalize upd (upd H3 d0 (.dK ((List.range mv.length).map dk))) pp (.lst [.ref d0])=H4 at k4 k34 g4 e4 ps4 ⊢
  refine ⟨fun σ' H'=>∃ (psg pg pp:Addr) (ds:List Addr) (Ss:List (List Nat)) (gs:List Nat),σ'=[some (.ref pm),some (.ref py),some (.ref psg),some (.ref pg),some (.ref pp),none,none,none,none,none]/\J1 H mv m ys H' psg pg pp ds Ss gs,?_,?_⟩
  ·have hy4:=k4.old _ _ hy (by simp)
   simp! [hy4]
   rw [List.length_map,yl]
   refine ⟨by omega,by omega,fun D2 hD2=>?_⟩
   have nyD:py≠D2:=je hy4 hD2
   refine compIf_range (fun i=>ys.getD i false) (fun i=>V.int (0+(i:Nat))) (by omega) (fun i hi l Q' q=>?_) (fun i hi _ l Q' q=>by simp!;exact q) fun vv=>?_
   ·simp!
    rw [jc nyD,hy4]
    exact ⟨_,rfl,.bl (ys.getD i false),by rw [Int.zero_add];exact atI_nat (by rw [List.getElem?_map,List.getD_eq_getElem?_getD,List.getElem?_eq_getElem (by omega)];rfl),_,rfl,q⟩
   dsimp only
   rw [show ((mv.length:Int)).toNat=mv.length by omega]
   have hm5:(((List.range mv.length).filter fun i=>ys.getD i false).map fun i=>V.int (0+(i:Nat)))=((List.range mv.length).filter fun i=>ys.getD i false).map nV:=List.map_congr_left fun i _=>by rw [Int.zero_add];rfl
   rw [hm5]
   have k5:Kp [] H4 (upd H4 D2 (.lst (((List.range mv.length).filter fun i=>ys.getD i false).map nV))):=(Kp.refl [] H4).new hD2
   have e5:upd H4 D2 (.lst (((List.range mv.length).filter fun i=>ys.getD i false).map nV)) D2=some (.lst (((List.range mv.length).filter fun i=>ys.getD i false).map nV)):=jb
   have nD1:D2≠pp:=(je ps4.hp hD2).symm
   have nD2:D2≠pg:=(je ps4.hg hD2).symm
   generalize upd H4 D2 (.lst (((List.range mv.length).filter fun i=>ys.getD i false).map nV))=H5 at k5 e5 ⊢
   have memL:∀ r,r ∈ (List.range mv.length).filter (fun i=>ys.getD i false)↔r < mv.length/\ys.getD r false=true:=fun r=>by simp [List.mem_filter]
   have ndL:((List.range mv.length).filter fun i=>ys.getD i false).Nodup:=List.nodup_range.filter _
   have subL:∀ r ∈ (List.range mv.length).filter (fun i=>ys.getD i false),r ∈ List.range mv.length:=fun r hr=>(List.mem_filter.mp hr).1
   generalize (List.range mv.length).filter (fun i=>ys.getD i false)=L at e5 memL ndL subL
   have ps5:=ps4.kp k5
   have r0:∀ r,r < mv.length->(List.replicate mv.length 0).getD r 0=0:=fun r hr=>by simp [List.getD_eq_getElem?_getD,List.getElem?_replicate,hr]
   refine ⟨pp,pg,D2,mv.length,[d0],[List.range mv.length],List.replicate mv.length 0,0,List.range mv.length,L,rfl,ps5,rfl,e5,ndL,subL,nD1,nD2,by simp,fun c H6 k6=>?_,fun nn sh d' H6 nds nes hd' subs how p6 k6=>?_⟩
   ·refine ⟨psg,pg,pp,⟨rfl,rfl,rfl⟩,_,_,_,ps5.kp k6,k6.old _ _ (k5.old _ _ g4 (by simp)) (by simp),by simp [nsp,nsg],(k4.trans k5).trans k6,hp0,hg0,by simpa using hd00,fun S hS=>?_,fun r s hr hs=>?_⟩
    ·simp at hS;subst hS;intro z
     have:=congrArg List.length z
     rw [List.length_range,List.length_nil] at this;omega
    ·rw [r0 r hr,r0 s hs]
     refine ⟨fun _=>?_,fun _=>rfl⟩
     rcases c with c | c
     ·have no:∀ r,r < mv.length->ys.getD r false=false:=fun r hr=>by
       have:=memL r
       rw [c] at this
       simpa [hr] using this
      rw [no r hr,no s hs]
     ·have al:∀ r,r < mv.length->ys.getD r false=true:=fun r hr=>((memL r).mp (full_of ndL subL c (List.mem_range.mpr hr))).2
      rw [al r hr,al s hs]
   ·have gat:∀ r,r < mv.length->(gsF (List.replicate mv.length 0) sh [d0].length).getD r 0=if r ∈ sh then 1 else 0:=fun r hr=>by
     rw [List.getD_eq_getElem?_getD,gsF_at sh _ r _ (by simpa using hr)]
     by_cases c:r ∈ sh
     ·rw [if_pos c,if_pos c];rfl
     ·rw [if_neg c,if_neg c,← List.getD_eq_getElem?_getD,r0 r hr]
    have k45:=k4.trans k5
    have dk5:H5 d0=some (.dK ((List.range mv.length).map dk)):=ps5.at_ 0 d0 _ rfl rfl
    refine ⟨psg,pg,pp,⟨rfl,rfl,rfl⟩,_,_,_,p6,k6.old _ _ (k5.old _ _ g4 (by simp)) ?_,by simp [nsp,nsg],k45.trans' k6 (fun x hx=>.inr ?_),hp0,hg0,fun x hx=>?_,fun S hS=>?_,fun r s hr hs=>?_⟩
    ·simp only [List.mem_cons,List.not_mem_nil,or_false,not_or]
     refine ⟨nsp,nsg,fun z=>?_⟩
     have:=k5.old _ _ g4 (by simp)
     rw [z,dk5] at this;cases this
    ·simp only [List.mem_cons,List.not_mem_nil,or_false] at hx
     rcases hx with rfl | rfl | rfl
     ·exact hp0
     ·exact hg0
     ·exact hd00
    ·simp only [List.cons_append,List.nil_append,List.mem_cons,List.not_mem_nil,or_false] at hx
     rcases hx with rfl | rfl
     ·exact hd00
     ·exact k45.free hd'
    ·rcases List.mem_append.mp hS with hS | hS
     ·rcases List.mem_or_eq_of_mem_set hS with hS | rfl
      ·simp at hS;subst hS;intro z
       have:=congrArg List.length z
       rw [List.length_range,List.length_nil] at this;omega
      ·exact rest_ne ndL subL nn List.nodup_range how
     ·cases List.mem_singleton.mp hS;exact nes
    ·rw [gat r hr,gat s hs]
     rcases how with w | w
     ·have e1:∀ r,r < mv.length->(r ∈ sh↔ys.getD r false=true):=fun r hr=>by rw [w,memL];simp [hr]
      simp only [e1 r hr,e1 s hs]
      cases ys.getD r false <;> cases ys.getD s false <;> simp
     ·have e1:∀ r,r < mv.length->(r ∈ sh↔ys.getD r false=false):=fun r hr=>by rw [w,memL];simp [hr]
      simp only [e1 r hr,e1 s hs]
      cases ys.getD r false <;> cases ys.getD s false <;> simp
  rintro _ H5 ⟨psg,pg,pp,ds,Ss,gs,rfl,j1⟩
  obtain ⟨ps5,g5,nsg,k5,hp0,hg0,fd,ns,ye⟩:=j1
  refine ⟨fun σ' H'=>∃ (psr:Addr) (as:List Addr),σ'=[some (.ref pm),some (.ref py),some (.ref psg),some (.ref pg),some (.ref pp),some (.ref psr),none,none,none,none]/\SrA H' [pp,pg] psr mv m as/\Kp [] H5 H',?_,?_⟩
  ·simp! [g5]
   intro D hD
   refine loop_list (xs:=(List.range m).map nV) (fun i σ H'=>∃ (v:Option V) (as:List Addr),σ=[v,some (.ref pm)]/\H' D=some (.lst (as.map V.ref))/\as.length=i/\(∀ (a:Nat) x,as[a]?=some x->H5 x=none/\x≠D/\∃ sl,(∀ y ∈ sl,H5 y=none/\y≠D)/\Src H' x sl (srcF mv a mv.length) mv.length)/\Kp [] H5 H') ?_ ?_ ?_ ?_
   ·exact ⟨none,[],rfl,jb,rfl,by simp,(Kp.refl [] H5).new hD⟩
   ·rintro i σ H' _ ⟨_,_,rfl,_,_,_,kp⟩
    exact kp.old _ _ g5 (by simp)
   ·rintro i x σ H6 hx ⟨v,as,rfl,hD6,al,at6,kp⟩
    rw [List.getElem?_map] at hx
    obtain ⟨r,hr',rfl⟩:=Option.map_eq_some_iff.mp hx
    have hi:i < m:=by have:=(List.getElem?_eq_some_iff.mp hr').1;simpa using this
    rw [List.getElem?_range hi] at hr'
    cases hr'
    have k56:=k5.trans kp
    simp! [tEmit]
    refine ⟨pm,us,mv,m,i,rfl,k56.tup _ _ hm,rw'.kp k56,ok,hi,n9,fun ps sl H7 hps hsl src k7=>?_⟩
    have hD7:=k7.old _ _ hD6 (by simp)
    have hD56:H5 D=none:=hD
    have nps:ps≠D:=fun z=>by rw [z,hD6] at hps;cases hps
    have k8:Kp [D] H6 (upd H7 D (.lst (as.map V.ref++[.ref ps]))):=((k7.mono (by simp)).set hD7 (.inl (by simp)))
    have k78:Kp [D] H7 (upd H7 D (.lst (as.map V.ref++[.ref ps]))):=((Kp.refl [D] H7).set hD7 (.inl (by simp)))
    refine ⟨_,by rw [hD7];rfl,by rw [List.length_map];omega,as++[ps],by rw [List.map_append];rfl,by simp [al],fun a x e=>?_,(kp.trans k7).set hD7 (.inr hD)⟩
    have srcD:∀ {Hx Hy:Hp} {x:Addr} {sl:List Addr} {Sr:Nat->List Nat} {n:Nat},Kp [D] Hx Hy->x≠D->(∀ y ∈ sl,y≠D)->Src Hx x sl Sr n->Src Hy x sl Sr n:=fun k nx ny s=>⟨k.old _ _ s.hs (by simpa using nx),s.ln,fun r y ey=>k.old _ _ (s.at_ r y ey) (by simpa using ny y (List.mem_of_getElem? ey)),s.lt,s.le⟩
    rcases Nat.lt_trichotomy a as.length with l | l | l
    ·rw [List.getElem?_append_left l] at e
     obtain ⟨q1,q2,sl',q3,q4⟩:=at6 a x e
     exact ⟨q1,q2,sl',q3,srcD k8 q2 (fun y hy=>(q3 y hy).2) q4⟩
    ·subst l
     rw [List.getElem?_append_right (Nat.le_refl _)] at e
     simp at e
     subst e
     rw [al]
     have nsl:∀ y ∈ sl,y≠D:=fun y hy z=>by have:=hsl y hy;rw [z,hD6] at this;cases this
     exact ⟨kp.free hps,nps,sl,fun y hy=>⟨kp.free (hsl y hy),nsl y hy⟩,srcD k78 nps nsl src⟩
    ·rw [List.getElem?_eq_none (by simp;omega)] at e
     cases e
   ·rintro σ H6 ⟨v,as,rfl,hD6,al,at6,kp⟩
    simp!
    have no:∀ x,H5 x=none->x ∉ [pp,pg]:=fun x hx m=>by
     simp only [List.mem_cons,List.not_mem_nil,or_false] at m
     rcases m with rfl | rfl
     ·rw [ps5.hp] at hx;cases hx
     ·rw [ps5.hg] at hx;cases hx
    refine ⟨as,⟨no D hD,hD6,by rw [al];simp,fun a x e=>?_⟩,kp⟩
    obtain ⟨q1,q2,sl',q3,q4⟩:=at6 a x e
    exact ⟨no x q1,sl',fun y hy=>no y (q3 y hy).1,q4⟩
  rintro _ H6 ⟨psr,as,rfl,sr,k6⟩
  have ps6:=ps5.kp k6
  have g6:=k6.old _ _ g5 (by simp)
  have k06:=k5.trans k6
  simp!
  refine ⟨by omega,fun pd hpd=>?_⟩
  have gw0:GW H H6 mv.length pg pp pd (upd H6 pd (.lst [])) ds Ss gs []:=⟨ps6.kp ((Kp.refl [] H6).new hpd),(Ky.refl _ H6).kp ((Kp.refl [] H6).new hpd) (by simp),⟨[],jb,.nil⟩,k06.new hpd,hp0,hg0,k06.free hpd,hpd,fd,(je ps6.hp hpd).symm,(je ps6.hg hpd).symm,ns⟩
  generalize upd H6 pd (.lst [])=H7 at gw0 ⊢
  have dn:ds.length<=mv.length:=gw0.le
  have sgk:∀ {H':Hp} {ds:List Addr} {Ss:List (List Nat)} {gs:List Nat} {due:List (Nat × Nat)},GW H H6 mv.length pg pp pd H' ds Ss gs due->H' psg=some (.lst ((List.range m).map nV)):=fun g=>g.ky _ _ g6 nsg (fun _ z=>nomatch z)
  have mul:∀ {p:Nat},p<=mv.length->p * m<=1000000:=fun hp=>Nat.le_trans (Nat.mul_le_mul (Nat.le_trans hp n9) m9) (by decide)
  refine ⟨fun σ' H'=>∃ (v7:Option V) (due:List (Nat × Nat)),σ'=[some (.ref pm),some (.ref py),some (.ref psg),some (.ref pg),some (.ref pp),some (.ref psr),some (.ref pd),v7,none,none]/\GW H H6 mv.length pg pp pd H' ds Ss gs due/\(∀ k b,(k,b) ∈ due↔k < ds.length/\b < m)/\due.length=ds.length * m,?_,?_⟩
  ·simp! [gw0.ps.hp]
   rw [List.length_map]
   refine ⟨by omega,by omega,?_⟩
   rw [show ((ds.length:Int)).toNat=ds.length by omega]
   refine loop_range (fun i σ H'=>∃ (v7:Option V) (due:List (Nat × Nat)),σ=[some (.ref pm),some (.ref py),some (.ref psg),some (.ref pg),some (.ref pp),some (.ref psr),some (.ref pd),v7,none,none]/\GW H H6 mv.length pg pp pd H' ds Ss gs due/\(∀ k b,(k,b) ∈ due↔k < i/\b < m)/\due.length=i * m) ⟨none,[],rfl,gw0,by simp,by simp⟩ ?_ ?_
   ·rintro i σ H8 hi ⟨v7,due,rfl,gw,md,dl⟩
    have g8:=sgk gw
    obtain ⟨xs,hxs,dp⟩:=gw.du
    have xl:xs.length=due.length:=Paired.length dp
    have ml:=mul (p:=i) (by omega)
    simp! [g8]
    refine ⟨by show (lstOf _).isSome=true;rw [hxs];rfl,fun D hD=>?_⟩
    refine comp_listK (tkT i) (tkT_firm i) g8 hD (by simp;omega) (fun j y H1 Q' hy k1 q=>?_) fun v zs H9 k9 hD9 pr=>?_
    ·simp!
     rw [Int.zero_add]
     exact ⟨by omega,fun t ht=>q _ _ ((Kp.refl [] H1).new ht) ⟨t,rfl,jb⟩⟩
    have dz:DuP H9 zs (allB i m):=du_of pr
    have zl:zs.length=m:=by rw [Paired.length dz];simp [allB]
    have gw9:=gw.kp0 k9
    have hx9:=k9.old _ _ hxs (by simp)
    dsimp only
    rw [hx9,hD9]
    refine ⟨_,rfl,_,rfl,by omega,due++allB i m,gw9.setd ((dp.kp k9).app dz),fun k' b=>?_,?_⟩
    ·rw [List.mem_append,md,mem_allB]
     omega
    ·rw [List.length_append,dl,Nat.add_mul];simp [allB]
   ·rintro σ H8 ⟨v7,due,rfl,gw,md,dl⟩
    exact ⟨v7,rfl,due,gw,md,dl⟩
  rintro _ H8 ⟨v7,due,rfl,gw,md,dl⟩
  simp!
  have mok:=mcOf_ok (ys:=ys) ok
  refine ⟨fun μ σ' H'=>∃ (v7 v8 v9:Option V) (ds:List Addr) (Ss:List (List Nat)) (gs:List Nat) (due:List (Nat × Nat)),σ'=[some (.ref pm),some (.ref py),some (.ref psg),some (.ref pg),some (.ref pp),some (.ref psr),some (.ref pd),v7,v8,v9]/\GW H H6 mv.length pg pp pd H' ds Ss gs due/\Pt (mcOf mv m ys) (fun r=>gs.getD r 0) ds.length due/\due.length<=ds.length * m/\μ=(mv.length - ds.length) * (m+1)+due.length,?_,?_⟩
  ·refine ⟨_,v7,none,none,ds,Ss,gs,due,rfl,gw,Pt.first (fun r hr=>gw.ps.gt r _ ((gG gw.ps.gl hr).mpr rfl)) ye (fun i a hi ha=>(md i a).mpr ⟨hi,ha⟩) (fun i a h=>(md i a).mp h) mok,by omega,rfl⟩
  clear gw md dl ye ns fd dn gw0 ps6 ps5 due ds Ss gs
  rintro μ σ H9 ⟨v7,v8,v9,ds,Ss,gs,due,rfl,gw,pt,dl,rfl⟩
  obtain ⟨xs,hxs,dp⟩:=gw.du
  have dn:=gw.le
  simp! [hxs]
  rcases List.eq_nil_or_concat due with rfl | ⟨due0,q,rfl⟩
  ·cases dp
   rw [if_neg (by simp)]
   exact k pg gs H9 hg0 gw.ps.hg gw.ps.gl (fun r s hr hs=>pt.done mok hr hs) (fun r hr=>Nat.lt_of_lt_of_le (gw.ps.gt r _ ((gG gw.ps.gl hr).mpr rfl)) dn) gw.kp
  rw [List.concat_eq_append] at dp pt dl ⊢
  obtain ⟨i,a⟩:=q
  obtain ⟨us',t,rfl,dp0,ht⟩:=dp.last
  obtain ⟨hip,ham⟩:=pt.du i a (by simp)
  rw [if_pos (by simp)]
  refine ⟨_,fun _ _ h=>h,.ref t,by simp,?_⟩
  rw [List.dropLast_concat]
  have gw1:=gw.setd dp0
  have ht1:upd H9 pd (.lst us') t=some (.tup [nV i,nV a]):=(((Kp.refl [pd] H9).set hxs (.inl (by simp))).tup _ _ ht)
  generalize upd H9 pd (.lst us')=H10 at gw1 ht1 ⊢
  have ham:a < m:=ham
  have sr1:=sr.ky gw1.ky
  have ei:Ss[i]?=some (Ss[i]'(by have:=gw1.ps.dl;omega)):=List.getElem?_eq_getElem _
  generalize Ss[i]'(by have:=gw1.ps.dl;omega)=S at ei
  obtain ⟨d,hd,hdd⟩:=gw1.ps.get ei
  have ea:as[a]?=some (as[a]'(by have:=sr1.ln;omega)):=List.getElem?_eq_getElem _
  generalize as[a]'(by have:=sr1.ln;omega)=x at ea
  obtain ⟨_,sl,_,src⟩:=sr1.at_ a x ea
  rw [rIxU_ref,ht1]
  refine ⟨_,rfl,nV i,atI_0 _ _,?_⟩
  show rIxU (.ref pp) (.int (i:Int)) H10 _
  rw [rIxU_ref,gw1.ps.hp]
  refine ⟨_,rfl,.ref d,atI_nat (by rw [List.getElem?_map,hd];rfl),?_⟩
  rw [rIxU_ref,ht1]
  refine ⟨_,rfl,nV a,atI_1 _ _ _,?_⟩
  show rIxU (.ref psr) (.int (a:Int)) H10 _
  rw [rIxU_ref,sr1.hs]
  refine ⟨_,rfl,.ref x,atI_nat (by rw [List.getElem?_map,ea];rfl),?_⟩
  have mS:=gw1.ps.memG ei
  have ndS:=gw1.ps.ns S (List.mem_of_getElem? ei)
  have Sn:S.length<=mv.length:=len_lt ndS fun r hr=>((mS r).mp hr).1
  refine ⟨d,x,pg,mv.length,S,sl,srcF mv a mv.length,gs,rfl,hdd,src,gw1.ps.hg,gw1.ps.gl,n9,by omega,fun r hr=>((mS r).mp hr).1,fun pl gk la H11 hpl ld k11=>⟨pl,gk.map (lk la),rfl,.inl ⟨ld.hl,fun o=>?_⟩⟩⟩
  have k12:Kp [] H10 (upd H11 pl (.frz o (.dK (gk.map (lk la))))):=kp_setK k11 ld.hl (.inr hpl)
  have fz:upd H11 pl (.frz o (.dK (gk.map (lk la)))) pl=some (.frz o (.dK (gk.map (lk la)))):=jb
  have lat:∀ g ∈ gk,upd H11 pl (.frz o (.dK (gk.map (lk la)))) (la g)=some (.lst (((S.flatMap (srcF mv a mv.length)).filter fun q=>decide (gs.getD q 0=g)).map nV)):=fun g hg=>by
   have e:=ld.at_ g hg
   rw [jc (fun z=>by rw [z,ld.hl] at e;cases e)];exact e
  have gw2:=gw1.kp0 k12
  obtain ⟨ys',hys,dpy⟩:=gw1.du
  have no:∀ z,H10 z=none->z ∉ [pp,pg,pd]:=fun z hz mz=>by
   simp only [List.mem_cons,List.not_mem_nil,or_false] at mz
   rcases mz with rfl | rfl | rfl
   ·rw [gw1.ps.hp] at hz;cases hz
   ·rw [gw1.ps.hg] at hz;cases hz
   ·rw [hys] at hz;cases hz
  have npl:=no pl hpl
  have nla:∀ g ∈ gk,la g ∉ [pp,pg,pd]:=fun g hg=>no _ (ld.fr g hg)
  have ndg:=ld.nd
  have all:=ld.all
  have nem:=ld.ne
  clear ld k11 hys dpy
  generalize upd H11 pl (.frz o (.dK (gk.map (lk la))))=H11 at k12 fz lat gw2 ⊢
  have lt0:∀ r,r < mv.length->gs.getD r 0 < ds.length:=fun r hr=>gw1.ps.gt r _ ((gG gw1.ps.gl hr).mpr rfl)
  have memT:∀ q,q ∈ S.flatMap (srcF mv a mv.length)↔q < mv.length/\gs.getD (dM mv q a) 0=i:=fun q=>by
   rw [mem_T]
   exact ⟨fun ⟨h1,h2⟩=>⟨h1,((mS _).mp h2).2⟩,fun ⟨h1,h2⟩=>⟨h1,(mS _).mpr ⟨(ok.at_ h1 ham).2,h2⟩⟩⟩
  have ndT:=nd_T (mv:=mv) (a:=a) (n:=mv.length) ndS
  have dl0:due0.length+1<=ds.length * m:=by simpa using dl
  have pm1:=mul dn
  refine loop_dK (fun j σ H'=>∃ (v7:Option V) (ds':List Addr) (Ss':List (List Nat)) (gs':List Nat) (due':List (Nat × Nat)),σ=[some (.ref pm),some (.ref py),some (.ref psg),some (.ref pg),some (.ref pp),some (.ref psr),some (.ref pd),v7,some (.ref t),some (.ref pl)]/\GW H H6 mv.length pg pp pd H' ds' Ss' gs' due'/\Ky [pp,pg,pd] H11 H'/\CI (mcOf mv m ys) (fun r=>gs.getD r 0) ds.length i a (gk.drop j) (fun r=>gs'.getD r 0) ds'.length /\
   (∀ q ∈ due0,q ∈ due')/\(∀ k b,ds.length<=k->k < ds'.length->b < m->(k,b) ∈ due')/\(∀ k b,(k,b) ∈ due'->k < ds'.length/\b < m)/\due'.length<=due0.length+(ds'.length - ds.length) * m) ?_ ?_ ?_ ?_
  ·refine ⟨v7,ds,Ss,gs,due0,rfl,gw2,Ky.refl _ _,CI.init lt0 fun r hr n e=>n (all r ((memT r).mpr ⟨hr,e⟩)),fun q h=>h,fun k b h1 h2=>by omega,fun k b h=>pt.du k b (by simp [h]),by omega⟩
  ·rintro j σ H' _ ⟨_,_,_,_,_,rfl,_,ky,_⟩
   exact ky _ _ fz npl (fun _ z=>nomatch z)
  ·rintro j kv σ H13 hkv ⟨w7,ds',Ss',gs',due',rfl,gw3,ky,ci,d1,d2,d3,dl3⟩
   rw [List.getElem?_map] at hkv
   obtain ⟨g,hg',rfl⟩:=Option.map_eq_some_iff.mp hkv
   have hj:=(List.getElem?_eq_some_iff.mp hg').1
   have hgm:=List.mem_of_getElem? hg'
   have dr:gk.drop j=g::gk.drop (j+1):=by
    rw [List.drop_eq_getElem_cons hj,(List.getElem?_eq_some_iff.mp hg').2]
   rw [dr] at ci
   have ng:g ∉ gk.drop (j+1):=by
    have:=ndg.sublist (List.drop_sublist j gk)
    rw [dr] at this
    exact (List.nodup_cons.mp this).1
   obtain ⟨q0,hq0,eq0⟩:=nem g hgm
   have gp:g < ds.length:=by rw [← eq0];exact lt0 q0 ((memT q0).mp hq0).1
   have pp':=ci.pp
   have pn:=gw3.le
   have sl3:=gw3.ps.dl
   have eg:Ss'[g]?=some (Ss'[g]'(by omega)):=List.getElem?_eq_getElem _
   generalize Ss'[g]'(by omega)=S' at eg
   have mS':∀ r,r ∈ S'↔r < mv.length/\gs.getD r 0=g:=fun r=>by
    rw [gw3.ps.memG eg r]
    exact ⟨fun ⟨h1,h2⟩=>⟨h1,(ci.part gp h1).mp h2⟩,fun ⟨h1,h2⟩=>⟨h1,(ci.part gp h1).mpr h2⟩⟩
   have ndS':=gw3.ps.ns S' (List.mem_of_getElem? eg)
   have hL:=ky _ _ (lat g hgm) (nla g hgm) (fun _ z=>nomatch z)
   have memL:∀ r,r ∈ (S.flatMap (srcF mv a mv.length)).filter (fun q=>decide (gs.getD q 0=g))↔r < mv.length/\gs.getD (dM mv r a) 0=i/\gs.getD r 0=g:=fun r=>by
    rw [List.mem_filter,memT]
    simp [and_assoc]
   have ndL:((S.flatMap (srcF mv a mv.length)).filter fun q=>decide (gs.getD q 0=g)).Nodup:=ndT.filter _
   have Lne:(S.flatMap (srcF mv a mv.length)).filter (fun q=>decide (gs.getD q 0=g))≠[]:=List.ne_nil_of_mem (List.mem_filter.mpr ⟨hq0,by simpa using eq0⟩)
   generalize (S.flatMap (srcF mv a mv.length)).filter (fun q=>decide (gs.getD q 0=g))=L at hL memL ndL Lne
   have subL:∀ r ∈ L,r ∈ S':=fun r hr=>(mS' r).mpr ⟨((memL r).mp hr).1,((memL r).mp hr).2.2⟩
   have fz3:=ky _ _ fz npl (fun _ z=>nomatch z)
   have nlg:=nla g hgm
   simp only [List.mem_cons,List.not_mem_nil,or_false,not_or] at nlg
   rw [show kV (lk la g).1=V.int (g:Int) from rfl]
   simp!
   refine ⟨.ref (la g),.inl ⟨gk.map (lk la),.inl (g:Int),.inr ⟨o,fz3⟩,rfl,by rw [val_lk,if_pos hgm]⟩,?_⟩
   refine ⟨pp,pg,la g,mv.length,ds',Ss',gs',g,S',L,rfl,gw3.ps,eg,hL,ndL,subL,nlg.1,nlg.2.1,by omega,fun c H14 k14=>⟨false,rfl,?_⟩,fun nn sh d' H14 nds nes hd' subs how p6 k14=>⟨true,rfl,?_⟩⟩
   ·rw [if_neg (by simp)]
    refine ⟨ds',Ss',gs',due',gw3.kp0 k14,ky.kp k14 (by simp),ci.same fun r hr e=>?_,d1,d2,d3,dl3⟩
    rcases c with c | c
    ·exact absurd c Lne
    ·exact ((memL r).mp (full_of ndL subL c ((mS' r).mpr ⟨hr,e⟩))).2.1
   ·rw [if_pos rfl]
    have s1:=rest_ne ndL subL nn ndS' how
    have gw4:=gw3.cut p6 k14 hd' s1 nes
    have pn4:=gw4.le
    have l4:(ds'++[d']).length=ds'.length+1:=by simp
    rw [l4] at pn4
    have ci4:CI (mcOf mv m ys) (fun r=>gs.getD r 0) ds.length i a (gk.drop (j+1)) (fun r=>(gsF gs' sh ds'.length).getD r 0) (ds'++[d']).length:=by
     rw [l4]
     refine ci.cut ng gp (sh:=sh) (fun r hr=>(mS' r).mp (subs r hr)) ?_ fun r hr=>?_
     ·rcases how with w | w
      ·exact .inl fun r hr e=>by rw [w,memL];exact ⟨fun h=>h.2.1,fun h=>⟨hr,h,e⟩⟩
      ·exact .inr fun r hr e=>by
        rw [w,memL,mS']
        exact ⟨fun h z=>h.2 ⟨hr,z,e⟩,fun h=>⟨⟨hr,e⟩,fun z=>h z.2.1⟩⟩
     ·show (gsF gs' sh ds'.length).getD r 0=if r ∈ sh then ds'.length else gs'.getD r 0
      rw [List.getD_eq_getElem?_getD,gsF_at sh _ r _ (by rw [gw3.ps.gl];exact hr)]
      by_cases c:r ∈ sh
      ·rw [if_pos c,if_pos c];rfl
      ·rw [if_neg c,if_neg c,List.getD_eq_getElem?_getD]
    have ky4:Ky [pp,pg,pd] H11 H14:=ky.kp k14 fun z hz=>by
     rcases List.mem_cons.mp hz with rfl | hz
     ·exact .inl (by simp)
     rcases List.mem_cons.mp hz with rfl | hz
     ·exact .inl (by simp)
     exact .inr (.inr (gw3.ps.isd hz))
    have g4:=sgk gw4
    obtain ⟨xs,hxs,dp4⟩:=gw4.du
    have xl:xs.length=due'.length:=Paired.length dp4
    have ml:=mul (p:=ds'.length - ds.length) (by omega)
    simp only [g4]
    refine ⟨by rw [hxs];rfl,fun D hD=>?_⟩
    refine comp_listK (tkT ds'.length) (tkT_firm _) g4 hD (by simp;omega) (fun j' y H1 Q' hy k1 q=>?_) fun v zs H15 k15 hD15 pr=>?_
    ·have hp1:=k1.old _ _ gw4.ps.hp (by simp)
     simp! [hp1]
     rw [List.length_map,l4,show ((ds'.length+1:Nat):Int) - 1=(ds'.length:Int) by omega]
     exact ⟨by omega,fun t ht=>q _ _ ((Kp.refl [] H1).new ht) ⟨t,rfl,jb⟩⟩
    have dz:DuP H15 zs (allB ds'.length m):=du_of pr
    have zl:zs.length=m:=by rw [Paired.length dz];simp [allB]
    have al:(allB ds'.length m).length=m:=by simp [allB]
    have gw5:=gw4.kp0 k15
    have hx15:=k15.old _ _ hxs (by simp)
    dsimp only
    rw [hx15,hD15]
    refine ⟨_,rfl,_,rfl,by omega,_,_,_,due'++allB ds'.length m,gw5.setd ((dp4.kp k15).app dz),(ky4.kp k15 (by simp)).kp ((Kp.refl [pd] H15).set hx15 (.inl (by simp))) (fun z hz=>.inl (by simp at hz;simp [hz])),ci4,fun q hq=>List.mem_append_left _ (d1 q hq),fun k' b h1 h2 h3=>?_,fun k' b h=>?_,?_⟩
    ·rw [l4] at h2
     rw [List.mem_append,mem_allB]
     by_cases c:k'=ds'.length
     ·exact .inr ⟨c,h3⟩
     ·exact .inl (d2 k' b h1 (by omega) h3)
    ·rw [l4]
     rcases List.mem_append.mp h with h | h
     ·have:=d3 k' b h;omega
     ·have:=mem_allB.mp h;omega
    ·rw [l4,List.length_append,al,show ds'.length+1 - ds.length=(ds'.length - ds.length)+1 by omega,Nat.add_mul]
     omega
  ·rintro σ H13 ⟨w7,ds',Ss',gs',due',rfl,gw3,ky,ci,d1,d2,d3,dl3⟩
   rw [List.length_map,List.drop_length] at ci
   have pt':=pt.task mok ci d1 d2 d3
   have pn:=gw3.le
   have pp':=ci.pp
   have e1:(mv.length - ds.length) * (m+1)=(mv.length - ds'.length) * (m+1)+(ds'.length - ds.length) * m+(ds'.length - ds.length):=by
    rw [show mv.length - ds.length=(mv.length - ds'.length)+(ds'.length - ds.length) by omega,Nat.add_mul,Nat.mul_succ (ds'.length - ds.length) m];omega
   have e2:ds'.length * m=ds.length * m+(ds'.length - ds.length) * m:=by
    rw [← Nat.add_mul];congr 1;omega
   refine ⟨_,?_,w7,some (.ref t),some (.ref pl),rfl,ds',Ss',gs',due',gw3,pt',by omega,rfl⟩
   rw [List.length_append,List.length_cons,List.length_nil]
   omega
end
structure MG (G:Nat->Nat) (j:Nat) (fr:List Nat):Prop where
 lt:∀ r ∈ fr,r < j
 inc:fr.Pairwise (fun a b=>a < b)
 nd:(fr.map G).Nodup
 all:∀ r,r < j->G r ∈ fr.map G
 fst:∀ f ∈ fr,∀ r,r < f->G r≠G f
theorem MG.nil (G:Nat->Nat):MG G 0 []:=⟨by simp,.nil,by simp,fun r h=>by omega,by simp⟩
theorem MG.old {G:Nat->Nat} {j:Nat} {fr:List Nat} (h:MG G j fr) (m:G j ∈ fr.map G):MG G (j+1) fr :=
 ⟨fun r hr=>Nat.lt_succ_of_lt (h.lt r hr),h.inc,h.nd,fun r hr=>by
  rcases Nat.lt_or_ge r j with c | c
  ·exact h.all r c
  ·rw [show r=j by omega];exact m,h.fst⟩
theorem MG.new {G:Nat->Nat} {j:Nat} {fr:List Nat} (h:MG G j fr) (m:G j ∉ fr.map G):MG G (j+1) (fr++[j]):=by
 refine ⟨fun r hr=>?_,?_,?_,fun r hr=>?_,fun f hf r hr e=>?_⟩
 ·rcases List.mem_append.mp hr with c | c
  ·exact Nat.lt_succ_of_lt (h.lt r c)
  ·cases List.mem_singleton.mp c;omega
 ·rw [List.pairwise_append]
  exact ⟨h.inc,by simp,fun a ha b hb=>by cases List.mem_singleton.mp hb;exact h.lt a ha⟩
 ·rw [List.map_append,List.nodup_append]
  exact ⟨h.nd,by simp,fun a ha b hb e=>m (by simp at hb;rw [← hb,← e];exact ha)⟩
 ·rw [List.map_append,List.mem_append]
  rcases Nat.lt_or_ge r j with c | c
  ·exact .inl (h.all r c)
  ·exact .inr (by simp [show r=j by omega])
 ·rcases List.mem_append.mp hf with c | c
  ·exact h.fst f c r hr e
  ·cases List.mem_singleton.mp c
   exact m (e ▸ h.all r hr)
structure Nmb (G:Nat->Nat) (fr:List Nat) (kvs:List (L2.Key × V)):Prop where
 num:∀ x:Nat,valV kvs (.inl (x:Int))=if x ∈ fr.map G then some (nV ((fr.map G).idxOf x)) else none
 kl:kvs.length<=fr.length
theorem Nmb.new {G:Nat->Nat} {fr:List Nat} {kvs:List (L2.Key × V)} (h:Nmb G fr kvs) {j:Nat} (m:G j ∉ fr.map G):Nmb G (fr++[j]) (putK kvs (.inl (G j:Int)) (nV fr.length)):=by
 refine ⟨fun x=>?_,?_⟩
 ·rw [valV_put,h.num,List.map_append]
  by_cases c:x=G j
  ·subst c
   rw [if_pos rfl,if_pos (by simp),List.idxOf_append,if_neg m]
   simp
  ·rw [if_neg (by simpa using fun z:(x:Int)=G j=>c (by omega))]
   by_cases hx:x ∈ fr.map G
   ·rw [if_pos hx,if_pos (List.mem_append_left _ hx),List.idxOf_append,if_pos hx]
   ·rw [if_neg hx,if_neg (fun z=>(List.mem_append.mp z).elim hx (by simpa using c))]
 ·have:=length_putK kvs (.inl (G j:Int)) (nV fr.length)
  have:=h.kl
  rw [List.length_append,List.length_cons,List.length_nil]
  omega
def phi (G:Nat->Nat) (fr:List Nat) (r:Nat):Nat:=(fr.map G).idxOf (G r)
def phV (G:Nat->Nat) (fr:List Nat):V->V
 | .int i=>nV (phi G fr i.toNat)
 | v=>v
def mgR (mv:List (List Nat)) (G:Nat->Nat) (fr:List Nat):List (List Nat):=fr.map fun f=>(mv.getD f []).map (phi G fr)
def mgY (ys:List Bool) (fr:List Nat):List Bool:=fr.map fun f=>ys.getD f false
def ysV (ys:List Bool):V->V
 | .int i=>.bl (ys.getD i.toNat false)
 | v=>v
def spMg:Sp:=fun vs H Q _=>∃ (pm py pg:Addr) (us:List V) (mv:List (List Nat)) (m:Nat) (ys:List Bool) (gs:List Nat),vs=[.ref pm,.ref py,.ref pg]/\H pm=some (.tup us)/\RowsM H us mv/\MvOk mv m/\H py=some (.lst (ys.map V.bl))/\ys.length=mv.length/\H pg=some (.lst (gs.map nV))/\gs.length=mv.length/\1<=mv.length/\mv.length<=1000/\m<=1000 /\
 ∀ (q a1 a2:Addr) (us':List V) (fr:List Nat) (H':Hp),MG (fun r=>gs.getD r 0) mv.length fr->H' q=some (.tup [.ref a1,.ref a2])->H' a1=some (.tup us')->RowsM H' us' (mgR mv (fun r=>gs.getD r 0) fr)->H' a2=some (.tup ((mgY ys fr).map V.bl))->Kp [] H H'->Q (.ref q) H'
structure TMg (mg:Str->Option Value):Prop where
 n_len:mg "len"=none
 n_tuple:mg "tuple"=none
 n_enumerate:mg "enumerate"=none
section
variable {P:Program} {w:World} {K:PySem.W.Frag} {mg:Str->Option Value} {base:Heap}
abbrev zi:Stmt:=top 8
theorem zy:FnScope ["moves","yes","groups","numbers","first_rooms","room","group","rows"] ["moves","yes","groups"] (jg zi):=⟨rfl,rfl,rfl,by decide +kernel,rfl,by decide +kernel,by decide +kernel⟩
theorem ok_merged {f:Addr} {fd:FuncData} (F:Fun K "merged" "merged" zi f fd) (T:TMg mg):FnOk P w K mg base CX0 1 f fd ["moves","yes","groups"] spMg:=by
 refine F.ok zy (fun vs H Q E h=>?_) (fun cdv A outer s H vs Q E hr h=>?_)
 ·obtain ⟨pm,py,pg,us,mv,m,ys,gs,rfl,_⟩:=h
  rfl
 ·obtain ⟨pm,py,pg,us,mv,m,ys,gs,rfl,hm,rw',ok,hy,yl,hg,gl,n1,n9,m9,k⟩:=h
  have hu:=hr.units
  have hsz:sizeLine=16777216:=PySem.sizeLine_eq
  have hu1:(A.deeper (PyProof.Rows.envOfC (Str.ofString "merged") (jg zi) s.heap.objs.size f cdv)).units+1 < cLine:=by omega
  have ul:us.length=mv.length:=Paired.length rw'
  have gat:∀ r,r < mv.length->gs[r]?=some (gs.getD r 0):=fun r hr=>(gG gl hr).mpr rfl
  generalize hG:(fun r=>gs.getD r 0)=G at k
  have gat:∀ r,r < mv.length->gs[r]?=some (G r):=fun r hr=>by rw [← hG];exact gat r hr
  refine exQ (jf (jj (i:=3) zy.nd rfl (by first | exact Or.inl rfl | exact Or.inr rfl) jba)
  (jf (jj (i:=4) zy.nd rfl (by first | exact Or.inl rfl | exact Or.inr rfl) (kf jd))
  (jf (kg PassesOwn.never rfl (qpi_enumF rfl T.n_enumerate (ja (qpv 2) jd)) (jaf (n:=2) rfl (yh (jm (i:=5) zy.nd rfl (by first | exact Or.inl rfl | exact Or.inr rfl)) (yh (jm (i:=6) zy.nd rfl (by first | exact Or.inl rfl | exact Or.inr rfl)) z8)) (K:=K) rfl) (ji (yb (jbg (jal hu1 (qpv 6) (qpv 3)) (by with_unfolding_all rfl)) (jf (ja2 hu1 (qpv 3) (qpv 6) (jo jr (by rfl) T.n_len jx (ja (qpv 4) jd)) rfl)
  (ji (km (yi PySem.F.slot_list_append PySem.F.type_list_append ya (qpv 4) (ja (qpv 5) jd) mono_var)))) ke)))
  (jf (jj (i:=7) zy.nd rfl (by first | exact Or.inl rfl | exact Or.inr rfl) (kf jd))
  (jf (kg PassesOwn.never rfl (j7 (K:=K) (qpv 4) rfl) (jm (i:=5) zy.nd rfl (by first | exact Or.inl rfl | exact Or.inr rfl)) (ji (km (yi PySem.F.slot_list_append PySem.F.type_list_append ya (qpv 7) (ja (j6 yz (by rfl) T.n_tuple zu (ja (kj rfl (compOk_of (sc:=jg zi) (N:=["moves","yes","groups","numbers","first_rooms","room","group","rows"]) (Nc:=["target","numbers","groups"]) (js:=[none,some 3,some 2]) (by decide +kernel)) (j7 (K:=K) (jn ix_U (qpv 0) (qpv 5) (fun _ _=>rfl)) rfl) (fun _ _ _ _=>(jm (i:=0) (show List.Nodup [("target":Str),("numbers":Str),("groups":Str)] from by decide +kernel) rfl (by first | exact Or.inl rfl | exact Or.inr rfl))) (fun _ _ _ _=>(zf hu1 (qpv 1) (jn ix_U (qpv 2) (qpv 0) (fun _ _=>rfl)) (fun _ _=>rfl)))) jd)) jd) mono_var))))
  (ji (jz (y9 (ja (j6 yz (by rfl) T.n_tuple zu (ja (qpv 7) jd)) (ja (j6 yz (by rfl) T.n_tuple zu (ja (kj rfl (compOk_of (sc:=jg zi) (N:=["moves","yes","groups","numbers","first_rooms","room","group","rows"]) (Nc:=["room","yes"]) (js:=[none,some 1]) (by decide +kernel)) (j7 (K:=K) (qpv 4) rfl) (fun _ _ _ _=>(jm (i:=0) (show List.Nodup [("room":Str),("yes":Str)] from by decide +kernel) rfl (by first | exact Or.inl rfl | exact Or.inr rfl))) (fun _ _ _ _=>(jn ix_U (qpv 1) (qpv 0) (fun _ _=>rfl)))) jd)) jd)))))))))) ?_
  simp!
  intro pn hpn
  refine ⟨by omega,fun pf hpf=>?_⟩
  have nnf:pn≠pf:=je jb hpf
  have k0:Kp [] H (upd (upd H pn (.dK [])) pf (.lst [])):=((Kp.refl [] H).new hpn).new hpf
  have hpf0:H pf=none:=((Kp.refl [] H).new hpn).free hpf
  have g0:=k0.old _ _ hg (by simp)
  refine ⟨_,g0,?_⟩
  refine loop_EF (xs:=gs.map nV) (fun i σ H'=>∃ (v5 v6:Option V) (fr:List Nat) (kvs:List (L2.Key × V)),σ=[some (.ref pm),some (.ref py),some (.ref pg),some (.ref pn),some (.ref pf),v5,v6,none]/\H' pn=some (.dK kvs)/\H' pf=some (.lst (fr.map nV))/\MG G i fr/\Nmb G fr kvs/\Kp [] H H') ?_ ?_ ?_ ?_
  ·exact ⟨none,none,[],[],rfl,by rw [jc nnf,jb],jb,MG.nil G,⟨fun x=>by simp [valV],Nat.le_refl _⟩,k0⟩
  ·rintro i σ H' _ ⟨_,_,_,_,rfl,_,_,_,_,kp⟩
   exact kp.old _ _ hg (by simp)
  ·rintro i x σ H1 tt hx ⟨v5,v6,fr,kvs,rfl,e1,e2,I,N,kp⟩ htt
   rw [List.getElem?_map] at hx
   obtain ⟨y,hy',rfl⟩:=Option.map_eq_some_iff.mp hx
   have hi:i < mv.length:=by have:=(List.getElem?_eq_some_iff.mp hy').1;omega
   rw [gat i hi] at hy'
   cases hy'
   refine ⟨tt,[.int (i:Int),nV (G i)],rfl,SqT.of jb,rfl,⟨_,_,rfl,⟨_,_,rfl,rfl,?_⟩⟩⟩
   have kT:Kp [] H1 (upd H1 tt (.tup [.int (i:Int),nV (G i)])):=(Kp.refl [] H1).new htt
   generalize upd H1 tt (.tup [.int (i:Int),nV (G i)])=H2 at kT ⊢
   have e1:=kT.old _ _ e1 (by simp)
   have e2:=kT.old _ _ e2 (by simp)
   have kp:=kp.trans kT
   have frl:fr.length<=i:=by
    have:=nodup_leN (l:=fr) (zs:=List.range i) (I.inc.imp fun h=>by omega) fun r hr=>List.mem_range.mpr (I.lt r hr)
    simpa using this
   have kl:=N.kl
   simp!
   refine ⟨_,DGet.k (k:=.inl (G i:Int)) e1,?_⟩
   rw [N.num (G i)]
   by_cases c:G i ∈ fr.map G
   ·rw [if_pos c]
    simp only [Option.isSome_some,Bool.not_true,Bool.false_eq_true,if_false]
    exact ⟨_,_,⟨rfl,rfl⟩,fr,kvs,e1,e2,I.old c,N,kp⟩
   ·rw [if_neg c]
    simp only [Option.isSome_none,Bool.not_false,if_true,e2]
    refine ⟨_,rfl,upd H2 pn (.dK (putK kvs (.inl (G i:Int)) (nV fr.length))),by rw [List.length_map];exact DPut.k (k:=.inl (G i:Int)) (v:=nV fr.length) e1 (by omega),?_⟩
    rw [jc nnf.symm,e2]
    refine ⟨rfl,_,rfl,by rw [List.length_map];omega,_,_,⟨rfl,rfl⟩,fr++[i],_,by rw [jc nnf,jb],by rw [List.map_append];rfl,I.new c,N.new c,?_⟩
    exact (kp_setK kp e1 (.inr hpn)).set (by rw [jc nnf.symm];exact e2) (.inr hpf0)
  ·rintro σ H1 ⟨v5,v6,fr,kvs,rfl,e1,e2,I,N,kp⟩
   rw [List.length_map,gl] at I
   simp!
   refine ⟨by omega,fun pr hpr=>?_⟩
   have frl:fr.length<=mv.length:=by
    have:=nodup_leN (l:=fr) (zs:=List.range mv.length) (I.inc.imp fun h=>by omega) fun r hr=>List.mem_range.mpr (I.lt r hr)
    simpa using this
   have kR:Kp [] H1 (upd H1 pr (.lst [])):=(Kp.refl [] H1).new hpr
   have eR:upd H1 pr (.lst []) pr=some (.lst []):=jb
   have hpr0:H pr=none:=kp.free hpr
   have nrn:pn≠pr:=je e1 hpr
   have nrf:pf≠pr:=je e2 hpr
   generalize upd H1 pr (.lst [])=H2 at kR eR ⊢
   have e1:=kR.old _ _ e1 (by simp)
   have e2:=kR.old _ _ e2 (by simp)
   have kp:=kp.trans kR
   simp only [e2]
   refine loop_list (xs:=fr.map nV) (fun j σ H'=>∃ (v5:Option V) (rs:List V),σ=[some (.ref pm),some (.ref py),some (.ref pg),some (.ref pn),some (.ref pf),v5,v6,some (.ref pr)]/\H' pr=some (.lst rs)/\RowsM H' rs ((fr.take j).map fun f=>(mv.getD f []).map (phi G fr))/\H' pn=some (.dK kvs)/\H' pf=some (.lst (fr.map nV))/\Kp [] H H') ?_ ?_ ?_ ?_
   ·exact ⟨v5,[],rfl,eR,.nil,e1,e2,kp⟩
   ·rintro j σ H' _ ⟨_,_,rfl,_,_,_,h,_⟩
    exact h
   ·rintro j x σ H3 hx ⟨v5,rs,rfl,r3,R3,n3,f3,kp3⟩
    rw [List.getElem?_map] at hx
    obtain ⟨fj,hf,rfl⟩:=Option.map_eq_some_iff.mp hx
    have fl:=I.lt fj (List.mem_of_getElem? hf)
    obtain ⟨c,hc,hcr⟩:=(rw'.kp kp3).get (show mv[fj]?=some (mv.getD fj []) by rw [List.getD_eq_getElem?_getD,List.getElem?_eq_getElem fl];rfl)
    have rm:mv.getD fj [] ∈ mv:=by rw [List.getD_eq_getElem?_getD,List.getElem?_eq_getElem fl];exact List.getElem_mem _
    have rl:=ok.ln _ rm
    have rlt:=ok.lt _ rm
    have hm3:=kp3.tup _ _ hm
    have rsl:rs.length=j:=by
     rw [Paired.length R3,List.length_map,List.length_take]
     have:=(List.getElem?_eq_some_iff.mp hf).1
     omega
    have jl:=(List.getElem?_eq_some_iff.mp hf).1
    simp! [r3]
    unfold nV
    rw [rIxU_ref,hm3]
    refine ⟨_,rfl,.ref c,atI_nat hc,?_⟩
    simp only [hcr]
    intro D hD
    have nDn:pn≠D:=je n3 hD
    have g3:=kp3.old _ _ hg (by simp)
    have nDg:pg≠D:=je g3 hD
    refine comp_tup (phV G fr) hcr hD (by rw [List.length_map];omega) (fun x hx l Q' q=>?_) fun vv=>?_
    ·obtain ⟨t,ht,rfl⟩:=List.mem_map.mp hx
     have tl:=rlt t ht
     simp!
     rw [show nV t=V.int (t:Int) from rfl,rIxU_ref,jc nDg,g3]
     refine ⟨_,rfl,nV (G t),atI_nat (by rw [List.getElem?_map,gat t tl];rfl),nV (phi G fr t),.inl ⟨kvs,.inl (G t:Int),.inl (by rw [jc nDn];exact n3),rfl,?_⟩,q⟩
     rw [N.num (G t),if_pos (I.all t tl)];rfl
    dsimp only
    refine rTupleU_lst jb fun l hl=>?_
    have k4:Kp [] H3 (upd (upd H3 D (.lst (((mv.getD fj []).map nV).map (phV G fr)))) l (.tup (((mv.getD fj []).map nV).map (phV G fr)))):=((Kp.refl [] H3).new hD).new hl
    have l4:upd (upd H3 D (.lst (((mv.getD fj []).map nV).map (phV G fr)))) l (.tup (((mv.getD fj []).map nV).map (phV G fr))) l=some (.tup (((mv.getD fj []).map (phi G fr)).map nV)):=by
     rw [jb,List.map_map,List.map_map]
     rfl
    generalize upd (upd H3 D (.lst (((mv.getD fj []).map nV).map (phV G fr)))) l (.tup (((mv.getD fj []).map nV).map (phV G fr)))=H4 at k4 l4 ⊢
    have r4:=k4.old _ _ r3 (by simp)
    have k5:Kp [pr] H4 (upd H4 pr (.lst (rs++[.ref l]))):=(Kp.refl [pr] H4).set r4 (.inl (by simp))
    refine ⟨rs,by rw [r4];rfl,by omega,?_,by rw [jc nrn];exact k4.old _ _ n3 (by simp),by rw [jc nrf];exact k4.old _ _ f3 (by simp),(kp3.trans k4).set r4 (.inr hpr0)⟩
    rw [List.take_add_one,hf,List.map_append]
    exact Paired.snoc ((R3.kp k4).kp k5) ⟨l,rfl,k5.tup _ _ l4⟩
   ·rintro σ H3 ⟨v5,rs,rfl,r3,R3,n3,f3,kp3⟩
    rw [List.length_map,List.take_length] at R3
    simp!
    refine rTupleU_lst r3 fun a1 ha1=>?_
    have k4:Kp [] H3 (upd H3 a1 (.tup rs)):=(Kp.refl [] H3).new ha1
    have e4:upd H3 a1 (.tup rs) a1=some (.tup rs):=jb
    generalize upd H3 a1 (.tup rs)=H4 at k4 e4 ⊢
    have f4:=k4.old _ _ f3 (by simp)
    simp only [f4]
    intro D hD
    have y4:=(kp3.trans k4).old _ _ hy (by simp)
    have nDy:py≠D:=je y4 hD
    refine comp_list (ysV ys) f4 hD (by rw [List.length_map];omega) (fun x hx l Q' q=>?_) fun vv=>?_
    ·obtain ⟨t,ht,rfl⟩:=List.mem_map.mp hx
     have tl:=I.lt t ht
     simp!
     rw [show nV t=V.int (t:Int) from rfl,rIxU_ref,jc nDy,y4]
     exact ⟨_,rfl,.bl (ys.getD t false),atI_nat (by rw [List.getElem?_map,List.getD_eq_getElem?_getD,List.getElem?_eq_getElem (by omega)];rfl),q⟩
    dsimp only
    refine rTupleU_lst jb fun a2 ha2=>⟨by omega,fun q hq=>?_⟩
    have k5:Kp [] H4 (upd (upd H4 D (.lst ((fr.map nV).map (ysV ys)))) a2 (.tup ((fr.map nV).map (ysV ys)))):=((Kp.refl [] H4).new hD).new ha2
    have e5:upd (upd H4 D (.lst ((fr.map nV).map (ysV ys)))) a2 (.tup ((fr.map nV).map (ysV ys))) a2=some (.tup ((mgY ys fr).map V.bl)):=by
     rw [jb,List.map_map]
     unfold mgY
     rw [List.map_map]
     rfl
    generalize upd (upd H4 D (.lst ((fr.map nV).map (ysV ys)))) a2 (.tup ((fr.map nV).map (ysV ys)))=H5 at k5 e5 hq ⊢
    have k6:Kp [] H5 (upd H5 q (.tup [.ref a1,.ref a2])):=(Kp.refl [] H5).new hq
    exact k q a1 a2 rs fr _ I jb (k6.tup _ _ (k5.tup _ _ e4)) (((R3.kp k4).kp k5).kp k6) (k6.tup _ _ e5) (((kp3.trans k4).trans k5).trans k6)
end
def cu1 (g:Nat->Nat->Nat) (r:Nat) (rs:List Nat) (a:Nat):List Nat:=if g r a ∈ rs then rs else rs++[g r a]
def cuR (g:Nat->Nat->Nat) (r a:Nat) (rs:List Nat):List Nat:=(List.range a).foldl (cu1 g r) rs
inductive Bf (g:Nat->Nat->Nat) (m first:Nat):Nat->List Nat->Prop
 | z:Bf g m first 0 [first]
 | s {j:Nat} {rs:List Nat} {r:Nat}:Bf g m first j rs->rs[j]?=some r->Bf g m first (j+1) (cuR g r m rs)
theorem cuR_succ (g:Nat->Nat->Nat) (r a:Nat) (rs:List Nat):cuR g r (a+1) rs=cu1 g r (cuR g r a rs) a:=by
 unfold cuR
 rw [List.range_succ,List.foldl_append];rfl
theorem cu1_pre (g:Nat->Nat->Nat) (r:Nat) (rs:List Nat) (a:Nat):∃ t,cu1 g r rs a=rs++t:=by
 unfold cu1
 split
 ·exact ⟨[],by simp⟩
 ·exact ⟨_,rfl⟩
theorem cuR_pre (g:Nat->Nat->Nat) (r:Nat) (rs:List Nat):∀ a,∃ t,cuR g r a rs=rs++t
 | 0=>⟨[],by simp [cuR]⟩
 | a+1=>by
  obtain ⟨t,e⟩:=cuR_pre g r rs a
  obtain ⟨t2,e2⟩:=cu1_pre g r (cuR g r a rs) a
  exact ⟨t++t2,by rw [cuR_succ,e2,e,List.append_assoc]⟩
theorem cu1_mem (g:Nat->Nat->Nat) (r:Nat) (rs:List Nat) (a:Nat):g r a ∈ cu1 g r rs a:=by
 unfold cu1
 split
 ·assumption
 ·simp
theorem cuR_mem (g:Nat->Nat->Nat) (r:Nat) (rs:List Nat):∀ a b,b < a->g r b ∈ cuR g r a rs
 | 0,b,h=>by omega
 | a+1,b,h=>by
  rw [cuR_succ]
  by_cases c:b=a
  ·subst c;exact cu1_mem g r _ b
  ·obtain ⟨t,e⟩:=cu1_pre g r (cuR g r a rs) a
   rw [e]
   exact List.mem_append_left _ (cuR_mem g r rs a b (by omega))
theorem ixa {x:Nat} {rs t:List Nat} (h:x ∈ rs):(rs++t).idxOf x=rs.idxOf x:=by rw [List.idxOf_append,if_pos h]
structure BI (g:Nat->Nat->Nat) (m n first j:Nat) (rs:List Nat):Prop where
 nd:rs.Nodup
 lt:∀ r ∈ rs,r < n
 z:rs[0]?=some first
 cl:∀ r ∈ rs.take j,∀ a,a < m->g r a ∈ rs
 jl:j<=rs.length
 rc:∀ r ∈ rs,∃ w:List Nat,(∀ a ∈ w,a < m)/\w.foldl g first=r
theorem cu1_nd {g:Nat->Nat->Nat} {r a:Nat} {rs:List Nat} (h:rs.Nodup):(cu1 g r rs a).Nodup:=by
 unfold cu1
 split
 ·exact h
 ·rename_i c
  rw [List.nodup_append]
  exact ⟨h,by simp,fun x hx y hy e=>c ((e.trans (List.mem_singleton.mp hy)) ▸ hx)⟩
theorem cuR_nd {g:Nat->Nat->Nat} {r:Nat} {rs:List Nat} (h:rs.Nodup):∀ a,(cuR g r a rs).Nodup
 | 0=>h
 | a+1=>by rw [cuR_succ];exact cu1_nd (cuR_nd h a)
theorem cuR_from {g:Nat->Nat->Nat} {r:Nat} {rs:List Nat}:∀ a x,x ∈ cuR g r a rs->x ∈ rs∨∃ b,b < a/\x=g r b
 | 0,x,h=>.inl h
 | a+1,x,h=>by
  rw [cuR_succ] at h
  have:x ∈ cuR g r a rs∨x=g r a:=by
   unfold cu1 at h
   split at h
   ·exact .inl h
   ·rcases List.mem_append.mp h with h | h
    ·exact .inl h
    ·exact .inr (List.mem_singleton.mp h)
  rcases this with h | h
  ·rcases cuR_from a x h with h | ⟨b,h1,h2⟩
   ·exact .inl h
   ·exact .inr ⟨b,by omega,h2⟩
  ·exact .inr ⟨a,by omega,h⟩
theorem Bf.inv {g:Nat->Nat->Nat} {m n first:Nat} (f0:first < n) (gl:∀ r a,r < n->a < m->g r a < n) {j:Nat} {rs:List Nat} (h:Bf g m first j rs):BI g m n first j rs:=by
 induction h with
 | z=>exact ⟨by simp,by simpa using f0,rfl,by simp,by simp,fun r hr=>⟨[],by simp,by simp at hr;exact hr.symm⟩⟩
 | @s j rs r _ hr ih =>
  obtain ⟨t,e⟩:=cuR_pre g r rs m
  have rm:=List.mem_of_getElem? hr
  have jl:=(List.getElem?_eq_some_iff.mp hr).1
  refine ⟨cuR_nd ih.nd m,fun x hx=>?_,?_,fun x hx a ha=>?_,?_,fun x hx=>?_⟩
  ·rcases cuR_from m x hx with h | ⟨b,h1,h2⟩
   ·exact ih.lt x h
   ·rw [h2];exact gl r b (ih.lt r rm) h1
  ·rw [e,List.getElem?_append_left (by omega)];exact ih.z
  ·rw [e,List.take_append_of_le_length (by omega),List.take_add_one,hr] at hx
   rcases List.mem_append.mp hx with h | h
   ·rw [e];exact List.mem_append_left _ (ih.cl x h a ha)
   ·simp at h;subst h
    exact cuR_mem g x rs m a ha
  ·rw [e,List.length_append];omega
  ·rcases cuR_from m x hx with h | ⟨b,h1,h2⟩
   ·exact ih.rc x h
   ·obtain ⟨w,hw,ew⟩:=ih.rc r rm
    refine ⟨w++[b],fun a ha=>?_,by rw [List.foldl_append,ew,h2];rfl⟩
    rcases List.mem_append.mp ha with h | h
    ·exact hw a h
    ·cases List.mem_singleton.mp h;exact h1
structure NmI (rs:List Nat) (kvs:List (L2.Key × V)):Prop where
 num:∀ x:Nat,valV kvs (.inl (x:Int))=if x ∈ rs then some (nV (rs.idxOf x)) else none
 kl:kvs.length<=rs.length
theorem NmI.new {rs:List Nat} {kvs:List (L2.Key × V)} (h:NmI rs kvs) {y:Nat} (m:y ∉ rs):NmI (rs++[y]) (putK kvs (.inl (y:Int)) (nV rs.length)):=by
 refine ⟨fun x=>?_,?_⟩
 ·rw [valV_put,h.num]
  by_cases c:x=y
  ·subst c
   rw [if_pos rfl,if_pos (by simp),List.idxOf_append,if_neg m]
   simp
  ·rw [if_neg (by simpa using fun z:(x:Int)=y=>c (by omega))]
   by_cases hx:x ∈ rs
   ·rw [if_pos hx,if_pos (List.mem_append_left _ hx),ixa hx]
   ·rw [if_neg hx,if_neg (fun z=>(List.mem_append.mp z).elim hx (by simpa using c))]
 ·have:=length_putK kvs (.inl (y:Int)) (nV rs.length)
  have:=h.kl
  rw [List.length_append,List.length_cons,List.length_nil]
  omega
def cuM (g:Nat->Nat->Nat) (m:Nat) (rs:List Nat):List (List Nat):=rs.map fun r=>(List.range m).map fun a=>rs.idxOf (g r a)
def spS (g:Nat->Nat->Nat) (n m:Nat) (R:Hp->Prop):Sp:=fun vs H Q _=>∃ r a:Nat,vs=[.int (r:Int),.int (a:Int)]/\r < n/\a < m/\R H/\∀ H',Kp [] H H'->Q (.int (g r a:Nat)) H'
structure Lg (P:Program) (w:World) (K:PySem.W.Frag) (mg:Str->Option Value) (base:Heap) (fp:Addr) (o:Obj) (fd:FuncData) (psp:List Str) (g:Nat->Nat->Nat) (n m:Nat) (R:Hp->Prop):Prop where
 dat:o.data=.func fd
 fn:FnOk P w K mg base CX0 3 fp fd psp (spS g n m R)
 bi:Binds K fd psp []
 at_:∀ H,R H->H fp=some (FZ o)
 kr:∀ H H',Kp [] H H'->R H->R H'
def spCU (P:Program) (w:World) (K:PySem.W.Frag) (mg:Str->Option Value) (base:Heap):Sp:=fun vs H Q _=>∃ (fp:Addr) (o:Obj) (fd:FuncData) (psp:List Str) (g:Nat->Nat->Nat) (n m first:Nat) (R:Hp->Prop),Lg P w K mg base fp o fd psp g n m R/\R H/\vs=[.int (first:Int),.int (m:Int),.ref fp,.non,.int 0]/\first < n/\n<=1000/\m<=1000/\(∀ r a,r < n->a < m->g r a < n) /\
 ∀ (q a1 a2:Addr) (us':List V) (rs:List Nat) (H':Hp),Bf g m first rs.length rs->H' q=some (.tup [.ref a1,.ref a2])->H' a1=some (.lst (rs.map nV))->H' a2=some (.tup us')->RowsM H' us' (cuM g m rs)->Kp [] H H'->Q (.ref q) H'
structure TCU (mg:Str->Option Value):Prop where
 n_len:mg "len"=none
 n_tuple:mg "tuple"=none
 n_range:mg "range"=none
section
variable {P:Program} {w:World} {K:PySem.W.Frag} {mg:Str->Option Value} {base:Heap}
abbrev zn:Stmt:=top 4
theorem ze:FnScope ["first","signs","step","most","at","numbers","rooms","moves","room","row","sign","target"] ["first","signs","step","most","at"] (jg zn):=⟨rfl,rfl,rfl,by decide +kernel,rfl,by decide +kernel,by decide +kernel⟩
theorem ok_come_up {f td:Addr} {fd:FuncData} (F:FunD K "come_up" "come_up" zn f fd td) (T:TCU mg):FnOk P w K mg base CX0 4 f fd ["first","signs","step","most","at"] (spCU P w K mg base):=by
 refine F.ok ze (fun vs H Q E h=>?_) (fun cdv A outer s H vs Q E hr h=>?_)
 ·obtain ⟨fp,o,fd,psp,g,n,m,first,R,_,_,rfl,_⟩:=h
  rfl
 ·obtain ⟨fp,o,fd',psp,g,n,m,first,R,L,hR,rfl,f0,n9,m9,gl,k⟩:=h
  have hu:=hr.units
  have hsz:sizeLine=16777216:=PySem.sizeLine_eq
  have hu1:(A.deeper (PyProof.Rows.envOfC (Str.ofString "come_up") (jg zn) s.heap.objs.size f cdv)).units+1 < cLine:=by omega
  refine exQ (jf (jj (i:=5) ze.nd rfl (by first | exact Or.inl rfl | exact Or.inr rfl) (qpe_disp (qpps_cons (qpv 0) jh qpps_nil)))
  (jf (jj (i:=6) ze.nd rfl (by first | exact Or.inl rfl | exact Or.inr rfl) (kf (ja (qpv 0) jd)))
  (jf (jj (i:=7) ze.nd rfl (by first | exact Or.inl rfl | exact Or.inr rfl) (kf jd))
  (jf (jav PassesOwn.never (j4 ja9 (jo jr (by rfl) T.n_len jx (ja (qpv 7) jd)) (jo jr (by rfl) T.n_len jx (ja (qpv 6) jd)) (j8 _)) (jf (jj (i:=8) ze.nd rfl (by first | exact Or.inl rfl | exact Or.inr rfl) (jn ix_U (qpv 6) (jo jr (by rfl) T.n_len jx (ja (qpv 7) jd)) (fun _ _=>rfl)))
  (jf (jj (i:=9) ze.nd rfl (by first | exact Or.inl rfl | exact Or.inr rfl) (kf jd))
  (jf (kg PassesOwn.never rfl (yd rfl T.n_range (ja (qpv 1) jd)) (jm (i:=10) ze.nd rfl (by first | exact Or.inl rfl | exact Or.inr rfl)) (jf (jj (i:=11) ze.nd rfl (by first | exact Or.inl rfl | exact Or.inr rfl) (qpe_callD (P:=P) (w:=w) (K:=K) (mg:=mg) (base:=base) (k:=3) rfl rfl rfl rfl rfl 2 (hr.mono (by decide)) (ja (qpv 8) (ja (qpv 10) jd))))
  (yg (yb (jbg (jal hu1 (qpv 11) (qpv 5)) (by with_unfolding_all rfl)) (yg (yb (j4 (yv hu) (jo jr (by rfl) T.n_len jx (ja (qpv 6) jd)) (qpv 3) (j8 _)) (ji qps_never) ke)
  (jf (ja2 hu1 (qpv 5) (qpv 11) (jo jr (by rfl) T.n_len jx (ja (qpv 6) jd)) rfl)
  (ji (km (yi PySem.F.slot_list_append PySem.F.type_list_append ya (qpv 6) (ja (qpv 11) jd) mono_var))))) ke)
  (ji (km (yi PySem.F.slot_list_append PySem.F.type_list_append ya (qpv 9) (ja (zf hu1 (qpv 5) (qpv 11) (fun _ _=>rfl)) jd) mono_var))))))
  (ji (km (yi PySem.F.slot_list_append PySem.F.type_list_append ya (qpv 7) (ja (j6 yz (by rfl) T.n_tuple zu (ja (qpv 9) jd)) jd) mono_var)))))))
  (ji (jz (y9 (ja (qpv 6) (ja (j6 yz (by rfl) T.n_tuple zu (ja (qpv 7) jd)) jd))))))))) ?_
  simp!
  intro pn hpn
  refine ⟨[(.inl (first:Int),.int 0)],rfl,by simp,by omega,fun pr hpr=>⟨by omega,fun pv hpv=>?_⟩⟩
  have nnr:pn≠pr:=je jb hpr
  have nnv:pn≠pv:=je (by rw [jc nnr,jb]) hpv
  have nrv:pr≠pv:=je jb hpv
  have k0:=(((Kp.refl [] H).new (o:=.dK (mergeK [] [(.inl (first:Int),.int 0)])) hpn).new (o:=.lst [.int (first:Int)]) hpr).new (o:=.lst []) hpv
  have hpr0:H pr=none:=((Kp.refl [] H).new hpn).free hpr
  have hpv0:H pv=none:=(((Kp.refl [] H).new hpn).new hpr).free hpv
  refine ⟨fun μ σ H'=>∃ (rs:List Nat) (kvs:List (L2.Key × V)) (us:List V) (j:Nat) (v8 v9 v10 v11:Option V),σ=[some (.int (first:Int)),some (.int (m:Int)),some (.ref fp),some .non,some (.int 0),some (.ref pn),some (.ref pr),some (.ref pv),v8,v9,v10,v11]/\Bf g m first j rs/\NmI rs kvs/\H' pn=some (.dK kvs)/\H' pr=some (.lst (rs.map nV))/\H' pv=some (.lst us)/\us.length=j/\RowsM H' us ((rs.take j).map fun r=>(List.range m).map fun a=>rs.idxOf (g r a))/\Kp [] H H'/\μ=n - j,?_,?_⟩
  ·have n0:NmI [first] (mergeK [] [(.inl (first:Int),.int 0)]):=NmI.new (rs:=[]) (kvs:=[]) ⟨fun x=>by simp [valV],Nat.le_refl _⟩ (y:=first) (by simp)
   exact ⟨_,[first],_,[],0,none,none,none,none,rfl,.z,n0,by rw [jc nnv,jc nnr,jb],by rw [jc nrv,jb];rfl,jb,rfl,.nil,k0,rfl⟩
  rintro μ σ H1 ⟨rs,kvs,us,j,v8,v9,v10,v11,rfl,bf,N,e1,e2,e3,ul,R1,kp,rfl⟩
  have bi:=bf.inv f0 gl
  have rl:rs.length<=n:=len_lt bi.nd bi.lt
  have jl:=bi.jl
  simp! [e2,e3]
  rw [List.length_map,ul]
  by_cases c:j < rs.length
  ·rw [if_pos (by simpa using c)]
   have er:rs[j]?=some (rs[j]):=List.getElem?_eq_getElem c
   generalize rs[j]=r at er
   have rn:=bi.lt r (List.mem_of_getElem? er)
   refine ⟨_,fun _ _ h=>h,nV r,atI_nat (by rw [List.getElem?_map,er];rfl),by omega,fun pw hpw=>⟨by omega,by omega,?_⟩⟩
   rw [show ((m:Int)).toNat=m by omega]
   have nnw:pn≠pw:=je e1 hpw
   have nrw:pr≠pw:=je e2 hpw
   have nvw:pv≠pw:=je e3 hpw
   have hpw0:H pw=none:=kp.free hpw
   have kw:Kp [] H1 (upd H1 pw (.lst [])):=(Kp.refl [] H1).new hpw
   refine loop_range (fun a σ H'=>∃ (kvs:List (L2.Key × V)) (v10 v11:Option V),σ=[some (.int (first:Int)),some (.int (m:Int)),some (.ref fp),some .non,some (.int 0),some (.ref pn),some (.ref pr),some (.ref pv),some (nV r),some (.ref pw),v10,v11]/\NmI (cuR g r a rs) kvs/\H' pn=some (.dK kvs)/\H' pr=some (.lst ((cuR g r a rs).map nV))/\H' pv=some (.lst us)/\H' pw=some (.lst ((List.range a).map fun b=>nV ((cuR g r a rs).idxOf (g r b))))/\RowsM H' us ((rs.take j).map fun r=>(List.range m).map fun a=>rs.idxOf (g r a))/\Kp [] H H') ?_ ?_ ?_
   ·exact ⟨kvs,v10,v11,rfl,N,kw.old _ _ e1 (by simp),kw.old _ _ e2 (by simp),kw.old _ _ e3 (by simp),jb,R1.kp kw,kp.trans kw⟩
   ·rintro a σ H2 ha ⟨kvs,v10,v11,rfl,N,e1,e2,e3,e4,R1,kp⟩
    have cl:(cuR g r a rs).length<=n:=len_lt (cuR_nd bi.nd a) fun x hx=>by
     rcases cuR_from a x hx with h | ⟨b,h1,h2⟩
     ·exact bi.lt x h
     ·rw [h2];exact gl r b rn (by omega)
    simp!
    rw [Int.zero_add]
    refine ⟨o,fd',L.dat,psp,spS g n m R,L.fn,L.bi,L.at_ _ (L.kr _ _ kp hR),r,a,rfl,rn,ha,L.kr _ _ kp hR,fun H3 k3=>?_⟩
    have e1:=k3.old _ _ e1 (by simp)
    have e2:=k3.old _ _ e2 (by simp)
    have e3:=k3.old _ _ e3 (by simp)
    have e4:=k3.old _ _ e4 (by simp)
    have R1:=R1.kp k3
    have kp:=kp.trans k3
    have kl:=N.kl
    clear k3
    refine ⟨fun σ' H'=>∃ (kvs:List (L2.Key × V)),σ'=[some (.int (first:Int)),some (.int (m:Int)),some (.ref fp),some .non,some (.int 0),some (.ref pn),some (.ref pr),some (.ref pv),some (nV r),some (.ref pw),some (.int (a:Int)),some (.int (g r a:Nat))]/\NmI (cuR g r (a+1) rs) kvs/\H' pn=some (.dK kvs)/\H' pr=some (.lst ((cuR g r (a+1) rs).map nV))/\H' pv=some (.lst us)/\H' pw=some (.lst ((List.range a).map fun b=>nV ((cuR g r a rs).idxOf (g r b))))/\RowsM H' us ((rs.take j).map fun r=>(List.range m).map fun a=>rs.idxOf (g r a))/\Kp [] H H',?_,?_⟩
    ·simp!
     refine ⟨_,DGet.k (k:=.inl (g r a:Int)) e1,?_⟩
     rw [N.num (g r a),cuR_succ]
     unfold cu1
     by_cases c:g r a ∈ cuR g r a rs
     ·rw [if_pos c,if_pos c]
      simp only [Option.isSome_some,Bool.not_true,Bool.false_eq_true,if_false]
      exact ⟨kvs,N,e1,e2,e3,e4,R1,kp⟩
     ·rw [if_neg c,if_neg c]
      simp only [Option.isSome_none,Bool.not_false,if_true]
      refine ⟨fun σ' H'=>σ'=[some (.int (first:Int)),some (.int (m:Int)),some (.ref fp),some .non,some (.int 0),some (.ref pn),some (.ref pr),some (.ref pv),some (nV r),some (.ref pw),some (.int (a:Int)),some (.int (g r a:Nat))]/\H3=H',?_,?_⟩
      ·simp! [e2]
       refine ⟨rfl,_,rfl,?_⟩
       rw [if_neg (by simp)]
      rintro _ _ ⟨rfl,rfl⟩
      simp! [e2]
      have e2p:upd H3 pn (.dK (putK kvs (.inl (g r a:Int)) (nV (cuR g r a rs).length))) pr=some (.lst ((cuR g r a rs).map nV)):=by rw [jc nnr.symm];exact e2
      have kq:Kp [pn] H3 (upd H3 pn (.dK (putK kvs (.inl (g r a:Int)) (nV (cuR g r a rs).length)))):=kp_setK (Kp.refl [pn] H3) e1 (.inl (by simp))
      have kq2:Kp [pr] (upd H3 pn (.dK (putK kvs (.inl (g r a:Int)) (nV (cuR g r a rs).length)))) (upd (upd H3 pn (.dK (putK kvs (.inl (g r a:Int)) (nV (cuR g r a rs).length)))) pr (.lst ((cuR g r a rs).map nV++[.int (g r a:Nat)]))):=(Kp.refl [pr] _).set e2p (.inl (by simp))
      refine ⟨upd H3 pn (.dK (putK kvs (.inl (g r a:Int)) (nV (cuR g r a rs).length))),by rw [List.length_map];exact DPut.k (k:=.inl (g r a:Int)) (v:=nV (cuR g r a rs).length) e1 (by omega),by rw [e2p];rfl,_,by rw [e2p];rfl,by rw [List.length_map];omega,_,N.new c,by rw [jc nnr,jb],by rw [List.map_append];rfl,?_,?_,(R1.kp kq).kp kq2,(kp_setK kp e1 (.inr hpn)).set e2p (.inr hpr0)⟩
      ·rw [jc nrv.symm,jc nnv.symm];exact e3
      ·rw [jc nrw.symm,jc nnw.symm];exact e4
    rintro _ H4 ⟨kvs,rfl,N,e1,e2,e3,e4,R1,kp⟩
    simp! [e4]
    have kw4:∀ x,Kp [pw] H4 (upd H4 pw (.lst ((List.range a).map (fun b=>nV ((cuR g r a rs).idxOf (g r b)))++[x]))):=fun x=>(Kp.refl [pw] H4).set e4 (.inl (by simp))
    refine ⟨nV ((cuR g r (a+1) rs).idxOf (g r a)),.inl ⟨kvs,.inl (g r a:Int),.inl e1,rfl,?_⟩,by rw [List.length_map,List.length_range];omega,kvs,_,_,⟨rfl,rfl⟩,N,by rw [jc nnw];exact e1,by rw [jc nrw];exact e2,by rw [jc nvw];exact e3,?_,R1.kp (kw4 _),kp.set e4 (.inr hpw0)⟩
    ·rw [N.num,if_pos (cuR_mem g r rs (a+1) a (by omega))]
    ·rw [List.range_succ,List.map_append]
     congr 1
     refine List.map_congr_left fun b hb=>?_
     obtain ⟨t,et⟩:=cu1_pre g r (cuR g r a rs) a
     rw [cuR_succ,et,ixa (cuR_mem g r rs a b (List.mem_range.mp hb))]
   ·rintro σ H2 ⟨kvs,v10,v11,rfl,N,e1,e2,e3,e4,R2,kp⟩
    simp!
    refine ⟨by rw [e3];rfl,?_⟩
    refine rTupleU_lst e4 fun l hl=>?_
    have kl:Kp [] H2 (upd H2 l (.tup ((List.range m).map fun b=>nV ((cuR g r m rs).idxOf (g r b))))):=(Kp.refl [] H2).new hl
    have el:upd H2 l (.tup ((List.range m).map fun b=>nV ((cuR g r m rs).idxOf (g r b)))) l=some (.tup (((List.range m).map fun b=>(cuR g r m rs).idxOf (g r b)).map nV)):=by rw [jb,List.map_map];rfl
    generalize upd H2 l (.tup ((List.range m).map fun b=>nV ((cuR g r m rs).idxOf (g r b))))=H3 at kl el ⊢
    have e33:=kl.old _ _ e3 (by simp)
    have kv:Kp [pv] H3 (upd H3 pv (.lst (us++[.ref l]))):=(Kp.refl [pv] H3).set e33 (.inl (by simp))
    refine ⟨us,by rw [e33];rfl,by omega,n - (j+1),by omega,cuR g r m rs,kvs,us++[.ref l],j+1,_,_,_,_,⟨rfl,rfl,rfl,rfl⟩,.s bf er,N,by rw [jc nnv];exact kl.old _ _ e1 (by simp),by rw [jc nrv];exact kl.old _ _ e2 (by simp),rfl,by simp [ul],?_,(kp.trans kl).set e33 (.inr hpv0),rfl⟩
    obtain ⟨t,et⟩:=cuR_pre g r rs m
    have e5:(cuR g r m rs).take (j+1)=rs.take j++[r]:=by rw [et,List.take_append_of_le_length (by omega),List.take_add_one,er];rfl
    rw [e5,List.map_append]
    have e6:(rs.take j).map (fun r'=>(List.range m).map fun a=>(cuR g r m rs).idxOf (g r' a))=(rs.take j).map fun r'=>(List.range m).map fun a=>rs.idxOf (g r' a):=List.map_congr_left fun x hx=>List.map_congr_left fun a ha=>by
     rw [et,ixa (bi.cl x hx a (List.mem_range.mp ha))]
    rw [e6]
    exact Paired.snoc ((R2.kp kl).kp kv) ⟨l,rfl,kv.tup _ _ el⟩
  ·have ej:j=rs.length:=by omega
   subst ej
   rw [if_neg (by simpa using c)]
   refine rTupleU_lst e3 fun a2 ha2=>⟨by omega,fun q hq=>?_⟩
   rw [List.take_length] at R1
   have k2:Kp [] H1 (upd H1 a2 (.tup us)):=(Kp.refl [] H1).new ha2
   have k3:Kp [] (upd H1 a2 (.tup us)) (upd (upd H1 a2 (.tup us)) q (.tup [.ref pr,.ref a2])):=(Kp.refl [] _).new hq
   exact k q pr a2 us rs _ bf jb (k3.old _ _ (k2.old _ _ e2 (by simp)) (by simp)) (k3.tup _ _ jb) ((R1.kp k2).kp k3) ((kp.trans k2).trans k3)
end
abbrev LQ:Str:="least_from"++".<locals>."++"<lambda>"
structure TLm (P:Program) (w:World) (K:PySem.W.Frag) (mg:Str->Option Value) (base:Heap) (fcu fmg fgr c Pt:Addr) (pm:Value):Prop where
 n_len:mg "len"=none
 m11z:mg "come_up"=some (.ref fcu)
 m19z:mg "merged"=some (.ref fmg)
 m12z:mg "groups_of_rooms"=some (.ref fgr)
 pm:(mg "__name__").getD .none=pm
 hd:PySem.W.CodeHd base c Pt
 bl:base.BuiltinsAt mg Pt
structure LS (mv:List (List Nat)) (m:Nat) (ys:List Bool) (first:Nat) (mv':List (List Nat)) (ys':List Bool) (rs:List Nat) (G:Nat->Nat) (fr:List Nat):Prop where
 bf:Bf (dM mv) m first rs.length rs
 gr:∀ r s,r < rs.length->s < rs.length->(G r=G s↔(mcOf (cuM (dM mv) m rs) m (rs.map fun r=>ys.getD r false)).eq r s)
 mg:MG G rs.length fr
 em:mv'=mgR (cuM (dM mv) m rs) G fr
 ey:ys'=mgY (rs.map fun r=>ys.getD r false) fr
def spLm (Pt:Addr):Sp:=fun vs H Q _=>∃ (pm py:Addr) (us:List V) (mv:List (List Nat)) (m first:Nat) (ys:List Bool),vs=[.ref pm,.ref py,.int (first:Int)]/\H pm=some (.tup us)/\RowsM H us mv/\MvOk mv m/\H py=some (.tup (ys.map V.bl))/\ys.length=mv.length/\first < mv.length/\mv.length<=1000/\m<=1000/\TabOk H Pt LQ /\
 ∀ (q a1 a2:Addr) (us':List V) (mv':List (List Nat)) (ys':List Bool) (rs:List Nat) (G:Nat->Nat) (fr:List Nat) (H':Hp),LS mv m ys first mv' ys' rs G fr->H' q=some (.tup [.ref a1,.ref a2])->H' a1=some (.tup us')->RowsM H' us' mv'->H' a2=some (.tup (ys'.map V.bl))->Kp [Pt] H H'->TabOk H' Pt LQ->Q (.ref q) H'
section
variable {P:Program} {w:World} {K:PySem.W.Frag} {mg:Str->Option Value} {base:Heap}
abbrev ym:Stmt:=top 7
theorem jak:FnScope ["moves","yes","first","came","answers"] ["moves","yes","first"] (jg ym):=⟨rfl,rfl,rfl,by decide +kernel,rfl,by decide +kernel,by decide +kernel⟩
def lamE:Expr:=match ju ym with
 | .Assign _ (.Call _ [_,_,l] _ _) _::_=>l
 | _=>.Name "" ⟨0,0,0,0⟩
def lamA:Arguments:=match lamE with
 | .Lambda a _ _ _=>a
 | _=>jw (.Pass ⟨0,0,0,0⟩)
def lamB:Expr:=match lamE with
 | .Lambda _ b _ _=>b
 | _=>.Name "" ⟨0,0,0,0⟩
def lamS:Scope:=match lamE with
 | .Lambda _ _ c _=>c
 | _=>jg (.Pass ⟨0,0,0,0⟩)
theorem lamSc:LamScope ["room","sign"] ["moves"] lamS:=⟨rfl,rfl,rfl,by decide +kernel,by decide +kernel,by decide +kernel,by decide +kernel,fun x h=>by
 have hn:lamS.names=[(Str.ofString "room",.local),(Str.ofString "sign",.local),(Str.ofString "moves",.free)]:=rfl
 rw [hn] at h
 by_cases h1:x=Str.ofString "moves"
 ·rw [h1];exact .head _
 have b1:(x == Str.ofString "moves")=false:=by simpa using h1
 simp only [List.lookup_cons,List.lookup_nil,b1] at h
 repeat (split at h <;> try (cases h))⟩
theorem us2 {C:List Value->Prop} (h:∀ u v:Value,C [u,v]) (us:List Value) (e:us.length=2):C us :=
 match us,e with | [u,v],_=>h u v
theorem cuM_ok {g:Nat->Nat->Nat} {m n first:Nat} {rs:List Nat} (b:BI g m n first rs.length rs):MvOk (cuM g m rs) m:=by
 refine ⟨fun row hrow=>?_,fun row hrow x hx=>?_⟩
 ·obtain ⟨r,_,rfl⟩:=List.mem_map.mp hrow
  simp
 ·obtain ⟨r,hr,rfl⟩:=List.mem_map.mp hrow
  obtain ⟨a,ha,rfl⟩:=List.mem_map.mp hx
  have:=List.idxOf_lt_length_iff.mpr (b.cl r (by rw [List.take_length];exact hr) a (List.mem_range.mp ha))
  simpa [cuM] using this
theorem ok_least_from {f fcu fmg fgr c Pt td:Addr} {fd fdc fdm fdg:FuncData} {pm:Value} {dfs:List Value} (F:Fun K "least_from" "least_from" ym f fd) (T:TLm P w K mg base fcu fmg fgr c Pt pm) (hcd:fd.code=.ref c)
  (F11z:FunD K "come_up" "come_up" zn fcu fdc td) (b11z:Binds K fdc ["first","signs","step","most","at"] dfs) (h_come_up:Vals [.non,.int 0] dfs) (G11z:FnOk P w K mg base CX0 4 fcu fdc ["first","signs","step","most","at"] (spCU P w K mg base))
  (F19z:Fun K "merged" "merged" zi fmg fdm) (b19z:Binds K fdm ["moves","yes","groups"] []) (G19z:FnOk P w K mg base CX0 1 fmg fdm ["moves","yes","groups"] spMg)
  (F12z:Fun K "groups_of_rooms" "groups_of_rooms" jv fgr fdg) (b12z:Binds K fdg ["moves","yes"] []) (G12z:FnOk P w K mg base CX0 2 fgr fdg ["moves","yes"] spGR):FnOk P w K mg base CX0 5 f fd ["moves","yes","first"] (spLm Pt):=by
 refine F.okC jak (fun vs H Q E h=>?_) (fun A outer s H vs Q E hr h=>?_)
 ·obtain ⟨a,py,us,mv,m,first,ys,rfl,_⟩:=h
  rfl
 ·obtain ⟨a,py,us,mv,m,first,ys,rfl,ha,rw',ok,hy,yl,f0,n9,m9,tb,k⟩:=h
  have hu:=hr.units
  have hsz:sizeLine=16777216:=PySem.sizeLine_eq
  have ul:us.length=mv.length:=Paired.length rw'
  refine exQ (jf (jj (i:=3) jak.nd rfl (by first | exact Or.inl rfl | exact Or.inr rfl) (qpe_callCD [(0,s.heap.objs.size+1)] (by intro j hj;simp only [List.mem_cons,List.not_mem_nil,or_false] at hj;rcases hj with rfl <;> exact ⟨_,rfl,rfl,rfl,rfl⟩) G11z (hr.mono (by decide)) rfl T.m11z F11z.kp b11z h_come_up (ja (qpv 2) (ja (jo jr (by rfl) T.n_len jx (ja (jn ix_U (qpv 0) jh (fun _ _=>rfl)) jd)) (ja (qpe_lambda (Pt:=Pt) rfl T.pm hcd T.hd T.bl) jd)))))
  (jf (jag (i:=4) jak.nd rfl (by first | exact Or.inl rfl | exact Or.inr rfl) rfl (compOk_of (sc:=jg ym) (N:=["moves","yes","first","came","answers"]) (Nc:=["room","yes"]) (js:=[none,some 1]) (by decide +kernel)) (j7 (K:=K) (jn ix_U (qpv 3) jh (fun _ _=>rfl)) rfl) (fun _ _ _ _=>(jm (i:=0) (show List.Nodup [("room":Str),("yes":Str)] from by decide +kernel) rfl (by first | exact Or.inl rfl | exact Or.inr rfl))) (fun _ _ _ _=>(jn ix_U (qpv 1) (qpv 0) (fun _ _=>rfl))))
  (ji (jz (jq G19z (hr.mono (by decide)) rfl T.m19z F19z.kp b19z .nil j9 (ja (jn ix_U (qpv 3) jh (fun _ _=>rfl)) (ja (qpv 4) (ja (jq G12z (hr.mono (by decide)) rfl T.m12z F12z.kp b12z .nil j9 (ja (jn ix_U (qpv 3) jh (fun _ _=>rfl)) (ja (qpv 4) jd))) jd)))))))) ?_
  obtain ⟨c0,hc0,hr0⟩:=rw'.get (show mv[0]?=some (mv.getD 0 []) by rw [List.getD_eq_getElem?_getD,List.getElem?_eq_getElem (by omega)];rfl)
  have l0:(mv.getD 0 []).length=m:=ok.ln _ (by rw [List.getD_eq_getElem?_getD,List.getElem?_eq_getElem (by omega)];exact List.getElem_mem _)
  simp! [ha]
  refine ⟨.ref c0,atI_nat (j:=0) hc0,?_⟩
  simp! [hr0]
  rw [List.length_map,l0]
  refine ⟨tb,fun fl c' ct H1 hfl k1 e1 cz tb1=>?_⟩
  refine ⟨fun j hj=>by cases List.mem_singleton.mp hj;exact ⟨_,rfl⟩,fun cs hcs=>?_⟩
  obtain ⟨o,rfl,hn,u,ho,ru⟩:∃ o,cs=[(s.heap.objs.size+1,o)]/\H1 (s.heap.objs.size+1)=none/\∃ u,o.data=.cell (some u)/\RelV (.ref a) u:=by
   cases hcs with
   | cons h t =>
    cases t
    rename_i p
    obtain ⟨c1,o1⟩:=p
    obtain ⟨e1,e2,v,u,e3,e4,e5⟩:=h
    cases (Option.some.inj (Option.some.inj e3))
    cases (show c1=s.heap.objs.size+1 from e1)
    exact ⟨o1,rfl,e2,u,e4,e5⟩
  generalize s.heap.objs.size+1=n1 at e1 hn
  have lk:∀ b,b≠n1->([(n1,o)]:List (Addr × Obj)).lookup b=none:=fun b h=>by
   rw [List.lookup_cons]
   have:(b == n1)=false:=by simpa using h
   rw [this];rfl
  have sh:∀ b v,H1 b=some v->showC H1 [(n1,o)] b=some v:=fun b v e=>by rw [showC_out (lk b (je e hn))];exact e
  have kS:Kp [] H1 (showC H1 [(n1,o)]):=⟨fun b v e _=>sh b v e,fun b xs e=>sh b _ e,fun b v e=>⟨v,sh b v e⟩⟩
  have e1':H1 fl=some (FZ (PySem.W.kla_obj "<lambda>" LQ lamA lamB lamS [("moves",n1)] pm c' ct)):=e1
  have cap:Caps (showC H1 [(n1,o)]) [("moves",n1)] ["moves"] [.ref a]:=by
   have en:showC H1 [(n1,o)] n1=some (FZ o):=showC_in (by simp [List.lookup])
   refine ⟨rfl,fun i x v q1 q2=>?_,fun x hx=>?_,fun p hp=>?_,fun x y c q1 q2=>?_⟩
   ·cases i with
    | zero=>cases q1;cases q2;exact ⟨n1,o,u,rfl,en,ho,ru⟩
    | succ i=>simp at q1
   ·cases List.mem_singleton.mp hx;exact ⟨n1,rfl⟩
   ·cases List.mem_singleton.mp hp;exact ⟨o,some u,en,ho⟩
   ·rw [List.lookup_cons] at q1 q2
    split at q1
    ·split at q2
     ·rename_i z1 _ z2;rw [eq_of_beq z1,eq_of_beq z2]
     ·cases q2
    ·cases q1
  let R:Hp->Prop:=fun H=>H fl=some (FZ (PySem.W.kla_obj "<lambda>" LQ lamA lamB lamS [("moves",n1)] pm c' ct))/\CodeZ H c' LQ/\Caps H [("moves",n1)] ["moves"] [.ref a]/\H a=some (.tup us)/\RowsM H us mv
  have L:Lg P w K mg base fl (PySem.W.kla_obj "<lambda>" LQ lamA lamB lamS [("moves",n1)] pm c' ct) (PySem.W.kla_fn "<lambda>" LQ lamA lamB lamS [("moves",n1)] pm (.ref c') ct) ["room","sign"] (dM mv) mv.length m R:=by
   refine ⟨rfl,fn_lam (fs:=["moves"]) lamSc (fun vs H Q E h=>?_) (fun vs H Q E h=>?_),.all (us2 fun _ _=>rfl),fun H h=>h.1,fun H H' k h=>⟨k.old _ _ h.1 (by simp),h.2.1.kp k (by simp),h.2.2.1.kp k (by simp),k.tup _ _ h.2.2.2.1,h.2.2.2.2.kp k⟩⟩
   ·obtain ⟨r,a,rfl,_⟩:=h
    rfl
   ·obtain ⟨r,b,rfl,hr',hb,hR,q⟩:=h
    refine ⟨hR.1,hR.2.1,[.ref a],hR.2.2.1,fun A outer s hr=>⟨_,QE.h (jn ix_U (jn ix_U (qpv 2) (qpv 0) (fun _ _=>rfl)) (qpv 1) (fun _ _=>rfl)),?_⟩⟩
    have ne:∀ b v,H b=some v->(∀ o,v≠FZ o)->b ∉ [n1]:=fun b v e n m=>by
     obtain ⟨o2,u2,e2,_⟩:=hR.2.2.1.fz _ (.head _)
     rw [List.mem_singleton.mp m] at e
     rw [show H n1=some (FZ o2) from e2] at e
     exact n o2 (Option.some.inj e).symm
    have tk:∀ b xs,H b=some (.tup xs)->hideC H ([n1]) b=some (.tup xs):=fun b xs e=>by rw [hideC_out (ne b _ e (fun _ z=>by cases z))];exact e
    obtain ⟨x,hx,hxr⟩:=hR.2.2.2.2.get (show mv[r]?=some (mv.getD r []) by rw [List.getD_eq_getElem?_getD,List.getElem?_eq_getElem hr'];rfl)
    have hx2:=tk _ _ hxr
    simp!
    rw [tk _ _ hR.2.2.2.1]
    refine ⟨_,rfl,.ref x,atI_nat hx,?_⟩
    rw [rIxU_ref,hx2]
    exact ⟨_,rfl,nV (dM mv r b),atI_nat (by rw [List.getElem?_map,(ok.at_ hr' hb).1];rfl),fun _=>q _ (Kp.refl [] (hideC H [n1])).backC⟩
  have hR:R (showC H1 [(n1,o)]):=⟨sh _ _ e1',cz.kp kS (by simp),cap,sh _ _ (k1.tup _ _ ha),(rw'.kp k1).kp kS⟩
  refine ⟨fl,_,_,_,dM mv,mv.length,m,first,R,L,hR,rfl,f0,n9,m9,fun r a hr ha=>(ok.at_ hr ha).2,fun q0 b1 b2 us1 rs H2 bf eq0 eb1 eb2 R2 k2=>?_⟩
  have k3:Kp [] H1 (hideC H2 [n1]):=by
   have kk:=kS.trans k2
   have ne:∀ b v,H1 b=some v->b ∉ [n1]:=fun b v e m=>by rw [List.mem_singleton.mp m,hn] at e;cases e
   exact ⟨fun b v e m=>by rw [hideC_out (ne b _ e)];exact kk.old b v e m,fun b xs e=>by rw [hideC_out (ne b _ e)];exact kk.tup b xs e,fun b v e=>by rw [hideC_out (ne b _ e)];exact kk.dom b v e⟩
  have en2:H2 n1=some (FZ o):=k2.old _ _ (showC_in (by simp [List.lookup])) (by simp)
  have hd2:∀ b v,H2 b=some v->(∀ o,v≠FZ o)->hideC H2 [n1] b=some v:=fun b v e n=>by
   rw [hideC_out (fun m=>by
    rw [List.mem_singleton.mp m,en2] at e
    exact n o (Option.some.inj e).symm)]
   exact e
  have q3:=hd2 _ _ eq0 (fun _ z=>by cases z)
  have b13:=hd2 _ _ eb1 (fun _ z=>by cases z)
  have b23:=hd2 _ _ eb2 (fun _ z=>by cases z)
  have R3:RowsM (hideC H2 [n1]) us1 (cuM (dM mv) m rs):=Paired.mapP R2 fun _ _ ⟨b,z1,z2⟩=>⟨b,z1,hd2 _ _ z2 (fun _ z=>by cases z)⟩
  have kp3:Kp [Pt] H (hideC H2 [n1]):=k1.trans (k3.mono (by simp))
  have tb3:TabOk (hideC H2 [n1]) Pt LQ:=tb1.kp k3 (by simp) (by simp)
  dsimp only
  rw [show (List.map Prod.fst [(n1,o)])=[n1] from rfl]
  generalize hideC H2 [n1]=H3 at q3 b13 b23 R3 kp3 tb3 ⊢
  have bi:=bf.inv f0 (fun r a hr ha=>(ok.at_ hr ha).2)
  have rl:rs.length<=mv.length:=len_lt bi.nd bi.lt
  have r1:1<=rs.length:=(List.getElem?_eq_some_iff.mp bi.z).1
  have ml:(cuM (dM mv) m rs).length=rs.length:=by simp [cuM]
  have y3:=kp3.tup _ _ hy
  rw [rIxU_ref,q3]
  refine ⟨_,rfl,.ref b1,atI_0 _ _,?_⟩
  simp only [b13]
  intro D hD
  refine comp_list (ysV ys) b13 hD (by rw [List.length_map];omega) (fun x hx l Q' q=>?_) fun vv=>?_
  ·obtain ⟨t,ht,rfl⟩:=List.mem_map.mp hx
   have tl:=bi.lt t ht
   simp!
   rw [show nV t=V.int (t:Int) from rfl,rIxU_ref,jc (je y3 hD),y3]
   exact ⟨_,rfl,.bl (ys.getD t false),atI_nat (by rw [List.getElem?_map,List.getD_eq_getElem?_getD,List.getElem?_eq_getElem (by omega)];rfl),q⟩
  dsimp only
  have k4:Kp [] H3 (upd H3 D (.lst ((rs.map nV).map (ysV ys)))):=(Kp.refl [] H3).new hD
  have e4:upd H3 D (.lst ((rs.map nV).map (ysV ys))) D=some (.lst ((rs.map fun r=>ys.getD r false).map V.bl)):=by
   rw [jb,List.map_map,List.map_map];rfl
  generalize upd H3 D (.lst ((rs.map nV).map (ysV ys)))=H4 at k4 e4 ⊢
  have q4:=k4.tup _ _ q3
  have b24:=k4.tup _ _ b23
  have R4:=R3.kp k4
  have cok:=cuM_ok bi
  rw [rIxU_ref,q4]
  refine ⟨_,rfl,.ref b2,atI_1 _ _ _,?_⟩
  rw [rIxU_ref,q4]
  refine ⟨_,rfl,.ref b2,atI_1 _ _ _,?_⟩
  refine ⟨b2,D,us1,cuM (dM mv) m rs,m,rs.map fun r=>ys.getD r false,rfl,b24,R4,cok,e4,by rw [ml,List.length_map],by omega,by omega,m9,fun pg gs H5 hpg epg gl gr _ k5=>?_⟩
  rw [ml] at gr
  refine ⟨b2,D,pg,us1,cuM (dM mv) m rs,m,rs.map fun r=>ys.getD r false,gs,rfl,k5.tup _ _ b24,R4.kp k5,cok,k5.old _ _ e4 (by simp),by rw [ml,List.length_map],epg,gl,by omega,by omega,m9,fun q a1 a2 us' fr H6 mg6 eq6 ea1 R6 ea2 k6=>?_⟩
  have k36:=(k4.trans k5).trans k6
  rw [ml] at mg6
  exact k q a1 a2 us' _ _ rs _ fr H6 ⟨bf,gr,mg6,rfl,rfl⟩ eq6 ea1 R6 ea2 (kp3.trans (k36.mono (by simp))) (tb3.kp k36 (by simp) (by simp))
end
def spLe (Pt:Addr):Sp:=fun vs H Q _=>∃ (p pm py:Addr) (z:Str) (us:List V) (mv:List (List Nat)) (m:Nat) (ys:List Bool),vs=[.ref p]/\H p=some (.tup [.str z,.ref pm,.ref py])/\H pm=some (.tup us)/\RowsM H us mv/\MvOk mv m/\H py=some (.tup (ys.map V.bl))/\ys.length=mv.length/\1<=mv.length/\mv.length<=1000/\m<=1000/\TabOk H Pt LQ /\
 ∀ (q a1 a2:Addr) (us':List V) (mv':List (List Nat)) (ys':List Bool) (rs:List Nat) (G:Nat->Nat) (fr:List Nat) (H':Hp),LS mv m ys 0 mv' ys' rs G fr->H' q=some (.tup [.str z,.ref a1,.ref a2])->H' a1=some (.tup us')->RowsM H' us' mv'->H' a2=some (.tup (ys'.map V.bl))->Kp [Pt] H H'->TabOk H' Pt LQ->Q (.ref q) H'
structure TLe (mg:Str->Option Value) (fl:Addr):Prop where
 m14z:mg "least_from"=some (.ref fl)
section
variable {P:Program} {w:World} {K:PySem.W.Frag} {mg:Str->Option Value} {base:Heap}
abbrev jaa:Stmt:=top 6
theorem jb9:FnScope ["machine","lean"] ["machine"] (jg jaa):=⟨rfl,rfl,rfl,by decide +kernel,rfl,by decide +kernel,by decide +kernel⟩
theorem ok_least {f fl Pt:Addr} {fd fdl:FuncData} (F:Fun K "least" "least" jaa f fd) (T:TLe mg fl) (F14z:Fun K "least_from" "least_from" ym fl fdl) (b14z:Binds K fdl ["moves","yes","first"] [])
  (G14z:FnOk P w K mg base CX0 5 fl fdl ["moves","yes","first"] (spLm Pt)):FnOk P w K mg base CX0 6 f fd ["machine"] (spLe Pt):=by
 refine F.ok jb9 (fun vs H Q E h=>?_) (fun cdv A outer s H vs Q E hr h=>?_)
 ·obtain ⟨p,pm,py,z,us,mv,m,ys,rfl,_⟩:=h
  rfl
 ·obtain ⟨p,pm,py,z,us,mv,m,ys,rfl,hp,hm,rw',ok,hy,yl,n1,n9,m9,tb,k⟩:=h
  have hu:=hr.units
  have hsz:sizeLine=16777216:=PySem.sizeLine_eq
  refine exQ (jf (jj (i:=1) jb9.nd rfl (by first | exact Or.inl rfl | exact Or.inr rfl) (jq G14z (hr.mono (by decide)) rfl T.m14z F14z.kp b14z .nil j9 (ja (jn ix_U (qpv 0) jh (fun _ _=>rfl)) (ja (jn ix_U (qpv 0) jh (fun _ _=>rfl)) (ja jh jd)))))
  (ji (jz (y9 (ja (jn ix_U (qpv 0) jh (fun _ _=>rfl)) (ja (jn ix_U (qpv 1) jh (fun _ _=>rfl)) (ja (jn ix_U (qpv 1) jh (fun _ _=>rfl)) jd))))))) ?_
  simp! [hp]
  refine ⟨pm,py,us,mv,m,0,ys,rfl,hm,rw',ok,hy,yl,by omega,n9,m9,tb,fun q a1 a2 us' mv' ys' rs G fr H1 ls eq ea1 R1 ea2 k1 tb1=>?_⟩
  have hp1:=k1.tup _ _ hp
  dsimp only
  rw [hp1]
  refine ⟨_,rfl,.str z,atI_0 _ _,?_⟩
  rw [rIxU_ref,eq]
  refine ⟨_,rfl,.ref a1,atI_0 _ _,?_⟩
  rw [rIxU_ref,eq]
  refine ⟨_,rfl,.ref a2,atI_1 _ _ _,by omega,fun p' hp'=>?_⟩
  have k2:Kp [] H1 (upd H1 p' (.tup [.str z,.ref a1,.ref a2])):=(Kp.refl [] H1).new hp'
  exact k p' a1 a2 us' mv' ys' rs G fr _ ls jb (k2.tup _ _ ea1) (R1.kp k2) (k2.tup _ _ ea2) (k1.trans (k2.mono (by simp))) (tb1.kp k2 (by simp) (by simp))
end
def Mc.rc (M:Mc) (r:Nat):Prop:=∃ w,M.ws w/\M.led 0 w=r
structure LeanM (M M':Mc) (h:Nat->Nat):Prop where
 ok:M'.ok
 n1:1<=M'.n
 le:M'.n<=M.n
 mm:M'.m=M.m
 z:h 0=0
 lt:∀ r,M.rc r->h r < M'.n
 st:∀ r a,M.rc r->a < M.m->h (M.d r a)=M'.d (h r) a
 ye:∀ r,M.rc r->M'.y (h r)=M.y r
 inj:∀ r s,M.rc r->M.rc s->(h r=h s↔M.eq r s)
 sur:∀ k,k < M'.n->∃ r,M.rc r/\h r=k
theorem Mc.rc_step {M:Mc} {r a:Nat} (h:M.rc r) (ha:a < M.m):M.rc (M.d r a):=by
 obtain ⟨w,hw,rfl⟩:=h
 refine ⟨w++[a],fun b hb=>?_,by unfold Mc.led;rw [List.foldl_append];rfl⟩
 rcases List.mem_append.mp hb with h | h
 ·exact hw b h
 ·cases List.mem_singleton.mp h;exact ha
theorem get_map {α β:Type} {f:α->β} {l:List α} {i:Nat} {x:α} {d:β} (h:l[i]?=some x):(l.map f).getD i d=f x:=by
 rw [List.getD_eq_getElem?_getD,List.getElem?_map,h];rfl
theorem cuM_d {g:Nat->Nat->Nat} {m:Nat} {rs:List Nat} {i r a:Nat} (h:rs[i]?=some r) (ha:a < m):dM (cuM g m rs) i a=rs.idxOf (g r a):=by
 unfold dM cuM
 rw [get_map h,get_map (List.getElem?_range ha)]
theorem mgR_d {mv:List (List Nat)} {G:Nat->Nat} {fr:List Nat} {m k f a:Nat} (ok:MvOk mv m) (h:fr[k]?=some f) (hf:f < mv.length) (ha:a < m):dM (mgR mv G fr) k a=phi G fr (dM mv f a):=by
 unfold dM mgR
 rw [get_map h]
 exact get_map (ok.at_ hf ha).1
theorem MG.z {G:Nat->Nat} {j:Nat} {fr:List Nat} (h:MG G j fr) (hj:0 < j):phi G fr 0=0:=by
 have m:=h.all 0 hj
 obtain ⟨f,hf,e⟩:=List.mem_map.mp m
 have f0:f=0:=Classical.byContradiction fun c=>h.fst f hf 0 (by omega) e.symm
 subst f0
 obtain ⟨i,hi⟩:=List.getElem?_of_mem hf
 have i0:i=0:=Classical.byContradiction fun c=>by
  have hl:=(List.getElem?_eq_some_iff.mp hi).1
  have h2:=(List.getElem?_eq_some_iff.mp hi).2
  have:=(List.pairwise_iff_getElem.mp h.inc) 0 i (by omega) hl (by omega)
  omega
 subst i0
 unfold phi
 cases fr with
 | nil=>simp at hi
 | cons x r=>simp at hi;subst hi;simp
theorem MG.at_ {G:Nat->Nat} {j:Nat} {fr:List Nat} (h:MG G j fr) {r:Nat} (hr:r < j):∃ f,fr[phi G fr r]?=some f/\G f=G r/\f < j/\phi G fr r < fr.length:=by
 have m:=h.all r hr
 have l:=List.idxOf_lt_length_iff.mpr m
 have e:=List.getElem_idxOf l
 rw [List.length_map] at l
 rw [List.getElem_map] at e
 exact ⟨_,List.getElem?_eq_getElem l,e,h.lt _ (List.getElem_mem _),l⟩
theorem MG.phi_eq {G:Nat->Nat} {j:Nat} {fr:List Nat} (h:MG G j fr) {r s:Nat} (hr:r < j) (hs:s < j):phi G fr r=phi G fr s↔G r=G s:=by
 refine ⟨fun e=>?_,fun e=>by unfold phi;rw [e]⟩
 obtain ⟨f,h1,h2,_⟩:=h.at_ hr
 obtain ⟨f',h3,h4,_⟩:=h.at_ hs
 rw [e,h3] at h1
 cases h1
 rw [← h2,h4]
theorem MG.phi_at {G:Nat->Nat} {j:Nat} {fr:List Nat} (h:MG G j fr) {k f:Nat} (e:fr[k]?=some f):phi G fr f=k:=by
 have kl:=(List.getElem?_eq_some_iff.mp e).1
 have l:k < (fr.map G).length:=by rw [List.length_map];exact kl
 have e2:(fr.map G)[k]=G f:=by rw [List.getElem_map,(List.getElem?_eq_some_iff.mp e).2]
 unfold phi
 rw [← e2]
 exact h.nd.idxOf_getElem k l
theorem LS.lean {mv mv':List (List Nat)} {m:Nat} {ys ys':List Bool} {rs fr:List Nat} {G:Nat->Nat} (S:LS mv m ys 0 mv' ys' rs G fr) (ok:MvOk mv m) (n1:1<=mv.length):LeanM (mcOf mv m ys) (mcOf mv' m ys') (fun r=>phi G fr (rs.idxOf r))/\MvOk mv' m/\ys'.length=mv'.length:=by
 have bi:=S.bf.inv (n:=mv.length) (by omega) (fun r a hr ha=>(ok.at_ hr ha).2)
 have rl:rs.length<=mv.length:=len_lt bi.nd bi.lt
 have r1:1<=rs.length:=(List.getElem?_eq_some_iff.mp bi.z).1
 have cok:=cuM_ok bi
 have ml:(cuM (dM mv) m rs).length=rs.length:=by simp [cuM]
 have M1:=mcOf_ok (ys:=rs.map fun r=>ys.getD r false) cok
 have rcm:∀ r,(mcOf mv m ys).rc r↔r ∈ rs:=fun r=>by
  refine ⟨fun ⟨w,hw,e⟩=>?_,fun h=>?_⟩
  ·subst e
   have:∀ (w:List Nat) (r:Nat),(mcOf mv m ys).ws w->r ∈ rs->(mcOf mv m ys).led r w ∈ rs:=fun w=>by
    induction w with
    | nil=>intro r _ h;exact h
    | cons a w ih =>
     intro r hw h
     exact ih _ (fun b hb=>hw b (.tail _ hb)) (bi.cl r (by rw [List.take_length];exact h) a (hw a (.head _)))
   exact this w 0 hw (List.mem_of_getElem? bi.z)
  ·obtain ⟨w,hw,e⟩:=bi.rc r h
   exact ⟨w,hw,e⟩
 have ixl:∀ r,r ∈ rs->rs.idxOf r < rs.length:=fun r h=>List.idxOf_lt_length_iff.mpr h
 have ixe:∀ r,r ∈ rs->rs[rs.idxOf r]?=some r:=fun r h=>by rw [List.getElem?_eq_getElem (ixl r h),List.getElem_idxOf]
 have d1:∀ r a,r ∈ rs->a < m->dM (cuM (dM mv) m rs) (rs.idxOf r) a=rs.idxOf (dM mv r a):=fun r a h ha=>cuM_d (ixe r h) ha
 have clo:∀ r a,r ∈ rs->a < m->dM mv r a ∈ rs:=fun r a h ha=>bi.cl r (by rw [List.take_length];exact h) a ha
 have led1:∀ (w:List Nat) (r:Nat),(∀ a ∈ w,a < m)->r ∈ rs->(mcOf (cuM (dM mv) m rs) m (rs.map fun r=>ys.getD r false)).led (rs.idxOf r) w=rs.idxOf ((mcOf mv m ys).led r w)/\(mcOf mv m ys).led r w ∈ rs:=fun w=>by
  induction w with
  | nil=>intro r _ h;exact ⟨rfl,h⟩
  | cons a w ih =>
   intro r hw h
   have ha:=hw a (.head _)
   have:=ih (dM mv r a) (fun b hb=>hw b (.tail _ hb)) (clo r a h ha)
   refine ⟨?_,this.2⟩
   show (mcOf (cuM (dM mv) m rs) m (rs.map fun r=>ys.getD r false)).led (dM (cuM (dM mv) m rs) (rs.idxOf r) a) w=_
   rw [d1 r a h ha]
   exact this.1
 have y1:∀ r,r ∈ rs->(rs.map fun r=>ys.getD r false).getD (rs.idxOf r) false=ys.getD r false:=fun r h=>get_map (ixe r h)
 have eq1:∀ r s,r ∈ rs->s ∈ rs->((mcOf (cuM (dM mv) m rs) m (rs.map fun r=>ys.getD r false)).eq (rs.idxOf r) (rs.idxOf s)↔(mcOf mv m ys).eq r s):=fun r s hr hs=>by
  have one:∀ w,(∀ a ∈ w,a < m)->∀ r,r ∈ rs->(mcOf (cuM (dM mv) m rs) m (rs.map fun r=>ys.getD r false)).y ((mcOf (cuM (dM mv) m rs) m (rs.map fun r=>ys.getD r false)).led (rs.idxOf r) w)=(mcOf mv m ys).y ((mcOf mv m ys).led r w):=fun w hw r hr=>by
   obtain ⟨e1,e2⟩:=led1 w r hw hr
   rw [e1]
   exact y1 _ e2
  refine ⟨fun h w hw=>?_,fun h w hw=>?_⟩
  ·rw [← one w hw r hr,← one w hw s hs];exact h w hw
  ·rw [one w hw r hr,one w hw s hs];exact h w hw
 have ml':mv'.length=fr.length:=by rw [S.em];simp [mgR]
 have yl':ys'.length=fr.length:=by rw [S.ey];simp [mgY]
 have fl:∀ {k f:Nat},fr[k]?=some f->f < (cuM (dM mv) m rs).length:=fun e=>by rw [ml];exact S.mg.lt _ (List.mem_of_getElem? e)
 have mok':MvOk mv' m:=by
  rw [S.em]
  refine ⟨fun row hrow=>?_,fun row hrow x hx=>?_⟩
  ·obtain ⟨f,hf,rfl⟩:=List.mem_map.mp hrow
   rw [List.length_map]
   have:f < (cuM (dM mv) m rs).length:=by rw [ml];exact S.mg.lt f hf
   exact cok.ln _ (by rw [List.getD_eq_getElem?_getD,List.getElem?_eq_getElem this];exact List.getElem_mem _)
  ·obtain ⟨f,hf,rfl⟩:=List.mem_map.mp hrow
   obtain ⟨t,ht,rfl⟩:=List.mem_map.mp hx
   have:f < (cuM (dM mv) m rs).length:=by rw [ml];exact S.mg.lt f hf
   have tl:=cok.lt _ (by rw [List.getD_eq_getElem?_getD,List.getElem?_eq_getElem this];exact List.getElem_mem _) t ht
   rw [ml] at tl
   obtain ⟨_,_,_,_,l⟩:=S.mg.at_ tl
   simpa [mgR] using l
 refine ⟨⟨mcOf_ok mok',?_,?_,rfl,?_,fun r h=>?_,fun r a h ha=>?_,fun r h=>?_,fun r s hr hs=>?_,fun k hk=>?_⟩,mok',by rw [ml',yl']⟩
 ·show 1<=mv'.length
  obtain ⟨_,_,_,_,l⟩:=S.mg.at_ (show 0 < rs.length by omega)
  omega
 ·show mv'.length<=mv.length
  have:=nodup_leN (l:=fr) (zs:=List.range rs.length) (S.mg.inc.imp fun h=>by omega) fun r hr=>List.mem_range.mpr (S.mg.lt r hr)
  rw [List.length_range] at this
  omega
 ·have:rs.idxOf 0=0:=by
   have z:=bi.z
   cases hrs:rs with
   | nil=>rw [hrs] at z;cases z
   | cons x l=>rw [hrs] at z;simp at z;subst z;simp
  show phi G fr (rs.idxOf 0)=0
  rw [this]
  exact S.mg.z (by omega)
 ·have hr:=(rcm r).mp h
  obtain ⟨_,_,_,_,l⟩:=S.mg.at_ (ixl r hr)
  show _ < mv'.length
  omega
 ·have hr:=(rcm r).mp h
  obtain ⟨f,e,ge,fr',l⟩:=S.mg.at_ (ixl r hr)
  have ha:a < m:=ha
  show phi G fr (rs.idxOf (dM mv r a))=dM mv' (phi G fr (rs.idxOf r)) a
  rw [S.em,mgR_d cok e (fl e) ha,← d1 r a hr ha]
  have q1:=(cok.at_ (show rs.idxOf r < (cuM (dM mv) m rs).length by rw [ml];exact ixl r hr) ha).2
  have q2:=(cok.at_ (fl e) ha).2
  rw [ml] at q1 q2
  refine (S.mg.phi_eq q1 q2).mpr ((S.gr _ _ q1 q2).mpr ?_)
  exact Mc.eq_step ((S.gr _ _ (ixl r hr) fr').mp ge.symm) ha
 ·have hr:=(rcm r).mp h
  obtain ⟨f,e,ge,fr',l⟩:=S.mg.at_ (ixl r hr)
  show ys'.getD (phi G fr (rs.idxOf r)) false=ys.getD r false
  rw [S.ey]
  unfold mgY
  rw [get_map e,← y1 r hr]
  exact Mc.eq_y ((S.gr _ _ fr' (ixl r hr)).mp ge)
 ·have hr:=(rcm r).mp hr
  have hs:=(rcm s).mp hs
  show phi G fr (rs.idxOf r)=phi G fr (rs.idxOf s)↔_
  rw [S.mg.phi_eq (ixl r hr) (ixl s hs),S.gr _ _ (ixl r hr) (ixl s hs),eq1 r s hr hs]
 ·have hk:k < fr.length:=by have:k < mv'.length:=hk;omega
  have e:fr[k]?=some fr[k]:=List.getElem?_eq_getElem hk
  have f2:=S.mg.lt _ (List.mem_of_getElem? e)
  have e2:rs[fr[k]]?=some (rs[fr[k]]):=List.getElem?_eq_getElem f2
  have m2:=List.mem_of_getElem? e2
  refine ⟨rs[fr[k]],(rcm _).mpr m2,?_⟩
  show phi G fr (rs.idxOf rs[fr[k]])=k
  rw [bi.nd.idxOf_getElem _ f2]
  exact S.mg.phi_at e
structure MH (H:Hp) (p:Addr) (z:Str) (pm py:Addr) (us:List V) (mv:List (List Nat)) (m:Nat) (ys:List Bool):Prop where
 hp:H p=some (.tup [.str z,.ref pm,.ref py])
 hm:H pm=some (.tup us)
 rw:RowsM H us mv
 ok:MvOk mv m
 hy:H py=some (.tup (ys.map V.bl))
 yl:ys.length=mv.length
 n1:1<=mv.length
 n9:mv.length<=1000
 m9:m<=1000
theorem MH.kp {S:List Addr} {H H':Hp} {p:Addr} {z:Str} {pm py:Addr} {us:List V} {mv:List (List Nat)} {m:Nat} {ys:List Bool} (k:Kp S H H') (h:MH H p z pm py us mv m ys):MH H' p z pm py us mv m ys :=
 ⟨k.tup _ _ h.hp,k.tup _ _ h.hm,h.rw.kp k,h.ok,k.tup _ _ h.hy,h.yl,h.n1,h.n9,h.m9⟩
def lvB (mv:List (List Nat)) (ys:List Bool) (r:Nat):Bool:=ys.getD r false || (mv.getD r []).any fun t=>!decide (t=r)
def lvL (mv:List (List Nat)) (ys:List Bool) (n:Nat):List Nat:=(List.range n).filter (lvB mv ys)
def wyL (mv:List (List Nat)) (ys:List Bool) (r:Nat):List Nat:=(mv.getD r []).filter (lvB mv ys)
def neV (i:Nat):V->V
 | .int t=>.bl (!decide (t=(i:Int)))
 | v=>v
def lvV (mv:List (List Nat)) (ys:List Bool):V->Bool
 | .int t=>lvB mv ys t.toNat
 | _=>false
structure WD (H0 H:Hp) (pw:Addr) (lv:List Nat) (la:Nat->Addr) (W:Nat->List Nat):Prop where
 hl:H pw=some (.dK (lv.map (lk la)))
 fr:∀ g ∈ lv,H0 (la g)=none
 np:∀ g ∈ lv,la g≠pw
 at_:∀ g ∈ lv,H (la g)=some (.lst ((W g).map nV))
theorem WD.kp {H0 H H':Hp} {pw:Addr} {lv:List Nat} {la:Nat->Addr} {W:Nat->List Nat} (h:WD H0 H pw lv la W) (k:Kp [] H H'):WD H0 H' pw lv la W :=
 ⟨k.old _ _ h.hl (by simp),h.fr,h.np,fun g hg=>k.old _ _ (h.at_ g hg) (by simp)⟩
def spLW:Sp:=fun vs H Q _=>∃ (p pm py:Addr) (z:Str) (us:List V) (mv:List (List Nat)) (m:Nat) (ys:List Bool),vs=[.ref p]/\MH H p z pm py us mv m ys /\
 ∀ (q:Addr) (la:Nat->Addr) (H':Hp),H q=none->WD H H' q (lvL mv ys mv.length) la (wyL mv ys)->Kp [] H H'->Q (.ref q) H'
structure TLW (mg:Str->Option Value):Prop where
 n_enumerate:mg "enumerate"=none
 n_any:mg "any"=none
section
variable {P:Program} {w:World} {K:PySem.W.Frag} {mg:Str->Option Value} {base:Heap}
abbrev yj:Stmt:=top 19
theorem za:FnScope ["machine","moves","yes","live","ways","room","row"] ["machine"] (jg yj):=⟨rfl,rfl,rfl,by decide +kernel,rfl,by decide +kernel,by decide +kernel⟩
theorem ok_live_ways {f:Addr} {fd:FuncData} (F:Fun K "live_ways" "live_ways" yj f fd) (T:TLW mg):FnOk P w K mg base CX0 1 f fd ["machine"] spLW:=by
 refine F.ok za (fun vs H Q E h=>?_) (fun cdv A outer s H vs Q E hr h=>?_)
 ·obtain ⟨p,pm,py,z,us,mv,m,ys,rfl,_⟩:=h
  rfl
 ·obtain ⟨p,pm,py,z,us,mv,m,ys,rfl,M,k⟩:=h
  have hu:=hr.units
  have hsz:sizeLine=16777216:=PySem.sizeLine_eq
  have hu1:(A.deeper (PyProof.Rows.envOfC (Str.ofString "live_ways") (jg yj) s.heap.objs.size f cdv)).units+1 < cLine:=by omega
  have ul:us.length=mv.length:=Paired.length M.rw
  have n9:=M.n9
  have m9:=M.m9
  refine exQ (jf (jj (i:=1) za.nd rfl (by first | exact Or.inl rfl | exact Or.inr rfl) (jn ix_U (qpv 0) jh (fun _ _=>rfl)))
  (jf (jj (i:=2) za.nd rfl (by first | exact Or.inl rfl | exact Or.inr rfl) (jn ix_U (qpv 0) jh (fun _ _=>rfl)))
  (jf (jj (i:=3) za.nd rfl (by first | exact Or.inl rfl | exact Or.inr rfl) (qpe_compC rfl (compOkC_of (sc:=jg yj) (N:=["machine","moves","yes","live","ways","room","row"]) (Nc:=["room","row","yes"]) (js:=[none,none,some 2]) (by decide +kernel)) (jbc (K:=K) rfl rfl T.n_enumerate (ja (qpv 1) jd)) (fun _ _ _ _=>(jaf (n:=2) rfl (yh (jm (i:=0) (show List.Nodup [("room":Str),("row":Str),("yes":Str)] from by decide +kernel) rfl (by first | exact Or.inl rfl | exact Or.inr rfl)) (yh (jm (i:=1) (show List.Nodup [("room":Str),("row":Str),("yes":Str)] from by decide +kernel) rfl (by first | exact Or.inl rfl | exact Or.inr rfl)) z8)) (K:=K) rfl)) (fun _ _ _ _=>(qpe_or (jn ix_U (qpv 2) (qpv 0) (fun _ _=>rfl)) (jbs (jo (jbw rfl) (by rfl) T.n_any jch (ja (kj rfl (compOk_of (sc:=relabel0 { kind:=.function,names:=[(".0",.local),("room",.cell),("row",.local),("any",.globalImplicit),("yes",.free)],isGenerator:=false,isCoroutine:=false } (jg yj)) (N:=["room","row","yes"]) (Nc:=["target","room"]) (js:=[none,some 0]) (by decide +kernel)) (j7 (K:=K) (qpv 1) rfl) (fun _ _ _ _=>(jm (i:=0) (show List.Nodup [("target":Str),("room":Str)] from by decide +kernel) rfl (by first | exact Or.inl rfl | exact Or.inr rfl))) (fun _ _ _ _=>(zx (jbn hu) (qpv 0) (qpv 1) (j8 _)))) jd)))))))
  (jf (jj (i:=4) za.nd rfl (by first | exact Or.inl rfl | exact Or.inr rfl) jba)
  (jf (kg PassesOwn.never rfl (jbc (K:=K) rfl rfl T.n_enumerate (ja (qpv 1) jd)) (jaf (n:=2) rfl (yh (jm (i:=5) za.nd rfl (by first | exact Or.inl rfl | exact Or.inr rfl)) (yh (jm (i:=6) za.nd rfl (by first | exact Or.inl rfl | exact Or.inr rfl)) z8)) (K:=K) rfl) (ji (yb (zr (jn ix_U (qpv 3) (qpv 5) (fun _ _=>rfl))) (ji (ja2 hu1 (qpv 4) (qpv 5) (ja1 rfl (compOk_of (sc:=jg yj) (N:=["machine","moves","yes","live","ways","room","row"]) (Nc:=["target","live"]) (js:=[none,some 3]) (by decide +kernel)) (j7 (K:=K) (qpv 6) rfl) (fun _ _ _ _=>(jm (i:=0) (show List.Nodup [("target":Str),("live":Str)] from by decide +kernel) rfl (by first | exact Or.inl rfl | exact Or.inr rfl))) (fun _ _ _ _=>(zr (jn ix_U (qpv 1) (qpv 0) (fun _ _=>rfl)))) (fun _ _ _ _=>(qpv 0))) rfl)) ke)))
  (ji (jz (qpv 4)))))))) ?_
  simp! [M.hp]
  refine ⟨⟨us,SqT.of M.hm⟩,fun D hD=>?_⟩
  refine loop_ET (xs:=us) (fun i σ H'=>∃ (v0 v1:Option V),σ=[v0,v1,some (.ref py)]/\H' D=some (.lst (((List.range i).map (lvB mv ys)).map V.bl))/\Kp [] H H') ⟨none,none,rfl,jb,(Kp.refl [] H).new hD⟩ ?_ ?_ ?_
  ·rintro i σ H' _ ⟨_,_,rfl,_,kp⟩
   exact kp.tup _ _ M.hm
  ·rintro i x σ H2 tt hx ⟨v0,v1,rfl,e2,kp⟩ htt
   have hil:i < mv.length:=by rw [← ul];exact (List.getElem?_eq_some_iff.mp hx).1
   obtain ⟨c,hcx,hcr⟩:=(M.rw.kp kp).get (show mv[i]?=some (mv.getD i []) by rw [List.getD_eq_getElem?_getD,List.getElem?_eq_getElem hil];rfl)
   rw [hx] at hcx
   cases hcx
   have rm:mv.getD i [] ∈ mv:=by rw [List.getD_eq_getElem?_getD,List.getElem?_eq_getElem hil];exact List.getElem_mem _
   have rl:=M.ok.ln _ rm
   refine ⟨tt,[.int (i:Int),.ref c],rfl,SqT.of jb,rfl,⟨_,_,rfl,⟨_,_,rfl,rfl,?_⟩⟩⟩
   have kT:Kp [] H2 (upd H2 tt (.tup [.int (i:Int),.ref c])):=(Kp.refl [] H2).new htt
   generalize upd H2 tt (.tup [.int (i:Int),.ref c])=H3 at kT ⊢
   have e3:=kT.old _ _ e2 (by simp)
   have c3:=kT.tup _ _ hcr
   have kp3:=kp.trans kT
   have y3:=kp3.tup _ _ M.hy
   simp! [tEmit,y3,c3]
   refine ⟨.bl (ys.getD i false),atI_nat (by rw [List.getElem?_map,List.getD_eq_getElem?_getD,List.getElem?_eq_getElem (by rw [M.yl];exact hil)];rfl),_,rfl,?_⟩
   have sn:((List.range (i+1)).map (lvB mv ys)).map V.bl=((List.range i).map (lvB mv ys)).map V.bl++[.bl (lvB mv ys i)]:=by rw [List.range_succ,List.map_append,List.map_append];rfl
   have hl:(((List.range i).map (lvB mv ys)).map V.bl).length < sizeLine:=by simp;omega
   rw [sn]
   by_cases h:ys.getD i false=true
   ·rw [if_pos h]
    refine ⟨_,by rw [e3];rfl,hl,_,_,⟨rfl,rfl⟩,?_,kp3.set e3 (.inr hD)⟩
    have:lvB mv ys i=true:=by unfold lvB;rw [h];rfl
    rw [this]
   ·rw [if_neg h]
    intro D1 hD1
    have nD:D≠D1:=je e3 hD1
    refine comp_tup (neV i) c3 hD1 (by rw [List.length_map];omega) (fun x hx l Q' q=>?_) fun vv=>?_
    ·obtain ⟨t,ht,rfl⟩:=List.mem_map.mp hx
     simp!
     exact q
    dsimp only
    have eb:((mv.getD i []).map nV).map (neV i)=((mv.getD i []).map fun t=>!decide (t=i)).map V.bl:=by
     rw [List.map_map,List.map_map]
     refine List.map_congr_left fun t _=>?_
     show V.bl (!decide ((t:Int)=(i:Int)))=V.bl (!decide (t=i))
     congr 2
     exact decide_eq_decide.mpr ⟨fun z=>by omega,fun z=>by omega⟩
    rw [eb]
    refine ⟨_,jb,_,by rw [jc nD,e3];rfl,hl,_,_,⟨rfl,rfl⟩,?_,(kp3.new hD1).set (by rw [jc nD];exact e3) (.inr hD)⟩
    have:lvB mv ys i=((mv.getD i []).map fun t=>!decide (t=i)).any id:=by
     unfold lvB
     rw [show ys.getD i false=false by simpa using h,List.any_map];rfl
    rw [this]
  ·rintro σ H2 ⟨v0,v1,rfl,e2,kp⟩
   rw [ul] at e2
   simp!
   intro pw hpw
   have k3:Kp [] H2 (upd H2 pw (.dK [])):=(Kp.refl [] H2).new hpw
   have e3:upd H2 pw (.dK []) pw=some (.dK []):=jb
   have d3:=k3.old _ _ e2 (by simp)
   have ndw:D≠pw:=je e2 hpw
   have hpw0:H pw=none:=kp.free hpw
   generalize upd H2 pw (.dK [])=H3 at k3 e3 d3 ⊢
   have kp3:=kp.trans k3
   refine ⟨⟨us,SqT.of (kp3.tup _ _ M.hm)⟩,?_⟩
   refine loop_ET (xs:=us) (fun i σ H'=>∃ (v5 v6:Option V) (la:Nat->Addr),σ=[some (.ref p),some (.ref pm),some (.ref py),some (.ref D),some (.ref pw),v5,v6]/\H' D=some (.lst (((List.range mv.length).map (lvB mv ys)).map V.bl))/\WD H H' pw (lvL mv ys i) la (wyL mv ys)/\Kp [] H H') ⟨none,none,fun _=>0,rfl,d3,⟨e3,by simp [lvL],by simp [lvL],by simp [lvL]⟩,kp3⟩ ?_ ?_ ?_
   ·rintro i σ H' _ ⟨_,_,_,rfl,_,_,kp⟩
    exact kp.tup _ _ M.hm
   ·rintro i x σ H4 tt hx ⟨v5,v6,la,rfl,d4,wd,kp4⟩ htt
    have hil:i < mv.length:=by rw [← ul];exact (List.getElem?_eq_some_iff.mp hx).1
    obtain ⟨c,hcx,hcr⟩:=(M.rw.kp kp4).get (show mv[i]?=some (mv.getD i []) by rw [List.getD_eq_getElem?_getD,List.getElem?_eq_getElem hil];rfl)
    rw [hx] at hcx
    cases hcx
    have rm:mv.getD i [] ∈ mv:=by rw [List.getD_eq_getElem?_getD,List.getElem?_eq_getElem hil];exact List.getElem_mem _
    have rl:=M.ok.ln _ rm
    have rlt:=M.ok.lt _ rm
    refine ⟨tt,[.int (i:Int),.ref c],rfl,SqT.of jb,rfl,⟨_,_,rfl,⟨_,_,rfl,rfl,?_⟩⟩⟩
    have kT:Kp [] H4 (upd H4 tt (.tup [.int (i:Int),.ref c])):=(Kp.refl [] H4).new htt
    generalize upd H4 tt (.tup [.int (i:Int),.ref c])=H5 at kT ⊢
    have d5:=kT.old _ _ d4 (by simp)
    have c5:=kT.tup _ _ hcr
    have kp5:=kp4.trans kT
    have wd5:=wd.kp kT
    have liv:∀ r,r < mv.length->atI (((List.range mv.length).map (lvB mv ys)).map V.bl) (r:Int)=some (.bl (lvB mv ys r)):=fun r hr=>atI_nat (by rw [List.getElem?_map,List.getElem?_map,List.getElem?_range hr];rfl)
    have sn:lvL mv ys (i+1)=lvL mv ys i++if lvB mv ys i=true then [i] else []:=by
     unfold lvL
     rw [List.range_succ,List.filter_append]
     congr 1
     by_cases h:lvB mv ys i=true
     ·rw [List.filter_cons,if_pos h,if_pos h];rfl
     ·rw [List.filter_cons,if_neg h,if_neg h];rfl
    simp! [d5,c5]
    refine ⟨_,liv i hil,_,rfl,?_⟩
    rw [sn]
    by_cases h:lvB mv ys i=true
    ·rw [if_pos h,if_pos h]
     intro D1 hD1
     have nD:D≠D1:=je d5 hD1
     have nw:pw≠D1:=je wd5.hl hD1
     have hD10:H D1=none:=kp5.free hD1
     refine compIf_tup (lvV mv ys) id c5 hD1 (by rw [List.length_map];omega) (fun x hx l Q' q=>?_) (fun x hx _ l Q' q=>?_) fun vv=>?_
     ·obtain ⟨t,ht,rfl⟩:=List.mem_map.mp hx
      simp!
      rw [show nV t=V.int (t:Int) from rfl,rIxU_ref,jc nD,d5]
      exact ⟨_,rfl,_,liv t (rlt t ht),_,rfl,q⟩
     ·simp!
      exact q
     dsimp only
     have ew:(((mv.getD i []).map nV).filter (lvV mv ys)).map id=(wyL mv ys i).map nV:=by
      rw [List.map_id,List.filter_map];rfl
     rw [ew]
     have k6:Kp [] H5 (upd H5 D1 (.lst ((wyL mv ys i).map nV))):=(Kp.refl [] H5).new hD1
     have e6:upd H5 D1 (.lst ((wyL mv ys i).map nV)) D1=some (.lst ((wyL mv ys i).map nV)):=jb
     generalize upd H5 D1 (.lst ((wyL mv ys i).map nV))=H6 at k6 e6 ⊢
     have wd6:=wd5.kp k6
     have kp6:=kp5.trans k6
     have lt:∀ g ∈ lvL mv ys i,g < i:=fun g hg=>List.mem_range.mp (List.mem_filter.mp hg).1
     have ll:(lvL mv ys i).length<=i:=by
      have:=List.length_filter_le (lvB mv ys) (List.range i)
      rw [List.length_range] at this
      exact this
     have ni:i ∉ lvL mv ys i:=fun z=>by have:=lt i z;omega
     have laq:∀ g ∈ lvL mv ys i,(if g=i then D1 else la g)=la g:=fun g hg=>if_neg (fun z:g=i=>ni (z ▸ hg))
     have ek:putK ((lvL mv ys i).map (lk la)) (.inl (i:Int)) (V.ref D1)=(lvL mv ys i++[i]).map (lk fun x=>if x=i then D1 else la x):=by
      rw [putK_new _ (by rw [val_lk,if_neg ni]),List.map_append]
      congr 1
      ·exact List.map_congr_left fun x hx=>by show (_,V.ref (la x))=(_,V.ref (if x=i then D1 else la x));rw [laq x hx]
      ·unfold lk;simp
     have d6:=k6.old _ _ d5 (by simp)
     refine ⟨_,DPut.k (k:=.inl (i:Int)) (v:=.ref D1) wd6.hl (by rw [List.length_map];omega),_,_,⟨rfl,rfl⟩,by rw [jc ndw];exact d6,fun x=>if x=i then D1 else la x,⟨?_,fun g hg=>?_,fun g hg=>?_,fun g hg=>?_⟩,kp_setK kp6 wd6.hl (.inr hpw0)⟩
     ·rw [jb,ek]
     ·rcases List.mem_append.mp hg with h | h
      ·simp only [laq g h];exact wd6.fr g h
      ·cases List.mem_singleton.mp h;simp only [if_true];exact hD10
     ·rcases List.mem_append.mp hg with h | h
      ·simp only [laq g h];exact wd6.np g h
      ·cases List.mem_singleton.mp h;simp only [if_true];exact nw.symm
     ·rcases List.mem_append.mp hg with h | h
      ·simp only [laq g h];rw [jc (wd6.np g h)];exact wd6.at_ g h
      ·cases List.mem_singleton.mp h;simp only [if_true];rw [jc nw.symm];exact e6
    ·rw [if_neg h,if_neg h,List.append_nil]
     exact ⟨_,_,⟨rfl,rfl⟩,la,wd5,kp5⟩
   ·rintro σ H4 ⟨v5,v6,la,rfl,d4,wd,kp4⟩
    simp!
    rw [ul] at wd
    exact k pw la H4 hpw0 wd kp4
end
def fk (f:Nat->V) (r:Nat):L2.Key × V:=(.inl (r:Int),f r)
theorem val_fk (f:Nat->V) (gk:List Nat) (g:Nat):valV (gk.map (fk f)) (.inl (g:Int))=if g ∈ gk then some (f g) else none:=by
 induction gk with
 | nil=>rfl
 | cons x S ih =>
  rw [List.map_cons]
  by_cases h:x=g
  ·subst h
   rw [valV_pos (p:=fk f x) (r:=S.map (fk f)) (k:=.inl (x:Int)) rfl,if_pos (.head _)];rfl
  ·rw [valV_neg (fun z=>h (Int.ofNat.inj (Sum.inl.inj z))),ih]
   by_cases h2:g ∈ S
   ·rw [if_pos h2,if_pos (.tail _ h2)]
   ·rw [if_neg h2,if_neg (fun z=>(List.mem_cons.mp z).elim (fun e=>h e.symm) h2)]
theorem jcl (f:Nat->V):∀ (S T:List Nat),(T++S).Nodup->(S.map (fk f)).foldl (fun d kv=>putK d kv.1 kv.2) (T.map (fk f))=(T++S).map (fk f)
 | [],T,_=>by simp
 | x::S,T,nd=>by
  have nx:x ∉ T:=fun h=>by
   rw [List.nodup_append] at nd
   exact nd.2.2 x h x (.head _) rfl
  rw [List.map_cons,List.foldl_cons,putK_new _ (show valV (T.map (fk f)) (fk f x).1=none by rw [show (fk f x).1=.inl (x:Int) from rfl,val_fk,if_neg nx])]
  have:=jcl f S (T++[x]) (by simpa using nd)
  rw [List.map_append] at this
  rw [show T.map (fk f)++[((fk f x).1,(fk f x).2)]=T.map (fk f)++[x].map (fk f) from rfl,this]
  simp
theorem putAll_fk (f:Nat->V) {S:List Nat} (nd:S.Nodup):putAllK (S.map (fk f))=S.map (fk f):=by
 have:=jcl f S [] (by simpa using nd)
 simpa [putAllK] using this
def prF (f:V) (y x:V) (H:Hp):Prop:=∃ t,x=.ref t/\H t=some (.tup [y,f])
theorem prF_firm (f y:V):Firm (prF f y):=fun S x H1 H2 k ⟨t,e,h⟩=>⟨t,e,k.tup _ _ h⟩
theorem jbr {H:Hp} {f:V}:∀ {L:List Nat} {xs:List V},Paired (fun y x=>prF f y x H) (L.map nV) xs->PairsK H xs (L.map (fk fun _=>f))
 | [],xs,h=>by cases h;exact .nil
 | r::L,xs,h=>by
  rw [List.map_cons] at h
  cases h with
  | cons a t =>
   obtain ⟨q,e,g⟩:=a
   exact .cons ⟨q,e,g⟩ (jbr t)
structure CC (kvs:List (L2.Key × V)) (lv:List Nat) (c:Nat->Int):Prop where
 at_:∀ r ∈ lv,valV kvs (.inl (r:Int))=some (.int (c r))
 ln:kvs.length=lv.length
theorem CC.put {kvs:List (L2.Key × V)} {lv:List Nat} {c:Nat->Int} (h:CC kvs lv c) {t:Nat} (ht:t ∈ lv) (x:Int):CC (putK kvs (.inl (t:Int)) (.int x)) lv (fun r=>if r=t then x else c r):=by
 refine ⟨fun r hr=>?_,?_⟩
 ·rw [valV_put]
  by_cases e:r=t
  ·subst e;rw [if_pos rfl];simp
  ·rw [if_neg (by simpa using fun z:(r:Int)=t=>e (by omega)),h.at_ r hr];simp [e]
 ·have:(kvs.any fun kv=>decide (kv.1=.inl (t:Int)))=true:=by rw [valV_any,h.at_ t ht];rfl
  unfold putK
  rw [if_pos this,List.length_map];exact h.ln
theorem CC.zero {lv:List Nat} (x:Int):CC (lv.map (fk fun _=>.int x)) lv (fun _=>x):=⟨fun r hr=>by rw [val_fk,if_pos hr],by simp⟩
section
variable {H:Hp} {D:Addr} {r:L2.St} {te:TE} {E:Ends}
theorem comp_dKK {d:Addr} {kvs:List (L2.Key × V)} {o:Obj} (P:V->V->Hp->Prop) (hP:∀ y,Firm (P y)) (hd:H d=some (.frz o (.dK kvs))) (hD:H D=none) (hz:kvs.length<=sizeLine)
  (he:∀ (y:V) (H1:Hp) (Q:VK),Kp [] H H1->(∀ v H2,Kp [] H1 H2->P y v H2->Q v H2)->te (some y::r) H1 Q)
  (hn:∀ v xs H',Kp [] H H'->H' D=some (.lst xs)->Paired (fun y x=>P y x H') (kvs.map fun kv=>kV kv.1) xs->E.nx (v::r) H'):LoopR (ItK d kvs o) (gName 0) (tEmit D te) E (none::r) (upd H D (.lst [])):=by
 refine loop_dK (fun i σ H'=>∃ (v:Option V) (xs:List V),σ=v::r/\Kp [] H H'/\H' D=some (.lst xs)/\Paired (fun y x=>P y x H') ((kvs.take i).map fun kv=>kV kv.1) xs) ⟨none,[],rfl,(Kp.refl [] H).new hD,jb,.nil⟩ ?_ ?_ ?_
 ·rintro i σ H' _ ⟨v,xs,rfl,kp,_,_⟩
  exact kp.old _ _ hd (by simp)
 ·rintro i kv σ H' hkv ⟨v,xs,rfl,kp,hd',pr⟩
  have hi:i < kvs.length:=(List.getElem?_eq_some_iff.mp hkv).1
  have hl:xs.length=i:=by have:=Paired.length pr;rw [List.length_map,List.length_take] at this;omega
  refine he _ H' _ kp fun x H2 k2 hx=>?_
  have hd2:H2 D=some (.lst xs):=k2.old _ _ hd' (by simp)
  refine ⟨xs,by rw [hd2];rfl,by omega,some (kV kv.1),xs++[x],rfl,(kp.trans k2).set hd2 (.inr hD),jb,?_⟩
  have k3:Kp [D] H2 (upd H2 D (.lst (xs++[x]))):=(Kp.refl [D] H2).set hd2 (.inl (by simp))
  rw [List.take_succ,hkv,List.map_append]
  exact Paired.snoc (Paired.mapP pr fun j x q=>hP j _ x _ _ k3 (hP j _ x _ _ k2 q)) (hP _ _ x _ _ k3 hx)
 ·rintro σ H' ⟨v,xs,rfl,kp,hd',pr⟩
  rw [List.take_of_length_le (Nat.le_refl _)] at pr
  exact hn v xs H' kp hd' pr
end
structure WY (H:Hp) (pw:Addr) (lv:List Nat) (la:Nat->Addr) (W:Nat->List Nat):Prop where
 hl:H pw=some (.dK (lv.map (lk la)))
 at_:∀ g ∈ lv,H (la g)=some (.lst ((W g).map nV))
 nd:lv.Nodup
 l9:lv.length<=1000
 w9:∀ g ∈ lv,(W g).length<=1000
 cl:∀ g ∈ lv,∀ t ∈ W g,t ∈ lv
def inc (lv:List Nat) (W:Nat->List Nat) (r:Nat):Int:=((lv.flatMap W).count r:Nat)
def spMI:Sp:=fun vs H Q _=>∃ (pw:Addr) (lv:List Nat) (la:Nat->Addr) (W:Nat->List Nat),vs=[.ref pw]/\WY H pw lv la W /\
 ∀ (q:Addr) (kvs:List (L2.Key × V)) (H':Hp),H q=none->H' q=some (.dK kvs)->CC kvs lv (inc lv W)->Kp [] H H'->Q (.ref q) H'
structure TMI (mg:Str->Option Value):Prop where
 n_dict:mg "dict"=none
section
variable {P:Program} {w:World} {K:PySem.W.Frag} {mg:Str->Option Value} {base:Heap}
abbrev yo:Stmt:=top 20
theorem z7:FnScope ["ways","counts","room","target"] ["ways"] (jg yo):=⟨rfl,rfl,rfl,by decide +kernel,rfl,by decide +kernel,by decide +kernel⟩
theorem ok_moves_into {f:Addr} {fd:FuncData} (F:Fun K "moves_into" "moves_into" yo f fd) (T:TMI mg):FnOk P w K mg base CX0 1 f fd ["ways"] spMI:=by
 refine F.ok z7 (fun vs H Q E h=>?_) (fun cdv A outer s H vs Q E hr h=>?_)
 ·obtain ⟨pw,lv,la,W,rfl,_⟩:=h
  rfl
 ·obtain ⟨pw,lv,la,W,rfl,Y,k⟩:=h
  have hu:=hr.units
  have hsz:sizeLine=16777216:=PySem.sizeLine_eq
  have hu1:(A.deeper (PyProof.Rows.envOfC (Str.ofString "moves_into") (jg yo) s.heap.objs.size f cdv)).units+1 < cLine:=by omega
  have l9:=Y.l9
  refine exQ (jf (ja3 (jj (i:=1) z7.nd rfl (by first | exact Or.inl rfl | exact Or.inr rfl) (j6 (jab rfl hu) (by rfl) T.n_dict jax (ja (kj rfl (compOk_of (sc:=jg yo) (N:=["ways","counts","room","target"]) (Nc:=["room"]) (js:=[none]) (by decide +kernel)) (jaz (qpv 0)) (fun _ _ _ _=>(jm (i:=0) (show List.Nodup [("room":Str)] from by decide +kernel) rfl (by first | exact Or.inl rfl | exact Or.inr rfl))) (fun _ _ _ _=>(y9 (ja (qpv 0) (ja jh jd))))) jd))))
  (jf (ja3 (kg PassesOwn.never rfl (jaz (qpv 0)) (jm (i:=2) z7.nd rfl (by first | exact Or.inl rfl | exact Or.inr rfl)) (ji (kg PassesOwn.never rfl (j7 (K:=K) (zf hu1 (qpv 0) (qpv 2) (fun _ _=>rfl)) rfl) (jm (i:=3) z7.nd rfl (by first | exact Or.inl rfl | exact Or.inr rfl)) (ji (jb7 hu1 (qpv 1) (qpv 3) jh ip_add))))))
  (ji (jz (qpv 1))))) ?_
  simp!
  refine ⟨pw,fun o u z=>?_,pw,lv.map (lk la),rfl,.inl ⟨Y.hl,fun o D hD=>?_⟩⟩
  ·have z':H pw=some (.frz o u):=z
   rw [Y.hl] at z';cases z'
  refine comp_dKK (prF (.int 0)) (prF_firm _) jb hD (by rw [List.length_map];omega) (fun y H1 Q' k1 q=>?_) fun v xs H1 k1 hx1 pr=>?_
  ·simp!
   exact ⟨by omega,fun t ht=>q _ _ ((Kp.refl [] H1).new ht) ⟨t,rfl,jb⟩⟩
  have pr':Paired (fun y x=>prF (.int 0) y x H1) (lv.map nV) xs:=by
   rw [List.map_map] at pr
   exact pr
  dsimp only
  refine rDictK.of hx1 (jbr pr') fun q hq=>?_
  rw [putAll_fk _ Y.nd]
  have kA:Kp [pw] H (upd H pw (.frz o (.dK (lv.map (lk la))))):=kp_setK (Kp.refl [pw] H) Y.hl (.inl (by simp))
  have kC:Kp [pw] H (upd H1 q (.dK (lv.map (fk fun _=>.int 0)))):=(kA.trans (k1.mono (by simp))).new hq
  have fz1:H1 pw=some (.frz o (.dK (lv.map (lk la)))):=k1.old _ _ jb (by simp)
  have nq:pw≠q:=je fz1 hq
  have hq0:H q=none:=(kA.trans (k1.mono (by simp))).free hq
  refine ⟨o,.dK (lv.map (lk la)),by rw [jc nq];exact fz1,pw,fun o u z=>?_,pw,lv.map (lk la),rfl,.inl ⟨jb,fun o'=>?_⟩⟩
  ·have z':H pw=some (.frz o u):=z
   rw [Y.hl] at z';cases z'
  rw [upd_upd]
  have kE:Kp [pw] H (upd (upd H1 q (.dK (lv.map (fk fun _=>.int 0)))) pw (.frz o' (.dK (lv.map (lk la))))):=by
   refine ⟨fun a u e n=>?_,fun a xs e=>?_,fun a u e=>?_⟩
   ·rw [jc (by simpa using n)];exact kC.old a u e n
   ·rw [jc (fun z=>by rw [z,Y.hl] at e;cases e)];exact kC.tup a xs e
   ·by_cases c:a=pw
    ·exact ⟨_,by rw [c,jb]⟩
    ·rw [jc c];exact kC.dom a u e
  have fE:upd (upd H1 q (.dK (lv.map (fk fun _=>.int 0)))) pw (.frz o' (.dK (lv.map (lk la)))) pw=some (.frz o' (.dK (lv.map (lk la)))):=jb
  have qE:upd (upd H1 q (.dK (lv.map (fk fun _=>.int 0)))) pw (.frz o' (.dK (lv.map (lk la)))) q=some (.dK (lv.map (fk fun _=>.int 0))):=by rw [jc nq.symm,jb]
  generalize upd (upd H1 q (.dK (lv.map (fk fun _=>.int 0)))) pw (.frz o' (.dK (lv.map (lk la))))=H2 at kE fE qE ⊢
  refine loop_dK (fun i σ H'=>∃ (v2 v3:Option V) (kvs:List (L2.Key × V)),σ=[some (.ref pw),some (.ref q),v2,v3]/\H' pw=some (.frz o' (.dK (lv.map (lk la))))/\H' q=some (.dK kvs)/\CC kvs lv (fun r=>(((lv.take i).flatMap W).count r:Nat))/\Kp [pw] H H') ⟨none,none,_,rfl,fE,qE,CC.zero 0,kE⟩ ?_ ?_ ?_
  ·rintro i σ H' _ ⟨_,_,_,rfl,h,_⟩
   exact h
  ·rintro i kv σ H3 hkv ⟨v2,v3,kvs,rfl,f3,q3,c3,kp3⟩
   rw [List.getElem?_map] at hkv
   obtain ⟨g,hg',rfl⟩:=Option.map_eq_some_iff.mp hkv
   have hgm:=List.mem_of_getElem? hg'
   have nlp:la g≠pw:=fun z=>by have:=Y.at_ g hgm;rw [z,Y.hl] at this;cases this
   have l3:=kp3.old _ _ (Y.at_ g hgm) (by simpa using nlp)
   have tk:(lv.take (i+1)).flatMap W=(lv.take i).flatMap W++W g:=by rw [List.take_add_one,hg'];simp
   rw [show kV (lk la g).1=V.int (g:Int) from rfl]
   simp!
   refine ⟨.ref (la g),.inl ⟨lv.map (lk la),.inl (g:Int),.inr ⟨o',f3⟩,rfl,by rw [val_lk,if_pos hgm]⟩,?_⟩
   simp only [l3]
   refine loop_list (xs:=(W g).map nV) (fun j σ H'=>∃ (v3:Option V) (kvs:List (L2.Key × V)),σ=[some (.ref pw),some (.ref q),some (.int (g:Int)),v3]/\H' pw=some (.frz o' (.dK (lv.map (lk la))))/\H' q=some (.dK kvs)/\CC kvs lv (fun r=>(((lv.take i).flatMap W++(W g).take j).count r:Nat))/\Kp [pw] H H') ⟨v3,kvs,rfl,f3,q3,by simpa using c3,kp3⟩ ?_ ?_ ?_
   ·rintro j σ H' _ ⟨_,_,rfl,_,_,_,kp⟩
    exact kp.old _ _ (Y.at_ g hgm) (by simpa using nlp)
   ·rintro j x σ H4 hx ⟨v3,kvs,rfl,f4,q4,c4,kp4⟩
    rw [List.getElem?_map] at hx
    obtain ⟨t,ht,rfl⟩:=Option.map_eq_some_iff.mp hx
    have tl:=Y.cl g hgm t (List.mem_of_getElem? ht)
    have tj:(W g).take (j+1)=(W g).take j++[t]:=by rw [List.take_add_one,ht];rfl
    have kln:=c4.ln
    simp!
    refine ⟨_,.inl ⟨kvs,.inl (t:Int),.inl q4,rfl,(c4.at_ t tl).symm⟩,_,rfl,_,DPut.k (k:=.inl (t:Int)) q4 (by omega),by rw [jc nq];exact f4,_,jb,?_,kp_setK kp4 q4 (.inr hq0)⟩
    have c5:=c4.put tl (((((lv.take i).flatMap W++(W g).take j).count t:Nat):Int)+1)
    have ef:(fun r=>if r=t then ((((lv.take i).flatMap W++(W g).take j).count t:Nat):Int)+1 else (((lv.take i).flatMap W++(W g).take j).count r:Nat))=fun r=>((((lv.take i).flatMap W++(W g).take (j+1)).count r:Nat):Int):=by
     funext r
     rw [tj,← List.append_assoc,List.count_append (l₂:=[t])]
     by_cases h:r=t
     ·subst h;simp
     ·have:[t].count r=0:=List.count_eq_zero.mpr (by simpa using h)
      rw [if_neg h,this];rfl
    rw [ef] at c5
    exact c5
   ·rintro σ H4 ⟨v3,kvs,rfl,f4,q4,c4,kp4⟩
    rw [List.length_map,List.take_length,← tk] at c4
    exact ⟨_,_,rfl,f4,kvs,q4,c4,kp4⟩
  ·rintro σ H3 ⟨v2,v3,kvs,rfl,f3,q3,c3,kp3⟩
   rw [List.length_map,List.take_length] at c3
   refine ⟨o',.dK (lv.map (lk la)),f3,_,rfl,?_⟩
   exact k q kvs _ hq0 (by rw [jc nq.symm];exact q3) c3 (kp_back kp3 Y.hl (fun xs z=>nomatch z))
end
theorem mem_lvL {mv:List (List Nat)} {ys:List Bool} {n r:Nat}:r ∈ lvL mv ys n↔r < n/\lvB mv ys r=true:=by
 unfold lvL
 rw [List.mem_filter,List.mem_range]
theorem gr_of {mv:List (List Nat)} {ys:List Bool} {m:Nat} (ok:MvOk mv m) (n1:1<=mv.length) (rc:∀ k,k < mv.length->∃ w:List Nat,(∀ a ∈ w,a < m)/\w.foldl (dM mv) 0=k) (z:0 ∈ lvL mv ys mv.length):Gr (lvL mv ys mv.length) (wyL mv ys):=by
 have row:∀ g,g < mv.length->mv.getD g [] ∈ mv:=fun g hg=>by rw [List.getD_eq_getElem?_getD,List.getElem?_eq_getElem hg];exact List.getElem_mem _
 refine ⟨List.nodup_range.filter _,fun g hg t ht=>?_,z,fun r hr=>?_⟩
 ·obtain ⟨h1,h2⟩:=List.mem_filter.mp ht
  exact mem_lvL.mpr ⟨ok.lt _ (row g (mem_lvL.mp hg).1) t h1,h2⟩
 ·obtain ⟨rn,rl⟩:=mem_lvL.mp hr
  obtain ⟨w,hw,e⟩:=rc r rn
  have key:∀ (w:List Nat),(∀ a ∈ w.reverse,a < m)->w.reverse.foldl (dM mv) 0 < mv.length/\(lvB mv ys (w.reverse.foldl (dM mv) 0)=true->∃ k,Pth (wyL mv ys) k 0 (w.reverse.foldl (dM mv) 0)):=fun w=>by
   induction w with
   | nil=>intro _;exact ⟨n1,fun _=>⟨0,rfl⟩⟩
   | cons a w ih =>
    intro hw
    rw [List.reverse_cons] at hw ⊢
    obtain ⟨h1,h2⟩:=ih fun b hb=>hw b (List.mem_append_left _ hb)
    have ha:=hw a (by simp)
    rw [List.foldl_append]
    show dM mv (w.reverse.foldl (dM mv) 0) a < _/\(lvB mv ys (dM mv (w.reverse.foldl (dM mv) 0) a)=true->∃ k,Pth (wyL mv ys) k 0 (dM mv (w.reverse.foldl (dM mv) 0) a))
    generalize w.reverse.foldl (dM mv) 0=c at h1 h2
    obtain ⟨q1,q2⟩:=ok.at_ h1 ha
    refine ⟨q2,fun lv=>?_⟩
    by_cases s:dM mv c a=c
    ·rw [s] at lv ⊢;exact h2 lv
    ·have lc:lvB mv ys c=true:=by
      unfold lvB
      rw [Bool.or_eq_true,List.any_eq_true]
      exact .inr ⟨_,List.mem_of_getElem? q1,by simpa using s⟩
     obtain ⟨k,hk⟩:=h2 lc
     exact ⟨k+1,c,hk,List.mem_filter.mpr ⟨List.mem_of_getElem? q1,lv⟩⟩
  have:=key w.reverse (by simpa using hw)
  rw [List.reverse_reverse,e] at this
  exact this.2 rl
def dV (d:Nat->Int):V->V
 | .int t=>.int (d t.toNat)
 | v=>v
theorem maxL_ge:∀ (l:List Int) (M:Int),M<=maxL M l
 | [],M=>Int.le_refl _
 | x::r,M=>by
  have:=maxL_ge r (if x > M then x else M)
  have e:maxL M (x::r)=maxL (if x > M then x else M) r:=rfl
  rw [e]
  split at this <;> rename_i h <;> simp only [h,if_true,if_false] <;> omega
theorem maxL_le:∀ {l:List Int} {y:Int},y ∈ l->∀ M:Int,y<=maxL M l
 | x::r,y,h,M=>by
  have e:maxL M (x::r)=maxL (if x > M then x else M) r:=rfl
  rw [e]
  rcases List.mem_cons.mp h with rfl | h
  ·have:=maxL_ge r (if y > M then y else M)
   split at this <;> rename_i h <;> simp only [h,if_true,if_false] <;> omega
  ·exact maxL_le h _
theorem maxL_mem:∀ (M:Int) (l:List Int),maxL M l=M∨maxL M l ∈ l
 | M,[]=>.inl rfl
 | M,x::r=>by
  have e:maxL M (x::r)=maxL (if x > M then x else M) r:=rfl
  rw [e]
  rcases maxL_mem (if x > M then x else M) r with h | h
  ·rw [h]
   by_cases c:x > M
   ·rw [if_pos c];exact .inr (.head _)
   ·rw [if_neg c];exact .inl rfl
  ·exact .inr (.tail _ h)
def LRes (lv:List Nat) (W:Nat->List Nat) (v:V):Prop :=
 (0 ∉ lv/\v=.int (-1))∨(0 ∈ lv/\v=.non/\∀ k:Nat,∃ j r,k<=j/\Pth W j 0 r)∨∃ L:Nat,0 ∈ lv/\v=.int (L:Int)/\(∃ r,Pth W L 0 r)/\∀ k r,Pth W k 0 r->k<=L
structure HF (H1:Hp) (pw qc qf pdn:Addr) (o:Obj) (lv:List Nat) (la:Nat->Addr) (W:Nat->List Nat) (H:Hp) (kvc kvf:List (L2.Key × V)) (dn:List Nat) (c d:Nat->Int):Prop where
 fz:H pw=some (.frz o (.dK (lv.map (lk la))))
 at_:∀ g ∈ lv,H (la g)=some (.lst ((W g).map nV))
 ec:H qc=some (.dK kvc)
 ef:H qf=some (.dK kvf)
 ed:H pdn=some (.lst (dn.map nV))
 cc:CC kvc lv c
 cf:CC kvf lv d
 kp:Kp [] H1 H
 n1:qc≠qf
 n2:∀ g ∈ lv,la g≠pdn
 f1:H1 qc=none
 f2:H1 qf=none
 f3:H1 pdn=none
section
variable {H1 H:Hp} {pw qc qf pdn:Addr} {o:Obj} {lv:List Nat} {la:Nat->Addr} {W:Nat->List Nat} {kvc kvf:List (L2.Key × V)} {dn:List Nat} {c d:Nat->Int}
theorem HF.setc (h:HF H1 pw qc qf pdn o lv la W H kvc kvf dn c d) {t:Nat} (ht:t ∈ lv) (x:Int):HF H1 pw qc qf pdn o lv la W (upd H qc (.dK (putK kvc (.inl (t:Int)) (.int x)))) (putK kvc (.inl (t:Int)) (.int x)) kvf dn (fun r=>if r=t then x else c r) d:=by
 have e1:=h.ec
 refine ⟨?_,fun g hg=>?_,jb,by rw [jc h.n1.symm];exact h.ef,?_,h.cc.put ht x,h.cf,kp_setK h.kp h.ec (.inr h.f1),h.n1,h.n2,h.f1,h.f2,h.f3⟩
 ·rw [jc (fun z=>by rw [← z,h.fz] at e1;cases e1)];exact h.fz
 ·rw [jc (fun z=>by rw [← z,h.at_ g hg] at e1;cases e1)];exact h.at_ g hg
 ·rw [jc (fun z=>by rw [← z,h.ed] at e1;cases e1)];exact h.ed
theorem HF.setf (h:HF H1 pw qc qf pdn o lv la W H kvc kvf dn c d) {t:Nat} (ht:t ∈ lv) (x:Int):HF H1 pw qc qf pdn o lv la W (upd H qf (.dK (putK kvf (.inl (t:Int)) (.int x)))) kvc (putK kvf (.inl (t:Int)) (.int x)) dn c (fun r=>if r=t then x else d r):=by
 have e1:=h.ef
 refine ⟨?_,fun g hg=>?_,by rw [jc h.n1];exact h.ec,jb,?_,h.cc,h.cf.put ht x,kp_setK h.kp h.ef (.inr h.f2),h.n1,h.n2,h.f1,h.f2,h.f3⟩
 ·rw [jc (fun z=>by rw [← z,h.fz] at e1;cases e1)];exact h.fz
 ·rw [jc (fun z=>by rw [← z,h.at_ g hg] at e1;cases e1)];exact h.at_ g hg
 ·rw [jc (fun z=>by rw [← z,h.ed] at e1;cases e1)];exact h.ed
theorem HF.app (h:HF H1 pw qc qf pdn o lv la W H kvc kvf dn c d) (dn':List Nat):HF H1 pw qc qf pdn o lv la W (upd H pdn (.lst (dn'.map nV))) kvc kvf dn' c d:=by
 have e1:=h.ed
 refine ⟨?_,fun g hg=>by rw [jc (h.n2 g hg)];exact h.at_ g hg,?_,?_,jb,h.cc,h.cf,h.kp.set h.ed (.inr h.f3),h.n1,h.n2,h.f1,h.f2,h.f3⟩
 ·rw [jc (fun z=>by rw [← z,h.fz] at e1;cases e1)];exact h.fz
 ·rw [jc (fun z=>by rw [← z,h.ec] at e1;cases e1)];exact h.ec
 ·rw [jc (fun z=>by rw [← z,h.ef] at e1;cases e1)];exact h.ef
end
def spLg (Pt:Addr):Sp:=fun vs H Q _=>∃ (p pm py:Addr) (z:Str) (us:List V) (mv:List (List Nat)) (m:Nat) (ys:List Bool),vs=[.ref p]/\MH H p z pm py us mv m ys/\TabOk H Pt LQ /\
 ∀ (mv':List (List Nat)) (ys':List Bool) (h:Nat->Nat) (v:V) (H':Hp),LeanM (mcOf mv m ys) (mcOf mv' m ys') h->MvOk mv' m->LRes (lvL mv' ys' mv'.length) (wyL mv' ys') v->Kp [Pt] H H'->TabOk H' Pt LQ->Q v H'
structure TLg (mg:Str->Option Value) (fl fw fi:Addr):Prop where
 n_len:mg "len"=none
 n_dict:mg "dict"=none
 n_max:mg "max"=none
 m1z:mg "least"=some (.ref fl)
 m16z:mg "live_ways"=some (.ref fw)
 m20z:mg "moves_into"=some (.ref fi)
section
variable {P:Program} {w:World} {K:PySem.W.Frag} {mg:Str->Option Value} {base:Heap}
abbrev y8:Stmt:=top 18
theorem yu:FnScope ["machine","lean","ways","waiting","farthest","done","place","room","target"] ["machine"] (jg y8):=⟨rfl,rfl,rfl,by decide +kernel,rfl,by decide +kernel,by decide +kernel⟩
theorem ok_longest {f fl fw fi Pt:Addr} {fd fdl fdw fdi:FuncData} (F:Fun K "longest" "longest" y8 f fd) (T:TLg mg fl fw fi) (F1z:Fun K "least" "least" jaa fl fdl) (b1z:Binds K fdl ["machine"] []) (G1z:FnOk P w K mg base CX0 6 fl fdl ["machine"] (spLe Pt))
  (F16z:Fun K "live_ways" "live_ways" yj fw fdw) (b16z:Binds K fdw ["machine"] []) (G16z:FnOk P w K mg base CX0 1 fw fdw ["machine"] spLW)
  (F20z:Fun K "moves_into" "moves_into" yo fi fdi) (b20z:Binds K fdi ["ways"] []) (G20z:FnOk P w K mg base CX0 1 fi fdi ["ways"] spMI):FnOk P w K mg base CX0 7 f fd ["machine"] (spLg Pt):=by
 refine F.ok yu (fun vs H Q E h=>?_) (fun cdv A outer s H vs Q E hr h=>?_)
 ·obtain ⟨p,pm,py,z,us,mv,m,ys,rfl,_⟩:=h
  rfl
 ·obtain ⟨p,pm,py,z,us,mv,m,ys,rfl,M,tb,k⟩:=h
  have hu:=hr.units
  have hsz:sizeLine=16777216:=PySem.sizeLine_eq
  have hu1:(A.deeper (PyProof.Rows.envOfC (Str.ofString "longest") (jg y8) s.heap.objs.size f cdv)).units+1 < cLine:=by omega
  refine exQ (jf (jj (i:=1) yu.nd rfl (by first | exact Or.inl rfl | exact Or.inr rfl) (jq G1z (hr.mono (by decide)) rfl T.m1z F1z.kp b1z .nil j9 (ja (qpv 0) jd)))
  (jf (jj (i:=2) yu.nd rfl (by first | exact Or.inl rfl | exact Or.inr rfl) (jq G16z (hr.mono (by decide)) rfl T.m16z F16z.kp b16z .nil j9 (ja (qpv 1) jd)))
  (yg (yb (jbg (jal hu1 jh (qpv 2)) (by with_unfolding_all rfl)) (ji (jz (jbb un_neg jh))) ke)
  (jf (jj (i:=3) yu.nd rfl (by first | exact Or.inl rfl | exact Or.inr rfl) (jq G20z (hr.mono (by decide)) rfl T.m20z F20z.kp b20z .nil j9 (ja (qpv 2) jd)))
  (jf (jj (i:=4) yu.nd rfl (by first | exact Or.inl rfl | exact Or.inr rfl) (j6 (jab rfl hu) (by rfl) T.n_dict jax (ja (kj rfl (compOk_of (sc:=jg y8) (N:=["machine","lean","ways","waiting","farthest","done","place","room","target"]) (Nc:=["room"]) (js:=[none]) (by decide +kernel)) (jaz (qpv 2)) (fun _ _ _ _=>(jm (i:=0) (show List.Nodup [("room":Str)] from by decide +kernel) rfl (by first | exact Or.inl rfl | exact Or.inr rfl))) (fun _ _ _ _=>(y9 (ja (qpv 0) (ja jh jd))))) jd)))
  (yg (jj (i:=5) yu.nd rfl (by first | exact Or.inl rfl | exact Or.inr rfl) (jb1 (j4 (yv hu) (zf hu1 (qpv 3) jh (fun _ _=>rfl)) jh (j8 _)) (kf (ja jh jd)) (kf jd)))
  (jf (jj (i:=6) yu.nd rfl (by first | exact Or.inl rfl | exact Or.inr rfl) jh)
  (jf (jav PassesOwn.never (j4 ja9 (qpv 6) (jo jr (by rfl) T.n_len jx (ja (qpv 5) jd)) (j8 _)) (jf (jj (i:=7) yu.nd rfl (by first | exact Or.inl rfl | exact Or.inr rfl) (jn ix_U (qpv 5) (qpv 6) (fun _ _=>rfl)))
  (jf (qps_aug (i:=6) yu.nd rfl (by first | exact Or.inl rfl | exact Or.inr rfl) jh ip_add)
  (ji (kg PassesOwn.never rfl (j7 (K:=K) (zf hu1 (qpv 2) (qpv 7) (fun _ _=>rfl)) rfl) (jm (i:=8) yu.nd rfl (by first | exact Or.inl rfl | exact Or.inr rfl)) (jf (ja2 hu1 (qpv 4) (qpv 8) (jo (jby rfl) (by rfl) T.n_max jb4 (ja (zf hu1 (qpv 4) (qpv 8) (fun _ _=>rfl)) (ja (jt yp (zf hu1 (qpv 4) (qpv 7) (fun _ _=>rfl)) jh) jd))) rfl)
  (jf (jb7 hu1 (qpv 3) (qpv 8) jh ip_sub)
  (ji (yb (j4 (yv hu) (zf hu1 (qpv 3) (qpv 8) (fun _ _=>rfl)) jh (j8 _)) (ji (km (yi PySem.F.slot_list_append PySem.F.type_list_append ya (qpv 5) (ja (qpv 8) jd) mono_var))) ke)))))))))
  (yg (yb (j4 ja9 (jo jr (by rfl) T.n_len jx (ja (qpv 5) jd)) (jo ja7 (by rfl) T.n_len jx (ja (qpv 2) jd)) (j8 _)) (ji (jz jcd)) ke)
  (ji (jz (jo (call_maxL rfl) (by rfl) T.n_max jb4 (ja (kj rfl (compOk_of (sc:=jg y8) (N:=["machine","lean","ways","waiting","farthest","done","place","room","target"]) (Nc:=["room","farthest"]) (js:=[none,some 4]) (by decide +kernel)) (j7 (K:=K) (qpv 5) rfl) (fun _ _ _ _=>(jm (i:=0) (show List.Nodup [("room":Str),("farthest":Str)] from by decide +kernel) rfl (by first | exact Or.inl rfl | exact Or.inr rfl))) (fun _ _ _ _=>(zf hu1 (qpv 1) (qpv 0) (fun _ _=>rfl)))) jd))))))))))))) ?_
  simp!
  refine ⟨p,pm,py,z,us,mv,m,ys,rfl,M.hp,M.hm,M.rw,M.ok,M.hy,M.yl,M.n1,M.n9,M.m9,tb,fun q a1 a2 us' mv' ys' rs G fr H1 ls eq ea1 R1 ea2 k1 tb1=>?_⟩
  obtain ⟨le,ok',yl'⟩:=ls.lean M.ok M.n1
  have n1':1<=mv'.length:=le.n1
  have n9':mv'.length<=1000:=Nat.le_trans le.le M.n9
  refine ⟨q,a1,a2,z,us',mv',m,ys',rfl,⟨eq,ea1,R1,ok',ea2,yl',n1',n9',M.m9⟩,fun pw la H2 hpw wd k2=>?_⟩
  replace k:=fun v H' (kk:Kp [] H1 H') (res:LRes (lvL mv' ys' mv'.length) (wyL mv' ys') v)=>k mv' ys' _ v H' le ok' res (k1.trans (kk.mono (by simp))) (tb1.kp kk (by simp) (by simp))
  have rc':∀ k,k < mv'.length->∃ w:List Nat,(∀ a ∈ w,a < m)/\w.foldl (dM mv') 0=k:=fun k hk=>by
   obtain ⟨r,⟨w,hw,e⟩,hk'⟩:=le.sur k hk
   refine ⟨w,hw,?_⟩
   have key:∀ (w:List Nat) (r:Nat),(mcOf mv m ys).rc r->(∀ a ∈ w,a < m)->w.foldl (dM mv') (phi G fr (rs.idxOf r))=phi G fr (rs.idxOf (w.foldl (dM mv) r)):=fun w=>by
    induction w with
    | nil=>intro r _ _;rfl
    | cons a w ih =>
     intro r hr hw
     have ha:=hw a (.head _)
     have:=le.st r a hr ha
     refine Eq.trans ?_ (ih _ (Mc.rc_step hr ha) fun b hb=>hw b (.tail _ hb))
     exact congrArg (fun x=>w.foldl (dM mv') x) this.symm
   have k0:=key w 0 ⟨[],by simp [Mc.ws],rfl⟩ hw
   rw [show phi G fr (rs.idxOf 0)=0 from le.z] at k0
   rw [k0,← hk',← e];rfl
  clear k1 tb1 eq ea1 R1 ea2 ls
  refine ⟨fun σ' H'=>σ'=[some (.ref p),some (.ref q),some (.ref pw),none,none,none,none,none,none]/\H2=H'/\0 ∈ lvL mv' ys' mv'.length,?_,?_⟩
  ·simp!
   refine ⟨_,DGet.k (k:=.inl ((0:Nat):Int)) wd.hl,?_⟩
   rw [val_lk]
   by_cases c:0 ∈ lvL mv' ys' mv'.length
   ·rw [if_pos c,if_neg (by simp)];exact c
   ·rw [if_neg c,if_pos (by simp)]
    exact k _ H2 k2 (.inl ⟨c,rfl⟩)
  rintro _ _ ⟨rfl,rfl,z0⟩
  have gr:=gr_of ok' n1' rc' z0
  have l9:(lvL mv' ys' mv'.length).length<=1000:=by
   have:=List.length_filter_le (lvB mv' ys') (List.range mv'.length)
   rw [List.length_range] at this
   exact Nat.le_trans this n9'
  have w9:∀ g,g ∈ lvL mv' ys' mv'.length->(wyL mv' ys' g).length<=1000:=fun g hg=>by
   have h1:=List.length_filter_le (lvB mv' ys') (mv'.getD g [])
   have h2:=ok'.ln (mv'.getD g []) (by rw [List.getD_eq_getElem?_getD,List.getElem?_eq_getElem (mem_lvL.mp hg).1];exact List.getElem_mem _)
   have:=M.m9
   unfold wyL
   omega
  generalize lvL mv' ys' mv'.length=lv at *
  generalize wyL mv' ys'=W at *
  simp!
  refine ⟨pw,lv,la,W,rfl,⟨wd.hl,wd.at_,gr.nd,l9,w9,gr.cl⟩,fun qc kvc H3 hqc eqc cc k3=>?_⟩
  have wd3:=wd.kp k3
  have k13:=k2.trans k3
  refine ⟨pw,lv.map (lk la),rfl,.inl ⟨wd3.hl,fun o D hD=>?_⟩⟩
  have k4:Kp [] H1 (upd H3 pw (.frz o (.dK (lv.map (lk la))))):=kp_setK k13 wd3.hl (.inr hpw)
  have f4:upd H3 pw (.frz o (.dK (lv.map (lk la)))) pw=some (.frz o (.dK (lv.map (lk la)))):=jb
  have c4:upd H3 pw (.frz o (.dK (lv.map (lk la)))) qc=some (.dK kvc):=by
   rw [jc (fun z=>by
    have e:=wd.hl
    rw [← z,hqc] at e;cases e)];exact eqc
  have a4:∀ g ∈ lv,upd H3 pw (.frz o (.dK (lv.map (lk la)))) (la g)=some (.lst ((W g).map nV)):=fun g hg=>by rw [jc (wd3.np g hg)];exact wd3.at_ g hg
  generalize upd H3 pw (.frz o (.dK (lv.map (lk la))))=H4 at k4 f4 c4 a4 hD ⊢
  refine comp_dKK (prF (.int 0)) (prF_firm _) f4 hD (by rw [List.length_map];omega) (fun y H' Q' k' q=>?_) fun v xs H5 k5 hx5 pr=>?_
  ·simp!
   exact ⟨by omega,fun t ht=>q _ _ ((Kp.refl [] H').new ht) ⟨t,rfl,jb⟩⟩
  have pr':Paired (fun y x=>prF (.int 0) y x H5) (lv.map nV) xs:=by
   rw [List.map_map] at pr
   exact pr
  dsimp only
  refine rDictK.of hx5 (jbr pr') fun qf hqf=>?_
  rw [putAll_fk _ gr.nd]
  have k6:Kp [] H4 (upd H5 qf (.dK (lv.map (fk fun _=>.int 0)))):=k5.new hqf
  have e6:upd H5 qf (.dK (lv.map (fk fun _=>.int 0))) qf=some (.dK (lv.map (fk fun _=>.int 0))):=jb
  have nf:qc≠qf:=je (k5.old _ _ c4 (by simp)) hqf
  have hqf1:H1 qf=none:=(k4.trans k5).free hqf
  have hqc1:H1 qc=none:=k2.free hqc
  generalize upd H5 qf (.dK (lv.map (fk fun _=>.int 0)))=H6 at k6 e6 ⊢
  have c6:=k6.old _ _ c4 (by simp)
  refine ⟨fun σ' H'=>∃ (pdn:Addr) (dn:List Nat),σ'=[some (.ref p),some (.ref q),some (.ref pw),some (.ref qc),some (.ref qf),some (.ref pdn),none,none,none]/\KI lv W 0 [] dn (fun r=>(tot lv W r:Nat)) (fun _=>0)/\HF H1 pw qc qf pdn o lv la W H' kvc (lv.map (fk fun _=>.int 0)) dn (fun r=>(tot lv W r:Nat)) (fun _=>0),?_,?_⟩
  ·simp!
   have mk:∀ pdn,H6 pdn=none->∀ dn:List Nat,HF H1 pw qc qf pdn o lv la W (upd H6 pdn (.lst (dn.map nV))) kvc (lv.map (fk fun _=>.int 0)) dn (fun r=>(tot lv W r:Nat)) (fun _=>0):=fun pdn hp dn=>by
    have kn:Kp [] H6 (upd H6 pdn (.lst (dn.map nV))):=(Kp.refl [] H6).new hp
    have k46:=k6.trans kn
    exact ⟨k46.old _ _ f4 (by simp),fun g hg=>k46.old _ _ (a4 g hg) (by simp),k46.old _ _ c4 (by simp),kn.old _ _ e6 (by simp),jb,cc,CC.zero 0,k4.trans k46,nf,fun g hg=>je (k6.old _ _ (a4 g hg) (by simp)) hp,hqc1,hqf1,(k4.trans k6).free hp⟩
   refine ⟨_,.inl ⟨kvc,.inl ((0:Nat):Int),.inl c6,rfl,(cc.at_ 0 z0).symm⟩,?_⟩
   rw [rEqU_int]
   refine ⟨_,rfl,ite2 (fun h=>⟨by omega,fun pdn hp=>⟨[0],KI.init gr (by rw [if_pos (show ((tot lv W 0:Nat):Int)=0 from of_decide_eq_true h)]),mk pdn hp [0]⟩⟩) (fun h=>⟨by omega,fun pdn hp=>⟨[],KI.init gr (by rw [if_neg (show ¬ ((tot lv W 0:Nat):Int)=0 from fun z=>h (decide_eq_true z))]),mk pdn hp []⟩⟩)⟩
  rintro _ H7 ⟨pdn,dn,rfl,ki,hf⟩
  simp!
  refine ⟨fun μ σ H'=>∃ (pl:Nat) (dn:List Nat) (kvc kvf:List (L2.Key × V)) (c d:Nat->Int) (v7 v8:Option V),σ=[some (.ref p),some (.ref q),some (.ref pw),some (.ref qc),some (.ref qf),some (.ref pdn),some (.int (pl:Int)),v7,v8]/\KI lv W pl [] dn c d/\pl<=dn.length/\HF H1 pw qc qf pdn o lv la W H' kvc kvf dn c d/\μ=lv.length - pl,⟨_,0,dn,_,_,_,_,none,none,rfl,ki,by omega,hf,rfl⟩,?_⟩
  clear ki hf e6 c6 nf k6 hqf1 hqc1 hqf pr pr' hx5 k5 c4 a4 f4 k4 hD cc
  rintro μ σ H8 ⟨pl,dn,kvc,kvf,c,d,v7,v8,rfl,ki,pln,hf,rfl⟩
  have dl:dn.length<=lv.length:=nodup_leN ki.nd ki.sub
  simp! [hf.ed]
  rw [List.length_map]
  by_cases hp:pl < dn.length
  ·rw [if_pos (by simpa using hp)]
   have eu:dn[pl]?=some (dn[pl]):=List.getElem?_eq_getElem hp
   generalize dn[pl]=u at eu
   have ul:=ki.sub u (List.mem_of_getElem? eu)
   refine ⟨_,fun _ _ h=>h,nV u,atI_nat (by rw [List.getElem?_map,eu];rfl),?_⟩
   refine ⟨.ref (la u),.inl ⟨lv.map (lk la),.inl (u:Int),.inr ⟨o,hf.fz⟩,rfl,by rw [val_lk,if_pos ul]⟩,?_⟩
   simp only [hf.at_ u ul]
   refine loop_list (xs:=(W u).map nV) (fun j σ H'=>∃ (dn:List Nat) (kvc kvf:List (L2.Key × V)) (c d:Nat->Int) (v8:Option V),σ=[some (.ref p),some (.ref q),some (.ref pw),some (.ref qc),some (.ref qf),some (.ref pdn),some (.int ((pl:Int)+1)),some (nV u),v8]/\KI lv W pl ((W u).take j) dn c d/\dn[pl]?=some u/\(∀ x ∈ (W u).take j,d u+1<=d x)/\HF H1 pw qc qf pdn o lv la W H' kvc kvf dn c d) ⟨dn,kvc,kvf,c,d,v8,rfl,by simpa using ki,eu,by simp,hf⟩ ?_ ?_ ?_
   ·rintro j σ H' _ ⟨_,_,_,_,_,_,rfl,_,_,_,hf⟩
    exact hf.at_ u ul
   ·rintro j x σ H9 hx ⟨dn,kvc,kvf,c,d,v8,rfl,ki,eu,uj,hf⟩
    rw [List.getElem?_map] at hx
    obtain ⟨t,ht,rfl⟩:=Option.map_eq_some_iff.mp hx
    have tl:=gr.cl u ul t (List.mem_of_getElem? ht)
    obtain ⟨ki',eu',du',uj'⟩:=ki.step gr eu ht uj
    have kcl:=hf.cc.ln
    have kfl:=hf.cf.ln
    simp!
    refine ⟨_,.inl ⟨kvf,.inl (t:Int),.inl hf.ef,rfl,(hf.cf.at_ t tl).symm⟩,_,.inl ⟨kvf,.inl (u:Int),.inl hf.ef,rfl,(hf.cf.at_ u ul).symm⟩,?_⟩
    rw [rAddW_int,rMaxU_int]
    have em:(if d u+1 > d t then d u+1 else d t)=max (d t) (d u+1):=by
     rw [Int.max_def];split <;> split <;> omega
    rw [em]
    have hf1:=hf.setf tl (max (d t) (d u+1))
    have hf2:=hf1.setc tl (c t - 1)
    refine ⟨_,DPut.k (k:=.inl (t:Int)) hf.ef (by omega),_,.inl ⟨kvc,.inl (t:Int),.inl hf1.ec,rfl,(hf1.cc.at_ t tl).symm⟩,_,rfl,_,DPut.k (k:=.inl (t:Int)) hf1.ec (by omega),_,.inl ⟨_,.inl (t:Int),.inl hf2.ec,rfl,(hf2.cc.at_ t tl).symm⟩,?_⟩
    rw [if_pos rfl,rEqU_int]
    refine ⟨_,rfl,ite2 (fun h=>?_) (fun h=>?_)⟩
    ·have h0:c t - 1=0:=of_decide_eq_true h
     rw [hf2.ed]
     refine ⟨rfl,_,rfl,by rw [List.length_map];have:=nodup_leN ki.nd ki.sub;omega,_,putK kvc (.inl (t:Int)) (.int (c t - 1)),putK kvf (.inl (t:Int)) (.int (max (d t) (d u+1))),_,_,ki',eu',uj',?_⟩
     rw [if_pos h0]
     have:=hf2.app (dn++[t])
     rw [List.map_append] at this
     exact this
    ·have h0:¬ c t - 1=0:=fun z=>h (decide_eq_true z)
     refine ⟨_,putK kvc (.inl (t:Int)) (.int (c t - 1)),putK kvf (.inl (t:Int)) (.int (max (d t) (d u+1))),_,_,ki',eu',uj',?_⟩
     rw [if_neg h0]
     exact hf2
   ·rintro σ H9 ⟨dn,kvc,kvf,c,d,v8,rfl,ki,eu,uj,hf⟩
    rw [List.length_map,List.take_length] at ki uj
    have:=(List.getElem?_eq_some_iff.mp eu).1
    have dl':dn.length<=lv.length:=nodup_leN ki.nd ki.sub
    exact ⟨lv.length - (pl+1),by omega,pl+1,dn,kvc,kvf,c,d,_,_,rfl,ki.room eu uj,by omega,hf,rfl⟩
  ·rw [if_neg (by simpa using hp)]
   have ep:pl=dn.length:=by omega
   subst ep
   refine ⟨fun σ' H'=>σ'=[some (.ref p),some (.ref q),some (.ref pw),some (.ref qc),some (.ref qf),some (.ref pdn),some (.int (dn.length:Int)),v7,v8]/\H8=H'/\¬ dn.length < lv.length,?_,?_⟩
   ·simp! [hf.ed]
    refine ⟨pw,lv.map (lk la),rfl,.inr ⟨o,hf.fz⟩,?_⟩
    dsimp only
    rw [rLtU_int,List.length_map,List.length_map]
    refine ⟨_,rfl,ite2 (fun h=>?_) (fun h=>⟨rfl,by simpa using h⟩)⟩
    have hlt:dn.length < lv.length:=by simpa using h
    obtain ⟨r,hr1,hr2⟩:∃ r,r ∈ lv/\r ∉ dn:=Classical.byContradiction fun no=>by
     have:=nodup_leN gr.nd fun x hx=>Classical.byContradiction fun n=>no ⟨x,hx,n⟩
     omega
    refine k _ H8 hf.kp (.inr (.inl ⟨z0,rfl,fun kk=>?_⟩))
    obtain ⟨s,s1,s2,s3⟩:=ki.round gr hr1 hr2 kk
    obtain ⟨j,hj⟩:=gr.rc s s1
    exact ⟨j+kk,r,by omega,hj.cat s3⟩
   rintro _ _ ⟨rfl,rfl,nl⟩
   have all:∀ r ∈ lv,r ∈ dn:=fun r hr=>full_of ki.nd ki.sub (by omega) hr
   simp! [hf.ed]
   intro D hD
   have kfl:=hf.cf.ln
   refine comp_list (dV d) hf.ed hD (by rw [List.length_map];omega) (fun x hx l Q' q=>?_) fun vv=>?_
   ·obtain ⟨t,ht,rfl⟩:=List.mem_map.mp hx
    simp!
    exact ⟨_,.inl ⟨kvf,.inl (t:Int),.inl (by rw [jc (je hf.ef hD)];exact hf.ef),rfl,(hf.cf.at_ t (ki.sub t ht)).symm⟩,q⟩
   dsimp only
   have ed:(dn.map nV).map (dV d)=(dn.map d).map V.int:=by rw [List.map_map,List.map_map];rfl
   rw [ed]
   have kD:Kp [] H1 (upd H8 D (.lst ((dn.map d).map V.int))):=hf.kp.new hD
   have d0:=all 0 z0
   have pths:∀ r ∈ dn,Pth W (d r).toNat 0 r:=fun r hr=>ki.pth gr hr
   have mx:∀ {k r:Nat},Pth W k 0 r->(k:Int)<=d r:=fun h=>ki.max gr all h
   have nn:∀ r ∈ dn,0<=d r:=fun r hr=>(ki.dd r (ki.sub r hr)).1
   cases hdn:dn with
   | nil=>rw [hdn] at d0;cases d0
   | cons x rr =>
    rw [hdn] at kD
    refine ⟨d x,rr.map d,jb,k _ _ kD (.inr (.inr ?_))⟩
    obtain ⟨y,hy,ey⟩:∃ y ∈ dn,maxL (d x) (rr.map d)=d y:=by
     rcases maxL_mem (d x) (rr.map d) with e | e
     ·exact ⟨x,by rw [hdn];exact .head _,e⟩
     ·obtain ⟨y,hy,e⟩:=List.mem_map.mp e
      exact ⟨y,by rw [hdn];exact .tail _ hy,e.symm⟩
    refine ⟨(d y).toNat,z0,by rw [ey];congr 1;have:=nn y hy;omega,⟨y,pths y hy⟩,fun kk r hk=>?_⟩
    have h1:=mx hk
    have hr:=all r (gr.path_mem gr.z hk)
    have h2:d r<=maxL (d x) (rr.map d):=by
     rw [hdn] at hr
     rcases List.mem_cons.mp hr with rfl | hr
     ·exact maxL_ge _ _
     ·exact maxL_le (List.mem_map.mpr ⟨r,hr,rfl⟩) _
    rw [ey] at h2
    omega
end
def Mc.co (M:Mc) (r:Nat):Prop:=∃ w,M.ws w/\M.y (M.led r w)=true
def Mc.A (M:Mc) (k:Nat):Prop:=∃ w,M.ws w/\w.length=k/\M.co (M.led 0 w)
theorem Mc.led_app (M:Mc) (r:Nat) (w u:List Nat):M.led r (w++u)=M.led (M.led r w) u:=by unfold Mc.led;rw [List.foldl_append]
theorem Mc.led_cons (M:Mc) (r a:Nat) (w:List Nat):M.led r (a::w)=M.led (M.d r a) w:=rfl
theorem Mc.ws_app {M:Mc} {w u:List Nat} (h:M.ws w) (h2:M.ws u):M.ws (w++u):=fun a ha=>(List.mem_append.mp ha).elim (h a) (h2 a)
theorem Mc.co_back {M:Mc} {r:Nat} {w:List Nat} (hw:M.ws w) (h:M.co (M.led r w)):M.co r:=by
 obtain ⟨u,hu,e⟩:=h
 exact ⟨w++u,Mc.ws_app hw hu,by rw [Mc.led_app];exact e⟩
theorem Mc.A_down {M:Mc} {k:Nat} (h:M.A (k+1)):M.A k:=by
 obtain ⟨w,hw,hl,hc⟩:=h
 refine ⟨w.take k,fun a ha=>hw a (List.mem_of_mem_take ha),by rw [List.length_take];omega,?_⟩
 refine Mc.co_back (w:=w.drop k) (fun a ha=>hw a (List.mem_of_mem_drop ha)) ?_
 rw [← Mc.led_app,List.take_append_drop];exact hc
theorem Mc.A_le {M:Mc} {j k:Nat} (h:M.A k) (l:j<=k):M.A j:=by
 induction k with
 | zero=>rw [show j=0 by omega];exact h
 | succ k ih =>
  by_cases c:j=k+1
  ·rw [c];exact h
  ·exact ih (Mc.A_down h) (by omega)
theorem row_d {mv:List (List Nat)} {m r t:Nat} (ok:MvOk mv m) (hr:r < mv.length) (h:t ∈ mv.getD r []):∃ a,a < m/\t=dM mv r a:=by
 obtain ⟨a,ha⟩:=List.getElem?_of_mem h
 have rl:=ok.ln (mv.getD r []) (by rw [List.getD_eq_getElem?_getD,List.getElem?_eq_getElem hr];exact List.getElem_mem _)
 have am:a < m:=by have:=(List.getElem?_eq_some_iff.mp ha).1;omega
 have:=(ok.at_ hr am).1
 rw [ha] at this
 exact ⟨a,am,Option.some.inj this⟩
theorem d_row {mv:List (List Nat)} {m r a:Nat} (ok:MvOk mv m) (hr:r < mv.length) (ha:a < m):dM mv r a ∈ mv.getD r []:=List.mem_of_getElem? (ok.at_ hr ha).1
def AV (A:Nat->Prop) (v:V):Prop:=(¬ A 0/\v=.int (-1))∨(v=.non/\∀ k,A k)∨∃ L:Nat,v=.int (L:Int)/\A L/\¬ A (L+1)
theorem LeanM.led {M M':Mc} {h:Nat->Nat} (L:LeanM M M' h):∀ {w:List Nat} {r:Nat},M.rc r->M.ws w->M'.led (h r) w=h (M.led r w)/\M.rc (M.led r w)
 | [],r,hr,_=>⟨rfl,hr⟩
 | a::w,r,hr,hw=>by
  have ha:=hw a (.head _)
  have:=LeanM.led L (w:=w) (Mc.rc_step hr ha) fun b hb=>hw b (.tail _ hb)
  rw [Mc.led_cons,Mc.led_cons,← L.st r a hr ha]
  exact this
theorem LeanM.ws {M M':Mc} {h:Nat->Nat} (L:LeanM M M' h) {w:List Nat}:M'.ws w↔M.ws w:=by unfold Mc.ws;rw [L.mm]
theorem LeanM.co {M M':Mc} {h:Nat->Nat} (L:LeanM M M' h) {r:Nat} (hr:M.rc r):M'.co (h r)↔M.co r:=by
 refine ⟨fun ⟨w,hw,e⟩=>⟨w,L.ws.mp hw,?_⟩,fun ⟨w,hw,e⟩=>⟨w,L.ws.mpr hw,?_⟩⟩
 ·obtain ⟨e1,e2⟩:=L.led hr (L.ws.mp hw)
  rw [e1,L.ye _ e2] at e;exact e
 ·obtain ⟨e1,e2⟩:=L.led hr hw
  rw [e1,L.ye _ e2];exact e
theorem LeanM.A {M M':Mc} {h:Nat->Nat} (L:LeanM M M' h) (k:Nat):M'.A k↔M.A k:=by
 have z:M.rc 0:=⟨[],by simp [Mc.ws],rfl⟩
 have key:∀ w,M.ws w->(M'.co (M'.led 0 w)↔M.co (M.led 0 w)):=fun w hw=>by
  obtain ⟨e1,e2⟩:=L.led z hw
  rw [L.z] at e1
  rw [e1];exact L.co e2
 exact ⟨fun ⟨w,a,b,c⟩=>⟨w,L.ws.mp a,b,(key w (L.ws.mp a)).mp c⟩,fun ⟨w,a,b,c⟩=>⟨w,L.ws.mpr a,b,(key w a).mpr c⟩⟩
theorem live_co {mv mv':List (List Nat)} {ys ys':List Bool} {m:Nat} {h:Nat->Nat} (L:LeanM (mcOf mv m ys) (mcOf mv' m ys') h) (ok':MvOk mv' m) {r:Nat} (hr:r < mv'.length):lvB mv' ys' r=true↔(mcOf mv' m ys').co r:=by
 unfold lvB
 rw [Bool.or_eq_true,List.any_eq_true]
 refine ⟨fun hl=>Classical.byContradiction fun nc=>?_,fun ⟨w,hw,e⟩=>Classical.byContradiction fun n=>?_⟩
 ·rcases hl with hl | ⟨t,ht,ne⟩
  ·exact nc ⟨[],by simp [Mc.ws],hl⟩
  ·obtain ⟨a,am,rfl⟩:=row_d ok' hr ht
   have nct:¬ (mcOf mv' m ys').co (dM mv' r a):=fun ⟨w,hw,e⟩=>nc ⟨a::w,fun b hb=>(List.mem_cons.mp hb).elim (fun e=>e ▸ am) (hw b),e⟩
   obtain ⟨r0,rc0,e0⟩:=L.sur r hr
   obtain ⟨t0,rct,et⟩:=L.sur (dM mv' r a) (ok'.at_ hr am).2
   have n1:¬ (mcOf mv m ys).co r0:=fun z=>nc (e0 ▸ (L.co rc0).mpr z)
   have n2:¬ (mcOf mv m ys).co t0:=fun z=>nct (et ▸ (L.co rct).mpr z)
   have f:∀ x,¬ (mcOf mv m ys).co x->∀ w,(mcOf mv m ys).ws w->(mcOf mv m ys).y ((mcOf mv m ys).led x w)=false:=fun x nx w hw=>by
    cases e:(mcOf mv m ys).y ((mcOf mv m ys).led x w) with
    | false=>rfl
    | true=>exact absurd ⟨w,hw,e⟩ nx
   have eq:h r0=h t0:=(L.inj r0 t0 rc0 rct).mpr fun w hw=>by rw [f r0 n1 w hw,f t0 n2 w hw]
   rw [e0,et] at eq
   simp [← eq] at ne
 ·have ny:ys'.getD r false=false:=by
   cases e:ys'.getD r false with
   | false=>rfl
   | true=>exact absurd (.inl e) n
  have st:∀ a,a < m->dM mv' r a=r:=fun a am=>Classical.byContradiction fun c=>n (.inr ⟨_,d_row ok' hr am,by simpa using c⟩)
  have led:∀ w,(∀ a ∈ w,a < m)->(mcOf mv' m ys').led r w=r:=fun w=>by
   induction w with
   | nil=>intro _;rfl
   | cons a w ih =>
    intro hw
    show (mcOf mv' m ys').led (dM mv' r a) w=r
    rw [st a (hw a (.head _))]
    exact ih fun b hb=>hw b (.tail _ hb)
  rw [led w hw] at e
  have e:ys'.getD r false=true:=e
  rw [ny] at e;cases e
theorem jcg {mv mv':List (List Nat)} {ys ys':List Bool} {m:Nat} {h:Nat->Nat} (L:LeanM (mcOf mv m ys) (mcOf mv' m ys') h) (ok':MvOk mv' m) (z:0 ∈ lvL mv' ys' mv'.length) (k:Nat):(∃ r,Pth (wyL mv' ys') k 0 r)↔(mcOf mv' m ys').A k:=by
 have M':=mcOf_ok (ys:=ys') ok'
 have n1:0 < mv'.length:=L.n1
 constructor
 ·rintro ⟨r,hp⟩
  have key:∀ (k r:Nat),Pth (wyL mv' ys') k 0 r->r < mv'.length/\lvB mv' ys' r=true/\∃ w,(mcOf mv' m ys').ws w/\w.length=k/\(mcOf mv' m ys').led 0 w=r:=fun k=>by
   induction k with
   | zero=>intro r h;cases h;exact ⟨n1,(mem_lvL.mp z).2,[],by simp [Mc.ws],rfl,rfl⟩
   | succ k ih =>
    rintro r ⟨c,h1,h2⟩
    obtain ⟨cn,_,w,hw,hl,e⟩:=ih c h1
    obtain ⟨q1,q2⟩:=List.mem_filter.mp h2
    obtain ⟨a,am,rfl⟩:=row_d ok' cn q1
    refine ⟨(ok'.at_ cn am).2,q2,w++[a],Mc.ws_app hw (fun b hb=>by cases List.mem_singleton.mp hb;exact am),by simp [hl],?_⟩
    rw [Mc.led_app,e];rfl
  obtain ⟨rn,rl,w,hw,hl,e⟩:=key k r hp
  exact ⟨w,hw,hl,by rw [e];exact (live_co L ok' rn).mp rl⟩
 ·rintro ⟨w,hw,hl,hc⟩
  have key:∀ (w:List Nat),(mcOf mv' m ys').ws w.reverse->(mcOf mv' m ys').co ((mcOf mv' m ys').led 0 w.reverse)->Pth (wyL mv' ys') w.length 0 ((mcOf mv' m ys').led 0 w.reverse):=fun w=>by
   induction w with
   | nil=>intro _ _;exact rfl
   | cons a w ih =>
    intro hw hc
    rw [List.reverse_cons] at hw hc ⊢
    have hw1:(mcOf mv' m ys').ws w.reverse:=fun b hb=>hw b (List.mem_append_left _ hb)
    have am:a < m:=hw a (by simp)
    rw [Mc.led_app] at hc ⊢
    have hcn:(mcOf mv' m ys').led 0 w.reverse < mv'.length:=Mc.led_lt M' n1 hw1
    have i:=ih hw1 (Mc.co_back (w:=[a]) (fun b hb=>by cases List.mem_singleton.mp hb;exact am) hc)
    exact ⟨_,i,List.mem_filter.mpr ⟨d_row ok' hcn am,(live_co L ok' (ok'.at_ hcn am).2).mpr hc⟩⟩
  have:=key w.reverse (by simpa using hw) (by simpa using hc)
  rw [List.length_reverse,hl] at this
  exact ⟨_,this⟩
theorem LRes.av {mv mv':List (List Nat)} {ys ys':List Bool} {m:Nat} {h:Nat->Nat} {v:V} (L:LeanM (mcOf mv m ys) (mcOf mv' m ys') h) (ok':MvOk mv' m) (r:LRes (lvL mv' ys' mv'.length) (wyL mv' ys') v):AV (mcOf mv m ys).A v:=by
 have n1:0 < mv'.length:=L.n1
 rcases r with ⟨a,e⟩ | ⟨z,e,a⟩ | ⟨K,z,e,⟨r,a⟩,b⟩
 ·refine .inl ⟨fun q=>a (mem_lvL.mpr ⟨n1,(live_co L ok' n1).mpr ?_⟩),e⟩
  obtain ⟨w,hw,hl,hc⟩:=(L.A 0).mpr q
  cases List.length_eq_zero_iff.mp hl
  exact hc
 ·refine .inr (.inl ⟨e,fun k=>?_⟩)
  obtain ⟨j,r,jk,hp⟩:=a k
  exact Mc.A_le ((L.A j).mp ((jcg L ok' z j).mp ⟨r,hp⟩)) jk
 ·refine .inr (.inr ⟨K,e,(L.A K).mp ((jcg L ok' z K).mp ⟨r,a⟩),fun q=>?_⟩)
  obtain ⟨s,hs⟩:=(jcg L ok' z (K+1)).mpr ((L.A _).mpr q)
  have:=b _ _ hs
  omega
theorem Mc.A_bound {M:Mc} (ok:M.ok) (n1:1<=M.n) {L:Nat} (h:M.A L) (n:¬ M.A (L+1)):L < M.n:=Classical.byContradiction fun c=>by
 obtain ⟨w,hw,hl,hc⟩:=h
 have key:∃ i j,i < j/\j<=L/\M.led 0 (w.take i)=M.led 0 (w.take j):=Classical.byContradiction fun no=>by
  have nd:((List.range (L+1)).map fun i=>M.led 0 (w.take i)).Nodup:=by
   refine List.pairwise_map.mpr (List.Pairwise.imp_of_mem (fun {i j} _ hj hij=>?_) List.pairwise_lt_range)
   exact fun e=>no ⟨i,j,hij,by have:=List.mem_range.mp hj;omega,e⟩
  have:=nodup_leN (zs:=List.range M.n) nd fun x hx=>by
   obtain ⟨i,_,rfl⟩:=List.mem_map.mp hx
   exact List.mem_range.mpr (Mc.led_lt ok (by omega) fun a ha=>hw a (List.mem_of_mem_take ha))
  rw [List.length_map,List.length_range,List.length_range] at this
  omega
 obtain ⟨i,j,ij,jl,e⟩:=key
 refine n (Mc.A_le (k:=(w.take j++w.drop i).length) ⟨w.take j++w.drop i,?_,rfl,?_⟩ ?_)
 ·exact Mc.ws_app (fun a ha=>hw a (List.mem_of_mem_take ha)) (fun a ha=>hw a (List.mem_of_mem_drop ha))
 ·rw [Mc.led_app,← e,← Mc.led_app,List.take_append_drop];exact hc
 ·rw [List.length_append,List.length_take,List.length_drop];omega
def stB (mv:List (List Nat)) (bs:List Bool):List Bool:=mv.map fun row=>row.any fun t=>bs.getD t false
def bV (bs:List Bool):V->V
 | .int t=>.bl (bs.getD t.toNat false)
 | v=>v
def spOA:Sp:=fun vs H Q _=>∃ (pm pr:Addr) (us:List V) (mv:List (List Nat)) (m:Nat) (bs:List Bool),vs=[.ref pm,.ref pr]/\H pm=some (.tup us)/\RowsM H us mv/\MvOk mv m/\mv.length<=1000/\m<=1000/\seqOf (H pr)=some (bs.map V.bl)/\bs.length=mv.length /\
 ∀ (q:Addr) (H':Hp),H q=none->H' q=some (.lst ((stB mv bs).map V.bl))->Kp [] H H'->Q (.ref q) H'
theorem kpSeq {H H':Hp} {p:Addr} {xs:List V} (k:Kp [] H H') (h:seqOf (H p)=some xs):seqOf (H' p)=some xs:=by
 cases e:H p with
 | none=>rw [e] at h;cases h
 | some o=>rw [k.old _ _ e (by simp),← e];exact h
structure TOA (mg:Str->Option Value):Prop where
 n_any:mg "any"=none
section
variable {P:Program} {w:World} {K:PySem.W.Frag} {mg:Str->Option Value} {base:Heap}
abbrev ku:Stmt:=top 15
theorem sc_one_sign_ahead:FnScope ["moves","reaches"] ["moves","reaches"] (jg ku):=⟨rfl,rfl,rfl,by decide +kernel,rfl,by decide +kernel,by decide +kernel⟩
theorem ok_one_sign_ahead {f:Addr} {fd:FuncData} (F:Fun K "one_sign_ahead" "one_sign_ahead" ku f fd) (T:TOA mg):FnOk P w K mg base CX0 1 f fd ["moves","reaches"] spOA:=by
 refine F.ok sc_one_sign_ahead (fun vs H Q E h=>?_) (fun cdv A outer s H vs Q E hr h=>?_)
 ·obtain ⟨pm,pr,us,mv,m,bs,rfl,_⟩:=h
  rfl
 ·obtain ⟨pm,pr,us,mv,m,bs,rfl,hm,rw',ok,n9,m9,hb,bl,k⟩:=h
  have hu:=hr.units
  have hsz:sizeLine=16777216:=PySem.sizeLine_eq
  have ul:us.length=mv.length:=Paired.length rw'
  refine exQ (ji (jz (kj rfl (compOk_of (sc:=jg ku) (N:=["moves","reaches"]) (Nc:=["row","reaches"]) (js:=[none,some 1]) (by decide +kernel)) (j7 (K:=K) (qpv 0) rfl) (fun _ _ _ _=>(jm (i:=0) (show List.Nodup [("row":Str),("reaches":Str)] from by decide +kernel) rfl (by first | exact Or.inl rfl | exact Or.inr rfl))) (fun _ _ _ _=>(jo (jbw rfl) (by rfl) T.n_any jch (ja (kj rfl (compOk_of (sc:=relabel0 { kind:=.function,names:=[(".0",.local),("row",.local),("any",.globalImplicit),("reaches",.free)],isGenerator:=false,isCoroutine:=false } (jg ku)) (N:=["row","reaches"]) (Nc:=["target","reaches"]) (js:=[none,some 1]) (by decide +kernel)) (j7 (K:=K) (qpv 0) rfl) (fun _ _ _ _=>(jm (i:=0) (show List.Nodup [("target":Str),("reaches":Str)] from by decide +kernel) rfl (by first | exact Or.inl rfl | exact Or.inr rfl))) (fun _ _ _ _=>(jn ix_U (qpv 1) (qpv 0) (fun _ _=>rfl)))) jd)))))) ?_
  simp! [hm]
  intro D hD
  refine loop_tup (xs:=us) (fun i σ H'=>∃ (v0:Option V),σ=[v0,some (.ref pr)]/\H' D=some (.lst (((stB mv bs).take i).map V.bl))/\Kp [] H H') ⟨none,rfl,by rw [jb];rfl,(Kp.refl [] H).new hD⟩ ?_ ?_ ?_
  ·rintro i σ H' _ ⟨_,rfl,_,kp⟩
   exact kp.tup _ _ hm
  ·rintro i x σ H2 hx ⟨v0,rfl,e2,kp⟩
   have hil:i < mv.length:=by rw [← ul];exact (List.getElem?_eq_some_iff.mp hx).1
   have hi:mv[i]?=some (mv.getD i []):=by rw [List.getD_eq_getElem?_getD,List.getElem?_eq_getElem hil];rfl
   obtain ⟨c,hcx,hcr⟩:=(rw'.kp kp).get hi
   rw [hx] at hcx
   cases hcx
   have rm:mv.getD i [] ∈ mv:=List.mem_of_getElem? hi
   have rl:=ok.ln _ rm
   have rlt:=ok.lt _ rm
   simp! [tEmit,hcr]
   intro D1 hD1
   have nD:D≠D1:=je e2 hD1
   refine comp_tup (bV bs) hcr hD1 (by rw [List.length_map];omega) (fun x hx l Q' q=>?_) fun vv=>?_
   ·obtain ⟨t,ht,rfl⟩:=List.mem_map.mp hx
    have tl:=rlt t ht
    have kk:Kp [] H (upd H2 D1 (.lst l)):=kp.new hD1
    simp! [nV,kpSeq kk hb]
    exact ⟨_,atI_nat (by rw [List.getElem?_map,List.getElem?_eq_getElem (by omega)];rfl),by simpa [bV,nV,List.getD_eq_getElem?_getD,List.getElem?_eq_getElem (show t < bs.length by omega)] using q⟩
   dsimp only
   have eb:((mv.getD i []).map nV).map (bV bs)=((mv.getD i []).map fun t=>bs.getD t false).map V.bl:=by
    rw [List.map_map,List.map_map]
    exact List.map_congr_left fun t _=>rfl
   rw [eb]
   have sl:(stB mv bs).length=mv.length:=by simp [stB]
   have tk:(stB mv bs).take (i+1)=(stB mv bs).take i++[(mv.getD i []).any fun t=>bs.getD t false]:=by
    rw [List.take_add_one]
    congr 1
    unfold stB
    rw [List.getElem?_map,hi];rfl
   rw [tk,List.map_append]
   refine ⟨_,jb,_,by rw [jc nD,e2];rfl,by rw [List.length_map,List.length_take];omega,?_,(kp.new hD1).set (by rw [jc nD];exact e2) (.inr hD)⟩
   rw [List.any_map];rfl
  ·rintro σ H2 ⟨v0,rfl,e2,kp⟩
   have sl:(stB mv bs).length=mv.length:=by simp [stB]
   rw [ul,← sl,List.take_length] at e2
   exact k D H2 hD e2 kp
end
def tz (z:Str) (w:List Nat):Str:=toS (w.map fun a=>z.cps.toList.getD a 0)
theorem tz_snoc (z:Str) (w:List Nat) (a:Nat):tz z w++(⟨#[z.cps.toList.getD a 0]⟩:Str)=tz z (w++[a]):=by
 unfold tz
 rw [toS_app,List.map_append];rfl
theorem tz_len (z:Str) (w:List Nat):(tz z w).length=w.length:=by simp [tz,toS_len]
def Bg (H:Hp) (z:Str) (us:List V) (L:List (List Nat × Nat)):Prop:=Paired (fun v x=>∃ a,v=.ref a/\H a=some (.tup [.str (tz z x.1),nV x.2])) us L
theorem Bg.kp {S:List Addr} {H H':Hp} {z:Str} {us:List V} {L:List (List Nat × Nat)} (k:Kp S H H') (h:Bg H z us L):Bg H' z us L:=Paired.mapP h fun _ _ ⟨a,e,h⟩=>⟨a,e,k.tup _ _ h⟩
theorem Bg.get {H:Hp} {z:Str}:∀ {us:List V} {L:List (List Nat × Nat)},Bg H z us L->∀ {i:Nat} {v:V},us[i]?=some v->∃ x a,L[i]?=some x/\v=.ref a/\H a=some (.tup [.str (tz z x.1),nV x.2])
 | [],[],_,i,v,e=>by simp at e
 | _::_,_::_,.cons ⟨a,e1,e2⟩ h,0,v,e=>by simp at e;subst e;exact ⟨_,a,rfl,e1,e2⟩
 | _::_,_::_,.cons _ h,i+1,v,e=>by
  obtain ⟨x,a,h1,h2⟩:=Bg.get h (i:=i) (by simpa using e)
  exact ⟨x,a,by simpa using h1,h2⟩
def spLB:Sp:=fun vs H Q _=>∃ (p pm py pb pr:Addr) (z:Str) (us bs:List V) (mv:List (List Nat)) (m:Nat) (ys rs:List Bool) (L:List (List Nat × Nat)),vs=[.ref p,.ref pb,.ref pr]/\MH H p z pm py us mv m ys/\z.length=m/\m<=4 /\
 H pb=some (.lst bs)/\Bg H z bs L/\(∀ x ∈ L,x.2 < mv.length/\x.1.length<=1000)/\L.length<=1000/\seqOf (H pr)=some (rs.map V.bl)/\rs.length=mv.length /\
 ∀ (q:Addr) (us':List V) (H':Hp),H q=none->H' q=some (.lst us')->Bg H' z us' (L.flatMap (extW (mcOf mv m ys) fun r=>rs.getD r false))->Kp [] H H'->Q (.ref q) H'
theorem ext_len {M:Mc} {R:Nat->Bool} (x:List Nat × Nat):(extW M R x).length<=M.m:=by
 unfold extW
 rw [List.length_map]
 have:=List.length_filter_le (fun a=>R (M.d x.2 a)) (List.range M.m)
 rw [List.length_range] at this;exact this
theorem fext_len {M:Mc} {R:Nat->Bool}:∀ (L:List (List Nat × Nat)),(L.flatMap (extW M R)).length<=L.length * M.m
 | []=>by simp
 | x::L=>by
  rw [List.flatMap_cons,List.length_append,List.length_cons,Nat.succ_mul]
  have:=ext_len (M:=M) (R:=R) x
  have:=fext_len (M:=M) (R:=R) L
  omega
structure TLB (mg:Str->Option Value):Prop where
 n_zip:mg "zip"=none
section
variable {P:Program} {w:World} {K:PySem.W.Frag} {mg:Str->Option Value} {base:Heap}
abbrev kx:Stmt:=top 17
theorem kh:FnScope ["machine","begun","reaches","letters","moves","longer","text","room","letter","target"] ["machine","begun","reaches"] (jg kx):=⟨rfl,rfl,rfl,by decide +kernel,rfl,by decide +kernel,by decide +kernel⟩
theorem ok_longer_beginnings {f:Addr} {fd:FuncData} (F:Fun K "longer_beginnings" "longer_beginnings" kx f fd) (T:TLB mg):FnOk P w K mg base CX0 1 f fd ["machine","begun","reaches"] spLB:=by
 refine F.ok kh (fun vs H Q E h=>?_) (fun cdv A outer s H vs Q E hr h=>?_)
 ·obtain ⟨p,pm,py,pb,pr,z,us,bs,mv,m,ys,rs,L,rfl,_⟩:=h
  rfl
 ·obtain ⟨p,pm,py,pb,pr,z,us,bs,mv,m,ys,rs,L,rfl,M,zm,m4,hb,B,xl,l9,hR,rl,k⟩:=h
  have hu:=hr.units
  have hsz:sizeLine=16777216:=PySem.sizeLine_eq
  have ul:us.length=mv.length:=Paired.length M.rw
  have bl:bs.length=L.length:=Paired.length B
  refine exQ (jf (jj (i:=3) kh.nd rfl (by first | exact Or.inl rfl | exact Or.inr rfl) (jn ix_U (qpv 0) jh (fun _ _=>rfl)))
  (jf (jj (i:=4) kh.nd rfl (by first | exact Or.inl rfl | exact Or.inr rfl) (jn ix_U (qpv 0) jh (fun _ _=>rfl)))
  (jf (jj (i:=5) kh.nd rfl (by first | exact Or.inl rfl | exact Or.inr rfl) (kf jd))
  (jf (kg PassesOwn.never rfl (j7 (K:=K) (qpv 1) rfl) (jaf (n:=2) rfl (yh (jm (i:=6) kh.nd rfl (by first | exact Or.inl rfl | exact Or.inr rfl)) (yh (jm (i:=7) kh.nd rfl (by first | exact Or.inl rfl | exact Or.inr rfl)) z8)) (K:=K) rfl) (ji (kg PassesOwn.never rfl (qpi_zipN (K:=K) rfl rfl T.n_zip (ja (qpv 3) (ja (jn ix_U (qpv 4) (qpv 7) (fun _ _=>rfl)) jd))) (jaf (n:=2) rfl (yh (jm (i:=8) kh.nd rfl (by first | exact Or.inl rfl | exact Or.inr rfl)) (yh (jm (i:=9) kh.nd rfl (by first | exact Or.inl rfl | exact Or.inr rfl)) z8)) (K:=K) rfl) (ji (yb (zr (jn ix_U (qpv 2) (qpv 9) (fun _ _=>rfl))) (ji (km (yi PySem.F.slot_list_append PySem.F.type_list_append ya (qpv 5) (ja (y9 (ja (jt yp (qpv 6) (qpv 8)) (ja (qpv 9) jd))) jd) mono_var))) ke)))))
  (ji (jz (qpv 5))))))) ?_
  simp! [M.hp]
  refine ⟨by omega,fun D hD=>?_⟩
  have eD:upd H D (.lst []) D=some (.lst []):=jb
  have kD:Kp [] H (upd H D (.lst [])):=(Kp.refl [] H).new hD
  generalize upd H D (.lst [])=H1 at eD kD ⊢
  rw [kD.old _ _ hb (by simp)]
  generalize hEx:extW (mcOf mv m ys) (fun r=>rs.getD r false)=ex at k
  have exl:∀ L':List (List Nat × Nat),(L'.flatMap ex).length<=L'.length * m:=fun L'=>by subst hEx;exact fext_len L'
  simp!
  refine loop_list (xs:=bs) (fun i σ H'=>∃ (v6 v7 v8 v9:Option V) (us':List V),σ=[some (.ref p),some (.ref pb),some (.ref pr),some (.str z),some (.ref pm),some (.ref D),v6,v7,v8,v9]/\H' D=some (.lst us')/\Bg H' z us' ((L.take i).flatMap ex)/\Kp [] H H') ⟨none,none,none,none,[],rfl,eD,.nil,kD⟩ ?_ ?_ ?_
  ·rintro i σ H' _ ⟨_,_,_,_,_,rfl,_,_,kp⟩
   exact kp.old _ _ hb (by simp)
  ·rintro i x σ H2 hx ⟨v6,v7,v8,v9,us',rfl,e2,B2,kp⟩
   obtain ⟨y,a,hy,rfl,ha⟩:=(B.kp kp).get hx
   obtain ⟨yn,yl⟩:=xl y (List.mem_of_getElem? hy)
   have il:i < L.length:=(List.getElem?_eq_some_iff.mp hy).1
   have M2:=M.kp kp
   have hi:mv[y.2]?=some (mv.getD y.2 []):=by rw [List.getD_eq_getElem?_getD,List.getElem?_eq_getElem yn];rfl
   obtain ⟨c,hcx,hcr⟩:=M2.rw.get hi
   have rm:mv.getD y.2 [] ∈ mv:=List.mem_of_getElem? hi
   have rwl:=M.ok.ln _ rm
   have tk:L.take (i+1)=L.take i++[y]:=by rw [List.take_add_one,hy];rfl
   refine ⟨a,[.str (tz z y.1),nV y.2],rfl,SqT.of ha,rfl,⟨_,_,rfl,⟨_,_,rfl,rfl,?_⟩⟩⟩
   simp! [nV,M2.hm]
   refine ⟨.ref c,atI_nat hcx,?_⟩
   refine ⟨z,c,⟨rfl,rfl⟩,_,SqT.of hcr,?_⟩
   have exy:ex y=((List.range m).filter fun a=>rs.getD (dM mv y.2 a) false).map fun a=>(y.1++[a],dM mv y.2 a):=by rw [← hEx];rfl
   have tl:((L.take i).flatMap ex).length<=4000:=by
    have h1:=exl (L.take i)
    have h2:(L.take i).length<=1000:=by rw [List.length_take];omega
    exact Nat.le_trans h1 (Nat.le_trans (Nat.mul_le_mul h2 m4) (by decide))
   rw [tk,List.flatMap_append,List.flatMap_cons,List.flatMap_nil,List.append_nil,exy]
   generalize (L.take i).flatMap ex=L0 at B2 tl ⊢
   refine loop_ZN (ys:=(mv.getD y.2 []).map nV) (fun j σ H'=>∃ (v8 v9:Option V) (us':List V),σ=[some (.ref p),some (.ref pb),some (.ref pr),some (.str z),some (.ref pm),some (.ref D),some (.str (tz z y.1)),some (.int (y.2:Int)),v8,v9]/\H' D=some (.lst us')/\Bg H' z us' (L0++((List.range j).filter fun a=>rs.getD (dM mv y.2 a) false).map fun a=>(y.1++[a],dM mv y.2 a))/\Kp [] H H') ⟨v8,v9,us',rfl,e2,by simpa using B2,kp⟩ (by rw [List.length_map,rwl,zm]) ?_ ?_ ?_
   ·rintro j σ H' _ ⟨_,_,_,rfl,_,_,kp'⟩
    obtain ⟨c',hcx',hcr'⟩:=(M.kp kp').rw.get hi
    rw [hcx] at hcx'
    cases hcx'
    exact SqT.of hcr'
   ·rintro j t σ H3 tt hj ht ⟨v8,v9,us3,rfl,e3,B3,kp3⟩ htt
    rw [List.getElem?_map,(M.ok.at_ yn (show j < m by omega)).1] at ht
    cases ht
    have dl:=(M.ok.at_ yn (show j < m by omega)).2
    refine ⟨tt,_,rfl,SqT.of jb,rfl,⟨_,_,rfl,⟨_,_,rfl,rfl,?_⟩⟩⟩
    have kT:Kp [] H3 (upd H3 tt (.tup [.str ⟨#[z.cps.toList.getD j 0]⟩,nV (dM mv y.2 j)])):=(Kp.refl [] H3).new htt
    generalize upd H3 tt (.tup [.str ⟨#[z.cps.toList.getD j 0]⟩,nV (dM mv y.2 j)])=H4 at kT ⊢
    have e4:=kT.old _ _ e3 (by simp)
    have B4:=B3.kp kT
    have kp4:=kp3.trans kT
    have ul4:us3.length<=5000:=by
     have h1:=Paired.length B3
     rw [List.length_append,List.length_map] at h1
     have h2:=List.length_filter_le (fun a=>rs.getD (dM mv y.2 a) false) (List.range j)
     rw [List.length_range] at h2
     omega
    simp! [nV,kpSeq kp4 hR]
    refine ⟨.bl (rs.getD (dM mv y.2 j) false),atI_nat (by rw [List.getElem?_map,List.getD_eq_getElem?_getD,List.getElem?_eq_getElem (by omega)];rfl),_,rfl,?_⟩
    rw [List.range_succ,List.filter_append,List.map_append,← List.append_assoc]
    by_cases c:rs.getD (dM mv y.2 j) false=true
    ·rw [if_pos c]
     have:[j].filter (fun a=>rs.getD (dM mv y.2 a) false)=[j]:=by rw [List.filter_cons,if_pos c];rfl
     rw [this]
     refine ⟨by rw [e4];rfl,by rw [tz_len];show _+1<=_;omega,by omega,fun q hq=>⟨us3,by rw [jc (je e4 hq),e4];rfl,by omega,_,_,⟨rfl,rfl⟩,?_,(kp4.new hq).set (by rw [jc (je e4 hq)];exact e4) (.inr hD)⟩⟩
     rw [tz_snoc]
     have k5:Kp [D] H4 (upd (upd H4 q (.tup [.str (tz z (y.1++[j])),.int (dM mv y.2 j:Int)])) D (.lst (us3++[.ref q]))):=((Kp.refl [D] H4).new hq).set (by rw [jc (je e4 hq)];exact e4) (.inl (by simp))
     refine Paired.snoc (B4.kp k5) ⟨q,rfl,?_⟩
     rw [jc (je e4 hq).symm,jb];rfl
    ·rw [if_neg c]
     have:[j].filter (fun a=>rs.getD (dM mv y.2 a) false)=[]:=by rw [List.filter_cons,if_neg c];rfl
     rw [this]
     exact ⟨_,_,⟨rfl,rfl⟩,us3,e4,by simpa using B4,kp4⟩
   ·rintro σ H3 ⟨v8,v9,us3,rfl,e3,B3,kp3⟩
    rw [zm] at B3
    exact ⟨_,_,_,_,rfl,us3,e3,B3,kp3⟩
  ·rintro σ H2 ⟨v6,v7,v8,v9,us',rfl,e2,B2,kp⟩
   rw [bl,List.take_length] at B2
   simp!
   exact k D us' H2 hD e2 B2 kp
end
theorem cut_to (xs:List V) {d:Int} (h:0<=d):cutV xs none (some d)=xs.take d.toNat:=by
 obtain ⟨k,rfl⟩:∃ k:Nat,d=(k:Int):=⟨d.toNat,by omega⟩
 unfold cutV
 rw [HT.sIx_none,HT.sIx_nat,List.drop_zero,Nat.sub_zero,Int.toNat_natCast]
 by_cases q:k<=xs.length
 ·rw [Nat.min_eq_left q]
 ·rw [Nat.min_eq_right (by omega),List.take_of_length_le (Nat.le_refl _),List.take_of_length_le (by omega)]
theorem Paired.takeP {α β:Type} {F:α->β->Prop}:∀ {l:List α} {r:List β} (k:Nat),Paired F l r->Paired F (l.take k) (r.take k)
 | [],[],k,_=>by simpa using .nil
 | _::_,_::_,0,_=>.nil
 | _::_,_::_,k+1,.cons h r=>.cons h (Paired.takeP k r)
structure RG (H:Hp) (pg:Addr) (as:List Addr) (M:Mc):Prop where
 hl:H pg=some (.lst (as.map V.ref))
 at_:∀ i a,as[i]?=some a->seqOf (H a)=some (((List.range M.n).map (Rb M i)).map V.bl)
theorem RG.kp {H H':Hp} {pg:Addr} {as:List Addr} {M:Mc} (k:Kp [] H H') (h:RG H pg as M):RG H' pg as M:=⟨k.old _ _ h.hl (by simp),fun i a e=>kpSeq k (h.at_ i a e)⟩
theorem rb_get {M:Mc} {i r:Nat} (h:r < M.n):((List.range M.n).map (Rb M i)).getD r false=Rb M i r:=by
 rw [List.getD_eq_getElem?_getD,List.getElem?_map,List.getElem?_range h];rfl
theorem ext_congr {M:Mc} (ok:M.ok) {i:Nat} {x:List Nat × Nat} (h:x.2 < M.n):extW M (fun r=>((List.range M.n).map (Rb M i)).getD r false) x=extW M (Rb M i) x:=by
 unfold extW
 congr 1
 refine List.filter_congr fun a ha=>rb_get (ok.lt _ _ h (List.mem_range.mp ha))
theorem fext_congr {M:Mc} (ok:M.ok) {i:Nat}:∀ {L:List (List Nat × Nat)},(∀ x ∈ L,x.2 < M.n)->L.flatMap (extW M (fun r=>((List.range M.n).map (Rb M i)).getD r false))=L.flatMap (extW M (Rb M i))
 | [],_=>rfl
 | x::L,h=>by rw [List.flatMap_cons,List.flatMap_cons,ext_congr ok (h x (.head _)),fext_congr ok fun y hy=>h y (.tail _ hy)]
def spTS:Sp:=fun vs H Q _=>∃ (p pm py pg:Addr) (z:Str) (us:List V) (mv:List (List Nat)) (m:Nat) (ys:List Bool) (as:List Addr) (k N:Nat),vs=[.ref p,.ref pg,.int (k:Int)]/\MH H p z pm py us mv m ys/\z.length=m/\m<=4 /\
 RG H pg as (mcOf mv m ys)/\as.length=N+1/\N<=900/\1<=k/\k<=900 /\
 ∀ (q:Addr) (H':Hp),H q=none->H' q=some (.lst (((Wd (mcOf mv m ys) N 0).take k).map fun w=>V.str (tz z w)))->Kp [] H H'->Q (.ref q) H'
structure TTS (mg:Str->Option Value) (fb:Addr):Prop where
 n_len:mg "len"=none
 n_range:mg "range"=none
 m17z:mg "longer_beginnings"=some (.ref fb)
section
variable {P:Program} {w:World} {K:PySem.W.Frag} {mg:Str->Option Value} {base:Heap}
abbrev ko:Stmt:=top 16
theorem zb:FnScope ["machine","reaching","many","begun","signs"] ["machine","reaching","many"] (jg ko):=⟨rfl,rfl,rfl,by decide +kernel,rfl,by decide +kernel,by decide +kernel⟩
theorem ok_texts_with_signs {f fb:Addr} {fd fdb:FuncData} (F:Fun K "texts_with_signs" "texts_with_signs" ko f fd) (T:TTS mg fb) (F17z:Fun K "longer_beginnings" "longer_beginnings" kx fb fdb) (b17z:Binds K fdb ["machine","begun","reaches"] [])
  (G17z:FnOk P w K mg base CX0 1 fb fdb ["machine","begun","reaches"] spLB):FnOk P w K mg base CX0 2 f fd ["machine","reaching","many"] spTS:=by
 refine F.ok zb (fun vs H Q E h=>?_) (fun cdv A outer s H vs Q E hr h=>?_)
 ·obtain ⟨p,pm,py,pg,z,us,mv,m,ys,as,k,N,rfl,_⟩:=h
  rfl
 ·obtain ⟨p,pm,py,pg,z,us,mv,m,ys,as,kk,N,rfl,M,zm,m4,R,al,n9,k1,k9,k⟩:=h
  have hu:=hr.units
  have hsz:sizeLine=16777216:=PySem.sizeLine_eq
  have mok:=mcOf_ok (ys:=ys) M.ok
  have n1:=M.n1
  generalize hM:mcOf mv m ys=MM at k R mok
  have Mn:MM.n=mv.length:=by rw [← hM];rfl
  have Mm:MM.m=m:=by rw [← hM];rfl
  have asN:as[N]?=some (as.getD N 0):=by rw [List.getD_eq_getElem?_getD,List.getElem?_eq_getElem (by omega)];rfl
  refine exQ (jf (jj (i:=3) zb.nd rfl (by first | exact Or.inl rfl | exact Or.inr rfl) (jb1 (zr (jn ix_U (jn ix_U (qpv 1) (jbb un_neg jh) (fun _ _=>rfl)) jh (fun _ _=>rfl))) (kf (ja (y9 (ja jbt (ja jh jd))) jd)) (kf jd)))
  (jf (kg PassesOwn.never rfl (qpi_range3 rfl T.n_range (ja (jt jay (jo jr (by rfl) T.n_len jx (ja (qpv 1) jd)) jh) (ja (jbb un_neg jh) (ja (jbb un_neg jh) jd)))) (jm (i:=4) zb.nd rfl (by first | exact Or.inl rfl | exact Or.inr rfl)) (ji (jj (i:=3) zb.nd rfl (by first | exact Or.inl rfl | exact Or.inr rfl) (jaj (jbp (K:=K) rfl) (jq G17z (hr.mono (by decide)) rfl T.m17z F17z.kp b17z .nil j9 (ja (qpv 0) (ja (qpv 3) (ja (jn ix_U (qpv 1) (qpv 4) (fun _ _=>rfl)) jd)))) jao (jap (qpv 2))))))
  (ji (jz (kj rfl (compOk_of (sc:=jg ko) (N:=["machine","reaching","many","begun","signs"]) (Nc:=["text","room"]) (js:=[none,none]) (by decide +kernel)) (j7 (K:=K) (qpv 3) rfl) (fun _ _ _ _=>(jaf (n:=2) rfl (yh (jm (i:=0) (show List.Nodup [("text":Str),("room":Str)] from by decide +kernel) rfl (by first | exact Or.inl rfl | exact Or.inr rfl)) (yh (jm (i:=1) (show List.Nodup [("text":Str),("room":Str)] from by decide +kernel) rfl (by first | exact Or.inl rfl | exact Or.inr rfl)) z8)) (K:=K) rfl)) (fun _ _ _ _=>(qpv 0))))))) ?_
  simp! [R.hl]
  refine ⟨.ref (as.getD N 0),atI_m1 (by rw [List.length_map,List.getElem?_map,show as.length - 1=N by omega,asN];rfl),?_⟩
  rw [rIxU_ref,R.at_ N _ asN]
  refine ⟨_,rfl,.bl (Rb MM N 0),atI_nat (j:=0) (by rw [List.getElem?_map,List.getElem?_map,List.getElem?_range (by omega)];rfl),_,rfl,?_⟩
  have main:∀ (pb:Addr) (bs:List V) (H1:Hp),H1 pb=some (.lst bs)->Bg H1 z bs (Pf MM N 0)->Kp [] H H1 ->
    LoopR (ItDn ((N:Int) - 1) N) (gName 4) (tAsg (tSl (rSlU K) (tCall spLB [] E0 (tCons (tVar 0) (tCons (tVar 3) (tCons (tOp rIxU (tVar 1) (tVar 4)) tNil)))) tNoPart (tPart (tVar 2))) (gName 3)) { nx:=tRet (tComp (iAny K (tVar 3)) (gTup K 2 (gCons (gName 0) (gCons (gName 1) gNil))) [none,none] (tVar 0)) { nx:=fun x H'=>Q V.non H',rt:=Q },rt:=Q } [some (V.ref p),some (V.ref pg),some (V.int (kk:Int)),some (V.ref pb),none] H1:=by
   intro pb bs H1 e1 B1 k01
   have p0:(Pf MM N 0).take kk=Pf MM N 0:=List.take_of_length_le (by show (if Rb MM N 0 then [([],0)] else []).length<=kk;split <;> simp <;> omega)
   refine loop_down (fun i σ H'=>∃ (v4:Option V) (pb:Addr) (bs:List V),σ=[some (.ref p),some (.ref pg),some (.int (kk:Int)),some (.ref pb),v4]/\H' pb=some (.lst bs)/\Bg H' z bs ((Pf MM N i).take kk)/\Kp [] H H') ⟨none,pb,bs,rfl,e1,by rw [p0];exact B1,k01⟩ ?_ ?_
   ·rintro i σ H2 hi ⟨v4,pb,bs,rfl,e2,B2,kp⟩
    have R2:=R.kp kp
    have asI:as[N - 1 - i]?=some (as.getD (N - 1 - i) 0):=by rw [List.getD_eq_getElem?_getD,List.getElem?_eq_getElem (by omega)];rfl
    simp! [R2.hl]
    refine ⟨.ref (as.getD (N - 1 - i) 0),by rw [show (N:Int) - 1 - (i:Int)=((N - 1 - i:Nat):Int) by omega];exact atI_nat (by rw [List.getElem?_map,asI];rfl),?_⟩
    have xl:∀ x ∈ (Pf MM N i).take kk,x.2 < MM.n/\x.1.length<=1000:=fun x hx=>by
     obtain ⟨h1,h2,h3,h4⟩:=Pf_mem MM N i x (List.mem_of_mem_take hx)
     exact ⟨by rw [h4];exact Mc.led_lt mok (by omega) h3,by omega⟩
    refine ⟨p,pm,py,pb,_,z,us,bs,mv,m,ys,(List.range MM.n).map (Rb MM (N - 1 - i)),(Pf MM N i).take kk,rfl,M.kp kp,zm,m4,e2,B2,fun x hx=>by rw [← Mn];exact xl x hx,by rw [List.length_take];omega,R2.at_ _ _ asI,by simp [Mn],fun q us' H3 hq e3 B3 k3=>?_⟩
    rw [hM,fext_congr mok fun x hx=>(xl x hx).1] at B3
    refine rSlU.lst e3 fun pc hpc=>?_
    rw [cut_to _ (by omega),Int.toNat_natCast]
    refine ⟨_,pc,⟨rfl,rfl⟩,_,jb,?_,(kp.trans k3).new hpc⟩
    rw [← Pf_take MM hi,show N - (i+1)=N - 1 - i by omega]
    exact Paired.takeP kk (B3.kp ((Kp.refl [] H3).new hpc))
   ·rintro σ H2 ⟨v4,pb,bs,rfl,e2,B2,kp⟩
    have bl:bs.length=((Pf MM N N).take kk).length:=Paired.length B2
    simp! [e2]
    intro D hD
    have nD:pb≠D:=je e2 hD
    have hD0:H D=none:=kp.free hD
    refine loop_list (xs:=bs) (fun i σ H'=>∃ (v0 v1:Option V),σ=[v0,v1]/\H' D=some (.lst ((((Pf MM N N).take kk).take i).map fun x=>V.str (tz z x.1)))/\H' pb=some (.lst bs)/\Bg H' z bs ((Pf MM N N).take kk)/\Kp [] H H') ⟨none,none,rfl,jb,by rw [jc nD];exact e2,B2.kp ((Kp.refl [] H2).new hD),kp.new hD⟩ ?_ ?_ ?_
    ·rintro i σ H' _ ⟨_,_,rfl,_,h,_⟩
     exact h
    ·rintro i x σ H3 hx ⟨v0,v1,rfl,e3,b3,B3,kp3⟩
     obtain ⟨y,a,hy,rfl,ha⟩:=B3.get hx
     have il:=(List.getElem?_eq_some_iff.mp hy).1
     rw [List.length_take] at il
     refine ⟨a,_,rfl,SqT.of ha,rfl,⟨_,_,rfl,⟨_,_,rfl,rfl,?_⟩⟩⟩
     have tk:((Pf MM N N).take kk).take (i+1)=((Pf MM N N).take kk).take i++[y]:=by rw [List.take_add_one,hy];rfl
     rw [tk,List.map_append]
     simp! [tEmit,e3]
     have k4:Kp [D] H3 (upd H3 D (.lst ((((Pf MM N N).take kk).take i).map (fun x=>V.str (tz z x.1))++[.str (tz z y.1)]))):=(Kp.refl [D] H3).set e3 (.inl (by simp))
     exact ⟨by rw [List.length_map,List.length_take,List.length_take];omega,_,_,⟨rfl,rfl⟩,by rw [jc nD];exact b3,B3.kp k4,kp3.set e3 (.inr hD0)⟩
    ·rintro σ H3 ⟨v0,v1,rfl,e3,b3,B3,kp3⟩
     rw [bl,List.take_length,List.map_take,show (fun x:List Nat × Nat=>V.str (tz z x.1))=(fun w=>V.str (tz z w)) ∘ Prod.fst from rfl,← List.map_map,Pf_end,← List.map_take] at e3
     exact k D H3 hD0 e3 kp3
  by_cases c:Rb MM N 0=true
  ·rw [if_pos c]
   refine ⟨by omega,fun t ht=>⟨by omega,fun pb hpb=>?_⟩⟩
   have kk1:Kp [] H (upd (upd H t (.tup [.str (Str.ofString ""),.int 0])) pb (.lst [.ref t])):=((Kp.refl [] H).new ht).new hpb
   rw [(R.kp kk1).hl]
   refine ⟨_,rfl,N,by rw [List.length_map];omega,by omega,main pb _ _ jb ?_ kk1⟩
   have:Pf MM N 0=[([],0)]:=if_pos c
   rw [this]
   refine .cons ⟨t,rfl,?_⟩ .nil
   rw [jc (fun z=>by rw [z,jb] at hpb;cases hpb),jb];rfl
  ·rw [if_neg c]
   refine ⟨by omega,fun pb hpb=>?_⟩
   have kk1:Kp [] H (upd H pb (.lst [])):=(Kp.refl [] H).new hpb
   rw [(R.kp kk1).hl]
   refine ⟨_,rfl,N,by rw [List.length_map];omega,by omega,main pb _ _ jb ?_ kk1⟩
   have:Pf MM N 0=[]:=if_neg c
   rw [this]
   exact .nil
end
theorem Wd_lean {M M':Mc} {h:Nat->Nat} (L:LeanM M M' h):∀ (n r:Nat),M.rc r->Wd M' n (h r)=Wd M n r
 | 0,r,hr=>by
  show (if M'.y (h r) then [[]] else [])=(if M.y r then [[]] else [])
  rw [L.ye r hr]
 | n+1,r,hr=>by
  show (List.range M'.m).flatMap _=(List.range M.m).flatMap _
  rw [L.mm]
  have key:∀ l:List Nat,(∀ a ∈ l,a < M.m)->(l.flatMap fun a=>(Wd M' n (M'.d (h r) a)).map (a::·))=l.flatMap fun a=>(Wd M n (M.d r a)).map (a::·):=fun l hl=>by
   induction l with
   | nil=>rfl
   | cons a l ih =>
    have am:=hl a (.head _)
    rw [List.flatMap_cons,List.flatMap_cons,ih fun b hb=>hl b (.tail _ hb),← L.st r a hr am,Wd_lean L n _ (Mc.rc_step hr am)]
  exact key _ fun a ha=>List.mem_range.mp ha
theorem Al_lean {M M':Mc} {h:Nat->Nat} (L:LeanM M M' h) (n:Nat):Al M' n=Al M n:=by
 have z:M.rc 0:=⟨[],by simp [Mc.ws],rfl⟩
 unfold Al
 congr 1
 funext i
 have:=Wd_lean L i 0 z
 rw [L.z] at this
 exact this
theorem Wd_none {M:Mc} {k j:Nat} (h:¬ M.A k) (l:k<=j):Wd M j 0=[]:=Classical.byContradiction fun c=>by
 obtain ⟨w,r,e⟩:=List.exists_cons_of_ne_nil c
 obtain ⟨h1,h2,h3,_⟩:=Wd_at M j 0 0 w (by rw [e];rfl)
 exact h (Mc.A_le (k:=j) ⟨w,h2,h1,[],by simp [Mc.ws],h3⟩ l)
theorem stB_rb {mv:List (List Nat)} {m:Nat} {ys:List Bool} (ok:MvOk mv m) (i:Nat):stB mv ((List.range mv.length).map (Rb (mcOf mv m ys) i))=(List.range mv.length).map (Rb (mcOf mv m ys) (i+1)):=by
 unfold stB
 refine List.ext_getElem (by simp) fun r h1 h2=>?_
 rw [List.length_map] at h1
 rw [List.getElem_map,List.getElem_map,List.getElem_range]
 have e:mv[r]=mv.getD r []:=by rw [List.getD_eq_getElem?_getD,List.getElem?_eq_getElem h1];rfl
 have rl:=ok.ln _ (List.getElem_mem h1)
 have row:mv[r]=(List.range m).map (dM mv r):=by
  refine List.ext_getElem (by simpa using rl) fun a q1 q2=>?_
  rw [List.getElem_map,List.getElem_range]
  have:=(ok.at_ h1 (show a < m by omega)).1
  rw [← e,List.getElem?_eq_getElem q1] at this
  exact Option.some.inj this
 rw [row,List.any_map]
 show _=(List.range m).any _
 rw [Bool.eq_iff_iff,List.any_eq_true,List.any_eq_true]
 have g:∀ a,a ∈ List.range m->((List.range mv.length).map (Rb (mcOf mv m ys) i)).getD (dM mv r a) false=Rb (mcOf mv m ys) i (dM mv r a):=fun a ha=>rb_get (M:=mcOf mv m ys) (ok.at_ h1 (List.mem_range.mp ha)).2
 exact ⟨fun ⟨a,ha,q⟩=>⟨a,ha,(g a ha).symm.trans q⟩,fun ⟨a,ha,q⟩=>⟨a,ha,(g a ha).trans q⟩⟩
theorem RG.set {H:Hp} {pg pt:Addr} {as:List Addr} {M:Mc} {o:HO} (h:RG H pg as M) (n1:pg≠pt) (n2:∀ a ∈ as,a≠pt):RG (upd H pt o) pg as M :=
 ⟨by rw [jc n1];exact h.hl,fun i a e=>by rw [jc (n2 a (List.mem_of_getElem? e))];exact h.at_ i a e⟩
theorem RG.snoc {H:Hp} {pg a:Addr} {as:List Addr} {M:Mc} (h:RG H pg as M) (n2:∀ a ∈ as,a≠pg) (n3:a≠pg) (ha:seqOf (H a)=some (((List.range M.n).map (Rb M as.length)).map V.bl)):RG (upd H pg (.lst (as.map V.ref++[.ref a]))) pg (as++[a]) M:=by
 refine ⟨by rw [jb,List.map_append];rfl,fun i b e=>?_⟩
 by_cases c:i < as.length
 ·rw [List.getElem?_append_left c] at e
  rw [jc (n2 b (List.mem_of_getElem? e))];exact h.at_ i b e
 ·rw [List.getElem?_append_right (by omega)] at e
  have:i=as.length:=by have:=(List.getElem?_eq_some_iff.mp e).1;simp at this;omega
  subst this
  simp at e
  subst e
  rw [jc n3];exact ha
def txL (z:Str) (l:List (List Nat)):List V:=l.map fun w=>V.str (tz z w)
def spFT (Pt:Addr):Sp:=fun vs H Q _=>∃ (p pm py:Addr) (z:Str) (us:List V) (mv:List (List Nat)) (m:Nat) (ys:List Bool) (k:Nat),vs=[.ref p,.int (k:Int)]/\MH H p z pm py us mv m ys/\z.length=m/\m<=4/\mv.length<=60/\k<=900/\TabOk H Pt LQ /\
 ((∀ j,(mcOf mv m ys).A j)->k<=(Al (mcOf mv m ys) 61).length) /\
 ∀ (q:Addr) (H':Hp),H q=none->H' q=some (.lst (txL z ((Al (mcOf mv m ys) 61).take k)))->Kp [Pt] H H'->TabOk H' Pt LQ->Q (.ref q) H'
structure TFT (mg:Str->Option Value) (fl fg fs fo:Addr):Prop where
 n_len:mg "len"=none
 m1z:mg "least"=some (.ref fl)
 m18z:mg "longest"=some (.ref fg)
 m22z:mg "texts_with_signs"=some (.ref fs)
 m21z:mg "one_sign_ahead"=some (.ref fo)
section
variable {P:Program} {w:World} {K:PySem.W.Frag} {mg:Str->Option Value} {base:Heap}
abbrev yy:Stmt:=top 14
theorem zk:FnScope ["machine","many","lean","end","reaching","texts"] ["machine","many"] (jg yy):=⟨rfl,rfl,rfl,by decide +kernel,rfl,by decide +kernel,by decide +kernel⟩
theorem ok_first_texts {f fl fg fs fo Pt:Addr} {fd fdl fdg fds fdo:FuncData} (F:Fun K "first_texts" "first_texts" yy f fd) (T:TFT mg fl fg fs fo)
  (F1z:Fun K "least" "least" jaa fl fdl) (b1z:Binds K fdl ["machine"] []) (G1z:FnOk P w K mg base CX0 6 fl fdl ["machine"] (spLe Pt))
  (F18z:Fun K "longest" "longest" y8 fg fdg) (b18z:Binds K fdg ["machine"] []) (G18z:FnOk P w K mg base CX0 7 fg fdg ["machine"] (spLg Pt))
  (F22z:Fun K "texts_with_signs" "texts_with_signs" ko fs fds) (b22z:Binds K fds ["machine","reaching","many"] []) (G22z:FnOk P w K mg base CX0 2 fs fds ["machine","reaching","many"] spTS)
  (F21z:Fun K "one_sign_ahead" "one_sign_ahead" ku fo fdo) (b21z:Binds K fdo ["moves","reaches"] []) (G21z:FnOk P w K mg base CX0 1 fo fdo ["moves","reaches"] spOA):FnOk P w K mg base CX0 8 f fd ["machine","many"] (spFT Pt):=by
 refine F.ok zk (fun vs H Q E h=>?_) (fun cdv A outer s H vs Q E hr h=>?_)
 ·obtain ⟨p,pm,py,z,us,mv,m,ys,k,rfl,_⟩:=h
  rfl
 ·obtain ⟨p,pm,py,z,us,mv,m,ys,kk,rfl,M,zm,m4,n60,k9,tb,inf,k⟩:=h
  have hu:=hr.units
  have hsz:sizeLine=16777216:=PySem.sizeLine_eq
  refine exQ (jf (jj (i:=2) zk.nd rfl (by first | exact Or.inl rfl | exact Or.inr rfl) (jq G1z (hr.mono (by decide)) rfl T.m1z F1z.kp b1z .nil j9 (ja (qpv 0) jd)))
  (jf (jj (i:=3) zk.nd rfl (by first | exact Or.inl rfl | exact Or.inr rfl) (jq G18z (hr.mono (by decide)) rfl T.m18z F18z.kp b18z .nil j9 (ja (qpv 2) jd)))
  (jf (jj (i:=4) zk.nd rfl (by first | exact Or.inl rfl | exact Or.inr rfl) (kf (ja (jn ix_U (qpv 2) jh (fun _ _=>rfl)) jd)))
  (jf (jj (i:=5) zk.nd rfl (by first | exact Or.inl rfl | exact Or.inr rfl) (kf jd))
  (jf (jav PassesOwn.never (QW.pt (jce (j4 ja9 (jo jr (by rfl) T.n_len jx (ja (qpv 5) jd)) (qpv 1) (j8 _)) (jb8 (QW.pt (jaq (j4 op_isN (qpv 3) jcd (j8 _)) (jam (j4 op_leU (jt jay (jo jr (by rfl) T.n_len jx (ja (qpv 4) jd)) jh) (qpv 3) (j8 _)))))))) (jf (km (yi PySem.F.slot_list_extend PySem.F.type_list_extend ja0 (qpv 5) (ja (jq G22z (hr.mono (by decide)) rfl T.m22z F22z.kp b22z .nil j9 (ja (qpv 2) (ja (qpv 4) (ja (jt jay (qpv 1) (jo jr (by rfl) T.n_len jx (ja (qpv 5) jd))) jd)))) jd) mono_var))
  (ji (km (yi PySem.F.slot_list_append PySem.F.type_list_append ya (qpv 4) (ja (jq G21z (hr.mono (by decide)) rfl T.m21z F21z.kp b21z .nil j9 (ja (jn ix_U (qpv 2) jh (fun _ _=>rfl)) (ja (jn ix_U (qpv 4) (jbb un_neg jh) (fun _ _=>rfl)) jd))) jd) mono_var)))))
  (ji (jz (qpv 5)))))))) ?_
  simp!
  refine ⟨p,pm,py,z,us,mv,m,ys,rfl,M.hp,M.hm,M.rw,M.ok,M.hy,M.yl,M.n1,M.n9,M.m9,tb,fun q a1 a2 us' mv' ys' rs G fr H1 ls eq ea1 R1 ea2 k1 tb1=>?_⟩
  obtain ⟨le,ok',yl'⟩:=ls.lean M.ok M.n1
  have n1':1<=mv'.length:=le.n1
  have n9':mv'.length<=60:=Nat.le_trans le.le n60
  have M':MH H1 q z a1 a2 us' mv' m ys':=⟨eq,ea1,R1,ok',ea2,yl',n1',by omega,M.m9⟩
  refine ⟨q,a1,a2,z,us',mv',m,ys',rfl,M',tb1,fun mv2 ys2 hh v H2 L2' ok2 res k2 tb2=>?_⟩
  have av:=res.av L2' ok2
  have hA:=le.A
  have hAl:=Al_lean le
  have bnd:∀ L:Nat,(mcOf mv' m ys').A L->¬ (mcOf mv' m ys').A (L+1)->L < 60:=fun L h1 h2=>by
   have:=Mc.A_bound (mcOf_ok (ys:=ys') ok') n1' h1 h2
   have:L < mv'.length:=this
   omega
  have inf':(∀ j,(mcOf mv' m ys').A j)->kk<=(Al (mcOf mv' m ys') 61).length:=fun h=>by rw [hAl];exact inf fun j=>(hA j).mp (h j)
  rw [← hAl] at k
  have M2:=M'.kp k2
  have k02:Kp [Pt] H H2:=k1.trans k2
  generalize hM:mcOf mv' m ys'=MM at *
  have Mn:MM.n=mv'.length:=by rw [← hM];rfl
  dsimp only
  rw [rIxU_ref,M2.hp]
  refine ⟨_,rfl,_,atI_2 _ _ _ _,by omega,fun pg hpg=>⟨by omega,fun pt hpt=>?_⟩⟩
  have npt:pg≠pt:=je jb hpt
  have kA:Kp [] H2 (upd (upd H2 pg (.lst [.ref a2])) pt (.lst [])):=((Kp.refl [] H2).new hpg).new hpt
  have hpt2:H2 pt=none:=((Kp.refl [] H2).new hpg).free hpt
  have ng:a2≠pg:=je M2.hy hpg
  have nt:a2≠pt:=je M2.hy hpt2
  have R0:RG (upd (upd H2 pg (.lst [.ref a2])) pt (.lst [])) pg [a2] MM:=by
   refine ⟨by rw [jc npt,jb];rfl,fun i a e=>?_⟩
   have i0:i=0:=by have:=(List.getElem?_eq_some_iff.mp e).1;simpa using this
   subst i0
   simp at e
   subst e
   rw [jc nt,jc ng,M2.hy]
   show some _=_
   have:ys'=(List.range MM.n).map (Rb MM 0):=by
    rw [← hM]
    refine List.ext_getElem (by simpa [mcOf] using yl') fun i h1 h2=>?_
    rw [List.getElem_map,List.getElem_range]
    show ys'[i]=ys'.getD i false
    rw [List.getD_eq_getElem?_getD,List.getElem?_eq_getElem h1];rfl
   rw [← this]
  refine ⟨fun μ σ H'=>∃ (n:Nat) (as:List Addr),σ=[some (.ref p),some (.int (kk:Int)),some (.ref q),some v,some (.ref pg),some (.ref pt)]/\RG H' pg as MM/\as.length=n+1/\H' pt=some (.lst (txL z ((Al MM n).take kk)))/\n<=61/\(∀ a ∈ as,a≠pg/\a≠pt)/\Kp [] H2 H'/\μ=61 - n,⟨_,0,[a2],rfl,R0,rfl,by rw [jb];simp [Al,txL],by omega,fun a ha=>by cases List.mem_singleton.mp ha;exact ⟨ng,nt⟩,kA,rfl⟩,?_⟩
  rintro μ σ H3 ⟨n,as,rfl,R3,al,e3,n61,nas,k3,rfl⟩
  have M3:=M2.kp k3
  have out:∀ H',H' pt=some (.lst (txL z ((Al MM n).take kk)))->Kp [] H2 H'->(Al MM n).take kk=(Al MM 61).take kk->Q (.ref pt) H':=fun H' e' k' h=>by
   rw [h] at e'
   exact k pt H' (Classical.byContradiction fun c=>by
    cases e:H pt with
    | none=>exact c e
    | some o =>
     by_cases hP:pt=Pt
     ·obtain ⟨tps,hPt,_⟩:=id (tb2.kp k' (by simp) (by simp))
      rw [← hP,e'] at hPt;cases hPt
     ·have:=k02.old _ _ e (by simpa using hP)
      rw [this] at hpt2;cases hpt2) e' (k02.trans (k'.mono (by simp))) (tb2.kp k' (by simp) (by simp))
  have tl:(txL z ((Al MM n).take kk)).length=((Al MM n).take kk).length:=by simp [txL]
  have asn:as[n]?=some (as.getD n 0):=by rw [List.getD_eq_getElem?_getD,List.getElem?_eq_getElem (by omega)];rfl
  have st:∀ (σ':L2.St) (H':Hp),(σ'=[some (.ref p),some (.int (kk:Int)),some (.ref q),some v,some (.ref pg),some (.ref pt)]/\n < 61/\∃ as:List Addr,RG H' pg as MM/\as.length=n+1+1/\H' pt=some (.lst (txL z ((Al MM (n+1)).take kk)))/\(∀ a ∈ as,a≠pg/\a≠pt)/\Kp [] H2 H') ->
    ∃ m',m' < 61 - n/\σ'=[some (.ref p),some (.int (kk:Int)),some (.ref q),some v,some (.ref pg),some (.ref pt)]/\∃ (x:Nat) (x_1:List Addr),RG H' pg x_1 MM/\x_1.length=x+1/\H' pt=some (HO.lst (txL z ((Al MM x).take kk)))/\x<=61/\(∀ (a:Addr),a ∈ x_1->a≠pg/\a≠pt)/\Kp [] H2 H'/\m'=61 - x:=by
   rintro σ' H' ⟨rfl,nn,as',r1,r2,r3,r4,r5⟩
   exact ⟨61 - (n+1),by omega,rfl,n+1,as',r1,r2,r3,by omega,r4,r5,rfl⟩
  have body:n < 61->(txL z ((Al MM n).take kk)).length < kk->spTS [.ref q,.ref pg,.int ((kk:Int) - ((txL z ((Al MM n).take kk)).length:Nat))] H3 (fun x H1=>rExtendU (.ref pt) [x] H1 fun x H1=>(lstOf (H1 pg)).isSome=true/\∃ xs,seqOf (H1 q)=some xs/\∃ v_1,atI xs 1=some v_1/\∃ xs,seqOf (H1 pg)=some xs/\∃ v_2,atI xs (-1)=some v_2/\spOA [v_1,v_2] H1 (fun x H1=>∃ xs,lstOf (H1 pg)=some xs/\xs.length < sizeLine /\
    ([some (.ref p),some (.int (kk:Int)),some (.ref q),some v,some (.ref pg),some (.ref pt)]=[some (.ref p),some (.int (kk:Int)),some (.ref q),some v,some (.ref pg),some (.ref pt)]/\n < 61/\∃ as:List Addr,RG (upd H1 pg (.lst (xs++[x]))) pg as MM/\as.length=n+1+1/\(upd H1 pg (.lst (xs++[x]))) pt=some (.lst (txL z ((Al MM (n+1)).take kk)))/\(∀ a ∈ as,a≠pg/\a≠pt)/\Kp [] H2 (upd H1 pg (.lst (xs++[x]))))) E0) E0:=by
   intro nn hl
   rw [tl] at hl ⊢
   have R3':=R3
   rw [← hM] at R3'
   refine ⟨q,a1,a2,pg,z,us',mv',m,ys',as,kk - ((Al MM n).take kk).length,n,by rw [Int.ofNat_sub (Nat.le_of_lt hl)],M3,zm,m4,R3',al,by omega,by omega,by omega,fun pq H4 hq4 e4 k4=>?_⟩
   rw [hM] at e4
   have e3':=k4.old _ _ e3 (by simp)
   have R4:=R3.kp k4
   have k24:=k3.trans k4
   have M4:=M2.kp k24
   have nqt:pt≠pq:=je e3 hq4
   rw [rExtendU_ref,e3',e4]
   refine ⟨_,rfl,_,rfl,by simp only [txL,List.length_map,List.length_take];omega,?_⟩
   have e5:(txL z ((Al MM n).take kk))++(((Wd MM n 0).take (kk - ((Al MM n).take kk).length)).map fun w=>V.str (tz z w))=txL z ((Al MM (n+1)).take kk):=by
    unfold txL
    rw [← List.map_append,take_more hl,Al_succ]
   rw [e5]
   have R5:=R4.set (o:=.lst (txL z ((Al MM (n+1)).take kk))) npt fun a ha=>(nas a ha).2
   have k25:Kp [] H2 (upd H4 pt (.lst (txL z ((Al MM (n+1)).take kk)))):=k24.set e3' (.inr hpt2)
   have t5:upd H4 pt (.lst (txL z ((Al MM (n+1)).take kk))) pt=some (.lst (txL z ((Al MM (n+1)).take kk))):=jb
   generalize upd H4 pt (.lst (txL z ((Al MM (n+1)).take kk)))=H5 at R5 k25 t5 ⊢
   have M5:=M2.kp k25
   rw [R5.hl,M5.hp]
   refine ⟨rfl,_,rfl,.ref a1,atI_1 _ _ _,_,rfl,.ref (as.getD n 0),atI_m1 (by rw [List.length_map,List.getElem?_map,show as.length - 1=n by omega,asn];rfl),?_⟩
   have at5:=R5.at_ n _ asn
   rw [Mn] at at5
   refine ⟨a1,_,us',mv',m,(List.range mv'.length).map (Rb MM n),rfl,M5.hm,M5.rw,M5.ok,by omega,by omega,at5,by simp,fun qa H6 hqa e6 k6=>?_⟩
   rw [← hM,stB_rb ok',hM,← Mn] at e6
   have R6:=R5.kp k6
   have t6:=k6.old _ _ t5 (by simp)
   have nqg:qa≠pg:=(je R5.hl hqa).symm
   have nqp:qa≠pt:=(je t5 hqa).symm
   rw [R6.hl]
   refine ⟨_,rfl,by rw [List.length_map];omega,rfl,nn,as++[qa],R6.snoc (fun a ha=>(nas a ha).1) nqg (by rw [e6,al];rfl),by rw [List.length_append,al];rfl,by rw [jc npt.symm];exact t6,fun a ha=>?_,(k25.trans k6).set R6.hl (.inr hpg)⟩
   rcases List.mem_append.mp ha with h | h
   ·exact nas a h
   ·cases List.mem_singleton.mp h;exact ⟨nqg,nqp⟩
  have ed:kk<=((Al MM n).take kk).length->(Al MM n).take kk=(Al MM 61).take kk:=fun h=>by
   obtain ⟨s',h1,_⟩:=Al_add MM n (61 - n)
   rw [show n+(61 - n)=61 by omega] at h1
   rw [h1,take_full h]
  have ee:(∀ j,n<=j->Wd MM j 0=[])->(Al MM n).take kk=(Al MM 61).take kk:=fun h=>by
   obtain ⟨s',h1,h2⟩:=Al_add MM n (61 - n)
   rw [show n+(61 - n)=61 by omega,h2 h,List.append_nil] at h1
   rw [h1]
  simp! [e3,R3.hl]
  by_cases c:(txL z ((Al MM n).take kk)).length < kk
  ·rw [if_pos (by omega)]
   rcases av with ⟨na,rfl⟩ | ⟨rfl,a⟩ | ⟨L,rfl,a,b⟩
   ·rw [if_neg (by simp),rLeU_int]
    refine ⟨_,rfl,?_⟩
    rw [if_neg (by simp;omega)]
    exact out H3 e3 k3 (ee fun j _=>Wd_none na (Nat.zero_le _))
   ·rw [if_pos rfl]
    refine ⟨_,st,body (Classical.byContradiction fun q=>?_) c⟩
    have n1:n=61:=by omega
    have:=inf' a
    rw [tl,List.length_take,n1] at c
    omega
   ·rw [if_neg (by simp),rLeU_int]
    refine ⟨_,rfl,?_⟩
    by_cases nl:n<=L
    ·rw [if_pos (by simp [al];omega)]
     refine ⟨_,st,?_⟩
     rw [e3]
     have:=bnd L a b
     exact ⟨rfl,_,rfl,body (by omega) c⟩
    ·rw [if_neg (by simp [al];omega)]
     exact out H3 e3 k3 (ee fun j hj=>Wd_none b (by omega))
  ·rw [if_neg (by omega)]
   exact out H3 e3 k3 (ed (by rw [tl] at c;omega))
end
theorem rep_flat (y:V) (f:Bool):∀ m:Nat,(List.replicate m [V.bl f]).flatten=(List.replicate m f).map V.bl
 | 0=>rfl
 | m+1=>by rw [List.replicate_succ,List.flatten_cons,rep_flat y f m,List.replicate_succ];rfl
theorem to_ints:∀ l:List Int,tupOnlys (l.map PyData.int)=true
 | []=>rfl
 | _::r=>by simp [tupOnlys,tupOnly,to_ints r]
def rowD (r:List Int):PyData:=.tuple (r.map PyData.int)
theorem to_rows:∀ l:List (List Int),tupOnlys (l.map rowD)=true
 | []=>rfl
 | _::r=>by simp [tupOnlys,tupOnly,rowD,to_ints,to_rows r]
structure Mach where
 z:Str
 mv:List (List Int)
 ye:List Bool
def Mach.D (m:Mach):PyData:=.tuple [.str m.z,.tuple (m.mv.map rowD),.tuple (m.ye.map PyData.bool)]
structure Mach.Ok (m:Mach) (most:Nat):Prop where
 let4:Letters m.z 4
 n1:1<=m.mv.length
 nh:m.mv.length<=most
 yl:m.ye.length=m.mv.length
 row:∀ r ∈ m.mv,r.length=m.z.length/\∀ t ∈ r,0<=t/\t < (m.mv.length:Int)
def spMachine:Sp:=fun vs H Q _=>∃ (b:Addr) (z:Str) (n:Nat) (o:HO),vs=[.ref b,.str z,.int (n:Int)]/\H b=some o/\BoxO o/\Letters z 4/\1<=n/\n<=1000 /\
 ∀ p m o' H',m.z=z->Mach.Ok m n->BoxO o'->H' b=some o'->Kp [b] H H'->Rep H' (.ref p) m.D->Q (.ref p) H'
structure TMachine (mg:Str->Option Value) (ft:Addr):Prop where
 n_len:mg "len"=none
 n_max:mg "max"=none
 n_range:mg "range"=none
 n_tuple:mg "tuple"=none
 m0z:mg "_law_take"=some (.ref ft)
section
variable {P:Program} {w:World} {K:PySem.W.Frag} {mg:Str->Option Value} {base:Heap}
abbrev yf:Stmt:=top 25
theorem jy:FnScope ["_law_box_here","_law_letters_here","_law_most","_law_many","_law_kind","_law_turned","_law_goals","_law_moves","_law_room","_law_row","_law_k","_law_goal","_law_yes"] ["_law_box_here","_law_letters_here","_law_most"] (jg yf):=⟨rfl,rfl,rfl,by decide +kernel,rfl,by decide +kernel,by decide +kernel⟩
theorem ok__law_machine {f ft:Addr} {fd fdt:FuncData} (F:Fun K "_law_machine" "_law_machine" yf f fd) (T:TMachine mg ft) (F0z:Fun K "_law_take" "_law_take" yt ft fdt) (b0z:Binds K fdt ["_law_box_here","_law_wide"] [])
  (G0z:FnOk P w K mg base CX0 1 ft fdt ["_law_box_here","_law_wide"] spTake):FnOk P w K mg base CX0 2 f fd ["_law_box_here","_law_letters_here","_law_most"] spMachine:=by
 refine F.ok jy (fun vs H Q E h=>?_) (fun cdv A outer s H vs Q E hr h=>?_)
 ·obtain ⟨b,z,n,o,rfl,_⟩:=h
  rfl
 ·obtain ⟨b,z,n,o,rfl,hb,ho,hz,n1,nh,k⟩:=h
  have hu:=hr.units
  have hsz:sizeLine=16777216:=PySem.sizeLine_eq
  have zl:=hz.lo
  have zh:=hz.hi
  refine ⟨_,(QSs.h (jf (jj (i:=3) jy.nd rfl (by first | exact Or.inl rfl | exact Or.inr rfl) (jt yp jh (jq G0z (hr.mono (by decide)) rfl T.m0z F0z.kp b0z .nil j9 (ja (qpv 0) (ja (qpv 2) jd)))))
  (jf (jj (i:=4) jy.nd rfl (by first | exact Or.inl rfl | exact Or.inr rfl) (jq G0z (hr.mono (by decide)) rfl T.m0z F0z.kp b0z .nil j9 (ja (qpv 0) (ja jh jd))))
  (jf (jj (i:=5) jy.nd rfl (by first | exact Or.inl rfl | exact Or.inr rfl) (jq G0z (hr.mono (by decide)) rfl T.m0z F0z.kp b0z .nil j9 (ja (qpv 0) (ja (jo jr (by rfl) T.n_len jx (ja (qpv 1) jd)) jd))))
  (jf (jag (i:=6) jy.nd rfl (by first | exact Or.inl rfl | exact Or.inr rfl) rfl (compOk_of (sc:=jg yf) (N:=["_law_box_here","_law_letters_here","_law_most","_law_many","_law_kind","_law_turned","_law_goals","_law_moves","_law_room","_law_row","_law_k","_law_goal","_law_yes"]) (Nc:=["_law_letter","_law_box_here","_law_many"]) (js:=[none,some 0,some 3]) (by decide +kernel)) (j7 (K:=K) (qpv 1) rfl) (fun _ _ _ _=>(jm (i:=0) (show List.Nodup [("_law_letter":Str),("_law_box_here":Str),("_law_many":Str)] from by decide +kernel) rfl (by first | exact Or.inl rfl | exact Or.inr rfl))) (fun _ _ _ _=>(jq G0z (hr.mono (by decide)) rfl T.m0z F0z.kp b0z .nil j9 (ja (qpv 1) (ja (qpv 2) jd)))))
  (jf (jj (i:=7) jy.nd rfl (by first | exact Or.inl rfl | exact Or.inr rfl) (kf jd))
  (jf (kg PassesOwn.never rfl (yd rfl T.n_range (ja (qpv 3) jd)) (jm (i:=8) jy.nd rfl (by first | exact Or.inl rfl | exact Or.inr rfl)) (jf (jj (i:=9) jy.nd rfl (by first | exact Or.inl rfl | exact Or.inr rfl) (kf jd))
  (jf (kg PassesOwn.never rfl (yd rfl T.n_range (ja (jo jr (by rfl) T.n_len jx (ja (qpv 1) jd)) jd)) (jm (i:=10) jy.nd rfl (by first | exact Or.inl rfl | exact Or.inr rfl)) (jf (jj (i:=11) jy.nd rfl (by first | exact Or.inl rfl | exact Or.inr rfl) (jq G0z (hr.mono (by decide)) rfl T.m0z F0z.kp b0z .nil j9 (ja (qpv 0) (ja (qpv 3) jd))))
  (jf (yb (QW.pt (jaq (j4 (yv hu) (qpv 4) jh (j8 _)) (jam (j4 (yv hu) (qpv 4) jh (j8 _))))) (ji (jj (i:=11) jy.nd rfl (by first | exact Or.inl rfl | exact Or.inr rfl) (jo (jby rfl) (by rfl) T.n_max jb4 (ja (qpv 8) (ja (qpv 11) jd))))) ke)
  (jf (yb (j4 (yv hu) (qpv 4) jh (j8 _)) (ji (jj (i:=11) jy.nd rfl (by first | exact Or.inl rfl | exact Or.inr rfl) (jn ix_U (kf (ja (qpv 8) (ja (jn ix_U (qpv 6) (qpv 10) (fun _ _=>rfl)) jd))) (jq G0z (hr.mono (by decide)) rfl T.m0z F0z.kp b0z .nil j9 (ja (qpv 0) (ja jh jd))) (fun _ _=>rfl)))) ke)
  (jf (yb (QW.pt (jce (j4 (yv hu) (qpv 4) jh (j8 _)) (jb8 (j4 (yv hu) (qpv 10) (qpv 5) (j8 _))))) (ji (jj (i:=11) jy.nd rfl (by first | exact Or.inl rfl | exact Or.inr rfl) (jt jac (jt yp (qpv 8) jh) (qpv 3)))) ke)
  (ji (km (yi PySem.F.slot_list_append PySem.F.type_list_append ya (qpv 9) (ja (qpv 11) jd) mono_var))))))))
  (ji (km (yi PySem.F.slot_list_append PySem.F.type_list_append ya (qpv 7) (ja (j6 yz (by rfl) T.n_tuple zu (ja (qpv 9) jd)) jd) mono_var))))))
  (jf (jag (i:=12) jy.nd rfl (by first | exact Or.inl rfl | exact Or.inr rfl) rfl (compOk_of (sc:=jg yf) (N:=["_law_box_here","_law_letters_here","_law_most","_law_many","_law_kind","_law_turned","_law_goals","_law_moves","_law_room","_law_row","_law_k","_law_goal","_law_yes"]) (Nc:=["_law_room","_law_box_here"]) (js:=[none,some 0]) (by decide +kernel)) (yd rfl T.n_range (ja (qpv 3) jd)) (fun _ _ _ _=>(jm (i:=0) (show List.Nodup [("_law_room":Str),("_law_box_here":Str)] from by decide +kernel) rfl (by first | exact Or.inl rfl | exact Or.inr rfl))) (fun _ _ _ _=>(zx (yv hu) (jq G0z (hr.mono (by decide)) rfl T.m0z F0z.kp b0z .nil j9 (ja (qpv 1) (ja jh jd))) jh (j8 _))))
  (jf (yb (j4 (yv hu) (jq G0z (hr.mono (by decide)) rfl T.m0z F0z.kp b0z .nil j9 (ja (qpv 0) (ja jh jd))) jh (j8 _)) (ji (jj (i:=12) jy.nd rfl (by first | exact Or.inl rfl | exact Or.inr rfl) (jt zj (kf (ja (jn ix_U (qpv 12) jh (fun _ _=>rfl)) jd)) (qpv 3)))) ke)
  (ji (jz (y9 (ja (qpv 1) (ja (j6 yz (by rfl) T.n_tuple zu (ja (qpv 7) jd)) (ja (j6 yz (by rfl) T.n_tuple zu (ja (qpv 12) jd)) jd))))))))))))))),?_⟩
  simp!
  refine ⟨b,(n:Int),o,rfl,hb,ho,by omega,by omega,fun d o1 d0 d1 ho1=>?_⟩
  obtain ⟨dn,rfl⟩:∃ dn:Nat,d=(dn:Int):=⟨d.toNat,by omega⟩
  have eN:(1+(dn:Int))=((dn+1:Nat):Int):=by omega
  have ex:∀ {H':Hp} {o':HO},BoxO o'->∃ xs,o'=.lst xs:=fun h=>let ⟨_,_,e,_⟩:=h;⟨_,e⟩
  obtain ⟨xs0,rfl⟩:=ex (H':=H) ho
  obtain ⟨xs1,rfl⟩:=ex (H':=H) ho1
  have kp1:Kp [b] H (upd H b (.lst xs1)):=(Kp.refl [b] H).set hb (.inl (by simp))
  rw [rAddW_int,eN]
  generalize hN:dn+1=N
  have N1:1<=N:=by omega
  have Nh:N<=n:=by omega
  simp!
  refine ⟨b,5,_,rfl,jb,ho1,by omega,by omega,fun kd o2 kd0 kd5 ho2=>?_⟩
  simp!
  refine ⟨by omega,b,(z.length:Int),_,rfl,jb,ho2,by omega,by omega,fun tn o3 tn0 tn1 ho3=>?_⟩
  simp!
  intro D hD
  obtain ⟨xs3,rfl⟩:=ex (H':=H) ho3
  have kp3:Kp [b] H (upd H b (.lst xs3)):=(Kp.refl [b] H).set hb (.inl (by simp))
  have nbD:b≠D:=je jb hD
  have hD0:H D=none:=kp3.free hD
  refine loop_str (fun i σ' H'=>∃ (v:Option V) (gs:List Int) (o':HO),σ'=[v,some (.ref b),some (.int (N:Int))]/\H' b=some o'/\BoxO o'/\H' D=some (.lst (gs.map V.int))/\gs.length=i/\(∀ t ∈ gs,0<=t/\t < (N:Int))/\Kp [b] H H') ?_ ?_ ?_
  ·exact ⟨none,[],_,rfl,by rw [jc nbD,jb],ho3,by rw [jb];rfl,rfl,(fun t ht=>nomatch ht),kp3.new hD⟩
  ·rintro i c σ' H' hc ⟨v,gs,o',rfl,hb',ho',hD',hl,hg,kp⟩
   have hil:i < z.length:=by
    have:=(List.getElem?_eq_some_iff.mp hc).1
    simpa [Str.length] using this
   obtain ⟨xs',rfl⟩:=ex (H':=H) ho'
   simp! [tEmit]
   refine ⟨b,(N:Int),_,rfl,hb',ho',by omega,by omega,fun e o4 e0 e1 ho4=>?_⟩
   have hD4:upd H' b o4 D=some (.lst (gs.map V.int)):=by rw [jc nbD.symm];exact hD'
   simp! [hD4,List.length_map]
   refine ⟨by omega,gs++[e],o4,by rw [jc nbD,jb],ho4,by simp,by simp [hl],fun t ht=>?_,(kp.set hb' (.inl (by simp))).set hD4 (.inr hD0)⟩
   rcases List.mem_append.mp ht with ht | ht
   ·exact hg t ht
   ·simp at ht;subst ht;exact ⟨e0,e1⟩
  ·rintro σ' H' ⟨v,gs,o',rfl,hb',ho',hD',hl,hg,kp⟩
   refine ⟨by omega,fun p hp=>⟨by omega,by omega,?_⟩⟩
   rw [Int.toNat_natCast]
   have nbp:b≠p:=je hb' hp
   have nDp:D≠p:=je hD' hp
   have hp0:H p=none:=kp.free hp
   refine loop_range (fun i σ H'=>∃ (v8 v9 v10 v11 v12:Option V) (rs:List V) (rows:List (List Int)) (o':HO),σ=[some (.ref b),some (.str z),some (.int (n:Int)),some (.int (N:Int)),some (.int kd),some (.int tn),some (.ref D),some (.ref p),v8,v9,v10,v11,v12]/\H' b=some o'/\BoxO o' /\
    H' D=some (.lst (gs.map V.int))/\H' p=some (.lst rs)/\Reps H' rs (rows.map rowD)/\rows.length=i/\(∀ r ∈ rows,r.length=z.length/\∀ t ∈ r,0<=t/\t < (N:Int))/\Kp [b] H H') ?_ ?_ ?_
   ·refine ⟨none,none,none,none,none,[],[],o',rfl,by rw [jc nbp];exact hb',ho',by rw [jc nDp];exact hD',jb,by simp [Reps],rfl,(fun r hr=>nomatch hr),kp.new hp⟩
   ·rintro i σ H1 hi ⟨v8,v9,v10,v11,v12,rs,rows,o1',rfl,hb1,ho1',hD1,hp1,hrs,hrl,hrg,kp1'⟩
    simp!
    refine ⟨by omega,fun q hq=>⟨by omega,by omega,by omega,?_⟩⟩
    rw [Int.toNat_natCast]
    have nbq:b≠q:=je hb1 hq
    have nDq:D≠q:=je hD1 hq
    have npq:p≠q:=je hp1 hq
    have hq0:H q=none:=kp1'.free hq
    have ei:(0:Int)+(i:Int)=(i:Int):=by omega
    refine loop_range (fun j σ H'=>∃ (v10 v11:Option V) (row:List Int) (o':HO),σ=[some (.ref b),some (.str z),some (.int (n:Int)),some (.int (N:Int)),some (.int kd),some (.int tn),some (.ref D),some (.ref p),some (.int (0+(i:Int))),some (.ref q),v10,v11,v12]/\H' b=some o'/\BoxO o' /\
     H' D=some (.lst (gs.map V.int))/\H' p=some (.lst rs)/\Reps H' rs (rows.map rowD)/\H' q=some (.lst (row.map V.int))/\row.length=j/\(∀ t ∈ row,0<=t/\t < (N:Int))/\Kp [b] H H') ?_ ?_ ?_
    ·exact ⟨v10,v11,[],o1',rfl,by rw [jc nbq];exact hb1,ho1',by rw [jc nDq];exact hD1,by rw [jc npq];exact hp1,Reps.kp ((Kp.refl [] H1).new hq) (to_rows rows) hrs,jb,rfl,(fun t ht=>nomatch ht),kp1'.new hq⟩
    ·rintro j σ H2 hj ⟨v10,v11,row,o2',rfl,hb2,ho2',hD2,hp2,hrs2,hq2,hrow,hgood,kp2⟩
     obtain ⟨xs2,rfl⟩:=ex (H':=H) ho2'
     have fin:∀ (g:Int) (H3:Hp) (o3':HO),0<=g->g < (N:Int)->H3 b=some o3'->BoxO o3'->Kp [b] H2 H3 ->
       (row.length < sizeLine/\∃ (row':List Int) (o':HO),upd H3 q (.lst (row.map V.int++[.int g])) b=some o'/\BoxO o'/\upd H3 q (.lst (row.map V.int++[.int g])) D=some (.lst (gs.map V.int))/\upd H3 q (.lst (row.map V.int++[.int g])) p=some (.lst rs) /\
        Reps (upd H3 q (.lst (row.map V.int++[.int g]))) rs (rows.map rowD)/\row.map V.int++[.int g]=row'.map V.int/\row'.length=j+1/\(∀ t ∈ row',0<=t/\t < (N:Int))/\Kp [b] H (upd H3 q (.lst (row.map V.int++[.int g])))):=by
      intro g H3 o3' g0 g1 hb3 ho3' kk
      have hD3:=kk.old _ _ hD2 (by simp [nbD.symm])
      have hp3:=kk.old _ _ hp2 (by simp [nbp.symm])
      have hq3:=kk.old _ _ hq2 (by simp [nbq.symm])
      refine ⟨by omega,row++[g],o3',by rw [jc nbq];exact hb3,ho3',by rw [jc nDq];exact hD3,by rw [jc npq];exact hp3,?_,by simp,by simp [hrow],fun t ht=>?_,(kp2.trans kk).set hq3 (.inr hq0)⟩
      ·exact Reps.kp ((Kp.refl [q] H3).set hq3 (.inl (by simp))) (to_rows rows) (Reps.kp kk (to_rows rows) hrs2)
      ·rcases List.mem_append.mp ht with ht | ht
       ·exact hgood t ht
       ·simp at ht;subst ht;exact ⟨g0,g1⟩
     have kpb:∀ o4,Kp [b] H2 (upd H2 b o4):=fun o4=>(Kp.refl [b] H2).set hb2 (.inl (by simp))
     have hqb:∀ o4,upd H2 b o4 q=some (.lst (row.map V.int)):=fun o4=>by rw [jc nbq.symm];exact hq2
     have hDb:∀ o4,upd H2 b o4 D=some (.lst (gs.map V.int)):=fun o4=>by rw [jc nbD.symm];exact hD2
     have kc:kd=0∨kd=1∨kd=2∨kd=3∨kd=4:=by omega
     simp!
     refine ⟨b,(N:Int),_,rfl,hb2,ho2',by omega,by omega,fun g o4 g0 g1 ho4=>?_⟩
     rcases kc with rfl | rfl | rfl | rfl | rfl
     ·simp! [hqb,List.length_map,Int.reduceEq,decide_true,decide_false]
      obtain ⟨h1,r',o',h2⟩:=fin g _ o4 g0 g1 jb ho4 (kpb o4)
      exact ⟨h1,_,_,⟨rfl,rfl⟩,r',o',h2⟩
     ·simp! [hqb,List.length_map,Int.reduceEq,decide_true,decide_false]
      obtain ⟨h1,r',o',h2⟩:=fin (if g > 0+(i:Int) then g else 0+(i:Int)) _ o4 (by split <;> omega) (by split <;> omega) jb ho4 (kpb o4)
      exact ⟨h1,_,_,⟨rfl,rfl⟩,r',o',h2⟩
     ·simp! [hqb,hDb,List.length_map,Int.reduceEq,decide_true,decide_false]
      have hjg:j < gs.length:=by omega
      have hat:atI (gs.map V.int) ((0:Int)+(j:Int))=some (.int (gs.getD j 0)):=by
       refine atI_of (by omega) ?_
       have:((0:Int)+(j:Int)).toNat=j:=by omega
       rw [this]
       simp [hjg]
      have hgj:=hg (gs.getD j 0) (by simp [List.getD_eq_getElem?_getD,hjg])
      refine ⟨_,hat,by omega,fun q2 hq2'=>?_⟩
      have nb2:b≠q2:=je jb hq2'
      refine ⟨b,2,o4,rfl,by rw [jc nb2,jb],ho4,by omega,by omega,fun e o5 e0 e1 ho5=>?_⟩
      obtain ⟨xs5,rfl⟩:=ex (H':=H) ho4
      have kk:Kp [b] H2 (upd (upd (upd H2 b (.lst xs5)) q2 (.lst [.int (0+(i:Int)),.int (gs.getD j 0)])) b o5):=((kpb _).new hq2').set (by rw [jc nb2,jb]) (.inl (by simp))
      have hl2:upd (upd (upd H2 b (.lst xs5)) q2 (.lst [.int (0+(i:Int)),.int (gs.getD j 0)])) b o5 q2=some (.lst [.int (0+(i:Int)),.int (gs.getD j 0)]):=by rw [jc nb2.symm,jb]
      have hq5:upd (upd (upd H2 b (.lst xs5)) q2 (.lst [.int (0+(i:Int)),.int (gs.getD j 0)])) b o5 q=some (.lst (row.map V.int)):=kk.old _ _ hq2 (by simp [nbq.symm])
      have ec:e=0∨e=1:=by omega
      rcases ec with rfl | rfl
      ·simp! [hl2,hq5,List.length_map,Int.reduceEq,decide_true,decide_false]
       obtain ⟨h1,r',o',h2⟩:=fin (0+(i:Int)) _ o5 (by omega) (by omega) jb ho5 kk
       exact ⟨h1,_,_,⟨rfl,rfl⟩,r',o',h2⟩
      ·simp! [hl2,hq5,List.length_map,Int.reduceEq,decide_true,decide_false]
       obtain ⟨h1,r',o',h2⟩:=fin (gs.getD j 0) _ o5 hgj.1 hgj.2 jb ho5 kk
       exact ⟨h1,_,_,⟨rfl,rfl⟩,r',o',h2⟩
     ·simp! [hqb,List.length_map,Int.reduceEq,decide_true,decide_false]
      refine ite2 (fun _=>?_) (fun _=>?_)
      ·refine ⟨by omega,?_⟩
       obtain ⟨h1,r',o',h2⟩:=fin ((0+(i:Int)+1) % (N:Int)) _ o4 (Int.emod_nonneg _ (by omega)) (Int.emod_lt_of_pos _ (by omega)) jb ho4 (kpb o4)
       exact ⟨h1,_,_,⟨rfl,rfl⟩,r',o',h2⟩
      ·obtain ⟨h1,r',o',h2⟩:=fin g _ o4 g0 g1 jb ho4 (kpb o4)
       exact ⟨h1,_,_,⟨rfl,rfl⟩,r',o',h2⟩
     ·simp! [hqb,List.length_map,Int.reduceEq,decide_true,decide_false]
      obtain ⟨h1,r',o',h2⟩:=fin (if g > 0+(i:Int) then g else 0+(i:Int)) _ o4 (by split <;> omega) (by split <;> omega) jb ho4 (kpb o4)
      exact ⟨h1,_,_,⟨rfl,rfl⟩,r',o',h2⟩
    ·rintro σ H2 ⟨v10,v11,row,o2',rfl,hb2,ho2',hD2,hp2,hrs2,hq2,hrow,hgood,kp2⟩
     simp! [hp2]
     refine rTupleU_lst hq2 fun l hl=>?_
     have npl:p≠l:=je hp2 hl
     have nbl:b≠l:=je hb2 hl
     have nDl:D≠l:=je hD2 hl
     have hp3:upd H2 l (.tup (row.map V.int)) p=some (.lst rs):=by rw [jc npl];exact hp2
     simp! [hp3]
     have rsl:rs.length=i:=by rw [Reps.len hrs2,List.length_map];exact hrl
     refine ⟨by omega,_,_,_,_,_,⟨rfl,rfl,rfl,rfl,rfl⟩,_,rows++[row],o2',by rw [jc nbp,jc nbl];exact hb2,ho2',by rw [jc nDp,jc nDl];exact hD2,rfl,?_,by simp [hrl],fun r hr'=>?_,(kp2.new hl).set hp3 (.inr hp0)⟩
     ·have k3:Kp [p] H2 (upd (upd H2 l (.tup (row.map V.int))) p (.lst (rs++[.ref l]))):=((Kp.refl [p] H2).new hl).set hp3 (.inl (by simp))
      rw [List.map_append]
      refine Reps.app (Reps.kp k3 (to_rows rows) hrs2) ?_
      simp only [List.map_cons,List.map_nil,Reps,Rep,rowD,and_true]
      exact ⟨l,_,rfl,by rw [jc npl.symm,jb],Reps.ints _ row⟩
     ·rcases List.mem_append.mp hr' with h | h
      ·exact hrg r h
      ·simp at h;subst h;exact ⟨by omega,hgood⟩
   ·rintro σ H1 ⟨v8,v9,v10,v11,v12,rs,rows,o1',rfl,hb1,ho1',hD1,hp1,hrs,hrl,hrg,kp1'⟩
    simp!
    have tailT:∀ (H3:Hp) (Y:Addr) (ys:List Bool) (o3':HO),H3 b=some o3'->BoxO o3'->H3 p=some (.lst rs)->Reps H3 rs (rows.map rowD)->H3 Y=some (.lst (ys.map V.bl))->ys.length=N->Kp [b] H H3 ->
      rTupleU [.ref p] H3 fun x H1=>rTupleU [.ref Y] H1 fun x_1 H1=>3<=sizeLine/\∀ p,H1 p=none->Q (.ref p) (upd H1 p (.tup [.str z,x,x_1])):=by
     intro H3 Y ys o3' hb3 ho3' hp3 hrs3 hY3 hyl kp3
     refine rTupleU_lst hp3 fun l1 hl1=>?_
     have nY1:Y≠l1:=je hY3 hl1
     refine rTupleU_lst (ys:=ys.map V.bl) (by rw [jc nY1];exact hY3) fun l2 hl2=>⟨by omega,fun l3 hl3=>?_⟩
     have n12:l1≠l2:=je jb hl2
     have n13:l1≠l3:=je (by rw [jc n12,jb]) hl3
     have n23:l2≠l3:=je jb hl3
     have kA:Kp [] H3 (upd (upd (upd H3 l1 (.tup rs)) l2 (.tup (ys.map V.bl))) l3 (.tup [.str z,.ref l1,.ref l2])):=(((Kp.refl [] H3).new hl1).new hl2).new hl3
     refine k l3 ⟨z,rows,ys⟩ o3' _ rfl ⟨hz,by show 1<=rows.length;omega,by show rows.length<=n;omega,by show ys.length=rows.length;omega,fun r hr=>?_⟩ ho3' (kA.old _ _ hb3 (by simp)) (kp3.trans (kA.mono (fun _ h=>nomatch h))) ?_
     ·have:=hrg r hr
      exact ⟨this.1,fun t ht=>by have:=this.2 t ht;show 0<=t/\t < (rows.length:Int);omega⟩
     ·simp only [Mach.D,Rep]
      refine ⟨l3,_,rfl,jb,?_⟩
      simp only [Reps,Rep,and_true]
      exact ⟨trivial,⟨l1,rs,rfl,by rw [jc n13,jc n12,jb],Reps.kp kA (to_rows rows) hrs3⟩,⟨l2,_,rfl,by rw [jc n23,jb],Reps.bools _ ys⟩⟩
    refine ⟨by omega,by omega,fun Y hY=>?_⟩
    rw [Int.toNat_natCast]
    have nbY:b≠Y:=je hb1 hY
    have npY:p≠Y:=je hp1 hY
    refine loop_range (fun i σ' H'=>∃ (v:Option V) (ys:List Bool) (o':HO),σ'=[v,some (.ref b)]/\H' b=some o'/\BoxO o'/\H' Y=some (.lst (ys.map V.bl))/\ys.length=i/\Kp [b] H1 H') ?_ ?_ ?_
    ·exact ⟨none,[],o1',rfl,by rw [jc nbY];exact hb1,ho1',by rw [jb];rfl,rfl,(Kp.refl [b] H1).new hY⟩
    ·rintro i σ' H2 hi ⟨v,ys,o2',rfl,hb2,ho2',hY2,hyl,kp2⟩
     obtain ⟨xs2,rfl⟩:=ex (H':=H) ho2'
     simp! [tEmit]
     refine ⟨b,2,_,rfl,hb2,ho2',by omega,by omega,fun e o4 e0 e1 ho4=>?_⟩
     have hY4:upd H2 b o4 Y=some (.lst (ys.map V.bl)):=by rw [jc nbY.symm];exact hY2
     simp! [hY4,List.length_map]
     exact ⟨by omega,ys++[decide (e=1)],o4,by rw [jc nbY,jb],ho4,by simp,by simp [hyl],(kp2.set hb2 (.inl (by simp))).set hY4 (.inr hY)⟩
    ·rintro σ' H2 ⟨v,ys,o2',rfl,hb2,ho2',hY2,hyl,kp2⟩
     obtain ⟨xs2,rfl⟩:=ex (H':=H) ho2'
     refine ⟨b,8,_,rfl,hb2,ho2',by omega,by omega,fun e o4 e0 e1 ho4=>?_⟩
     have kk:Kp [b] H1 (upd H2 b o4):=kp2.set hb2 (.inl (by simp))
     have hY4:upd H2 b o4 Y=some (.lst (ys.map V.bl)):=by rw [jc nbY.symm];exact hY2
     have hp4:upd H2 b o4 p=some (.lst rs):=kk.old _ _ hp1 (by simp [nbp.symm])
     simp! [hY4]
     refine ite2 (fun _=>?_) (fun _=>?_)
     ·cases ys with
      | nil=>simp at hyl;omega
      | cons y0 yr =>
       refine ⟨.bl y0,by rw [List.map_cons];exact atI_0 _ _,by omega,fun p1 hp1'=>⟨by omega,by omega,by omega,fun p2 hp2'=>?_⟩⟩
       rw [rep_flat .non]
       have k5:Kp [b] H1 (upd (upd (upd H2 b o4) p1 (.lst [.bl y0])) p2 (.lst ((List.replicate N y0).map V.bl))):=(kk.new hp1').new hp2'
       have n1:b≠p1:=je jb hp1'
       have n2:b≠p2:=je (by rw [jc n1,jb]) hp2'
       exact tailT _ p2 _ o4 (by rw [jc n2,jc n1,jb]) ho4 (k5.old _ _ hp1 (by simp [nbp.symm])) (Reps.kp k5 (to_rows rows) hrs) jb (by simp) (kp1'.trans k5)
     ·exact tailT _ Y ys o4 jb ho4 hp4 (Reps.kp kk (to_rows rows) hrs) hY4 hyl (kp1'.trans kk)
end
structure MA (H:Hp) (m:Mach) (p a1 a2:Addr) (rs:List V):Prop where
 t0:H p=some (.tup [.str m.z,.ref a1,.ref a2])
 t1:H a1=some (.tup rs)
 t2:H a2=some (.tup (m.ye.map V.bl))
 rl:rs.length=m.mv.length
 rw:∀ i,i < m.mv.length->∃ r,rs[i]?=some (.ref r)/\H r=some (.tup ((m.mv.getD i []).map V.int))
theorem reps_get {H:Hp}:∀ {vs:List V} {ds:List PyData} {i:Nat} {d:PyData},Reps H vs ds->ds[i]?=some d->∃ v,vs[i]?=some v/\Rep H v d
 | [],[],_,_,_,e=>by simp at e
 | [],_::_,_,_,h,_=>by simp only [Reps] at h
 | _::_,[],_,_,h,_=>by simp only [Reps] at h
 | v::vs,d::ds,0,_,h,e=>by simp only [Reps] at h;simp at e;subst e;exact ⟨v,rfl,h.1⟩
 | v::vs,d::ds,i+1,_,h,e=>by simp only [Reps] at h;exact reps_get (i:=i) h.2 (by simpa using e)
theorem reps_map {H:Hp} {α:Type} {f:α->V} {g:α->PyData} (hv:∀ x v,Rep H v (g x)->v=f x):∀ {l:List α} {vs:List V},Reps H vs (l.map g)->vs=l.map f
 | [],[],_=>rfl
 | [],_::_,h=>by simp only [List.map_nil,Reps] at h
 | _::_,[],h=>by simp only [List.map_cons,Reps] at h
 | x::l,v::vs,h=>by simp only [List.map_cons,Reps] at h;rw [List.map_cons,hv x v h.1,reps_map hv h.2]
theorem Mach.opened {H:Hp} {m:Mach} {p:Addr} (h:Rep H (.ref p) m.D):∃ a1 a2 rs,MA H m p a1 a2 rs:=by
 simp only [Mach.D,Rep] at h
 obtain ⟨a,vs,e,h0,hr⟩:=h
 cases e
 obtain ⟨v0,e0,r0⟩:=reps_get (i:=0) hr rfl
 obtain ⟨v1,e1,r1⟩:=reps_get (i:=1) hr rfl
 obtain ⟨v2,e2,r2⟩:=reps_get (i:=2) hr rfl
 have hl:=Reps.len hr
 simp only [Rep] at r0 r1 r2
 subst r0
 obtain ⟨a1,rs,rfl,h1,hr1⟩:=r1
 obtain ⟨a2,ys,rfl,h2,hr2⟩:=r2
 have ev:vs=[.str m.z,.ref a1,.ref a2]:=by
  match vs,hl,e0,e1,e2 with
  | [x,y,w],_,e0,e1,e2=>simp at e0 e1 e2;rw [e0,e1,e2]
 subst ev
 have ey:ys=m.ye.map V.bl:=reps_map (f:=V.bl) (fun x v h=>by simpa only [Rep] using h) hr2
 subst ey
 refine ⟨a1,a2,rs,h0,h1,h2,by rw [Reps.len hr1,List.length_map],fun i hi=>?_⟩
 obtain ⟨v,ev,rv⟩:=reps_get (i:=i) (d:=rowD (m.mv.getD i [])) hr1 (by rw [List.getElem?_map];simp [hi])
 simp only [rowD,Rep] at rv
 obtain ⟨r,us,rfl,hr',hu⟩:=rv
 have eu:us=(m.mv.getD i []).map V.int:=reps_map (f:=V.int) (fun x v h=>by simpa only [Rep] using h) hu
 subst eu
 exact ⟨r,ev,hr'⟩
def mvN (m:Mach):List (List Nat):=m.mv.map fun r=>r.map Int.toNat
theorem rows_of {H:Hp}:∀ {rs:List V} {mv:List (List Int)},rs.length=mv.length->(∀ i,i < mv.length->∃ r,rs[i]?=some (.ref r)/\H r=some (.tup ((mv.getD i []).map V.int)))->(∀ r ∈ mv,∀ t ∈ r,0<=t)->RowsM H rs (mv.map fun r=>r.map Int.toNat)
 | [],[],_,_,_=>.nil
 | v::rs,r::mv,hl,h,nn=>by
  refine .cons ?_ (rows_of (by simpa using hl) (fun i hi=>?_) fun r' h'=>nn r' (.tail _ h'))
  ·obtain ⟨a,e1,e2⟩:=h 0 (by simp)
   have e1:v=.ref a:=by simpa using e1
   refine ⟨a,e1,?_⟩
   rw [e2,List.map_map]
   congr 2
   refine List.map_congr_left fun t ht=>?_
   have:=nn r (.head _) t (by simpa using ht)
   show V.int t=V.int ((t.toNat:Nat):Int)
   rw [Int.toNat_of_nonneg this]
  ·obtain ⟨a,e1,e2⟩:=h (i+1) (by simpa using hi)
   exact ⟨a,by simpa using e1,by simpa using e2⟩
theorem MA.mh {H:Hp} {m:Mach} {p a1 a2:Addr} {rs:List V} {n:Nat} (h:MA H m p a1 a2 rs) (ok:Mach.Ok m n) (n9:n<=1000):MH H p m.z a1 a2 rs (mvN m) m.z.length m.ye:=by
 have zl:m.z.length<=1000:=by have:=ok.let4.hi;omega
 refine ⟨h.t0,h.t1,rows_of h.rl h.rw fun r hr t ht=>((ok.row r hr).2 t ht).1,⟨fun row hrow=>?_,fun row hrow x hx=>?_⟩,h.t2,by rw [ok.yl];simp [mvN],by simpa [mvN] using ok.n1,by have:=ok.nh;simp [mvN];omega,zl⟩
 ·obtain ⟨r,hr,rfl⟩:=List.mem_map.mp hrow
  rw [List.length_map];exact (ok.row r hr).1
 ·obtain ⟨r,hr,rfl⟩:=List.mem_map.mp hrow
  obtain ⟨t,ht,rfl⟩:=List.mem_map.mp hx
  have:=(ok.row r hr).2 t ht
  simp [mvN];omega
theorem jbo {z:Str} (nd:z.cps.toList.Nodup) {a:Nat} (h:a < z.length):z.cps.toList.getD a 0 ∈ z.cps.toList/\plc z.cps.toList (z.cps.toList.getD a 0)=(a:Int):=by
 have hl:a < z.cps.toList.length:=by simpa [Str.length] using h
 have e:z.cps.toList.getD a 0=z.cps.toList[a]:=by rw [List.getD_eq_getElem?_getD,List.getElem?_eq_getElem hl];rfl
 have m:z.cps.toList[a] ∈ z.cps.toList:=List.getElem_mem hl
 rw [e]
 refine ⟨m,?_⟩
 unfold plc
 rw [if_pos m,nd.idxOf_getElem a hl]
theorem tz_at {z:Str} {w:List Nat} {i c:Nat} (h:(tz z w).cps.toList[i]?=some c):∃ a,w[i]?=some a/\c=z.cps.toList.getD a 0:=by
 have:(tz z w).cps.toList=w.map fun a=>z.cps.toList.getD a 0:=by simp [tz,toS]
 rw [this,List.getElem?_map] at h
 obtain ⟨a,h1,h2⟩:=Option.map_eq_some_iff.mp h
 exact ⟨a,h1,h2.symm⟩
def spLd:Sp:=fun vs H Q _=>∃ (p pm py:Addr) (z:Str) (us:List V) (mv:List (List Nat)) (m:Nat) (ys:List Bool) (r:Nat) (u:List Nat),vs=[.ref p,.int (r:Int),.str (tz z u)]/\MH H p z pm py us mv m ys/\z.length=m/\z.cps.toList.Nodup/\r < mv.length/\(∀ a ∈ u,a < m)/\u.length<=1000/\Q (.int ((mcOf mv m ys).led r u:Nat)) H
def spLt:Sp:=fun vs H Q _=>∃ (p pm py:Addr) (z:Str) (us:List V) (mv:List (List Nat)) (m:Nat) (ys:List Bool) (u:List Nat),vs=[.ref p,.str (tz z u)]/\MH H p z pm py us mv m ys/\z.length=m/\z.cps.toList.Nodup/\(∀ a ∈ u,a < m)/\u.length<=1000/\Q (.bl ((mcOf mv m ys).y ((mcOf mv m ys).led 0 u))) H
structure TLt (mg:Str->Option Value) (fl:Addr):Prop where
 m5z:mg "_law_led"=some (.ref fl)
section
variable {P:Program} {w:World} {K:PySem.W.Frag} {mg:Str->Option Value} {base:Heap}
abbrev zp:Stmt:=top 26
theorem jaw:FnScope ["_law_machine_here","_law_room","_law_text","_law_letter"] ["_law_machine_here","_law_room","_law_text"] (jg zp):=⟨rfl,rfl,rfl,by decide +kernel,rfl,by decide +kernel,by decide +kernel⟩
abbrev zg:Stmt:=top 27
theorem sc__law_lets:FnScope ["_law_machine_here","_law_text"] ["_law_machine_here","_law_text"] (jg zg):=⟨rfl,rfl,rfl,by decide +kernel,rfl,by decide +kernel,by decide +kernel⟩
theorem ok__law_led {f:Addr} {fd:FuncData} (F:Fun K "_law_led" "_law_led" zp f fd):FnOk P w K mg base CX0 1 f fd ["_law_machine_here","_law_room","_law_text"] spLd:=by
 refine F.ok jaw (fun vs H Q E h=>?_) (fun cdv A outer s H vs Q E hr h=>?_)
 ·obtain ⟨p,pm,py,z,us,mv,m,ys,r,u,rfl,_⟩:=h
  rfl
 ·obtain ⟨p,pm,py,z,us,mv,m,ys,r,u,rfl,M,zm,nd,rn,hw,ul,k⟩:=h
  have hu:=hr.units
  have mok:=mcOf_ok (ys:=ys) M.ok
  refine exQ (jf (kg PassesOwn.never rfl (j7 (K:=K) (qpv 2) rfl) (jm (i:=3) jaw.nd rfl (by first | exact Or.inl rfl | exact Or.inr rfl)) (ji (jj (i:=1) jaw.nd rfl (by first | exact Or.inl rfl | exact Or.inr rfl) (jn ix_U (jn ix_U (jn ix_U (qpv 0) jh (fun _ _=>rfl)) (qpv 1) (fun _ _=>rfl)) (jcc PySem.F.slot_str_index PySem.F.type_str_index jb0 (jn ix_U (qpv 0) jh (fun _ _=>rfl)) (ja (qpv 3) jd)) (fun _ _=>rfl)))))
  (ji (jz (qpv 1)))) ?_
  simp!
  refine loop_str (fun i σ H'=>∃ v3:Option V,σ=[some (.ref p),some (.int ((mcOf mv m ys).led r (u.take i):Nat)),some (.str (tz z u)),v3]/\H'=H) ⟨none,rfl,rfl⟩ ?_ ?_
  ·rintro i c σ H' hc ⟨v3,rfl,rfl⟩
   obtain ⟨a,ha,rfl⟩:=tz_at hc
   have am:=hw a (List.mem_of_getElem? ha)
   obtain ⟨q1,q2⟩:=jbo nd (show a < z.length by omega)
   have rl:(mcOf mv m ys).led r (u.take i) < mv.length:=Mc.led_lt mok rn fun b hb=>hw b (List.mem_of_mem_take hb)
   have tk:u.take (i+1)=u.take i++[a]:=by rw [List.take_add_one,ha];rfl
   rw [tk,Mc.led_app]
   generalize (mcOf mv m ys).led r (u.take i)=r1 at rl ⊢
   have hi:mv[r1]?=some (mv.getD r1 []):=by rw [List.getD_eq_getElem?_getD,List.getElem?_eq_getElem rl];rfl
   obtain ⟨c,hcx,hcr⟩:=M.rw.get hi
   simp! [M.hp,M.hm]
   refine ⟨.ref c,atI_nat hcx,_,rfl,q1,?_⟩
   rw [q2,rIxU_ref,hcr]
   exact ⟨_,rfl,_,atI_nat (by rw [List.getElem?_map,(M.ok.at_ rl am).1];rfl),_,⟨rfl,rfl⟩,rfl⟩
  ·rintro σ H' ⟨v3,rfl,rfl⟩
   rw [tz_len,List.take_length]
   simp!
   exact k
theorem ok__law_lets {f fl:Addr} {fd fdl:FuncData} (F:Fun K "_law_lets" "_law_lets" zg f fd) (T:TLt mg fl) (F5z:Fun K "_law_led" "_law_led" zp fl fdl) (b5z:Binds K fdl ["_law_machine_here","_law_room","_law_text"] []) (G5z:FnOk P w K mg base CX0 1 fl fdl ["_law_machine_here","_law_room","_law_text"] spLd):FnOk P w K mg base CX0 2 f fd ["_law_machine_here","_law_text"] spLt:=by
 refine F.ok sc__law_lets (fun vs H Q E h=>?_) (fun cdv A outer s H vs Q E hr h=>?_)
 ·obtain ⟨p,pm,py,z,us,mv,m,ys,u,rfl,_⟩:=h
  rfl
 ·obtain ⟨p,pm,py,z,us,mv,m,ys,u,rfl,M,zm,nd,hw,ul,k⟩:=h
  have hu:=hr.units
  have mok:=mcOf_ok (ys:=ys) M.ok
  refine exQ (ji (jz (jn ix_U (jn ix_U (qpv 0) jh (fun _ _=>rfl)) (jq G5z (hr.mono (by decide)) rfl T.m5z F5z.kp b5z .nil j9 (ja (qpv 0) (ja jh (ja (qpv 1) jd)))) (fun _ _=>rfl)))) ?_
  simp! [M.hp]
  refine ⟨p,pm,py,z,us,mv,m,ys,0,u,rfl,M,zm,nd,M.n1,hw,ul,?_⟩
  have rl:(mcOf mv m ys).led 0 u < mv.length:=Mc.led_lt mok M.n1 hw
  dsimp only
  rw [rIxU_ref,M.hy]
  exact ⟨_,rfl,_,atI_nat (by rw [List.getElem?_map,List.getElem?_eq_getElem (by rw [M.yl];exact rl)];rfl),by
   have e:(mcOf mv m ys).y ((mcOf mv m ys).led 0 u)=ys[(mcOf mv m ys).led 0 u]'(by rw [M.yl];exact rl):=by
    show ys.getD _ false=_
    rw [List.getD_eq_getElem?_getD,List.getElem?_eq_getElem (by rw [M.yl];exact rl)];rfl
   rw [← e];exact k⟩
end
def rowC (M:Mc) (i:Nat):List Int:=(List.range M.n).map fun r=>(cn M i r:Int)
structure CT (H:Hp) (pf:Addr) (as:List Addr) (M:Mc):Prop where
 hl:H pf=some (.lst (as.map V.ref))
 at_:∀ i a,as[i]?=some a->H a=some (.lst ((rowC M i).map V.int))
theorem CT.kp {S:List Addr} {H H':Hp} {pf:Addr} {as:List Addr} {M:Mc} (k:Kp S H H') (h:CT H pf as M) (n1:pf ∉ S) (n2:∀ a ∈ as,a ∉ S):CT H' pf as M:=⟨k.old _ _ h.hl n1,fun i a e=>k.old _ _ (h.at_ i a e) (n2 a (List.mem_of_getElem? e))⟩
theorem CT.kp0 {H H':Hp} {pf:Addr} {as:List Addr} {M:Mc} (k:Kp [] H H') (h:CT H pf as M):CT H' pf as M:=h.kp k (by simp) (by simp)
def spCt:Sp:=fun vs H Q _=>∃ (p pm py:Addr) (z:Str) (us:List V) (mv:List (List Nat)) (m:Nat) (ys:List Bool) (N:Nat),vs=[.ref p,.int (N:Int)]/\MH H p z pm py us mv m ys/\N<=1000 /\
 ∀ (q:Addr) (as:List Addr) (H':Hp),H q=none->as.length=N+1->CT H' q as (mcOf mv m ys)->(∀ a ∈ as,H a=none)->Kp [] H H'->Q (.ref q) H'
def inV:V->V
 | .bl b=>.int (if b then 1 else 0)
 | v=>v
def gtV (l:List Int):V->V
 | .int t=>.int (l.getD t.toNat 0)
 | v=>v
theorem rowC_len (M:Mc) (i:Nat):(rowC M i).length=M.n:=by simp [rowC]
theorem rowC_get {M:Mc} {i r:Nat} (h:r < M.n):(rowC M i).getD r 0=(cn M i r:Int):=by
 unfold rowC
 rw [List.getD_eq_getElem?_getD,List.getElem?_map,List.getElem?_range h];rfl
theorem sum_cast:∀ l:List Nat,(l.map fun x:Nat=>(x:Int)).sum=((l.sum:Nat):Int)
 | []=>rfl
 | x::l=>by rw [List.map_cons,List.sum_cons,List.sum_cons,sum_cast l];omega
theorem row_eq {mv:List (List Nat)} {m r:Nat} (ok:MvOk mv m) (h1:r < mv.length):mv.getD r []=(List.range m).map (dM mv r):=by
 have rm:mv.getD r [] ∈ mv:=by rw [List.getD_eq_getElem?_getD,List.getElem?_eq_getElem h1];exact List.getElem_mem _
 refine List.ext_getElem (by simpa using ok.ln _ rm) fun a q1 q2=>?_
 rw [List.getElem_map,List.getElem_range]
 have:=(ok.at_ h1 (show a < m by simpa using q2)).1
 rw [List.getElem?_eq_getElem q1] at this
 exact Option.some.inj this
theorem sum_row {mv:List (List Nat)} {m:Nat} {ys:List Bool} (ok:MvOk mv m) {r i:Nat} (h:r < mv.length):((mv.getD r []).map fun t=>(rowC (mcOf mv m ys) i).getD t 0).sum=(cn (mcOf mv m ys) (i+1) r:Int):=by
 rw [cn_succ,← sum_cast,List.map_map,row_eq ok h,List.map_map]
 congr 1
 refine List.map_congr_left fun a ha=>?_
 exact rowC_get (M:=mcOf mv m ys) (ok.at_ h (List.mem_range.mp ha)).2
structure TCt (mg:Str->Option Value):Prop where
 n_int:mg "int"=none
 n_range:mg "range"=none
 n_sum:mg "sum"=none
section
variable {P:Program} {w:World} {K:PySem.W.Frag} {mg:Str->Option Value} {base:Heap}
abbrev yc:Stmt:=top 28
theorem jah:FnScope ["_law_machine_here","_law_most","_law_found","_law_size"] ["_law_machine_here","_law_most"] (jg yc):=⟨rfl,rfl,rfl,by decide +kernel,rfl,by decide +kernel,by decide +kernel⟩
theorem ok__law_counts {f:Addr} {fd:FuncData} (F:Fun K "_law_counts" "_law_counts" yc f fd) (T:TCt mg):FnOk P w K mg base CX0 1 f fd ["_law_machine_here","_law_most"] spCt:=by
 refine F.ok jah (fun vs H Q E h=>?_) (fun cdv A outer s H vs Q E hr h=>?_)
 ·obtain ⟨p,pm,py,z,us,mv,m,ys,N,rfl,_⟩:=h
  rfl
 ·obtain ⟨p,pm,py,z,us,mv,m,ys,N,rfl,M,n9,k⟩:=h
  have hu:=hr.units
  have hsz:sizeLine=16777216:=PySem.sizeLine_eq
  have ul:us.length=mv.length:=Paired.length M.rw
  have yl:=M.yl
  have mn9:=M.n9
  have mm9:=M.m9
  refine exQ (jf (jj (i:=2) jah.nd rfl (by first | exact Or.inl rfl | exact Or.inr rfl) (kf (ja (kj rfl (compOk_of (sc:=jg yc) (N:=["_law_machine_here","_law_most","_law_found","_law_size"]) (Nc:=["_law_one"]) (js:=[none]) (by decide +kernel)) (j7 (K:=K) (jn ix_U (qpv 0) jh (fun _ _=>rfl)) rfl) (fun _ _ _ _=>(jm (i:=0) (show List.Nodup [("_law_one":Str)] from by decide +kernel) rfl (by first | exact Or.inl rfl | exact Or.inr rfl))) (fun _ _ _ _=>(j6 jas (by rfl) T.n_int jbj (ja (qpv 0) jd)))) jd)))
  (jf (kg PassesOwn.never rfl (yd rfl T.n_range (ja (qpv 1) jd)) (jm (i:=3) jah.nd rfl (by first | exact Or.inl rfl | exact Or.inr rfl)) (ji (km (yi PySem.F.slot_list_append PySem.F.type_list_append ya (qpv 2) (ja (kj rfl (compOk_of (sc:=jg yc) (N:=["_law_machine_here","_law_most","_law_found","_law_size"]) (Nc:=["_law_row","_law_found","_law_size"]) (js:=[none,some 2,some 3]) (by decide +kernel)) (j7 (K:=K) (jn ix_U (qpv 0) jh (fun _ _=>rfl)) rfl) (fun _ _ _ _=>(jm (i:=0) (show List.Nodup [("_law_row":Str),("_law_found":Str),("_law_size":Str)] from by decide +kernel) rfl (by first | exact Or.inl rfl | exact Or.inr rfl))) (fun _ _ _ _=>(jo (jat rfl) (by rfl) T.n_sum jbk (ja (kj rfl (compOk_of (sc:=relabel0 { kind:=.function,names:=[(".0",.local),("_law_row",.local),("sum",.globalImplicit),("_law_found",.free),("_law_size",.free)],isGenerator:=false,isCoroutine:=false } (jg yc)) (N:=["_law_row","_law_found","_law_size"]) (Nc:=["_law_to","_law_found","_law_size"]) (js:=[none,some 1,some 2]) (by decide +kernel)) (j7 (K:=K) (qpv 0) rfl) (fun _ _ _ _=>(jm (i:=0) (show List.Nodup [("_law_to":Str),("_law_found":Str),("_law_size":Str)] from by decide +kernel) rfl (by first | exact Or.inl rfl | exact Or.inr rfl))) (fun _ _ _ _=>(jn ix_U (jn ix_U (qpv 1) (qpv 2) (fun _ _=>rfl)) (qpv 0) (fun _ _=>rfl)))) jd)))) jd) mono_var))))
  (ji (jz (qpv 2))))) ?_
  simp! [M.hp,M.hy]
  intro D hD
  refine comp_tup inV M.hy hD (by rw [List.length_map];omega) (fun x hx l Q' q=>?_) fun vv=>?_
  ·obtain ⟨b,_,rfl⟩:=List.mem_map.mp hx
   simp!
   exact q
  dsimp only
  refine ⟨by omega,fun pf hpf=>⟨by omega,by omega,?_⟩⟩
  have npf:D≠pf:=je jb hpf
  have k0:Kp [] H (upd (upd H D (.lst ((ys.map V.bl).map inV))) pf (.lst [.ref D])):=((Kp.refl [] H).new hD).new hpf
  have hpf0:H pf=none:=((Kp.refl [] H).new hD).free hpf
  have C0:CT (upd (upd H D (.lst ((ys.map V.bl).map inV))) pf (.lst [.ref D])) pf [D] (mcOf mv m ys):=by
   refine ⟨jb,fun i a e=>?_⟩
   have i0:i=0:=by have:=(List.getElem?_eq_some_iff.mp e).1;simpa using this
   subst i0
   simp at e
   subst e
   rw [jc npf,jb,List.map_map]
   congr 2
   unfold rowC
   rw [List.map_map]
   refine List.ext_getElem (by simpa [mcOf] using yl) fun i h1 h2=>?_
   rw [List.getElem_map,List.getElem_map,List.getElem_range]
   have hy:i < ys.length:=by simpa using h1
   show V.int (if ys[i] then 1 else 0)=V.int ((Wd (mcOf mv m ys) 0 i).length:Int)
   show V.int (if ys[i] then 1 else 0)=V.int ((if ys.getD i false then [[]] else []:List (List Nat)).length:Int)
   rw [show ys.getD i false=ys[i] by rw [List.getD_eq_getElem?_getD,List.getElem?_eq_getElem hy];rfl]
   cases ys[i] <;> rfl
  generalize upd (upd H D (.lst ((ys.map V.bl).map inV))) pf (.lst [.ref D])=H1 at k0 C0 ⊢
  rw [show ((N:Int)).toNat=N by omega]
  refine loop_range (fun i σ H'=>∃ (as:List Addr) (v3:Option V),σ=[some (.ref p),some (.int (N:Int)),some (.ref pf),v3]/\as.length=i+1/\CT H' pf as (mcOf mv m ys)/\(∀ a ∈ as,H a=none/\a≠pf)/\Kp [] H H') ⟨[D],none,rfl,rfl,C0,fun a ha=>by cases List.mem_singleton.mp ha;exact ⟨hD,npf⟩,k0⟩ ?_ ?_
  ·rintro i σ H2 hi ⟨as,v3,rfl,al,C2,fr,kp⟩
   have M2:=M.kp kp
   simp! [M2.hp,M2.hm,C2.hl]
   intro D2 hD2
   have n2:pf≠D2:=je C2.hl hD2
   refine loop_tup (xs:=us) (fun j σ H'=>∃ (v0:Option V),σ=[v0,some (.ref pf),some (.int (0+(i:Int)))]/\H' D2=some (.lst ((((List.range j).map fun r=>(cn (mcOf mv m ys) (i+1) r:Int))).map V.int))/\Kp [] H2 H') ⟨none,rfl,by rw [jb];rfl,(Kp.refl [] H2).new hD2⟩ ?_ ?_ ?_
   ·rintro j σ H' _ ⟨_,rfl,_,kq⟩
    exact kq.tup _ _ M2.hm
   ·rintro j x σ H3 hx ⟨v0,rfl,e3,k3⟩
    have hil:j < mv.length:=by rw [← ul];exact (List.getElem?_eq_some_iff.mp hx).1
    have hi':mv[j]?=some (mv.getD j []):=by rw [List.getD_eq_getElem?_getD,List.getElem?_eq_getElem hil];rfl
    obtain ⟨c,hcx,hcr⟩:=(M2.rw.kp k3).get hi'
    rw [hx] at hcx
    cases hcx
    have rm:mv.getD j [] ∈ mv:=List.mem_of_getElem? hi'
    have rl:=M.ok.ln _ rm
    have rlt:=M.ok.lt _ rm
    have C3:=C2.kp0 k3
    have asi:as[i]?=some (as.getD i 0):=by rw [List.getD_eq_getElem?_getD,List.getElem?_eq_getElem (by omega)];rfl
    simp! [tEmit,hcr]
    intro D3 hD3
    have n3:D2≠D3:=je e3 hD3
    refine comp_tup (gtV (rowC (mcOf mv m ys) i)) hcr hD3 (by rw [List.length_map];omega) (fun x hx l Q' q=>?_) fun vv=>?_
    ·obtain ⟨t,ht,rfl⟩:=List.mem_map.mp hx
     have tl:=rlt t ht
     have C4:=C3.kp0 ((Kp.refl [] H3).new (o:=.lst l) hD3)
     simp! [nV,C4.hl]
     refine ⟨.ref (as.getD i 0),by rw [Int.zero_add];exact atI_nat (by rw [List.getElem?_map,asi];rfl),?_⟩
     rw [rIxU_ref,C4.at_ _ _ asi]
     exact ⟨_,rfl,_,atI_nat (by rw [List.getElem?_map,List.getElem?_eq_getElem (by rw [rowC_len];exact tl)];rfl),by simpa [gtV,nV,List.getD_eq_getElem?_getD,List.getElem?_eq_getElem (show t < (rowC (mcOf mv m ys) i).length by rw [rowC_len];exact tl)] using q⟩
    dsimp only
    have eb:((mv.getD j []).map nV).map (gtV (rowC (mcOf mv m ys) i))=((mv.getD j []).map fun t=>(rowC (mcOf mv m ys) i).getD t 0).map V.int:=by
     rw [List.map_map,List.map_map]
     exact List.map_congr_left fun t _=>rfl
    rw [eb]
    refine ⟨_,jb,?_⟩
    rw [sum_row M.ok hil]
    refine ⟨_,by rw [jc n3,e3];rfl,by rw [List.length_map,List.length_map,List.length_range];omega,?_,(k3.new hD3).set (by rw [jc n3];exact e3) (.inr hD2)⟩
    rw [List.range_succ,List.map_append,List.map_append];rfl
   ·rintro σ H3 ⟨v0,rfl,e3,k3⟩
    rw [ul] at e3
    have C3:=C2.kp0 k3
    dsimp only
    rw [C3.hl]
    refine ⟨_,rfl,by rw [List.length_map];omega,as++[D2],by rw [List.length_append,al];rfl,⟨by rw [jb,List.map_append];rfl,fun j a e=>?_⟩,fun a ha=>?_,(kp.trans k3).set C3.hl (.inr hpf0)⟩
    ·by_cases c:j < as.length
     ·rw [List.getElem?_append_left c] at e
      rw [jc (fr a (List.mem_of_getElem? e)).2];exact C3.at_ j a e
     ·rw [List.getElem?_append_right (by omega)] at e
      have:j=as.length:=by have:=(List.getElem?_eq_some_iff.mp e).1;simp at this;omega
      subst this
      simp at e
      subst e
      rw [jc n2.symm,e3,al];rfl
    ·rcases List.mem_append.mp ha with h | h
     ·exact fr a h
     ·cases List.mem_singleton.mp h;exact ⟨kp.free hD2,n2.symm⟩
  ·rintro σ H2 ⟨as,v3,rfl,al,C2,fr,kp⟩
   simp!
   exact k pf as H2 hpf0 al C2 (fun a ha=>(fr a ha).1) kp
end
def spRk:Sp:=fun vs H Q _=>∃ (p pm py pf:Addr) (z:Str) (us:List V) (mv:List (List Nat)) (m:Nat) (ys:List Bool) (as:List Addr) (u:List Nat),vs=[.ref p,.ref pf,.str (tz z u)]/\MH H p z pm py us mv m ys/\z.length=m/\z.cps.toList.Nodup/\CT H pf as (mcOf mv m ys)/\u.length<=as.length/\as.length<=1000/\(∀ a ∈ u,a < m) /\
 ∀ H',Kp [] H H'->Q (.int ((((List.range u.length).map fun s=>cn (mcOf mv m ys) s 0).sum+rk (mcOf mv m ys) 0 u:Nat):Int)) H'
structure TRk (mg:Str->Option Value):Prop where
 n_len:mg "len"=none
 n_range:mg "range"=none
 n_sum:mg "sum"=none
section
variable {P:Program} {w:World} {K:PySem.W.Frag} {mg:Str->Option Value} {base:Heap}
abbrev y6:Stmt:=top 29
theorem yx:FnScope ["_law_machine_here","_law_counts_here","_law_text","_law_found","_law_room","_law_at","_law_k","_law_to"] ["_law_machine_here","_law_counts_here","_law_text"] (jg y6):=⟨rfl,rfl,rfl,by decide +kernel,rfl,by decide +kernel,by decide +kernel⟩
theorem ok__law_rank {f:Addr} {fd:FuncData} (F:Fun K "_law_rank" "_law_rank" y6 f fd) (T:TRk mg):FnOk P w K mg base CX0 1 f fd ["_law_machine_here","_law_counts_here","_law_text"] spRk:=by
 refine F.ok yx (fun vs H Q E h=>?_) (fun cdv A outer s H vs Q E hr h=>?_)
 ·obtain ⟨p,pm,py,pf,z,us,mv,m,ys,as,u,rfl,_⟩:=h
  rfl
 ·obtain ⟨p,pm,py,pf,z,us,mv,m,ys,as,u,rfl,M,zm,nd,C,al,a9,hw,k⟩:=h
  have hu:=hr.units
  have hsz:sizeLine=16777216:=PySem.sizeLine_eq
  have ul:us.length=mv.length:=Paired.length M.rw
  have mok:=mcOf_ok (ys:=ys) M.ok
  have asi:∀ i,i < as.length->as[i]?=some (as.getD i 0):=fun i h=>by rw [List.getD_eq_getElem?_getD,List.getElem?_eq_getElem h];rfl
  have n1:=M.n1
  refine exQ (jf (jj (i:=3) yx.nd rfl (by first | exact Or.inl rfl | exact Or.inr rfl) (jo (jat rfl) (by rfl) T.n_sum jbk (ja (kj rfl (compOk_of (sc:=jg y6) (N:=["_law_machine_here","_law_counts_here","_law_text","_law_found","_law_room","_law_at","_law_k","_law_to"]) (Nc:=["_law_size","_law_counts_here"]) (js:=[none,some 1]) (by decide +kernel)) (yd rfl T.n_range (ja (jo jr (by rfl) T.n_len jx (ja (qpv 2) jd)) jd)) (fun _ _ _ _=>(jm (i:=0) (show List.Nodup [("_law_size":Str),("_law_counts_here":Str)] from by decide +kernel) rfl (by first | exact Or.inl rfl | exact Or.inr rfl))) (fun _ _ _ _=>(jn ix_U (jn ix_U (qpv 1) (qpv 0) (fun _ _=>rfl)) jh (fun _ _=>rfl)))) jd)))
  (jf (jj (i:=4) yx.nd rfl (by first | exact Or.inl rfl | exact Or.inr rfl) jh)
  (jf (kg PassesOwn.never rfl (yd rfl T.n_range (ja (jo jr (by rfl) T.n_len jx (ja (qpv 2) jd)) jd)) (jm (i:=5) yx.nd rfl (by first | exact Or.inl rfl | exact Or.inr rfl)) (jf (jj (i:=6) yx.nd rfl (by first | exact Or.inl rfl | exact Or.inr rfl) (jcc PySem.F.slot_str_index PySem.F.type_str_index jb0 (jn ix_U (qpv 0) jh (fun _ _=>rfl)) (ja (jn ix_U (qpv 2) (qpv 5) (fun _ _=>rfl)) jd)))
  (jf (kg PassesOwn.never rfl (j7 (K:=K) (jaj (jbp (K:=K) rfl) (jn ix_U (jn ix_U (qpv 0) jh (fun _ _=>rfl)) (qpv 4) (fun _ _=>rfl)) jao (jap (qpv 6))) rfl) (jm (i:=7) yx.nd rfl (by first | exact Or.inl rfl | exact Or.inr rfl)) (ji (jj (i:=3) yx.nd rfl (by first | exact Or.inl rfl | exact Or.inr rfl) (jt yp (qpv 3) (jn ix_U (jn ix_U (qpv 1) (jt jay (jt jay (jo jr (by rfl) T.n_len jx (ja (qpv 2) jd)) (qpv 5)) jh) (fun _ _=>rfl)) (qpv 7) (fun _ _=>rfl))))))
  (ji (jj (i:=4) yx.nd rfl (by first | exact Or.inl rfl | exact Or.inr rfl) (jn ix_U (jn ix_U (jn ix_U (qpv 0) jh (fun _ _=>rfl)) (qpv 4) (fun _ _=>rfl)) (qpv 6) (fun _ _=>rfl)))))))
  (ji (jz (qpv 3)))))) ?_
  simp! [tz_len]
  refine ⟨by omega,by omega,by omega,fun D hD=>?_⟩
  rw [show ((u.length:Int)).toNat=u.length by omega]
  refine comp_range (fun i=>.int (cn (mcOf mv m ys) i 0:Int)) (by omega) (fun i hi l Q' q=>?_) fun vv=>?_
  ·have C4:=C.kp0 ((Kp.refl [] H).new (o:=.lst l) hD)
   simp! [C4.hl]
   refine ⟨.ref (as.getD i 0),by rw [Int.zero_add];exact atI_nat (by rw [List.getElem?_map,asi i (by omega)];rfl),?_⟩
   rw [rIxU_ref,C4.at_ _ _ (asi i (by omega))]
   exact ⟨_,rfl,_,atI_nat (j:=0) (by rw [List.getElem?_map,List.getElem?_eq_getElem (by rw [rowC_len];exact n1)];rfl),by
    have e:=rowC_get (M:=mcOf mv m ys) (i:=i) (r:=0) n1
    rw [List.getD_eq_getElem?_getD,List.getElem?_eq_getElem (by rw [rowC_len];exact n1)] at e
    have e:(rowC (mcOf mv m ys) i)[0]'(by rw [rowC_len];exact n1)=(cn (mcOf mv m ys) i 0:Int):=e
    rw [e];exact q⟩
  dsimp only
  rw [show ((List.range u.length).map fun i=>V.int (cn (mcOf mv m ys) i 0:Int))=((List.range u.length).map fun i=>(cn (mcOf mv m ys) i 0:Int)).map V.int by rw [List.map_map];rfl]
  refine ⟨_,jb,?_⟩
  rw [show ((List.range u.length).map fun i=>(cn (mcOf mv m ys) i 0:Int)).sum=((((List.range u.length).map fun s=>cn (mcOf mv m ys) s 0).sum:Nat):Int) by rw [← sum_cast,List.map_map];rfl]
  generalize ((List.range u.length).map fun s=>cn (mcOf mv m ys) s 0).sum=S0 at k ⊢
  have k1:Kp [] H (upd H D (.lst (((List.range u.length).map fun i=>(cn (mcOf mv m ys) i 0:Int)).map V.int))):=(Kp.refl [] H).new hD
  generalize upd H D (.lst (((List.range u.length).map fun i=>(cn (mcOf mv m ys) i 0:Int)).map V.int))=H1 at k1 ⊢
  refine ⟨by omega,by omega,by omega,?_⟩
  refine loop_range (fun i σ H'=>∃ (v5 v6 v7:Option V) (Fd:Nat),σ=[some (.ref p),some (.ref pf),some (.str (tz z u)),some (.int (Fd:Int)),some (.int ((mcOf mv m ys).led 0 (u.take i):Nat)),v5,v6,v7]/\Fd+rk (mcOf mv m ys) ((mcOf mv m ys).led 0 (u.take i)) (u.drop i)=S0+rk (mcOf mv m ys) 0 u/\Kp [] H H') ⟨none,none,none,S0,rfl,rfl,k1⟩ ?_ ?_
  ·rintro i σ H2 hi ⟨v5,v6,v7,Fd,rfl,eF,kp⟩
   have ui:u[i]?=some (u.getD i 0):=by rw [List.getD_eq_getElem?_getD,List.getElem?_eq_getElem hi];rfl
   have tk:u.take (i+1)=u.take i++[u.getD i 0]:=by rw [List.take_add_one,ui];rfl
   have dr:u.drop i=u.getD i 0::u.drop (i+1):=by rw [List.drop_eq_getElem_cons hi];congr 1;exact Option.some.inj ((List.getElem?_eq_getElem hi).symm.trans ui)
   have am:=hw _ (List.mem_of_getElem? ui)
   generalize u.getD i 0=a at ui tk dr am
   have rl:(mcOf mv m ys).led 0 (u.take i) < mv.length:=Mc.led_lt mok n1 fun b hb=>hw b (List.mem_of_mem_take hb)
   rw [dr] at eF
   rw [tk,Mc.led_app]
   generalize (mcOf mv m ys).led 0 (u.take i)=r at rl eF ⊢
   obtain ⟨q1,q2⟩:=jbo nd (show a < z.length by omega)
   have M2:=M.kp kp
   have C2:=C.kp0 kp
   have hi':mv[r]?=some (mv.getD r []):=by rw [List.getD_eq_getElem?_getD,List.getElem?_eq_getElem rl];rfl
   obtain ⟨c,hcx,hcr⟩:=M2.rw.get hi'
   have rm:mv.getD r [] ∈ mv:=List.mem_of_getElem? hi'
   have rwl:=M.ok.ln _ rm
   have hc:(tz z u).cps.toList[i]?=some (z.cps.toList.getD a 0):=by
    have:(tz z u).cps.toList=u.map fun a=>z.cps.toList.getD a 0:=by simp [tz,toS]
    rw [this,List.getElem?_map,ui];rfl
   simp! [M2.hp,Int.zero_add]
   refine ⟨by rw [tz_len];omega,_,atI_nat hc,_,rfl,q1,?_⟩
   rw [M2.hm,q2]
   refine ⟨_,rfl,.ref c,atI_nat hcx,?_⟩
   have xl:((mv.getD r []).map nV).length=m:=by rw [List.length_map,rwl]
   refine rSlU.tup hcr (by rw [xl,HT.sIx_nat];omega) fun pc hpc=>?_
   rw [cut_to _ (by omega),Int.toNat_natCast]
   have kC:Kp [] H2 (upd H2 pc (.tup (((mv.getD r []).map nV).take a))):=(Kp.refl [] H2).new hpc
   have hpc3:upd H2 pc (.tup (((mv.getD r []).map nV).take a)) pc=some (.tup (((mv.getD r []).map nV).take a)):=jb
   generalize upd H2 pc (.tup (((mv.getD r []).map nV).take a))=H3 at kC hpc3 ⊢
   dsimp only
   rw [hpc3]
   dsimp only
   have xs':((mv.getD r []).map nV).take a=((List.range a).map fun b=>nV (dM mv r b)):=by
    rw [row_eq M.ok rl,List.map_map,← List.map_take,List.take_range,Nat.min_eq_left (by omega)];rfl
   have dl:(u.drop (i+1)).length=u.length - i - 1:=by rw [List.length_drop];omega
   have eF':Fd+((List.range a).map fun b=>cn (mcOf mv m ys) (u.length - i - 1) (dM mv r b)).sum+rk (mcOf mv m ys) (dM mv r a) (u.drop (i+1))=S0+rk (mcOf mv m ys) 0 u:=by
    rw [← eF,← dl]
    show _=Fd+(((List.range a).map fun b=>cn (mcOf mv m ys) (u.drop (i+1)).length (dM mv r b)).sum+rk (mcOf mv m ys) (dM mv r a) (u.drop (i+1)))
    omega
   have sz:=asi (u.length - i - 1) (by omega)
   refine loop_tup (xs:=((mv.getD r []).map nV).take a) (fun j σ H'=>∃ (v7:Option V),σ=[some (.ref p),some (.ref pf),some (.str (tz z u)),some (.int ((Fd+((List.range j).map fun b=>cn (mcOf mv m ys) (u.length - i - 1) (dM mv r b)).sum:Nat):Int)),some (.int (r:Int)),some (.int (i:Int)),some (.int (a:Int)),v7]/\H'=H3) ⟨v7,by simp,rfl⟩ ?_ ?_ ?_
   ·rintro j σ H' _ ⟨_,rfl,rfl⟩
    exact hpc3
   ·rintro j x σ H' hx ⟨v7,rfl,rfl⟩
    rw [xs',List.getElem?_map] at hx
    obtain ⟨b,hb,rfl⟩:=Option.map_eq_some_iff.mp hx
    obtain ⟨jl,e⟩:=List.getElem?_eq_some_iff.mp hb
    rw [List.getElem_range] at e
    rw [List.length_range] at jl
    subst e
    have C3:=C2.kp0 kC
    have dn:=(M.ok.at_ rl (show j < m by omega)).2
    simp! [nV,C3.hl]
    refine ⟨by rw [tz_len];omega,.ref (as.getD (u.length - i - 1) 0),?_,?_⟩
    ·rw [tz_len,show ((u.length:Int) - (i:Int) - 1)=((u.length - i - 1:Nat):Int) by omega]
     exact atI_nat (by rw [List.getElem?_map,sz];rfl)
    rw [rIxU_ref,C3.at_ _ _ sz]
    have e:=rowC_get (M:=mcOf mv m ys) (i:=u.length - i - 1) dn
    refine ⟨_,rfl,.int ((rowC (mcOf mv m ys) (u.length - i - 1)).getD (dM mv r j) 0),atI_nat (by rw [List.getElem?_map,List.getD_eq_getElem?_getD,List.getElem?_eq_getElem (by rw [rowC_len];exact dn)];rfl),?_⟩
    rw [e,rAddW_int]
    refine ⟨_,⟨?_,rfl⟩,rfl⟩
    rw [List.range_succ,List.map_append,List.sum_append]
    simp
    omega
   ·rintro σ H' ⟨v7,rfl,rfl⟩
    rw [xs',List.length_map,List.length_range]
    have M3:=M2.kp kC
    have hcr3:=kC.tup _ _ hcr
    simp! [M3.hp,M3.hm]
    refine ⟨.ref c,atI_nat hcx,?_⟩
    rw [rIxU_ref,hcr3]
    exact ⟨_,rfl,_,atI_nat (by rw [List.getElem?_map,(M.ok.at_ rl am).1];rfl),_,_,_,_,⟨rfl,rfl,rfl,rfl,rfl⟩,eF',kp.trans kC⟩
  ·rintro σ H2 ⟨v5,v6,v7,Fd,rfl,eF,kp⟩
   simp!
   rw [List.drop_length] at eF
   have eF:Fd=S0+rk (mcOf mv m ys) 0 u:=eF
   rw [eF]
   exact k H2 kp
end
theorem kitT (K:PySem.W.Frag) (T:String):PySem.W.kitOne K (.type T) (.type T)=some true:=if_pos (by simp)
def spRt (Pt:Addr):Sp:=fun vs H Q _=>∃ (p pm py pf:Addr) (z:Str) (us:List V) (mv:List (List Nat)) (m:Nat) (ys:List Bool) (as:List Addr) (k:Nat),vs=[.ref p,.ref pf,.int (k:Int),.int ((Al (mcOf mv m ys) 61).length:Nat)]/\MH H p z pm py us mv m ys/\z.length=m/\Letters z 4/\mv.length<=60/\CT H pf as (mcOf mv m ys)/\as.length=121/\k<=900/\TabOk H Pt LQ /\
 ((∀ j,(mcOf mv m ys).A j)->k<=(Al (mcOf mv m ys) 61).length)/\∀ H',Kp [Pt] H H'->TabOk H' Pt LQ->Q (.bl true) H'
theorem tz_ok {z:Str} {w:List Nat} (hz:Letters z 4) (hw:∀ a ∈ w,a < z.length):PyData.strOk (tz z w)=true:=by
 simp only [PyData.strOk,tz,toS]
 rw [← Array.all_toList,List.all_eq_true]
 intro c hc
 obtain ⟨a,ha,rfl⟩:=List.mem_map.mp (show c ∈ w.map fun a=>z.cps.toList.getD a 0 by simpa using hc)
 have:=hz.az _ (jbo hz.nd (hw a ha)).1
 exact decide_eq_true (by omega)
theorem tx_eq {H:Hp} {i j:Addr} {z:Str} {l:List (List Nat)} {Q:VK} (hz:Letters z 4) (hw:∀ w ∈ l,∀ a ∈ w,a < z.length) (e1:H i=some (.lst (txL z l))) (e2:H j=some (.lst (txL z l))) (q:Q (.bl true) H):rEqU (.ref i) (.ref j) H Q:=by
 have ok:SeqAt.shaped (.list ((l.map (tz z)).map PyData.str))=true:=shaped_strs fun x hx=>by
  obtain ⟨w,h1,rfl⟩:=List.mem_map.mp hx
  exact tz_ok hz (hw w h1)
 have rp:Reps H (txL z l) ((l.map (tz z)).map PyData.str):=by
  have:txL z l=(l.map (tz z)).map V.str:=by simp [txL]
  rw [this]
  exact Reps.strs H _
 refine ⟨_,_,?_,?_,ok,ok,?_⟩
 ·simp only [Rep];exact ⟨i,_,rfl,e1,rp⟩
 ·simp only [Rep];exact ⟨j,_,rfl,e2,rp⟩
 ·rw [eqv_strs_self];exact q
structure TRt (mg:Str->Option Value) (ff fl fr:Addr):Prop where
 n_len:mg "len"=none
 n_list:mg "list"=none
 n_str:mg "str"=none
 n_range:mg "range"=none
 n_min:mg "min"=none
 n_isinstance:mg "isinstance"=none
 m2z:mg "first_texts"=some (.ref ff)
 m6z:mg "_law_lets"=some (.ref fl)
 m9z:mg "_law_rank"=some (.ref fr)
section
variable {P:Program} {w:World} {K:PySem.W.Frag} {mg:Str->Option Value} {base:Heap}
abbrev yw:Stmt:=top 30
theorem zq:FnScope ["_law_machine_here","_law_counts_here","_law_many","_law_there","_law_found","_law_at","_law_text","_law_kept"] ["_law_machine_here","_law_counts_here","_law_many","_law_there"] (jg yw):=⟨rfl,rfl,rfl,by decide +kernel,rfl,by decide +kernel,by decide +kernel⟩
theorem ok__law_right {f ff fl fr Pt:Addr} {fd fdf fdl fdr:FuncData} (F:Fun K "_law_right" "_law_right" yw f fd) (T:TRt mg ff fl fr)
  (F2z:Fun K "first_texts" "first_texts" yy ff fdf) (b2z:Binds K fdf ["machine","many"] []) (G2z:FnOk P w K mg base CX0 8 ff fdf ["machine","many"] (spFT Pt))
  (F6z:Fun K "_law_lets" "_law_lets" zg fl fdl) (b6z:Binds K fdl ["_law_machine_here","_law_text"] []) (G6z:FnOk P w K mg base CX0 2 fl fdl ["_law_machine_here","_law_text"] spLt)
  (F9z:Fun K "_law_rank" "_law_rank" y6 fr fdr) (b9z:Binds K fdr ["_law_machine_here","_law_counts_here","_law_text"] []) (G9z:FnOk P w K mg base CX0 1 fr fdr ["_law_machine_here","_law_counts_here","_law_text"] spRk):FnOk P w K mg base CX0 9 f fd ["_law_machine_here","_law_counts_here","_law_many","_law_there"] (spRt Pt):=by
 refine F.ok zq (fun vs H Q E h=>?_) (fun cdv A outer s H vs Q E hr h=>?_)
 ·obtain ⟨p,pm,py,pf,z,us,mv,m,ys,as,k,rfl,_⟩:=h
  rfl
 ·obtain ⟨p,pm,py,pf,z,us,mv,m,ys,as,kk,rfl,M,zm,hz,n60,C,al,k9,tb,inf,k⟩:=h
  have hu:=hr.units
  have hsz:sizeLine=16777216:=PySem.sizeLine_eq
  have zl:=hz.hi
  obtain ⟨tps,hPt,_⟩:=id tb
  have npf:pf≠Pt:=fun e=>by have:=C.hl;rw [e,hPt] at this;cases this
  have nas:∀ a ∈ as,a ∉ [Pt]:=fun a ha e=>by
   obtain ⟨i,hi⟩:=List.getElem?_of_mem ha
   have:=C.at_ i a hi
   rw [List.mem_singleton.mp e,hPt] at this;cases this
  have aw:∀ w ∈ Al (mcOf mv m ys) 61,∀ a ∈ w,a < z.length:=fun w hw a ha=>by
   obtain ⟨i,hi⟩:=List.getElem?_of_mem hw
   rw [zm];exact (Al_at _ hi).2.1 a ha
  refine exQ (jf (jj (i:=4) zq.nd rfl (by first | exact Or.inl rfl | exact Or.inr rfl) (jq G2z (hr.mono (by decide)) rfl T.m2z F2z.kp b2z .nil j9 (ja (qpv 0) (ja (qpv 2) jd))))
  (yg (yb (QW.pt (jaq (jbh (zr (jo (jan (K:=K) rfl) (by rfl) T.n_isinstance ja4 (ja (qpv 4) (ja (jb5 (v:=.ty "list") rfl T.n_list jbe rfl) jd))))) (jam (j4 (jbn hu) (jo jr (by rfl) T.n_len jx (ja (qpv 4) jd)) (jo (jbz rfl) (by rfl) T.n_min jci (ja (qpv 2) (ja (qpv 3) jd))) (j8 _))))) (ji (jz z4)) ke)
  (jf (kg PassesOwn.never rfl (yd rfl T.n_range (ja (jo jr (by rfl) T.n_len jx (ja (qpv 4) jd)) jd)) (jm (i:=5) zq.nd rfl (by first | exact Or.inl rfl | exact Or.inr rfl)) (jf (jj (i:=6) zq.nd rfl (by first | exact Or.inl rfl | exact Or.inr rfl) (jn ix_U (qpv 4) (qpv 5) (fun _ _=>rfl)))
  (yg (yb (QW.pt (jaq (jbh (zr (jo (jan (K:=K) rfl) (by rfl) T.n_isinstance ja4 (ja (qpv 6) (ja (jb5 (v:=.ty "str") rfl T.n_str bt_str rfl) jd))))) (jaq (j4 jbm (jo jr (by rfl) T.n_len jx (ja (qpv 6) jd)) jh (j8 _)) (jam (j4 (jbn hu) (ja1 rfl (compOk_of (sc:=jg yw) (N:=["_law_machine_here","_law_counts_here","_law_many","_law_there","_law_found","_law_at","_law_text","_law_kept"]) (Nc:=["_law_sign","_law_machine_here"]) (js:=[none,some 0]) (by decide +kernel)) (j7 (K:=K) (qpv 6) rfl) (fun _ _ _ _=>(jm (i:=0) (show List.Nodup [("_law_sign":Str),("_law_machine_here":Str)] from by decide +kernel) rfl (by first | exact Or.inl rfl | exact Or.inr rfl))) (fun _ _ _ _=>(j4 (op_notinU (K:=K) rfl) (qpv 0) (jn ix_U (qpv 1) jh (fun _ _=>rfl)) (by with_unfolding_all rfl))) (fun _ _ _ _=>(qpv 0))) (kf jd) (j8 _)))))) (ji (jz z4)) ke)
  (ji (yb (QW.pt (jaq (jbh (zr (jq G6z (hr.mono (by decide)) rfl T.m6z F6z.kp b6z .nil j9 (ja (qpv 0) (ja (qpv 6) jd))))) (jam (j4 (jbn hu) (jq G9z (hr.mono (by decide)) rfl T.m9z F9z.kp b9z .nil j9 (ja (qpv 0) (ja (qpv 1) (ja (qpv 6) jd)))) (qpv 5) (j8 _))))) (ji (jz z4)) ke)))))
  (jf (jj (i:=7) zq.nd rfl (by first | exact Or.inl rfl | exact Or.inr rfl) (j6 (jbl rfl) (by rfl) T.n_list jbe (ja (qpv 4) jd)))
  (jf (km (jb6 PySem.F.slot_list_clear PySem.F.type_list_clear mt_clearU (qpv 4) mono_var))
  (ji (jz (jcb (zx (yv hu) (jq G2z (hr.mono (by decide)) rfl T.m2z F2z.kp b2z .nil j9 (ja (qpv 0) (ja (qpv 2) jd))) (qpv 7) (j8 _)) (jbs (zx (yv hu) (jq G2z (hr.mono (by decide)) rfl T.m2z F2z.kp b2z .nil j9 (ja (qpv 0) (ja (jt jbf (qpv 2) jh) jd))) (jaj (jbp (K:=K) rfl) (qpv 7) jao (jap (jt jbf (qpv 2) jh))) (j8 _))))))))))) ?_
  simp!
  refine ⟨p,pm,py,z,us,mv,m,ys,kk,rfl,M,zm,by omega,n60,k9,tb,inf,fun q H1 hq e1 k1 tb1=>?_⟩
  have C1:=C.kp k1 (by simpa using npf) nas
  have M1:=M.kp k1
  have ll:(txL z ((Al (mcOf mv m ys) 61).take kk)).length=min kk (Al (mcOf mv m ys) 61).length:=by simp [txL]
  refine ⟨fun σ' H'=>σ'=[some (.ref p),some (.ref pf),some (.int (kk:Int)),some (.int ((Al (mcOf mv m ys) 61).length:Nat)),some (.ref q),none,none,none]/\H1=H',?_,?_⟩
  ·simp!
   refine ⟨_,.lst e1,true,kitT K "list",?_⟩
   rw [if_neg (by simp),e1]
   refine ⟨_,rfl,?_⟩
   rw [ll,if_neg ?_]
   ·trivial
   ·simp only [Bool.not_eq_true',decide_eq_false_iff_not,Decidable.not_not]
    split <;> omega
  rintro _ _ ⟨rfl,rfl⟩
  simp! [e1]
  refine ⟨by omega,by omega,?_⟩
  rw [show ((((txL z ((Al (mcOf mv m ys) 61).take kk)).length:Nat):Int)).toNat=(txL z ((Al (mcOf mv m ys) 61).take kk)).length by omega]
  refine loop_range (fun i σ H'=>∃ (v5 v6:Option V),σ=[some (.ref p),some (.ref pf),some (.int (kk:Int)),some (.int ((Al (mcOf mv m ys) 61).length:Nat)),some (.ref q),v5,v6,none]/\Kp [] H1 H') ⟨none,none,rfl,Kp.refl [] H1⟩ ?_ ?_
  ·rintro i σ H2 hi ⟨v5,v6,rfl,k2⟩
   rw [ll] at hi
   obtain ⟨u,hu'⟩:∃ u,(Al (mcOf mv m ys) 61)[i]?=some u:=⟨_,List.getElem?_eq_getElem (by omega)⟩
   obtain ⟨u60,uw,uy,urk⟩:=Al_at _ hu'
   have e2:=k2.old _ _ e1 (by simp)
   have M2:=M1.kp k2
   have C2:=C1.kp0 k2
   have ut:(txL z ((Al (mcOf mv m ys) 61).take kk))[i]?=some (.str (tz z u)):=by
    unfold txL
    rw [List.getElem?_map,List.getElem?_take_of_lt (by omega),hu'];rfl
   simp! [e2,Int.zero_add]
   refine ⟨_,atI_nat ut,?_⟩
   refine ⟨fun σ' H'=>σ'=[some (.ref p),some (.ref pf),some (.int (kk:Int)),some (.int ((Al (mcOf mv m ys) 61).length:Nat)),some (.ref q),some (.int (i:Int)),some (.str (tz z u)),none]/\Kp [] H1 H',?_,?_⟩
   ·simp!
    refine ⟨_,.str _,true,kitT K "str",?_⟩
    rw [if_neg (by simp),tz_len]
    refine ⟨by omega,?_⟩
    rw [if_neg (by omega)]
    intro D hD
    refine compIf_str (fun _=>false) (fun c=>.str ⟨#[c]⟩) (by rw [tz_len];omega) (fun c hc l Q' q=>?_) (fun c hc h=>by cases h) fun vv=>?_
    ·have kN:=(Kp.refl [] H2).new (o:=.lst l) hD
     obtain ⟨i',hi'⟩:=List.getElem?_of_mem hc
     obtain ⟨a,ha,rfl⟩:=tz_at hi'
     have:=(jbo hz.nd (show a < z.length by rw [zm];exact uw a (List.mem_of_getElem? ha))).1
     simp! [(M2.kp kN).hp,hasS_one]
     rw [decide_eq_true this]
     exact q
    dsimp only
    rw [List.filter_eq_nil_iff.mpr (by simp),List.map_nil]
    refine ⟨by omega,fun p0 hp0=>?_⟩
    have n0:D≠p0:=je jb hp0
    refine ⟨.list [],.list [],?_,?_,rfl,rfl,?_⟩
    ·simp only [Rep];exact ⟨D,[],rfl,by rw [jc n0,jb],by simp only [Reps]⟩
    ·simp only [Rep];exact ⟨p0,[],rfl,jb,by simp only [Reps]⟩
    refine ⟨false,rfl,?_⟩
    rw [if_neg (by simp)]
    exact (k2.new hD).new hp0
   rintro _ H3 ⟨rfl,k3⟩
   have M3:=M1.kp k3
   have C3:=C1.kp0 k3
   simp!
   refine ⟨p,pm,py,z,us,mv,m,ys,u,rfl,M3,zm,hz.nd,uw,by omega,true,by rw [uy],?_⟩
   rw [if_neg (by simp)]
   refine ⟨p,pm,py,pf,z,us,mv,m,ys,as,u,rfl,M3,zm,hz.nd,C3,by omega,by omega,uw,fun H4 k4=>?_⟩
   dsimp only
   rw [urk,rNeU_int]
   refine ⟨_,rfl,?_⟩
   rw [if_neg (by simp)]
   exact ⟨_,_,⟨rfl,rfl⟩,k3.trans k4⟩
  ·rintro σ H2 ⟨v5,v6,rfl,k2⟩
   have e2:=k2.old _ _ e1 (by simp)
   simp! [e2]
   intro pk hpk
   have nqk:q≠pk:=je e2 hpk
   have kA:Kp [Pt] H (upd (upd H2 pk (.lst (txL z ((Al (mcOf mv m ys) 61).take kk)))) q (.lst [])):=(((k1.trans (k2.mono (by simp))).new hpk).set (by rw [jc nqk];exact e2) (.inr hq))
   have kB:Kp [q] H2 (upd (upd H2 pk (.lst (txL z ((Al (mcOf mv m ys) 61).take kk)))) q (.lst [])):=((Kp.refl [q] H2).new hpk).set (by rw [jc nqk];exact e2) (.inl (by simp))
   have nqP:q≠Pt:=fun e=>by
    obtain ⟨tps',hPt',_⟩:=id tb1
    rw [e,hPt'] at e1;cases e1
   have tbA:=(tb1.kp k2 (by simp) (by simp)).kp kB (by simpa using nqP.symm) (fun c o h e=>by rw [List.mem_singleton.mp e,k2.old _ _ e1 (by simp)] at h;cases h)
   have eK:upd (upd H2 pk (.lst (txL z ((Al (mcOf mv m ys) 61).take kk)))) q (.lst []) pk=some (.lst (txL z ((Al (mcOf mv m ys) 61).take kk))):=by rw [jc nqk.symm,jb]
   refine ⟨by rw [jc nqk,e2];rfl,by rw [jc nqk,e2];rfl,?_⟩
   generalize upd (upd H2 pk (.lst (txL z ((Al (mcOf mv m ys) 61).take kk)))) q (.lst [])=H3 at kA tbA eK ⊢
   have npk:pk≠Pt:=fun e=>by
    obtain ⟨tps',hPt',_⟩:=id tbA
    rw [e,hPt'] at eK;cases eK
   have wl:∀ k':Nat,∀ w ∈ (Al (mcOf mv m ys) 61).take k',∀ a ∈ w,a < z.length:=fun k' w hw=>aw w (List.mem_of_mem_take hw)
   refine ⟨p,pm,py,z,us,mv,m,ys,kk,rfl,M.kp kA,zm,by omega,n60,k9,tbA,inf,fun q2 H4 hq2 e4 k4 tb4=>?_⟩
   have eK4:=k4.old _ _ eK (by simpa using npk)
   have kA4:=kA.trans k4
   refine tx_eq hz (wl kk) e4 eK4 ⟨true,rfl,?_⟩
   rw [if_pos rfl]
   refine ⟨⟨by decide,by decide⟩,p,pm,py,z,us,mv,m,ys,kk / 2,by simp,M.kp kA4,zm,by omega,n60,by omega,tb4,fun h=>by have:=inf h;omega,fun q3 H5 hq3 e5 k5 tb5=>?_⟩
   have eK5:=k5.old _ _ eK4 (by simpa using npk)
   refine ⟨⟨by decide,by decide⟩,rSlU.lst eK5 fun pc hpc=>?_⟩
   rw [cut_to _ (by omega),show ((kk:Int) / 2).toNat=kk / 2 by omega]
   have ec:(txL z ((Al (mcOf mv m ys) 61).take kk)).take (kk / 2)=txL z ((Al (mcOf mv m ys) 61).take (kk / 2)):=by
    unfold txL
    rw [← List.map_take,List.take_take,Nat.min_eq_left (by omega)]
   rw [ec]
   have kC:Kp [] H5 (upd H5 pc (.lst (txL z ((Al (mcOf mv m ys) 61).take (kk / 2))))):=(Kp.refl [] H5).new hpc
   exact tx_eq hz (wl (kk / 2)) (kC.old _ _ e5 (by simp)) jb (k _ ((kA4.trans k5).trans (kC.mono (by simp))) (tb5.kp kC (by simp) (by simp)))
end
theorem BoxO.lst {o:HO} (h:BoxO o):∃ xs,o=.lst xs:=by
 obtain ⟨c,s,e,_⟩:=h
 exact ⟨_,e⟩
structure SB (H:Hp) (b:Addr) (H':Hp):Prop where
 kp:Kp [b] H H'
 bx:∃ o,H' b=some o/\BoxO o
theorem SB.take {H H':Hp} {b:Addr} {o1:HO} (h:SB H b H') (ho1:BoxO o1):SB H b (upd H' b o1):=by
 obtain ⟨kp,o,hb,ho⟩:=h
 obtain ⟨xs,rfl⟩:=ho.lst
 exact ⟨kp.set hb (.inl (by simp)),o1,jb,ho1⟩
theorem SB.new {H H':Hp} {b p:Addr} {x:HO} (h:SB H b H') (hp:H' p=none):SB H b (upd H' p x):=by
 obtain ⟨kp,o,hb,ho⟩:=h
 exact ⟨kp.new hp,o,by rw [jc (je hb hp)];exact hb,ho⟩
theorem SB.tq {H H':Hp} {b:Addr} (h:SB H b H') {w:Int} (w0:0 < w) (w1:w < 1073741824) {Q:VK} {E:XK} (q:∀ d H2,0<=d->d < w->SB H b H2->Kp [b] H' H2->Q (.int d) H2):spTake [.ref b,.int w] H' Q E:=by
 obtain ⟨o,hb,ho⟩:=h.bx
 refine ⟨b,w,o,rfl,hb,ho,w0,w1,fun d o' d0 d1 ho'=>q d _ d0 d1 (h.take ho') ?_⟩
 obtain ⟨xs,rfl⟩:=ho.lst
 exact (Kp.refl [b] H').set hb (.inl (by simp))
theorem SB.ne {H H':Hp} {b p:Addr} (h:SB H b H') (hp:H' p=none):p≠b:=by
 obtain ⟨o,hb,_⟩:=h.bx
 exact (je hb hp).symm
theorem Mc.pump {M:Mc} (ok:M.ok) (n1:1<=M.n):∀ (L:Nat) (w:List Nat),w.length=L->M.ws w->M.y (M.led 0 w)=true->M.n<=L->∃ s,s < M.n/\Wd M (M.n+s) 0≠[]:=fun L=>by
 induction L using Nat.strongRecOn with
 | ind L ih =>
  intro w hl hw hy hn
  by_cases c:L < 2 * M.n
  ·refine ⟨L - M.n,by omega,fun e=>?_⟩
   have:=Wd_mem M w 0 hw hy
   rw [hl,show L=M.n+(L - M.n) by omega,e] at this
   cases this
  ·have key:∃ i j,i < j/\j<=M.n/\M.led 0 (w.take i)=M.led 0 (w.take j):=Classical.byContradiction fun no=>by
    have nd:((List.range (M.n+1)).map fun i=>M.led 0 (w.take i)).Nodup:=by
     refine List.pairwise_map.mpr (List.Pairwise.imp_of_mem (fun {i j} _ hj hij=>?_) List.pairwise_lt_range)
     exact fun e=>no ⟨i,j,hij,by have:=List.mem_range.mp hj;omega,e⟩
    have:=nodup_leN (zs:=List.range M.n) nd fun x hx=>by
     obtain ⟨i,_,rfl⟩:=List.mem_map.mp hx
     exact List.mem_range.mpr (Mc.led_lt ok (by omega) fun a ha=>hw a (List.mem_of_mem_take ha))
    rw [List.length_map,List.length_range,List.length_range] at this
    omega
   obtain ⟨i,j,ij,jl,e⟩:=key
   have len:(w.take i++w.drop j).length=L - (j - i):=by rw [List.length_append,List.length_take,List.length_drop];omega
   refine ih (L - (j - i)) (by omega) (w.take i++w.drop j) len (Mc.ws_app (fun a ha=>hw a (List.mem_of_mem_take ha)) (fun a ha=>hw a (List.mem_of_mem_drop ha))) ?_ (by omega)
   rw [Mc.led_app,e,← Mc.led_app,List.take_append_drop];exact hy
theorem Mc.pumped {M:Mc} (ok:M.ok) (n1:1<=M.n) (h:∀ j,M.A j):((List.range M.n).map fun s=>cn M (M.n+s) 0).sum≠0:=fun e=>by
 obtain ⟨w,hw,hl,u,hu,hy⟩:=h M.n
 obtain ⟨s,sn,ne⟩:=Mc.pump ok n1 _ (w++u) rfl (Mc.ws_app hw hu) (by rw [Mc.led_app];exact hy) (by rw [List.length_append];omega)
 have zero:∀ l:List Nat,l.sum=0->∀ x ∈ l,x=0:=fun l=>by
  induction l with
  | nil=>intro _ x hx;cases hx
  | cons y l ih =>
   intro h x hx
   rw [List.sum_cons] at h
   rcases List.mem_cons.mp hx with rfl | hx
   ·omega
   ·exact ih (by omega) x hx
 have:=zero _ e (cn M (M.n+s) 0) (List.mem_map.mpr ⟨s,List.mem_range.mpr sn,rfl⟩)
 exact ne (List.length_eq_zero_iff.mp this)
def hdV (H:Hp):V->V
 | .ref a=>match H a with
  | some (.lst (v::_))=>v
  | _=>.non
 | v=>v
theorem CT.hd {H:Hp} {pf:Addr} {as:List Addr} {M:Mc} (C:CT H pf as M) (n1:1<=M.n) {i:Nat} {a:Addr} (e:as[i]?=some a):hdV H (.ref a)=.int (cn M i 0:Int)/\∃ r,H a=some (.lst (.int (cn M i 0:Int)::r)):=by
 have h:=C.at_ i a e
 obtain ⟨k,hk⟩:∃ k,M.n=k+1:=⟨M.n - 1,by omega⟩
 have er:(rowC M i).map V.int=.int (cn M i 0:Int)::((List.range k).map fun r=>V.int (cn M i (r+1):Int)):=by
  unfold rowC
  rw [hk,List.range_succ_eq_map,List.map_cons,List.map_cons,List.map_map,List.map_map];rfl
 rw [er] at h
 refine ⟨?_,_,h⟩
 show (match H a with | some (.lst (v::_))=>v | _=>.non)=_
 rw [h]
theorem CT.hds {H:Hp} {pf:Addr} {as:List Addr} {M:Mc} (C:CT H pf as M) (n1:1<=M.n) {k:Nat} (hk:k<=as.length):((as.map V.ref).take k).map (hdV H)=(((List.range k).map fun i=>(cn M i 0:Int))).map V.int:=by
 rw [← List.map_take,List.map_map,List.map_map]
 refine List.ext_getElem (by simp;omega) fun i h1 h2=>?_
 rw [List.getElem_map,List.getElem_map,List.getElem_range,List.getElem_take]
 have hi:i < as.length:=by simp at h1;omega
 exact (C.hd n1 (List.getElem?_eq_getElem hi)).1
theorem pick01 {H:Hp} {q:Addr} {x y d:Int} {R:VK} (e:H q=some (.lst [.int x,.int y])) (h0:R (.int x) H) (h1:R (.int y) H):rEqU (.int d) (.int 1) H fun v H1=>rIntU [v] H1 fun u H2=>rIxU (.ref q) u H2 R:=by
 rw [rEqU_int,rIntU_bl,rIxU_ref,e]
 by_cases c:d=1
 ·exact ⟨_,rfl,.int y,by rw [decide_eq_true c];rfl,h1⟩
 ·exact ⟨_,rfl,.int x,by rw [decide_eq_false c];rfl,h0⟩
theorem pickB {H:Hp} {q:Addr} {x y d:Int} {R:VK} (e:H q=some (.lst [.int x,.int y])) (h:∀ w,w=x∨w=y->R (.int w) H):rEqU (.int d) (.int 1) H fun v H1=>rIntU [v] H1 fun u H2=>rIxU (.ref q) u H2 R:=pick01 e (h x (.inl rfl)) (h y (.inr rfl))
def spLawT (K:PySem.W.Frag) (Pt:Addr):Sp:=fun vs H Q _=>∃ (a:Addr) (ns:List Int),vs=[.ref a]/\SqL K H a (ns.map V.int)/\ns.length<=63/\a≠Pt/\TabOk H Pt LQ/\∀ H',Q (.bl true) H'
structure TLw (mg:Str->Option Value) (fb ft fl fm fc fr:Addr):Prop where
 n_len:mg "len"=none
 n_range:mg "range"=none
 n_int:mg "int"=none
 n_sum:mg "sum"=none
 n_min:mg "min"=none
 m3z:mg "_law_box"=some (.ref fb)
 m0z:mg "_law_take"=some (.ref ft)
 m7z:mg "_law_letters"=some (.ref fl)
 m8z:mg "_law_machine"=some (.ref fm)
 m4z:mg "_law_counts"=some (.ref fc)
 m10z:mg "_law_right"=some (.ref fr)
section
variable {P:Program} {w:World} {K:PySem.W.Frag} {mg:Str->Option Value} {base:Heap}
abbrev jae:Stmt:=top 31
theorem z6:FnScope ["_law_script","_law_k","_law_box_here","_law_most","_law_machine_here","_law_many","_law_rooms","_law_counts_here","_law_there"] ["_law_script"] (jg jae):=⟨rfl,rfl,rfl,by decide +kernel,rfl,by decide +kernel,by decide +kernel⟩
theorem ok_law {f fb ft fl fm fc fr Pt:Addr} {fd fdb fdt fdl fdm fdc fdr:FuncData} (F:Fun K "law" "law" jae f fd) (T:TLw mg fb ft fl fm fc fr)
  (F3z:Fun K "_law_box" "_law_box" zo fb fdb) (b3z:Binds K fdb ["_law_script","_law_k"] []) (G3z:FnOk P w K mg base CX0 1 fb fdb ["_law_script","_law_k"] (spBox K))
  (F0z:Fun K "_law_take" "_law_take" yt ft fdt) (b0z:Binds K fdt ["_law_box_here","_law_wide"] []) (G0z:FnOk P w K mg base CX0 1 ft fdt ["_law_box_here","_law_wide"] spTake)
  (F7z:Fun K "_law_letters" "_law_letters" yq fl fdl) (b7z:Binds K fdl ["_law_box_here","_law_most"] []) (G7z:FnOk P w K mg base CX0 2 fl fdl ["_law_box_here","_law_most"] spLetters)
  (F8z:Fun K "_law_machine" "_law_machine" yf fm fdm) (b8z:Binds K fdm ["_law_box_here","_law_letters_here","_law_most"] []) (G8z:FnOk P w K mg base CX0 2 fm fdm ["_law_box_here","_law_letters_here","_law_most"] spMachine)
  (F4z:Fun K "_law_counts" "_law_counts" yc fc fdc) (b4z:Binds K fdc ["_law_machine_here","_law_most"] []) (G4z:FnOk P w K mg base CX0 1 fc fdc ["_law_machine_here","_law_most"] spCt)
  (F10z:Fun K "_law_right" "_law_right" yw fr fdr) (b10z:Binds K fdr ["_law_machine_here","_law_counts_here","_law_many","_law_there"] []) (G10z:FnOk P w K mg base CX0 9 fr fdr ["_law_machine_here","_law_counts_here","_law_many","_law_there"] (spRt Pt)):FnOk P w K mg base CX0 10 f fd ["_law_script"] (spLawT K Pt):=by
 refine F.ok z6 (fun vs H Q E h=>?_) (fun cdv A outer s H vs Q E hr h=>?_)
 ·obtain ⟨a,ns,rfl,_⟩:=h
  rfl
 ·obtain ⟨a,ns,rfl,hS,hn,naP,tb,kQ⟩:=h
  have hu:=hr.units
  have hsz:sizeLine=16777216:=PySem.sizeLine_eq
  refine exQ (jf (kg PassesOwn.never rfl (yd rfl T.n_range (ja (jt yp jh (jo jr (by rfl) T.n_len jx (ja (jaj (jbp (K:=K) rfl) (qpv 0) jao (jap jh)) jd))) jd)) (jm (i:=1) z6.nd rfl (by first | exact Or.inl rfl | exact Or.inr rfl)) (jf (jj (i:=2) z6.nd rfl (by first | exact Or.inl rfl | exact Or.inr rfl) (jq G3z (hr.mono (by decide)) rfl T.m3z F3z.kp b3z .nil j9 (ja (qpv 0) (ja (qpv 1) jd))))
  (yg (jj (i:=3) z6.nd rfl (by first | exact Or.inl rfl | exact Or.inr rfl) (jn ix_U (kf (ja jh (ja jh jd))) (j6 jas (by rfl) T.n_int jbj (ja (jcb (zx (yv hu) (qpv 1) jh (j8 _)) (jbs (zx (yv hu) (jq G0z (hr.mono (by decide)) rfl T.m0z F0z.kp b0z .nil j9 (ja (qpv 2) (ja jh jd))) jh (j8 _)))) jd)) (fun _ _=>rfl)))
  (jf (jj (i:=4) z6.nd rfl (by first | exact Or.inl rfl | exact Or.inr rfl) (jq G8z (hr.mono (by decide)) rfl T.m8z F8z.kp b8z .nil j9 (ja (qpv 2) (ja (jq G7z (hr.mono (by decide)) rfl T.m7z F7z.kp b7z .nil j9 (ja (qpv 2) (ja jh jd))) (ja (qpv 3) jd)))))
  (jf (jj (i:=5) z6.nd rfl (by first | exact Or.inl rfl | exact Or.inr rfl) (jq G0z (hr.mono (by decide)) rfl T.m0z F0z.kp b0z .nil j9 (ja (qpv 2) (ja (jn ix_U (kf (ja jh (ja jh jd))) (j6 jas (by rfl) T.n_int jbj (ja (zx (yv hu) (jq G0z (hr.mono (by decide)) rfl T.m0z F0z.kp b0z .nil j9 (ja (qpv 2) (ja jh jd))) jh (j8 _)) jd)) (fun _ _=>rfl)) jd))))
  (jf (jj (i:=6) z6.nd rfl (by first | exact Or.inl rfl | exact Or.inr rfl) (jo jr (by rfl) T.n_len jx (ja (jn ix_U (qpv 4) jh (fun _ _=>rfl)) jd)))
  (yg (jj (i:=7) z6.nd rfl (by first | exact Or.inl rfl | exact Or.inr rfl) (jq G4z (hr.mono (by decide)) rfl T.m4z F4z.kp b4z .nil j9 (ja (qpv 4) (ja jh jd))))
  (yg (jj (i:=8) z6.nd rfl (by first | exact Or.inl rfl | exact Or.inr rfl) (jo (jat rfl) (by rfl) T.n_sum jbk (ja (kj rfl (compOk_of (sc:=jg jae) (N:=["_law_script","_law_k","_law_box_here","_law_most","_law_machine_here","_law_many","_law_rooms","_law_counts_here","_law_there"]) (Nc:=["_law_row"]) (js:=[none]) (by decide +kernel)) (j7 (K:=K) (jaj (jbp (K:=K) rfl) (qpv 7) jao (jap jh)) rfl) (fun _ _ _ _=>(jm (i:=0) (show List.Nodup [("_law_row":Str)] from by decide +kernel) rfl (by first | exact Or.inl rfl | exact Or.inr rfl))) (fun _ _ _ _=>(jn ix_U (qpv 0) jh (fun _ _=>rfl)))) jd)))
  (yg (yb (j4 jbm (jo (jat rfl) (by rfl) T.n_sum jbk (ja (kj rfl (compOk_of (sc:=jg jae) (N:=["_law_script","_law_k","_law_box_here","_law_most","_law_machine_here","_law_many","_law_rooms","_law_counts_here","_law_there"]) (Nc:=["_law_size","_law_counts_here"]) (js:=[none,some 7]) (by decide +kernel)) (qpi_range2 rfl T.n_range (ja (qpv 6) (ja (jt zj jh (qpv 6)) jd))) (fun _ _ _ _=>(jm (i:=0) (show List.Nodup [("_law_size":Str),("_law_counts_here":Str)] from by decide +kernel) rfl (by first | exact Or.inl rfl | exact Or.inr rfl))) (fun _ _ _ _=>(jn ix_U (jn ix_U (qpv 1) (qpv 0) (fun _ _=>rfl)) jh (fun _ _=>rfl)))) jd)) jh (j8 _)) (ji (jj (i:=5) z6.nd rfl (by first | exact Or.inl rfl | exact Or.inr rfl) (jo (jbz rfl) (by rfl) T.n_min jci (ja (qpv 5) (ja (qpv 8) jd))))) ke)
  (ji (yb (jbh (zr (jq G10z (hr.mono (by decide)) rfl T.m10z F10z.kp b10z .nil j9 (ja (qpv 4) (ja (qpv 7) (ja (qpv 5) (ja (qpv 8) jd))))))) (ji (jz z4)) ke)))))))))))
  (ji (jz z4))) ?_
  simp!
  refine rSlU.sq hS fun sl hsl=>?_
  have k1:Kp [] H (upd H sl (.lst (cutV (ns.map V.int) none (some 5)))):=(Kp.refl [] H).new hsl
  rw [rLenU_ref,jb]
  refine ⟨_,rfl,?_⟩
  rw [rAddW_int]
  have cl:(cutV (ns.map V.int) none (some 5)).length<=ns.length:=by have:=cutV_length (ns.map V.int) none (some 5);rw [List.length_map] at this;exact this
  generalize upd H sl (.lst (cutV (ns.map V.int) none (some 5)))=H1 at k1 ⊢
  generalize (cutV (ns.map V.int) none (some 5)).length=q at cl
  refine ⟨_,rfl,by omega,by omega,?_⟩
  refine loop_range (fun i σ H'=>∃ (v1 v2 v3 v4 v5 v6 v7 v8:Option V),σ=[some (.ref a),v1,v2,v3,v4,v5,v6,v7,v8]/\Kp [Pt] H H'/\TabOk H' Pt LQ) ⟨none,none,none,none,none,none,none,none,rfl,k1.mono (by simp),tb.kp k1 (by simp) (by simp)⟩ ?_ ?_
  ·rintro i σ H2 hi ⟨v1,v2,v3,v4,v5,v6,v7,v8,rfl,kp,tb2⟩
   simp!
   rw [Int.zero_add]
   refine ⟨a,i,ns,rfl,kp.seq (by simpa using naP) hS,by omega,by omega,fun b o hb ho=>?_⟩
   have kb:Kp [] H2 (upd H2 b o):=(Kp.refl [] H2).new hb
   have sb0:SB (upd H2 b o) b (upd H2 b o):=⟨Kp.refl _ _,o,jb,ho⟩
   generalize upd H2 b o=H3 at kb sb0 ⊢
   refine ⟨fun σ' H'=>∃ n:Nat,σ'=[some (.ref a),some (.int (i:Int)),some (.ref b),some (.int (n:Int)),v4,v5,v6,v7,v8]/\1<=n/\n<=60/\SB H3 b H',?_,?_⟩
   ·simp!
    refine ⟨by omega,fun q1 hq1=>ite2 (fun _=>?_) (fun _=>⟨8,rfl,by omega,by omega,sb0.new hq1⟩)⟩
    have nb:=(sb0.new (x:=.lst [.int 8,.int 60]) hq1)
    refine nb.tq (by omega) (by omega) fun d H5 d0 d1 sb5 k5=>?_
    exact pick01 (k5.old _ _ jb (by simpa using sb0.ne hq1)) ⟨8,rfl,by omega,by omega,sb5⟩ ⟨60,rfl,by omega,by omega,sb5⟩
   rintro _ H4 ⟨n,rfl,n1,n60,sb4⟩
   simp!
   obtain ⟨o4,hb4,ho4⟩:=sb4.bx
   refine ⟨b,4,o4,rfl,hb4,ho4,by omega,by omega,fun z o5 H5 hz ho5 hb5 k5=>?_⟩
   refine ⟨b,z,n,o5,rfl,hb5,ho5,hz,n1,by omega,fun p mm o6 H6 ez okm ho6 hb6 k6 rp=>?_⟩
   obtain ⟨a1,a2,rs,ma⟩:=Mach.opened rp
   have mh:=ma.mh okm (by omega)
   have nh:(mvN mm).length<=60:=by have:=okm.nh;simp [mvN];omega
   rw [ez] at mh
   have sb6:SB H3 b H6:=⟨(sb4.kp.trans k5).trans k6,o6,hb6,ho6⟩
   generalize mvN mm=mv at mh nh
   generalize mm.ye=ys at mh
   have ul:rs.length=mv.length:=Paired.length mh.rw
   refine ⟨by omega,fun q1 hq1=>?_⟩
   refine (sb6.new hq1).tq (by omega) (by omega) fun d H7 d0 d1 sb7 k7=>?_
   have e7:=k7.old _ _ jb (by simpa using sb6.ne hq1)
   have mh7:=(mh.kp ((Kp.refl [b] H6).new (o:=.lst [.int 13,.int 201]) hq1)).kp k7
   refine pickB e7 fun wd hwd=>?_
   refine sb7.tq (by omega) (by omega) fun d H8 d0 d1 sb8 k8=>?_
   obtain ⟨dn,rfl⟩:∃ dn:Nat,d=(dn:Int):=⟨d.toNat,by omega⟩
   have dn9:dn<=200:=by omega
   have mh8:=mh7.kp k8
   rw [rIxU_ref,mh8.hp]
   refine ⟨_,rfl,_,atI_1 _ _ _,?_⟩
   rw [rLenU_ref,mh8.hm]
   refine ⟨_,rfl,?_⟩
   rw [ul]
   have k38:Kp [] H2 H8:=kb.trans' sb8.kp (fun x hx=>.inr (by cases List.mem_singleton.mp hx;exact hb))
   clear k8 k7 e7 k6 k5 rp ma sb7 sb6 sb4 hb4 hb5 hb6 sb0
   have zl:=hz.lo
   have zh:=hz.hi
   have mok:=mcOf_ok (ys:=ys) mh8.ok
   have m1:=mh8.n1
   refine ⟨fun σ' H'=>∃ (pf:Addr) (as:List Addr),σ'=[some (.ref a),some (.int (i:Int)),some (.ref b),some (.int (n:Int)),some (.ref p),some (.int (dn:Int)),some (.int (mv.length:Int)),some (.ref pf),v8]/\as.length=121/\CT H' pf as (mcOf mv z.length ys)/\MH H' p z a1 a2 rs mv z.length ys/\Kp [] H2 H',?_,?_⟩
   ·simp!
    exact ⟨p,a1,a2,z,rs,mv,z.length,ys,120,rfl,mh8,by omega,fun pf as H9 _ al C9 _ k9=>⟨pf,rfl,as,al,C9,mh8.kp k9,k38.trans k9⟩⟩
   rintro _ H9 ⟨pf,as,rfl,al,C9,mh9,k29⟩
   refine ⟨fun σ' H'=>σ'=[some (.ref a),some (.int (i:Int)),some (.ref b),some (.int (n:Int)),some (.ref p),some (.int (dn:Int)),some (.int (mv.length:Int)),some (.ref pf),some (.int ((Al (mcOf mv z.length ys) 61).length:Nat))]/\CT H' pf as (mcOf mv z.length ys)/\MH H' p z a1 a2 rs mv z.length ys/\Kp [] H2 H',?_,?_⟩
   ·simp!
    refine rSlU.lst C9.hl fun ps hps=>?_
    rw [cut_to _ (by omega),show (61:Int).toNat=61 by rfl]
    have kS:Kp [] H9 (upd H9 ps (.lst ((as.map V.ref).take 61))):=(Kp.refl [] H9).new hps
    have eS:upd H9 ps (.lst ((as.map V.ref).take 61)) ps=some (.lst ((as.map V.ref).take 61)):=jb
    generalize upd H9 ps (.lst ((as.map V.ref).take 61))=HS at kS eS ⊢
    have CS:=C9.kp0 kS
    dsimp only
    rw [eS]
    intro D hD
    refine comp_list (hdV HS) eS hD (by rw [List.length_take,List.length_map];omega) (fun x hx l Q' q=>?_) fun vv=>?_
    ·obtain ⟨c,hc,rfl⟩:=List.mem_map.mp (List.mem_of_mem_take hx)
     obtain ⟨j,hj⟩:=List.getElem?_of_mem hc
     obtain ⟨h1,r,h2⟩:=CS.hd m1 hj
     have kD:Kp [] HS (upd HS D (.lst l)):=(Kp.refl [] HS).new hD
     simp! [kD.old _ _ h2 (by simp)]
     rw [h1] at q
     exact q
    dsimp only
    rw [CS.hds m1 (by omega)]
    have kD:=(Kp.refl [] HS).new (o:=.lst (((List.range 61).map fun i=>(cn (mcOf mv z.length ys) i 0:Int)).map V.int)) hD
    refine ⟨_,jb,?_,CS.kp0 kD,(mh9.kp kS).kp kD,(k29.trans kS).trans kD⟩
    rw [Al_len,← sum_cast,List.map_map];rfl
   rintro _ H10 ⟨rfl,C10,mh10,k210⟩
   refine ⟨fun σ' H'=>∃ kk:Nat,σ'=[some (.ref a),some (.int (i:Int)),some (.ref b),some (.int (n:Int)),some (.ref p),some (.int (kk:Int)),some (.int (mv.length:Int)),some (.ref pf),some (.int ((Al (mcOf mv z.length ys) 61).length:Nat))]/\kk<=200/\((∀ j,(mcOf mv z.length ys).A j)->kk<=(Al (mcOf mv z.length ys) 61).length)/\CT H' pf as (mcOf mv z.length ys)/\MH H' p z a1 a2 rs mv z.length ys/\Kp [] H2 H',?_,?_⟩
   ·simp!
    refine ⟨.inl ⟨by decide,by decide⟩,_,_,⟨rfl,rfl⟩,by omega,fun D hD=>?_⟩
    rw [show (2 * (mv.length:Int) - (mv.length:Int)).toNat=mv.length by omega]
    refine comp_range (fun j=>.int (cn (mcOf mv z.length ys) (mv.length+j) 0:Int)) (by omega) (fun j hj l Q' q=>?_) fun vv=>?_
    ·have kD:Kp [] H10 (upd H10 D (.lst l)):=(Kp.refl [] H10).new hD
     have CD:=C10.kp0 kD
     have aj:as[mv.length+j]?=some (as.getD (mv.length+j) 0):=by rw [List.getD_eq_getElem?_getD,List.getElem?_eq_getElem (by omega)];rfl
     obtain ⟨_,r,h2⟩:=CD.hd m1 aj
     simp! [CD.hl]
     refine ⟨.ref (as.getD (mv.length+j) 0),by rw [show (mv.length:Int)+(j:Int)=((mv.length+j:Nat):Int) by omega];exact atI_nat (by rw [List.getElem?_map,aj];rfl),?_⟩
     rw [rIxU_ref,h2]
     exact ⟨_,rfl,_,atI_0 _ _,q⟩
    dsimp only
    rw [show ((List.range mv.length).map fun j=>V.int (cn (mcOf mv z.length ys) (mv.length+j) 0:Int))=((List.range mv.length).map fun j=>(cn (mcOf mv z.length ys) (mv.length+j) 0:Int)).map V.int by rw [List.map_map];rfl]
    have kD:=(Kp.refl [] H10).new (o:=.lst (((List.range mv.length).map fun j=>(cn (mcOf mv z.length ys) (mv.length+j) 0:Int)).map V.int)) hD
    refine ⟨_,jb,?_⟩
    rw [show ((List.range mv.length).map fun j=>(cn (mcOf mv z.length ys) (mv.length+j) 0:Int)).sum=((((List.range mv.length).map fun s=>cn (mcOf mv z.length ys) (mv.length+s) 0).sum:Nat):Int) by rw [← sum_cast,List.map_map];rfl]
    have pm:(∀ j,(mcOf mv z.length ys).A j)->((List.range mv.length).map fun s=>cn (mcOf mv z.length ys) (mv.length+s) 0).sum≠0:=Mc.pumped mok m1
    generalize upd H10 D (.lst (((List.range mv.length).map fun j=>(cn (mcOf mv z.length ys) (mv.length+j) 0:Int)).map V.int))=HD at kD ⊢
    generalize ((List.range mv.length).map fun s=>cn (mcOf mv z.length ys) (mv.length+s) 0).sum=S at pm ⊢
    by_cases c:0 < S
    ·rw [if_pos (by omega)]
     refine ⟨min dn (Al (mcOf mv z.length ys) 61).length,?_,by omega,fun _=>by omega,C10.kp0 kD,mh10.kp kD,k210.trans kD⟩
     split <;> omega
    ·rw [if_neg (by omega)]
     exact ⟨dn,rfl,dn9,fun h=>absurd (pm h) (by omega),C10.kp0 kD,mh10.kp kD,k210.trans kD⟩
   rintro _ H11 ⟨kk,rfl,k200,inf,C11,mh11,k211⟩
   simp!
   refine ⟨p,a1,a2,pf,z,rs,mv,z.length,ys,as,kk,rfl,mh11,rfl,hz,nh,C11,al,by omega,tb2.kp k211 (by simp) (by simp),inf,fun H12 k12 tb12=>⟨true,rfl,?_⟩⟩
   rw [if_neg (by simp)]
   exact ⟨_,_,_,_,_,_,_,_,⟨rfl,rfl,rfl,rfl,rfl,rfl,rfl,rfl⟩,kp.trans ((k211.mono (by simp)).trans k12),tb12⟩
  ·rintro σ H2 ⟨v1,v2,v3,v4,v5,v6,v7,v8,rfl,kp,tb2⟩
   simp!
   exact kQ H2
end
theorem c_of {K:PySem.W.Frag} {hh:Heap} (X:K.In hh) {b c:Addr} {fd:FuncData} {oc:Value} {od:Option Addr} {osl:Array (Option Value)} (h3:PySem.W.nsIn K mainGlobals "least_from"=some (some (.ref b))) (h4:K.lookup b=some ⟨oc,od,.func fd,osl⟩) (h5:fd.code=.ref c) (h6:PySem.W.codeHdIn K c 63=true):∃ c,PySem.W.CodeHd hh c 63:=⟨c,PySem.W.codeHd_of_K X h6⟩
theorem us1 {C:List Value->Prop} (h:∀ v0:Value,C [v0]) (us:List Value) (e:us.length=1):C us :=
 match us,e with | [v0],_=>h v0
theorem us3 {C:List Value->Prop} (h:∀ v0 v1 v2:Value,C [v0,v1,v2]) (us:List Value) (e:us.length=3):C us :=
 match us,e with | [v0,v1,v2],_=>h v0 v1 v2
theorem us4 {C:List Value->Prop} (h:∀ v0 v1 v2 v3:Value,C [v0,v1,v2,v3]) (us:List Value) (e:us.length=4):C us :=
 match us,e with | [v0,v1,v2,v3],_=>h v0 v1 v2 v3
theorem all_mk {l:PySem.W.OpenLaw} {w:World} {K:PySem.W.Frag} {h:Heap} {mg:Str->Option Value} {fa f1 f2 f3 f4 f5 f6 f7 f8 f9 f10 f11 f12 f13 f14 f15 f16 f17 f18 f19 f20 f21 f22 f23 f24:Addr} (X:K.In h) (G:h.Ns mainGlobals mg) (hfa:mg "law"=some (.ref fa))
  {od1 od2 od3 od4 od5 od6 od7 od8 od9 od10 od11 od12 od13 od14 od15 od16 od17 od18 od19 od20 od21 od22 od23 od24 an1 an2 an3 an4 an5 an6 an7 an8 an9 an10 an11 an12 an13 an14 an15 an16 an17 an18 an19 an20 an21 an22 an23 an24:Option Addr} {sl1 sl2 sl3 sl4 sl5 sl6 sl7 sl8 sl9 sl10 sl11 sl12 sl13 sl14 sl15 sl16 sl17 sl18 sl19 sl20 sl21 sl22 sl23 sl24:Array (Option Value)} {oc1 kV1 dc1 pm1 cd1 ct1 oc2 kV2 dc2 pm2 cd2 ct2 oc3 kV3 dc3 pm3 cd3 ct3 oc4 kV4 dc4 pm4 cd4 ct4 oc5 kV5 dc5 pm5 cd5 ct5 oc6 kV6 dc6 pm6 cd6 ct6 oc7 kV7 dc7 pm7 cd7 ct7 oc8 kV8 dc8 pm8 cd8 ct8 oc9 kV9 dc9 pm9 cd9 ct9 oc10 kV10 dc10 pm10 cd10 ct10 oc11 kV11 dc11 pm11 cd11 ct11 oc12 kV12 dc12 pm12 cd12 ct12 oc13 kV13 dc13 pm13 cd13 ct13 oc14 kV14 dc14 pm14 cd14 ct14 oc15 kV15 dc15 pm15 cd15 ct15 oc16 kV16 dc16 pm16 cd16 ct16 oc17 kV17 dc17 pm17 cd17 ct17 oc18 kV18 dc18 pm18 cd18 ct18 oc19 kV19 dc19 pm19 cd19 ct19 oc20 kV20 dc20 pm20 cd20 ct20 oc21 kV21 dc21 pm21 cd21 ct21 oc22 kV22 dc22 pm22 cd22 ct22 oc23 kV23 dc23 pm23 cd23 ct23 oc24 kV24 dc24 pm24 cd24 ct24:Value}
  {cc fcu td:Addr} {occu kVcu dccu pmcu cdcu ctcu octd:Value} {odcu ancu odtd:Option Addr} {slcu sltd:Array (Option Value)} {tkd:Tok} {ntd:Nat}
  (a1:PySem.W.nsIn K mainGlobals "least"=some (some (.ref f1))) (l1:K.lookup f1=some ⟨oc1,od1,.func (PySem.W.fnOf "least" "least" (jw jaa) (ju jaa) (jg jaa) .none kV1 dc1 pm1 an1 cd1 ct1),sl1⟩) (c1:PySem.W.codeIn K cd1 "least"=true) (k1:PySem.W.keepIn K (.ref f1)=true)
  (a2:PySem.W.nsIn K mainGlobals "least_from"=some (some (.ref f2))) (l2:K.lookup f2=some ⟨oc2,od2,.func (PySem.W.fnOf "least_from" "least_from" (jw ym) (ju ym) (jg ym) .none kV2 dc2 pm2 an2 cd2 ct2),sl2⟩) (c2:PySem.W.codeIn K cd2 "least_from"=true) (k2:PySem.W.keepIn K (.ref f2)=true)
  (a3:PySem.W.nsIn K mainGlobals "merged"=some (some (.ref f3))) (l3:K.lookup f3=some ⟨oc3,od3,.func (PySem.W.fnOf "merged" "merged" (jw zi) (ju zi) (jg zi) .none kV3 dc3 pm3 an3 cd3 ct3),sl3⟩) (c3:PySem.W.codeIn K cd3 "merged"=true) (k3:PySem.W.keepIn K (.ref f3)=true)
  (a4:PySem.W.nsIn K mainGlobals "groups_of_rooms"=some (some (.ref f4))) (l4:K.lookup f4=some ⟨oc4,od4,.func (PySem.W.fnOf "groups_of_rooms" "groups_of_rooms" (jw jv) (ju jv) (jg jv) .none kV4 dc4 pm4 an4 cd4 ct4),sl4⟩) (c4:PySem.W.codeIn K cd4 "groups_of_rooms"=true) (k4:PySem.W.keepIn K (.ref f4)=true)
  (a5:PySem.W.nsIn K mainGlobals "led_from"=some (some (.ref f5))) (l5:K.lookup f5=some ⟨oc5,od5,.func (PySem.W.fnOf "led_from" "led_from" (jw zc) (ju zc) (jg zc) .none kV5 dc5 pm5 an5 cd5 ct5),sl5⟩) (c5:PySem.W.codeIn K cd5 "led_from"=true) (k5:PySem.W.keepIn K (.ref f5)=true)
  (a6:PySem.W.nsIn K mainGlobals "leading_into"=some (some (.ref f6))) (l6:K.lookup f6=some ⟨oc6,od6,.func (PySem.W.fnOf "leading_into" "leading_into" (jw yk) (ju yk) (jg yk) .none kV6 dc6 pm6 an6 cd6 ct6),sl6⟩) (c6:PySem.W.codeIn K cd6 "leading_into"=true) (k6:PySem.W.keepIn K (.ref f6)=true)
  (a7:PySem.W.nsIn K mainGlobals "cut"=some (some (.ref f7))) (l7:K.lookup f7=some ⟨oc7,od7,.func (PySem.W.fnOf "cut" "cut" (jw jad) (ju jad) (jg jad) .none kV7 dc7 pm7 an7 cd7 ct7),sl7⟩) (c7:PySem.W.codeIn K cd7 "cut"=true) (k7:PySem.W.keepIn K (.ref f7)=true)
  (a8:PySem.W.nsIn K mainGlobals "first_texts"=some (some (.ref f8))) (l8:K.lookup f8=some ⟨oc8,od8,.func (PySem.W.fnOf "first_texts" "first_texts" (jw yy) (ju yy) (jg yy) .none kV8 dc8 pm8 an8 cd8 ct8),sl8⟩) (c8:PySem.W.codeIn K cd8 "first_texts"=true) (k8:PySem.W.keepIn K (.ref f8)=true)
  (a9:PySem.W.nsIn K mainGlobals "one_sign_ahead"=some (some (.ref f9))) (l9:K.lookup f9=some ⟨oc9,od9,.func (PySem.W.fnOf "one_sign_ahead" "one_sign_ahead" (jw ku) (ju ku) (jg ku) .none kV9 dc9 pm9 an9 cd9 ct9),sl9⟩) (c9:PySem.W.codeIn K cd9 "one_sign_ahead"=true) (k9:PySem.W.keepIn K (.ref f9)=true)
  (a10:PySem.W.nsIn K mainGlobals "texts_with_signs"=some (some (.ref f10))) (l10:K.lookup f10=some ⟨oc10,od10,.func (PySem.W.fnOf "texts_with_signs" "texts_with_signs" (jw ko) (ju ko) (jg ko) .none kV10 dc10 pm10 an10 cd10 ct10),sl10⟩) (c10:PySem.W.codeIn K cd10 "texts_with_signs"=true) (k10:PySem.W.keepIn K (.ref f10)=true)
  (a11:PySem.W.nsIn K mainGlobals "longer_beginnings"=some (some (.ref f11))) (l11:K.lookup f11=some ⟨oc11,od11,.func (PySem.W.fnOf "longer_beginnings" "longer_beginnings" (jw kx) (ju kx) (jg kx) .none kV11 dc11 pm11 an11 cd11 ct11),sl11⟩) (c11:PySem.W.codeIn K cd11 "longer_beginnings"=true) (k11:PySem.W.keepIn K (.ref f11)=true)
  (a12:PySem.W.nsIn K mainGlobals "longest"=some (some (.ref f12))) (l12:K.lookup f12=some ⟨oc12,od12,.func (PySem.W.fnOf "longest" "longest" (jw y8) (ju y8) (jg y8) .none kV12 dc12 pm12 an12 cd12 ct12),sl12⟩) (c12:PySem.W.codeIn K cd12 "longest"=true) (k12:PySem.W.keepIn K (.ref f12)=true)
  (a13:PySem.W.nsIn K mainGlobals "live_ways"=some (some (.ref f13))) (l13:K.lookup f13=some ⟨oc13,od13,.func (PySem.W.fnOf "live_ways" "live_ways" (jw yj) (ju yj) (jg yj) .none kV13 dc13 pm13 an13 cd13 ct13),sl13⟩) (c13:PySem.W.codeIn K cd13 "live_ways"=true) (k13:PySem.W.keepIn K (.ref f13)=true)
  (a14:PySem.W.nsIn K mainGlobals "moves_into"=some (some (.ref f14))) (l14:K.lookup f14=some ⟨oc14,od14,.func (PySem.W.fnOf "moves_into" "moves_into" (jw yo) (ju yo) (jg yo) .none kV14 dc14 pm14 an14 cd14 ct14),sl14⟩) (c14:PySem.W.codeIn K cd14 "moves_into"=true) (k14:PySem.W.keepIn K (.ref f14)=true)
  (a15:PySem.W.nsIn K mainGlobals "_law_box"=some (some (.ref f15))) (l15:K.lookup f15=some ⟨oc15,od15,.func (PySem.W.fnOf "_law_box" "_law_box" (jw zo) (ju zo) (jg zo) .none kV15 dc15 pm15 an15 cd15 ct15),sl15⟩) (c15:PySem.W.codeIn K cd15 "_law_box"=true) (k15:PySem.W.keepIn K (.ref f15)=true)
  (a16:PySem.W.nsIn K mainGlobals "_law_take"=some (some (.ref f16))) (l16:K.lookup f16=some ⟨oc16,od16,.func (PySem.W.fnOf "_law_take" "_law_take" (jw yt) (ju yt) (jg yt) .none kV16 dc16 pm16 an16 cd16 ct16),sl16⟩) (c16:PySem.W.codeIn K cd16 "_law_take"=true) (k16:PySem.W.keepIn K (.ref f16)=true)
  (a17:PySem.W.nsIn K mainGlobals "_law_letters"=some (some (.ref f17))) (l17:K.lookup f17=some ⟨oc17,od17,.func (PySem.W.fnOf "_law_letters" "_law_letters" (jw yq) (ju yq) (jg yq) .none kV17 dc17 pm17 an17 cd17 ct17),sl17⟩) (c17:PySem.W.codeIn K cd17 "_law_letters"=true) (k17:PySem.W.keepIn K (.ref f17)=true)
  (a18:PySem.W.nsIn K mainGlobals "_law_machine"=some (some (.ref f18))) (l18:K.lookup f18=some ⟨oc18,od18,.func (PySem.W.fnOf "_law_machine" "_law_machine" (jw yf) (ju yf) (jg yf) .none kV18 dc18 pm18 an18 cd18 ct18),sl18⟩) (c18:PySem.W.codeIn K cd18 "_law_machine"=true) (k18:PySem.W.keepIn K (.ref f18)=true)
  (a19:PySem.W.nsIn K mainGlobals "_law_led"=some (some (.ref f19))) (l19:K.lookup f19=some ⟨oc19,od19,.func (PySem.W.fnOf "_law_led" "_law_led" (jw zp) (ju zp) (jg zp) .none kV19 dc19 pm19 an19 cd19 ct19),sl19⟩) (c19:PySem.W.codeIn K cd19 "_law_led"=true) (k19:PySem.W.keepIn K (.ref f19)=true)
  (a20:PySem.W.nsIn K mainGlobals "_law_lets"=some (some (.ref f20))) (l20:K.lookup f20=some ⟨oc20,od20,.func (PySem.W.fnOf "_law_lets" "_law_lets" (jw zg) (ju zg) (jg zg) .none kV20 dc20 pm20 an20 cd20 ct20),sl20⟩) (c20:PySem.W.codeIn K cd20 "_law_lets"=true) (k20:PySem.W.keepIn K (.ref f20)=true)
  (a21:PySem.W.nsIn K mainGlobals "_law_counts"=some (some (.ref f21))) (l21:K.lookup f21=some ⟨oc21,od21,.func (PySem.W.fnOf "_law_counts" "_law_counts" (jw yc) (ju yc) (jg yc) .none kV21 dc21 pm21 an21 cd21 ct21),sl21⟩) (c21:PySem.W.codeIn K cd21 "_law_counts"=true) (k21:PySem.W.keepIn K (.ref f21)=true)
  (a22:PySem.W.nsIn K mainGlobals "_law_rank"=some (some (.ref f22))) (l22:K.lookup f22=some ⟨oc22,od22,.func (PySem.W.fnOf "_law_rank" "_law_rank" (jw y6) (ju y6) (jg y6) .none kV22 dc22 pm22 an22 cd22 ct22),sl22⟩) (c22:PySem.W.codeIn K cd22 "_law_rank"=true) (k22:PySem.W.keepIn K (.ref f22)=true)
  (a23:PySem.W.nsIn K mainGlobals "_law_right"=some (some (.ref f23))) (l23:K.lookup f23=some ⟨oc23,od23,.func (PySem.W.fnOf "_law_right" "_law_right" (jw yw) (ju yw) (jg yw) .none kV23 dc23 pm23 an23 cd23 ct23),sl23⟩) (c23:PySem.W.codeIn K cd23 "_law_right"=true) (k23:PySem.W.keepIn K (.ref f23)=true)
  (a24:PySem.W.nsIn K mainGlobals "law"=some (some (.ref f24))) (l24:K.lookup f24=some ⟨oc24,od24,.func (PySem.W.fnOf "law" "law" (jw jae) (ju jae) (jg jae) .none kV24 dc24 pm24 an24 cd24 ct24),sl24⟩) (c24:PySem.W.codeIn K cd24 "law"=true) (k24:PySem.W.keepIn K (.ref f24)=true)
  (z_len:PySem.W.nsIn K mainGlobals "len"=some none)
  (z_int:PySem.W.nsIn K mainGlobals "int"=some none)
  (z_range:PySem.W.nsIn K mainGlobals "range"=some none)
  (z_list:PySem.W.nsIn K mainGlobals "list"=some none)
  (z_tuple:PySem.W.nsIn K mainGlobals "tuple"=some none)
  (z_dict:PySem.W.nsIn K mainGlobals "dict"=some none)
  (z_enumerate:PySem.W.nsIn K mainGlobals "enumerate"=some none)
  (z_sum:PySem.W.nsIn K mainGlobals "sum"=some none)
  (z_any:PySem.W.nsIn K mainGlobals "any"=some none)
  (z_max:PySem.W.nsIn K mainGlobals "max"=some none)
  (z_min:PySem.W.nsIn K mainGlobals "min"=some none)
  (z_zip:PySem.W.nsIn K mainGlobals "zip"=some none)
  (z_str:PySem.W.nsIn K mainGlobals "str"=some none)
  (z_isinstance:PySem.W.nsIn K mainGlobals "isinstance"=some none)
  (acu:PySem.W.nsIn K mainGlobals "come_up"=some (some (.ref fcu)))
  (lcu:K.lookup fcu=some ⟨occu,odcu,.func (PySem.W.fnOf "come_up" "come_up" (jw zn) (ju zn) (jg zn) (.ref td) kVcu dccu pmcu ancu cdcu ctcu),slcu⟩)
  (ccu:PySem.W.codeIn K cdcu "come_up"=true)
  (kcu:PySem.W.keepIn K (.ref fcu)=true)
  (ltd:K.lookup td=some ⟨octd,odtd,.seq #[.none,.int 0 tkd] ntd,sltd⟩)
  (ecd:cd2=.ref cc)
  (hcin:PySem.W.codeHdIn K cc 63=true)
  : ∃ fd:FuncData,(∀ (s:Shared) (v:Value),BindsTo s fd ⟨[v],[]⟩ [("_law_script",v)])/\∀ base:Heap,K.In base->base.Ns mainGlobals mg->(∀ t ∈ [63],base.BuiltinsAt mg t)->FnOk l.prog w K mg base CX0 10 fa fd ["_law_script"] (spLawT K 63):=by
 have e:=hfa.symm.trans (PySem.W.mg_of X G a24)
 cases e
 have F1z:=fun_mk (st:=jaa) l1 c1 k1
 have m1z:=PySem.W.mg_of X G a1
 have b1z:=F1z.binds (ps:=["machine"]) fun _ _ _ _ _ _=>us1 fun _=>rfl
 have F14z:=fun_mk (st:=ym) l2 c2 k2
 have m14z:=PySem.W.mg_of X G a2
 have b14z:=F14z.binds (ps:=["moves","yes","first"]) fun _ _ _ _ _ _=>us3 fun _ _ _=>rfl
 have F19z:=fun_mk (st:=zi) l3 c3 k3
 have m19z:=PySem.W.mg_of X G a3
 have b19z:=F19z.binds (ps:=["moves","yes","groups"]) fun _ _ _ _ _ _=>us3 fun _ _ _=>rfl
 have F12z:=fun_mk (st:=jv) l4 c4 k4
 have m12z:=PySem.W.mg_of X G a4
 have b12z:=F12z.binds (ps:=["moves","yes"]) fun _ _ _ _ _ _=>us2 fun _ _=>rfl
 have F15z:=fun_mk (st:=zc) l5 c5 k5
 have m15z:=PySem.W.mg_of X G a5
 have b15z:=F15z.binds (ps:=["moves","sign"]) fun _ _ _ _ _ _=>us2 fun _ _=>rfl
 have F13z:=fun_mk (st:=yk) l6 c6 k6
 have m13z:=PySem.W.mg_of X G a6
 have b13z:=F13z.binds (ps:=["part","sources","groups"]) fun _ _ _ _ _ _=>us3 fun _ _ _=>rfl
 have F_cut:=fun_mk (st:=jad) l7 c7 k7
 have m_cut:=PySem.W.mg_of X G a7
 have b_cut:=F_cut.binds (ps:=["parts","groups","number","share"]) fun _ _ _ _ _ _=>us4 fun _ _ _ _=>rfl
 have F2z:=fun_mk (st:=yy) l8 c8 k8
 have m2z:=PySem.W.mg_of X G a8
 have b2z:=F2z.binds (ps:=["machine","many"]) fun _ _ _ _ _ _=>us2 fun _ _=>rfl
 have F21z:=fun_mk (st:=ku) l9 c9 k9
 have m21z:=PySem.W.mg_of X G a9
 have b21z:=F21z.binds (ps:=["moves","reaches"]) fun _ _ _ _ _ _=>us2 fun _ _=>rfl
 have F22z:=fun_mk (st:=ko) l10 c10 k10
 have m22z:=PySem.W.mg_of X G a10
 have b22z:=F22z.binds (ps:=["machine","reaching","many"]) fun _ _ _ _ _ _=>us3 fun _ _ _=>rfl
 have F17z:=fun_mk (st:=kx) l11 c11 k11
 have m17z:=PySem.W.mg_of X G a11
 have b17z:=F17z.binds (ps:=["machine","begun","reaches"]) fun _ _ _ _ _ _=>us3 fun _ _ _=>rfl
 have F18z:=fun_mk (st:=y8) l12 c12 k12
 have m18z:=PySem.W.mg_of X G a12
 have b18z:=F18z.binds (ps:=["machine"]) fun _ _ _ _ _ _=>us1 fun _=>rfl
 have F16z:=fun_mk (st:=yj) l13 c13 k13
 have m16z:=PySem.W.mg_of X G a13
 have b16z:=F16z.binds (ps:=["machine"]) fun _ _ _ _ _ _=>us1 fun _=>rfl
 have F20z:=fun_mk (st:=yo) l14 c14 k14
 have m20z:=PySem.W.mg_of X G a14
 have b20z:=F20z.binds (ps:=["ways"]) fun _ _ _ _ _ _=>us1 fun _=>rfl
 have F3z:=fun_mk (st:=zo) l15 c15 k15
 have m3z:=PySem.W.mg_of X G a15
 have b3z:=F3z.binds (ps:=["_law_script","_law_k"]) fun _ _ _ _ _ _=>us2 fun _ _=>rfl
 have F0z:=fun_mk (st:=yt) l16 c16 k16
 have m0z:=PySem.W.mg_of X G a16
 have b0z:=F0z.binds (ps:=["_law_box_here","_law_wide"]) fun _ _ _ _ _ _=>us2 fun _ _=>rfl
 have F7z:=fun_mk (st:=yq) l17 c17 k17
 have m7z:=PySem.W.mg_of X G a17
 have b7z:=F7z.binds (ps:=["_law_box_here","_law_most"]) fun _ _ _ _ _ _=>us2 fun _ _=>rfl
 have F8z:=fun_mk (st:=yf) l18 c18 k18
 have m8z:=PySem.W.mg_of X G a18
 have b8z:=F8z.binds (ps:=["_law_box_here","_law_letters_here","_law_most"]) fun _ _ _ _ _ _=>us3 fun _ _ _=>rfl
 have F5z:=fun_mk (st:=zp) l19 c19 k19
 have m5z:=PySem.W.mg_of X G a19
 have b5z:=F5z.binds (ps:=["_law_machine_here","_law_room","_law_text"]) fun _ _ _ _ _ _=>us3 fun _ _ _=>rfl
 have F6z:=fun_mk (st:=zg) l20 c20 k20
 have m6z:=PySem.W.mg_of X G a20
 have b6z:=F6z.binds (ps:=["_law_machine_here","_law_text"]) fun _ _ _ _ _ _=>us2 fun _ _=>rfl
 have F4z:=fun_mk (st:=yc) l21 c21 k21
 have m4z:=PySem.W.mg_of X G a21
 have b4z:=F4z.binds (ps:=["_law_machine_here","_law_most"]) fun _ _ _ _ _ _=>us2 fun _ _=>rfl
 have F9z:=fun_mk (st:=y6) l22 c22 k22
 have m9z:=PySem.W.mg_of X G a22
 have b9z:=F9z.binds (ps:=["_law_machine_here","_law_counts_here","_law_text"]) fun _ _ _ _ _ _=>us3 fun _ _ _=>rfl
 have F10z:=fun_mk (st:=yw) l23 c23 k23
 have m10z:=PySem.W.mg_of X G a23
 have b10z:=F10z.binds (ps:=["_law_machine_here","_law_counts_here","_law_many","_law_there"]) fun _ _ _ _ _ _=>us4 fun _ _ _ _=>rfl
 have F_law:=fun_mk (st:=jae) l24 c24 k24
 have m_law:=PySem.W.mg_of X G a24
 have b_law:=F_law.binds (ps:=["_law_script"]) fun _ _ _ _ _ _=>us1 fun _=>rfl
 have n_len:=PySem.W.mg_none_of X G z_len
 have n_int:=PySem.W.mg_none_of X G z_int
 have n_range:=PySem.W.mg_none_of X G z_range
 have n_list:=PySem.W.mg_none_of X G z_list
 have n_tuple:=PySem.W.mg_none_of X G z_tuple
 have n_dict:=PySem.W.mg_none_of X G z_dict
 have n_enumerate:=PySem.W.mg_none_of X G z_enumerate
 have n_sum:=PySem.W.mg_none_of X G z_sum
 have n_any:=PySem.W.mg_none_of X G z_any
 have n_max:=PySem.W.mg_none_of X G z_max
 have n_min:=PySem.W.mg_none_of X G z_min
 have n_zip:=PySem.W.mg_none_of X G z_zip
 have n_str:=PySem.W.mg_none_of X G z_str
 have n_isinstance:=PySem.W.mg_none_of X G z_isinstance
 refine ⟨PySem.W.fnOf "law" "law" (jw jae) (ju jae) (jg jae) .none kV24 dc24 pm24 an24 cd24 ct24,fun s v=>.of_eq rfl,fun base kb _ hbt=>?_⟩
 have hd:PySem.W.CodeHd base cc 63:=PySem.W.codeHd_of_K kb hcin
 have m11z:=PySem.W.mg_of X G acu
 have F11z:=funD_mk (st:=zn) lcu ccu kcu
 have b11z:Binds K _ ["first","signs","step","most","at"] [.none,.int 0 tkd]:=F11z.binds ltd rfl fun _ _ _ _ _ _ us hl=>match us,(show us.length=3 by simpa using hl) with | [_,_,_],_=>⟨_,rfl,rfl⟩
 have h_come_up:Vals [.non,.int 0] [.none,.int 0 tkd]:=.cons rfl (.cons ⟨_,rfl⟩ .nil)
 have g11z:=ok_come_up (P:=l.prog) (w:=w) (base:=base)  F11z ⟨n_len,n_tuple,n_range⟩
 have g0z:=ok__law_take (P:=l.prog) (w:=w) (mg:=mg) (base:=base) F0z
 have g3z:=ok__law_box (P:=l.prog) (w:=w) (base:=base)  F3z ⟨n_len,n_int⟩
 have g7z:=ok__law_letters (P:=l.prog) (w:=w) (base:=base)  F7z ⟨n_len,n_list,n_range,m0z⟩ F0z b0z g0z
 have g8z:=ok__law_machine (P:=l.prog) (w:=w) (base:=base)  F8z ⟨n_len,n_max,n_range,n_tuple,m0z⟩ F0z b0z g0z
 have g_cut:=ok_cut (P:=l.prog) (w:=w) (base:=base)  F_cut ⟨n_len,n_dict⟩
 have g13z:=ok_leading_into (P:=l.prog) (w:=w) (mg:=mg) (base:=base) F13z
 have g15z:=ok_led_from (P:=l.prog) (w:=w) (base:=base)  F15z ⟨n_enumerate⟩
 have g12z:=ok_groups_of_rooms (P:=l.prog) (w:=w) (base:=base)  F12z ⟨n_len,n_list,n_range,n_dict,m_cut,m15z,m13z⟩ F_cut b_cut g_cut F15z b15z g15z F13z b13z g13z
 have g19z:=ok_merged (P:=l.prog) (w:=w) (base:=base)  F19z ⟨n_len,n_tuple,n_enumerate⟩
 have g14z:=ok_least_from (P:=l.prog) (w:=w) (base:=base) (Pt:=63) F14z ⟨n_len,m11z,m19z,m12z,rfl,hd,hbt 63 (.head _)⟩ ecd F11z b11z h_come_up g11z F19z b19z g19z F12z b12z g12z
 have g1z:=ok_least (P:=l.prog) (w:=w) (base:=base)  F1z ⟨m14z⟩ F14z b14z g14z
 have g16z:=ok_live_ways (P:=l.prog) (w:=w) (base:=base)  F16z ⟨n_enumerate,n_any⟩
 have g20z:=ok_moves_into (P:=l.prog) (w:=w) (base:=base)  F20z ⟨n_dict⟩
 have g18z:=ok_longest (P:=l.prog) (w:=w) (base:=base)  F18z ⟨n_len,n_dict,n_max,m1z,m16z,m20z⟩ F1z b1z g1z F16z b16z g16z F20z b20z g20z
 have g21z:=ok_one_sign_ahead (P:=l.prog) (w:=w) (base:=base)  F21z ⟨n_any⟩
 have g17z:=ok_longer_beginnings (P:=l.prog) (w:=w) (base:=base)  F17z ⟨n_zip⟩
 have g22z:=ok_texts_with_signs (P:=l.prog) (w:=w) (base:=base)  F22z ⟨n_len,n_range,m17z⟩ F17z b17z g17z
 have g2z:=ok_first_texts (P:=l.prog) (w:=w) (base:=base)  F2z ⟨n_len,m1z,m18z,m22z,m21z⟩ F1z b1z g1z F18z b18z g18z F22z b22z g22z F21z b21z g21z
 have g5z:=ok__law_led (P:=l.prog) (w:=w) (mg:=mg) (base:=base) F5z
 have g6z:=ok__law_lets (P:=l.prog) (w:=w) (base:=base)  F6z ⟨m5z⟩ F5z b5z g5z
 have g4z:=ok__law_counts (P:=l.prog) (w:=w) (base:=base)  F4z ⟨n_int,n_range,n_sum⟩
 have g9z:=ok__law_rank (P:=l.prog) (w:=w) (base:=base)  F9z ⟨n_len,n_range,n_sum⟩
 have g10z:=ok__law_right (P:=l.prog) (w:=w) (base:=base)  F10z ⟨n_len,n_list,n_str,n_range,n_min,n_isinstance,m2z,m6z,m9z⟩ F2z b2z g2z F6z b6z g6z F9z b9z g9z
 exact ok_law F_law ⟨n_len,n_range,n_int,n_sum,n_min,m3z,m0z,m7z,m8z,m4z,m10z⟩ F3z b3z g3z F0z b0z g0z F7z b7z g7z F8z b8z g8z F4z b4z g4z F10z b10z g10z
theorem sq_ne {K:PySem.W.Frag} {H:Hp} {a t:Addr} {xs:List V} {ps:Array Value} (hS:SqL K H a xs) (hT:H t=some (.tbl ps)) (hK:K.lookup t=none):a≠t:=by
 rintro rfl
 rcases hS with (h | ⟨o,h⟩) | ⟨o,its,n,h,_⟩
 ·rw [hT] at h;cases h
 ·rw [hT] at h;cases h
 ·rw [hK] at h;cases h
theorem walk {l:PySem.W.OpenLaw} {q:Program} {loose:List Str} {XP:(Str->Option Value)->Heap->Prop} {YP:World->Heap->Prop} {d:DefRec} {K:Params->PySem.W.Frag} (hn:l.most=some 63) (hdf:d.params.defaults=[])
  (hY:∀ (w:World) (h:Heap),YP w h->(K w.params).In h) (hT:∀ (w:World) (h:Heap),YP w h->∀ t ∈ [63],h.get? t=some (PySem.W.tabObj #[]))
  (hC:∀ (w:World) (h:Heap),(K w.params).In h->∀ t ∈ [63],∃ c,PySem.W.CodeHd h c t) (hN:∀ w:World,∀ t ∈ [63],(K w.params).lookup t=none)
  (F:∀ (w:World) (mg:Str->Option Value) (fa:Addr) (h:Heap),(K w.params).In h->h.Ns mainGlobals mg->mg d.name=some (.ref fa) ->
   ∃ fd:FuncData,(∀ (s:Shared) (u:Value),BindsTo s fd ⟨[u],[]⟩ [("_law_script",u)])/\∀ base:Heap,(K w.params).In base->base.Ns mainGlobals mg->(∀ t ∈ [63],base.BuiltinsAt mg t)->FnOk l.prog w (K w.params) mg base CX0 10 fa fd ["_law_script"] (spLawT (K w.params) 63)) :
  PySem.W.WalkO q loose XP YP l.row.toRowW d [] (fun f vs=>PySem.call f vs) :=
 L2.walk_ofT (n:=63) (k:=10) (x:="_law_script") (ts:=[63]) (CX:=fun _=>CX0) (sp:=fun w=>spLawT (K w.params) 63) hn (by decide) hdf ⟨rfl,by decide,by decide,rfl⟩ hY hT hC hN F (fun w _ a ns hl hS hT=>⟨a,ns,rfl,hS,hl,sq_ne hS (hT 63 (.head _)) (hN w 63 (.head _)),⟨#[],hT 63 (.head _),trivial,fun p cv e=>by cases e⟩,fun _=>rfl⟩) fun _ _ _ _ _ z=>z
end My
theorem PySem.W.Fast.tw9495619451330471303:True:=trivial
theorem PySem.W.Fast.tw8836083617567788629:True:=trivial
theorem PySem.W.Fast.tw12770139149756176290:True:=trivial
theorem PySem.W.Fast.tw3367849258419730402:True:=trivial
theorem PySem.W.Fast.tw15806306275813507167:True:=trivial
theorem PySem.W.Fast.tw14186684240973163190:True:=trivial
theorem PySem.W.Fast.tw14378540503724070613:True:=trivial
theorem PySem.W.Fast.tw17223051785026384627:True:=trivial
theorem PySem.W.Fast.tw2744417056526986743:True:=trivial
theorem PySem.W.Fast.tw7442065961198933146:True:=trivial
theorem PySem.W.Fast.tw5117687635400746793:True:=trivial
theorem PySem.W.Fast.tw6363998328608155775:True:=trivial
theorem PySem.W.Fast.tw4137741928507520439:True:=trivial
theorem PySem.W.Fast.tw7254265063204604728:True:=trivial
theorem PySem.W.Fast.tw11360221280529683416:True:=trivial
theorem PySem.W.Fast.tw4644789673302055351:True:=trivial
theorem PySem.W.Fast.tw4729050754719104659:True:=trivial
theorem PySem.W.Fast.tw12814249902034782640:True:=trivial
theorem PySem.W.Fast.tw12105048264327501249:True:=trivial
theorem PySem.W.Fast.tw688202216802340873:True:=trivial
theorem PySem.W.Fast.tw3165123025672642803:True:=trivial
theorem PySem.W.Fast.tw13144525371296070779:True:=trivial
theorem PySem.W.Fast.tw17315446040679585779:True:=trivial
theorem PySem.W.Fast.tw506799759726324113:True:=trivial
theorem PySem.W.Fast.tw18079919942242009795:True:=trivial
open PySem PySem.W PyProof.Rows
set_option maxRecDepth 100000 in
set_option maxHeartbeats 0 in
theorem PySem.Challenge.cw_calmword_k11_the_first_texts_holds : PySem.Challenge.rw_calmword_k11_the_first_texts.Holds := by
 w_on;o_law;k_head;(case hw=>w_witness2)
 k_fill
 refine My.walk (l:=PySem.Challenge.rw_calmword_k11_the_first_texts) rfl rfl (fun w h Y=>PySem.W.km_in_of Y) (fun w h Y=>PySem.W.km_tabs_of Y) ?cC ?cN ?F
 case cC=>intro w h X t ht;cases List.mem_singleton.mp ht;refine' My.c_of X ?h3 ?h4 ?h5 ?h6;(case h3=>k_is);(case h4=>k_is);(case h5=>rfl);(case h6=>kernel_rfl)
 case cN=>exact fun w t ht=>by cases List.mem_singleton.mp ht;rfl
 case F =>
  intro w mg fa h KX G hmg
  refine' My.all_mk KX G hmg ?a1 ?l1 ?c1 ?k1 ?a2 ?l2 ?c2 ?k2 ?a3 ?l3 ?c3 ?k3 ?a4 ?l4 ?c4 ?k4 ?a5 ?l5 ?c5 ?k5 ?a6 ?l6 ?c6 ?k6 ?a7 ?l7 ?c7 ?k7 ?a8 ?l8 ?c8 ?k8 ?a9 ?l9 ?c9 ?k9 ?a10 ?l10 ?c10 ?k10 ?a11 ?l11 ?c11 ?k11 ?a12 ?l12 ?c12 ?k12 ?a13 ?l13 ?c13 ?k13 ?a14 ?l14 ?c14 ?k14 ?a15 ?l15 ?c15 ?k15 ?a16 ?l16 ?c16 ?k16 ?a17 ?l17 ?c17 ?k17 ?a18 ?l18 ?c18 ?k18 ?a19 ?l19 ?c19 ?k19 ?a20 ?l20 ?c20 ?k20 ?a21 ?l21 ?c21 ?k21 ?a22 ?l22 ?c22 ?k22 ?a23 ?l23 ?c23 ?k23 ?a24 ?l24 ?c24 ?k24 ?z_len ?z_int ?z_range ?z_list ?z_tuple ?z_dict ?z_enumerate ?z_sum ?z_any ?z_max ?z_min ?z_zip ?z_str ?z_isinstance ?acu ?lcu ?ccu ?kcu ?ltd ?ecd ?hcin
  (case a1=>k_is)
  (case l1=>k_is)
  (case c1=>k_is)
  (case k1=>k_is)
  (case a2=>k_is)
  (case l2=>k_is)
  (case c2=>k_is)
  (case k2=>k_is)
  (case a3=>k_is)
  (case l3=>k_is)
  (case c3=>k_is)
  (case k3=>k_is)
  (case a4=>k_is)
  (case l4=>k_is)
  (case c4=>k_is)
  (case k4=>k_is)
  (case a5=>k_is)
  (case l5=>k_is)
  (case c5=>k_is)
  (case k5=>k_is)
  (case a6=>k_is)
  (case l6=>k_is)
  (case c6=>k_is)
  (case k6=>k_is)
  (case a7=>k_is)
  (case l7=>k_is)
  (case c7=>k_is)
  (case k7=>k_is)
  (case a8=>k_is)
  (case l8=>k_is)
  (case c8=>k_is)
  (case k8=>k_is)
  (case a9=>k_is)
  (case l9=>k_is)
  (case c9=>k_is)
  (case k9=>k_is)
  (case a10=>k_is)
  (case l10=>k_is)
  (case c10=>k_is)
  (case k10=>k_is)
  (case a11=>k_is)
  (case l11=>k_is)
  (case c11=>k_is)
  (case k11=>k_is)
  (case a12=>k_is)
  (case l12=>k_is)
  (case c12=>k_is)
  (case k12=>k_is)
  (case a13=>k_is)
  (case l13=>k_is)
  (case c13=>k_is)
  (case k13=>k_is)
  (case a14=>k_is)
  (case l14=>k_is)
  (case c14=>k_is)
  (case k14=>k_is)
  (case a15=>k_is)
  (case l15=>k_is)
  (case c15=>k_is)
  (case k15=>k_is)
  (case a16=>k_is)
  (case l16=>k_is)
  (case c16=>k_is)
  (case k16=>k_is)
  (case a17=>k_is)
  (case l17=>k_is)
  (case c17=>k_is)
  (case k17=>k_is)
  (case a18=>k_is)
  (case l18=>k_is)
  (case c18=>k_is)
  (case k18=>k_is)
  (case a19=>k_is)
  (case l19=>k_is)
  (case c19=>k_is)
  (case k19=>k_is)
  (case a20=>k_is)
  (case l20=>k_is)
  (case c20=>k_is)
  (case k20=>k_is)
  (case a21=>k_is)
  (case l21=>k_is)
  (case c21=>k_is)
  (case k21=>k_is)
  (case a22=>k_is)
  (case l22=>k_is)
  (case c22=>k_is)
  (case k22=>k_is)
  (case a23=>k_is)
  (case l23=>k_is)
  (case c23=>k_is)
  (case k23=>k_is)
  (case a24=>k_is)
  (case l24=>k_is)
  (case c24=>k_is)
  (case k24=>k_is)
  (case z_len=>k_is)
  (case z_int=>k_is)
  (case z_range=>k_is)
  (case z_list=>k_is)
  (case z_tuple=>k_is)
  (case z_dict=>k_is)
  (case z_enumerate=>k_is)
  (case z_sum=>k_is)
  (case z_any=>k_is)
  (case z_max=>k_is)
  (case z_min=>k_is)
  (case z_zip=>k_is)
  (case z_str=>k_is)
  (case z_isinstance=>k_is)
  (case acu=>k_is)
  (case lcu=>k_is)
  (case ccu=>k_is)
  (case kcu=>k_is)
  (case ltd=>k_is)
  (case ecd=>rfl)
  (case hcin=>kernel_rfl)