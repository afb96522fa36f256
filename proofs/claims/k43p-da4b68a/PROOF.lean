import PyProof.Rows.All
import Wide.All
import OpenK.AllK
import Wide.FinOn
import Lean
import PyProof.EqAt
import PyProof.EqKinds
import PyProof.TupleCall
import PySem.Challenge.RW_calmword_k43_sayings_read
set_option Elab.async false
set_option linter.all false
set_option maxRecDepth 100000
set_option maxHeartbeats 4000000
abbrev Aa:=@List.getElem?_eq_some_iff
abbrev Ab:=@List.length_map
abbrev Ac:=@Nat.le_refl
abbrev Ad:=@PySem.Heap.get?_push_of_some
abbrev Ae:=@if_neg
abbrev Af:=@List.getD_eq_getElem?_getD
abbrev Ag:=@if_pos
abbrev Ah:=@PySem.wpAny_bind
abbrev Ai:=@List.not_mem_nil
abbrev Aj:=@List.size_toArray
abbrev Ak:=@PySem.Heap.lt_size
abbrev Al:=@List.map_cons
abbrev Am:=@List.mem_singleton
abbrev An:=@List.getElem?_eq_getElem
abbrev Ao:=@PySem.sizeLine_eq
abbrev Ap:=@PySem.wpAny_pure
abbrev Aq:=@List.getElem?_map
abbrev Ar:=@Option.some.inj
abbrev At:=@PySem.F.slot_list_append
abbrev Au:=@PySem.F.type_list_append
abbrev Av:=@Nat.ne_of_lt
abbrev Aw:=@PySem.Heap.get?_push_size
abbrev Ax:=@Nat.lt_of_lt_of_le
abbrev Ay:=@Bool.false_ne_true
abbrev Az:=@PySem.Paired.length
abbrev A0:=@List.mem_of_getElem?
abbrev A2:=@List.mem_cons
abbrev A3:=@PySem.W.mg_of
abbrev A4:=@List.length_append
abbrev A5:=@List.mem_append_right
abbrev A6:=@List.getElem?_append_right
abbrev A7:=@List.mem_append
abbrev A8:=@decide_eq_false
abbrev A9:=@List.mem_append_left
abbrev Ia:=@List.mem_map
abbrev Ib:=@Nat.succ.inj
abbrev Ic:=@List.append_assoc
abbrev Ie:=@PySem.W.mg_none_of
abbrev Ig:=@Nat.le_trans
abbrev Ih:=@List.getElem?_append_left
abbrev Ii:=@PySem.PassesOwn.never
abbrev Ij:=@Nat.succ_ne_zero
abbrev Ik:=@List.mem_cons_of_mem
abbrev Il:=@eq_false
abbrev Im:=@List.append_nil
abbrev Io:=@PySem.W.kia_one
abbrev Ip:=@List.map_append
abbrev Iq:=@Bool.false_eq_true
abbrev Ir:=@List.length_take
abbrev Iu:=@PySem.wpAny_truthy_bool
abbrev Iv:=@PySem.mem_of_lookup
abbrev Iw:=@List.cons.injEq
abbrev Ix:=@Nat.zero_le
abbrev Iy:=@congrArg
abbrev Iz:=@Bool.eq_iff_iff
abbrev I0:=@List.map_congr_left
abbrev Oa:=@Bool.and_eq_true
abbrev Ob:=@List.mem_cons_self
abbrev Oc:=@PySem.Paired.snoc
abbrev Od:=@beq_eq_false_iff_ne
abbrev Oe:=@if_false
abbrev Of:=@if_true
abbrev Og:=@List.filter_cons
abbrev Oh:=@List.dropLast_concat_getLast
abbrev Oi:=@List.take_of_length_le
abbrev Oj:=@List.map_nil
abbrev Ol:=@List.mem_filter
abbrev Om:=@PySem.wpAny_passesOwn
abbrev On:=@PySem.wpAny_newObj_type
abbrev Oo:=@PySem.wpAny_mono
abbrev Op:=@decide_eq_true
abbrev Oq:=@PySem.wpAny_comprehension_free
abbrev Os:=@List.all_eq_true
abbrev Ot:=@PyProof.Rows.slot_tuple_getitem
abbrev Ou:=@Nat.lt_irrefl
abbrev Ov:=@PySem.Calls.spliced_cons
abbrev Ow:=@PySem.wpAny_Call_Name_kw
abbrev Ox:=@List.nodup_cons
abbrev Oy:=@PySem.wpAny_loadPart'
abbrev Oz:=@PySem.Calls.callWith_builtin
abbrev O0:=@List.nodup_append
abbrev O1:=@Nat.lt_trans
abbrev O2:=@List.map_map
abbrev O3:=@PyProof.Rows.callWith_type1
abbrev O4:=@beq_self_eq_true
abbrev O5:=@List.pairwise_append
abbrev O6:=@List.mem_of_mem_drop
abbrev O7:=@List.mem_of_mem_take
abbrev O8:=@List.drop_eq_getElem_cons
abbrev O9:=@List.mem_filterMap
abbrev Ua:=@Nat.lt_of_le_of_lt
abbrev Ub:=@PySem.tupleKind_room_in1
abbrev Uc:=@beq_iff_eq
abbrev Ud:=@PySem.call_meets
abbrev Ue:=@List.take_succ
abbrev Uf:=@PySem.wpAny_callSpecial?_slot
abbrev Ug:=@PySem.F.args_tuple_iterator_next_1
abbrev Uh:=@PySem.wpAny_loadPart_at
abbrev Ui:=@List.foldr_append
abbrev Uj:=@of_decide_eq_true
abbrev Uk:=@Option.map_eq_some_iff
abbrev Ul:=@PySem.F.entry_tuple_iterator_next
abbrev Um:=@List.filter_eq_nil_iff
abbrev Uo:=@PySem.wpAny_holding
abbrev Up:=@PySem.wpAny_standAt
abbrev Uq:=@PySem.wpAny_execs_cons
abbrev Ur:=@List.length_drop
abbrev Us:=@List.getElem_mem
abbrev Ut:=@Ne.symm
abbrev Uu:=@PySem.Heap.get?_update_self
abbrev Uv:=@List.length_filter_le
abbrev Uw:=@PySem.F.slot_list_pop
abbrev Ux:=@PySem.F.type_list_pop
abbrev Uy:=@PySem.wpAny_execs_nil
abbrev Uz:=@Nat.le_of_eq
abbrev U0:=@List.of_mem_zip
abbrev U1:=@PySem.Calls.evalArgs_plain
abbrev U2:=@PySem.wpAny_newFunctionEnv
abbrev U3:=@List.drop_eq_nil_iff
abbrev U4:=@List.getElem?_of_mem
abbrev U5:=@PySem.W.plainGet_of
abbrev U6:=@PySem.Heap.SameBut.update
abbrev U7:=@PySem.W.codeHd_of_K
abbrev U8:=@List.mem_range
abbrev U9:=@or_false
abbrev Wa:=@PySem.sizeLine_eq
abbrev Wb:=@PySem.Calls.Constant_str
abbrev Wc:=@PySem.W.callWith_K
abbrev Wd:=@List.filter_append
abbrev We:=@Int.emod_lt_of_pos
namespace L2
open PySem PySem.Spec PyProof.Rows
abbrev Key:=Sum Int Str
def jek:Key->Value->Bool
 |.inl k,v=>Value.isInt k v
 |.inr x,v=>Value.isStrOf x v
def keyH(w:World):Key->Int
 |.inl k=>hashInt k
 |.inr x=>hashStr w x
theorem jce:∀{k:Key}{v:Value},jek k v=true->(∃i t,k=Sum.inl i/\v=Value.int i t)\/(∃x t,k=Sum.inr x/\v=Value.str x t)
 |.inl i,v,h=>by
  obtain⟨t,e⟩:=Value.isInt_shape (k:=i) (v:=v) h
  exact .inl ⟨i,t,rfl,e⟩
 |.inr x,v,h=>by
  obtain⟨t,e⟩:=Value.isStrOf_shape (x:=x) (v:=v) h
  exact .inr ⟨x,t,rfl,e⟩
theorem jlc(i:Int)(t:Tok):jek (.inl i) (.int i t)=true:=by simp[jek,Value.isInt]
theorem jld(x:Str)(t:Tok):jek (.inr x) (.str x t)=true:=by simp[jek,Value.isStrOf]
theorem jod(a b:Int):decide ((Sum.inl a:Key)=Sum.inl b)=(a == b):=by
 by_cases e:a=b
 ·subst e;simp
 ·have h:¬(Sum.inl a:Key)=Sum.inl b:=λq=>e (Sum.inl.inj q)
  rw[A8 h]
  exact(Od.mpr e).symm
theorem jog(a b:Str):decide ((Sum.inr a:Key)=Sum.inr b)=decide (a=b):=by
 by_cases e:a=b
 ·subst e;simp
 ·have h:¬(Sum.inr a:Key)=Sum.inr b:=λq=>e (Sum.inr.inj q)
  rw[A8 h,A8 e]
theorem joe(a:Int)(b:Str):decide ((Sum.inl a:Key)=Sum.inr b)=false:=A8 (λq=>nomatch q)
theorem jof(a:Str)(b:Int):decide ((Sum.inr a:Key)=Sum.inl b)=false:=A8 (λq=>nomatch q)
def jcc(prog:Program)(w:World):PySem.KeyKind prog w Key where
 is:=jek
 hash:=keyH w
 inj:=λv a b ha hb=>by
  rcases jce ha with⟨i,t,rfl,rfl⟩|⟨x,t,rfl,rfl⟩
  ·rcases jce hb with⟨j,u,rfl,e⟩|⟨y,u,rfl,e⟩
   ·injection e with e1 _;rw[e1]
   ·exact nomatch e
  ·rcases jce hb with⟨j,u,rfl,e⟩|⟨y,u,rfl,e⟩
   ·exact nomatch e
   ·injection e with e1 _;rw[e1]
 byValue:=λk v h=>by
  rcases jce h with⟨i,t,rfl,rfl⟩|⟨x,t,rfl,rfl⟩ <;> rfl
 pyHash:=λhv h=>by
  rcases jce hv with⟨i,t,rfl,rfl⟩|⟨x,t,rfl,rfl⟩
  ·exact wpAny_pyHash_int h
  ·exact wpAny_pyHash_str h
 eqBool:=λhu hv h=>by
  rcases jce hu with⟨i,t,rfl,rfl⟩|⟨x,t,rfl,rfl⟩
  ·rcases jce hv with⟨j,u,rfl,rfl⟩|⟨y,u,rfl,rfl⟩
   ·rw[jod]at h;exact wpAny_eqBool_int h
   ·rw[joe]at h;exact SeqAt.EqAt.int_str i t y u _ _ _ _ h
  ·rcases jce hv with⟨j,u,rfl,rfl⟩|⟨y,u,rfl,rfl⟩
   ·rw[jof]at h;exact SeqAt.EqAt.str_int x t j u _ _ _ _ h
   ·rw[jog]at h;exact wpAny_eqBool_str h
 «strs»:=λk x t v h=>by
  rcases jce h with⟨i,u,rfl,e⟩|⟨y,u,rfl,e⟩
  ·exact nomatch e
  ·injection e with e1 _
   subst e1
   cases v <;> rfl
theorem jje(prog:Program)(w:World)(i:Int)(t:Tok):(jcc prog w).is (.inl i) (.int i t)=true:=jlc i t
theorem jjf(prog:Program)(w:World)(x:Str)(t:Tok):(jcc prog w).is (.inr x) (.str x t)=true:=jld x t
inductive V where
 |non|bl (b:Bool)|int (i:Int)|str (x:Str)|byt (b:Array UInt8)|flt (b:UInt64)|ref (a:Addr)|ty (n:String)
 deriving DecidableEq
def RelV:V->Value->Prop
 |.non,u=>u=Value.none
 |.bl b,u=>u=Value.bool b
 |.int i,u=>∃t,u=Value.int i t
 |.str x,u=>∃t,u=Value.str x t
 |.byt b,u=>∃t,u=Value.bytes b t
 |.flt b,u=>∃t,u=Value.float b t
 |.ref a,u=>u=Value.ref a
 |.ty n,u=>u=Value.type n
abbrev Vals:List V->List Value->Prop:=Paired RelV
theorem Vals.length{xs:List V}{us:List Value}(r:Vals xs us):xs.length=us.length:=Az r
theorem Vals.get:∀{xs:List V}{us:List Value}{i:Nat}{x:V},Vals xs us->xs[i]?=some x->∃u,us[i]?=some u/\RelV x u
 |_,_,_,_,.nil,e=>by simp at e
 |_,_,0,_,.cons r _,e=>by simp at e;subst e;exact⟨_,rfl,r⟩
 |_,_,i+1,x,.cons _ t,e=>by
  obtain⟨u,h1,h2⟩:=Vals.get (i:=i) (x:=x) t (by simpa using e)
  exact⟨u,by simpa using h1,h2⟩
theorem Vals.set{x:V}{u:Value}(r:RelV x u):∀{xs:List V}{us:List Value}(i:Nat),Vals xs us->Vals (xs.set i x) (us.set i u)
 |_,_,_,.nil=>.nil
 |_,_,0,.cons _ t=>.cons r t
 |_,_,i+1,.cons q t=>.cons q (Vals.set r i t)
theorem Vals.append:∀{xs ys:List V}{us ws:List Value},Vals xs us->Vals ys ws->Vals (xs++ys) (us++ws)
 |_,_,_,_,.nil,s=>s
 |_,_,_,_,.cons r t,s=>.cons r (Vals.append t s)
theorem Vals.take:∀{xs:List V}{us:List Value}(n:Nat),Vals xs us->Vals (xs.take n) (us.take n)
 |_,_,0,_=>.nil
 |_,_,_+1,.nil=>.nil
 |_,_,n+1,.cons r t=>.cons r (Vals.take n t)
theorem Vals.drop:∀{xs:List V}{us:List Value}(n:Nat),Vals xs us->Vals (xs.drop n) (us.drop n)
 |_,_,0,r=>r
 |_,_,_+1,.nil=>.nil
 |_,_,n+1,.cons _ t=>Vals.drop n t
def RelO:Option V->Option Value->Prop
 |some v,some u=>RelV v u
 |none,none=>True
 |_,_=>False
def KV{κ:Type}:List (κ×V)->List (κ×Value)->Prop:=Paired fun(p:κ×V) (q:κ×Value)=>p.1=q.1/\RelV p.2 q.2
def kV:Key->V
 |.inl i=>.int i
 |.inr x=>.str x
inductive HO where
  |lst (xs:List V)
  |tup (xs:List V)
  |dK (kvs:List (Key×V))|dT (kvs:List (List Key×V))
  |set (S:Int->Bool) (n:Nat)
  |ins (C dx:Addr) (fs:List (Str×V))
  |own (x:Addr)
  |xd (fs:List (Str×V))
  |met (f x:Addr)
  |rng (lo hi:Int)
  |frz (o:Obj) (u:HO)
  |tbl (ps:Array Value)
  |ext (φ:Heap->Prop)
abbrev Hp:=Addr->Option HO
def upd(H:Hp)(a:Addr)(o:HO):Hp:=λb=>if b=a then some o else H b
theorem je{H:Hp}{a:Addr}{o:HO}:upd H a o a=some o:=by unfold upd;rw[Ag rfl]
theorem jf{H:Hp}{a b:Addr}{o:HO}(h:b≠a):upd H a o b=H b:=by unfold upd;rw[Ae h]
theorem jc9{H:Hp}{a:Addr}{o u:HO}:upd (upd H a o) a u=upd H a u:=by
 funext b;unfold upd;split <;> rfl
theorem jhm{H:Hp}{a b:Addr}{o u:HO}(h:H a=some o)(h':H b=some u)(d:o≠u):a≠b:=by
 intro e;subst e;rw[h]at h';exact d (Ar h')
theorem jj{H:Hp}{a b:Addr}{o:HO}(h:H a=some o)(h':H b=none):a≠b:=by
 intro e;subst e;rw[h]at h';cases h'
section
variable(P:Program)(w:World)
def ObjOk(H:Hp)(h:Heap)(a:Addr):HO->Prop
 |.lst xs=>xs.length<=sizeLine/\∃(its:List Value)(n:Nat),Vals xs its/\h.get? a=some {cls:=.type "list",data:=.seq its.toArray n}
 |.tup xs=>xs.length<=sizeLine/\∃its:List Value,Vals xs its/\IsTup h a its.toArray
 |.dK kvs=>kvs.length<=sizeLine/\(a == sysModules)=false/\∃vs,KV kvs vs/\h.DictOf (jcc P w) a vs
 |.dT kvs=>kvs.length<=sizeLine/\(a == sysModules)=false/\∃xs:List (List Key×Addr×Value),
   Paired (fun(p:List Key×V) (q:List Key×Addr×Value)=>p.1=q.1/\H q.2.1=some (.tup (p.1.map kV))/\RelV p.2 q.2.2) kvs xs /\
   ∃o es ep,h.get? a=some o/\o.ExactDict/\o.data=.dict es ep/\es.toList=xs.map (entryOfKey (tupleKind (jcc P w)))/\(xs.map (·.1)).Nodup
 |.set S n=>h.SetOf (intKind P w) a S n
 |.ins C dx fs=>H dx=some (.own a)/\fs.length<=1000/\dx≠a/\h.get? a=some (PySem.W.instObj C dx) /\
   ∃mA,h.Ns1 dx mA/\(∀f,RelO (fs.lookup f) (mA f))/\PySem.Within mA (fs.map (·.1))
 |.own _=>∃o,h.get? a=some o
 |.xd fs=>∃mA,h.Ns1 a mA/\∀f,RelO (fs.lookup f) (mA f)
 |.rng lo hi=>∃t u v,h.get? a=some {cls:=.type "range",data:=.fields #[.int lo t,.int hi u,.int 1 v]}
 |.frz o u=>h.get? a=some o/\ObjOk H h a u
 |.tbl ps=>h.get? a=some {cls:=.none,data:=.fields ps}
 |.met f x=>h.get? a=some (PySem.W.methodObj (.ref f) (.ref x))
 |.ext φ=>φ h/\(∃o,h.get? a=some o)/\∀h1 h2:Heap,φ h1->(∀o,h1.get? a=some o->h2.get? a=some o)->φ h2
def HOk(H:Hp)(h:Heap):Prop:=∀a o,H a=some o->ObjOk P w H h a o
end
section
variable{P:Program}{w:World}{H H':Hp}{h h':Heap}{a:Addr}{o:HO}
theorem ObjOk.lt(x:ObjOk P w H h a o):a<h.objs.size:=by
 cases o with
 |lst xs=>obtain⟨_,_,_,_,e⟩:=x;exact Ak e
 |tup xs=>obtain⟨_,_,_,p⟩:=x;exact p.lt
 |dK kvs=>obtain⟨_,_,_,_,o,_,_,e,_⟩:=x;exact Ak e
 |dT kvs=>obtain⟨_,_,_,_,o,_,_,e,_⟩:=x;exact Ak e
 |set S n=>obtain⟨o,_,_,_,e,_⟩:=x;exact Ak e
 |ins C dx fs=>obtain⟨_,_,_,e,_⟩:=x;exact Ak e
 |own y=>obtain⟨_,e⟩:=x;exact Ak e
 |xd fs=>obtain⟨_,⟨_,_,_,e,_⟩,_⟩:=x;exact Ak e
 |rng lo hi=>obtain⟨_,_,_,e⟩:=x;exact Ak e
 |frz ob u=>obtain⟨e,_⟩:=x;exact Ak e
 |tbl ps=>exact Ak (show h.get? a=some _ from x)
 |met f y=>exact Ak (show h.get? a=some _ from x)
 |ext φ=>obtain⟨_,⟨_,e⟩,_⟩:=x;exact Ak e
theorem Paired.mapP{α β:Type}{F G:α->β->Prop}:∀{l₁:List α}{l₂:List β},Paired F l₁ l₂->(∀a b,F a b->G a b)->Paired G l₁ l₂
 |_,_,.nil,_=>.nil
 |_,_,.cons r t,f=>.cons (f _ _ r) (Paired.mapP t f)
theorem ObjOk.stay(x:ObjOk P w H h a o)(k:∀b u,(b=a\/H b=some (.own a))->h.get? b=some u->h'.get? b=some u)
  (ho:∀b,H b=some (.own a)->H' b=some (.own a)) (ht:∀b xs,H b=some (.tup xs)->H' b=some (.tup xs)):ObjOk P w H' h' a o:=by
 induction o with
 |lst xs=>obtain⟨z,its,n,r,e⟩:=x;exact⟨z,its,n,r,k _ _ (.inl rfl) e⟩
 |tup xs=>obtain⟨z,its,r,ob,e,c⟩:=x;exact⟨z,its,r,ob,k _ _ (.inl rfl) e,c⟩
 |dK kvs=>obtain⟨z,y,vs,r,ob,es,ep,e,c⟩:=x;exact⟨z,y,vs,r,ob,es,ep,k _ _ (.inl rfl) e,c⟩
 |dT kvs =>
  obtain⟨z,y,xs,r,ob,es,ep,e,c⟩:=x
  exact⟨z,y,xs,Paired.mapP r λp q z=>⟨z.1,ht _ _ z.2.1,z.2.2⟩,ob,es,ep,k _ _ (.inl rfl) e,c⟩
 |set S n=>obtain⟨ob,es,ep,t,e,c⟩:=x;exact⟨ob,es,ep,t,k _ _ (.inl rfl) e,c⟩
 |ins C dx fs =>
  obtain⟨d,z,ne,e,mA,⟨od,es,ep,e2,c⟩,r⟩:=x
  exact⟨ho _ d,z,ne,k _ _ (.inl rfl) e,mA,⟨od,es,ep,k _ _ (.inr d) e2,c⟩,r⟩
 |own y=>obtain⟨ob,e⟩:=x;exact⟨ob,k _ _ (.inl rfl) e⟩
 |xd fs=>obtain⟨mA,⟨od,es,ep,e,c⟩,r⟩:=x;exact⟨mA,⟨od,es,ep,k _ _ (.inl rfl) e,c⟩,r⟩
 |rng lo hi=>obtain⟨t,u,v,e⟩:=x;exact⟨t,u,v,k _ _ (.inl rfl) e⟩
 |frz ob u ih=>obtain⟨e,q⟩:=x;exact⟨k _ _ (.inl rfl) e,ih q⟩
 |tbl ps =>
  have e:h.get? a=some {cls:=.none,data:=.fields ps}:=x
  show h'.get? a=some {cls:=.none,data:=.fields ps}
  exact k a _ (.inl rfl) e
 |met f y =>
  have e:h.get? a=some (PySem.W.methodObj (.ref f) (.ref y)):=x
  show h'.get? a=some (PySem.W.methodObj (.ref f) (.ref y))
  exact k a _ (.inl rfl) e
 |ext φ=>obtain⟨p,⟨o,e⟩,st⟩:=x;exact⟨st _ _ p λo q=>k _ _ (.inl rfl) q,⟨o,k _ _ (.inl rfl) e⟩,st⟩
theorem HOk.lt(x:HOk P w H h)(e:H a=some o):a<h.objs.size:=(x a o e).lt
theorem HOk.fresh(x:HOk P w H h)(e:h.objs.size<=a):H a=none:=by
 cases q:H a with
 |none=>rfl
 |some u=>exact absurd (Ax (x.lt q) e) (Ou _)
theorem HOk.kept(x:HOk P w H h)(k:∀b u,h.get? b=some u->h'.get? b=some u):HOk P w H h':=λa o e =>
 (x a o e).stay (λb u _ q=>k b u q) (λ_ q=>q) λ_ _ q=>q
theorem HOk.laid(x:HOk P w H h)(k:∀b u,h.get? b=some u->h'.get? b=some u)(hp:h.objs.size<=a)(new:ObjOk P w (upd H a o) h' a o):HOk P w (upd H a o) h':=λb u e=>by
 have hn:=x.fresh hp
 by_cases hb:b=a
 ·subst hb;rw[je]at e;cases e;exact new
 ·rw[jf hb]at e
  exact(x b u e).stay (λc v _ q=>k c v q) (λc q=>by rw[jf (jj q hn)];exact q) λc xs q=>by rw[jf (jj q hn)];exact q
end
def Rd(H:Hp)(a:Addr)(u:HO):Prop:=H a=some u\/∃o,H a=some (.frz o u)
theorem Rd.ok{P:Program}{w:World}{H:Hp}{h:Heap}{a:Addr}{u:HO}(r:Rd H a u)(x:HOk P w H h):ObjOk P w H h a u:=by
 rcases r with r|⟨o,r⟩
 ·exact x a u r
 ·obtain⟨_,q⟩:=x a _ r
  exact q
def Mut:Option HO->Prop
 |some (.lst _)=>True
 |some (.dK _)=>True
 |some (.dT _)=>True
 |some (.set _ _)=>True
 |some (.ins _ _ _)=>True
 |some (.ext _)=>True
 |_=>False
section
variable{P:Program}{w:World}{H:Hp}{h h':Heap}{x e:Addr}{o':HO}
theorem HOk.write(ok:HOk P w H h)(mu:Mut (H x))(he:e=x\/H e=some (.own x))(k:∀b u,b≠e->h.get? b=some u->h'.get? b=some u)(heo:∃u,h'.get? e=some u)
  (new:ObjOk P w (upd H x o') h' x o'):HOk P w (upd H x o') h':=λb u q=>by
 have nown:∀c y,H c=some (.own y)->c≠x:=λc y r z=>by subst z;rw[r]at mu;exact mu
 have ntup:∀c xs,H c=some (.tup xs)->c≠x:=λc xs r z=>by subst z;rw[r]at mu;exact mu
 by_cases hb:b=x
 ·subst hb;rw[je]at q;cases q;exact new
 ·rw[jf hb]at q
  by_cases hbe:b=e
  ·have q':H b=some (.own x):=by
    rcases he with z|z
    ·exact absurd (hbe.trans z) hb
    ·rw[hbe];exact z
   rw[q]at q';cases q'
   obtain⟨v,hv⟩:=heo
   exact⟨v,by rw[hbe];exact hv⟩
  ·refine(ok b u q).stay (λc v hc r=>k c v ?_ r) (λc r=>by rw[jf (nown c b r)];exact r) λc xs r=>by rw[jf (ntup c xs r)];exact r
   rcases hc with rfl|hc
   ·exact hbe
   ·rintro rfl
    rcases he with z|z
    ·exact nown c b hc z
    ·rw[hc]at z;cases z;exact hb rfl
end
structure Un(fs ex:List Addr)(H H':Hp)(h h':Heap):Prop where
 keep:∀b o,h.get? b=some o->H b=none->b∉fs->b∉ex->h'.get? b=some o
 slot:∀b o,h.get? b=some o->H b=none->b∈fs->b∉ex->∃sl,h'.get? b=some {o with slots:=sl}
 free:∀b o,h.get? b=some o->H b=none->b∉ex->H' b=none
 there:∀b o,h.get? b=some o->b∉ex->∃o',h'.get? b=some o'
 tups:∀b xs,H b=some (.tup xs)->H' b=some (.tup xs)
 frzs:∀b o u,H b=some (.frz o u)->H' b=some (.frz o u)
 tbls:∀b ps,H b=some (.tbl ps)->∃more,H' b=some (.tbl (ps++more))
section
variable{fs fs' ex ex':List Addr}{H H1 H2:Hp}{h h1 h2 h':Heap}{a x e:Addr}{o:HO}
theorem Un.any(u:Un fs ex H H1 h h1){b:Addr}{ob:Obj}(q:h.get? b=some ob)(n:H b=none)(hx:b∉ex):∃sl,h1.get? b=some {ob with slots:=sl}:=by
 by_cases hb:b∈fs
 ·exact u.slot b ob q n hb hx
 ·exact⟨ob.slots,u.keep b ob q n hb hx⟩
theorem Un.kept(k:∀b u,h.get? b=some u->h'.get? b=some u):Un fs ex H H h h' :=
 ⟨λb ob q _ _ _=>k b ob q,λb ob q _ _ _=>⟨ob.slots,k b ob q⟩,λ_ _ _ n _=>n,λb ob q _=>⟨ob,k b ob q⟩,λ_ _ q=>q,λ_ _ _ q=>q,λ_ ps q=>⟨#[],by rw[q];simp⟩⟩
theorem Un.refl:Un fs ex H H h h:=Un.kept λ_ _ q=>q
theorem Un.laid(k:∀b u,h.get? b=some u->h'.get? b=some u)(hp:h.objs.size<=a)(hn:H a=none):Un fs ex H (upd H a o) h h' where
 keep:=λb u q _ _ _=>k b u q
 slot:=λb u q _ _ _=>⟨u.slots,k b u q⟩
 free:=λb u q n _=>by rw[jf (Av (Ax (Ak q) hp))];exact n
 there:=λb u q _=>⟨u,k b u q⟩
 tups:=λb xs q=>by rw[jf (jj q hn)];exact q
 frzs:=λb u xs q=>by rw[jf (jj q hn)];exact q
 tbls:=λb ps q=>⟨#[],by rw[jf (jj q hn),q];simp⟩
theorem Un.write(mu:Mut (H x))(he:e=x\/H e=some (.own x))(k:∀b u,b≠e->h.get? b=some u->h'.get? b=some u)(heo:∃u,h'.get? e=some u):Un fs ex H (upd H x o) h h':=by
 have hx:∀b,H b=none->b≠x:=λb n z=>by subst z;rw[n]at mu;exact mu
 have hb:∀b,H b=none->b≠e:=λb n z=>by
  subst z
  rcases he with r|r
  ·exact hx b n r
  ·rw[n]at r;cases r
 have hm:∀b u,H b=some u->¬Mut (some u)->b≠x:=λb u q nm z=>by subst z;rw[q]at mu;exact nm mu
 refine⟨λb u q n _ _=>k b u (hb b n) q,λb u q n _ _=>⟨u.slots,k b u (hb b n) q⟩,λb u q n _=>by rw[jf (hx b n)];exact n,λb u q _=>?_,
  λb xs q=>by rw[jf (hm b _ q λz=>z)];exact q,λb u xs q=>by rw[jf (hm b _ q λz=>z)];exact q,λb ps q=>⟨#[],by rw[jf (hm b _ q λz=>z),q];simp⟩⟩
 by_cases hbe:b=e
 ·subst hbe;exact heo
 ·exact⟨u,k b u hbe q⟩
end
def trk(h:Heap)(H:Hp):List Addr:=(List.range h.objs.size).filter λa=>(H a).isSome
def hidT(h:Heap)(H:Hp):Heap:=PySem.W.hideAll h (trk h H)
theorem jla(h:Heap)(H:Hp):(hidT h H).objs.size=h.objs.size:=PySem.W.hideAll_size _ _
theorem jl9{h:Heap}{H:Hp}{b:Addr}{o:Obj}(e:h.get? b=some o)(n:H b=none):(hidT h H).get? b=some o :=
 PySem.W.hideAll_get _ e λhm=>by
  have q:(H b).isSome=true:=(Ol.mp hm).2
  rw[n]at q;simp at q
theorem jnp{h:Heap}{H:Hp}{b:Addr}{o:Obj}(e:(hidT h H).get? b=some o):h.get? b=some o/\H b=none:=by
 have e':h.get? b=some o:=PySem.W.of_hideAll (trk h H) e
 refine⟨e',?_⟩
 cases q:H b with
 |none=>rfl
 |some x =>
  have hm:b∈trk h H:=Ol.mpr ⟨U8.mpr (Ak e'),by simp[q]⟩
  have z:(hidT h H).get? b=none:=PySem.W.hideAll_none (trk h H) hm
  rw[z]at e;cases e
structure Mod(K:PySem.W.Frag)(mg:Str->Option Value)(base:Heap):Prop where
 kin:K.In base
 glob:base.Ns mainGlobals mg
 blt:∃mb,base.Ns builtinsNs mb/\∀x:Str,x≠"__name__"->mb x=bootBuiltins x
 nolimit:base.NoLimit
structure Cx where
 prog:Program
 w:World
 K:PySem.W.Frag
 mg:Str->Option Value
 base:Heap
 A:Around
 N:List Str
 s₀:Shared
 H₀:Hp
 env:Env
 outer:List Env
 stack:List Env
 ex:List Addr
 fn:Str->Bool
 calm:Bool
 pn:List (Addr×Obj)
 xe:Value->Shared->Prop
def frs(l:List Env):List Addr:=l.filterMap (·.frame)
abbrev Cx.fs(X:Cx):List Addr:=frs X.outer
def Vis(sc:Scope)(x:Str):Prop:=sc.names.lookup x=some .local\/sc.names.lookup x=some .cell\/sc.names.lookup x=some .free
def Loc(sc:Scope)(x:Str):Prop:=sc.names.lookup x=some .local\/sc.names.lookup x=some .cell
def Look(env:Env)(h:Heap)(m:Str->Option Value)(x:Str)(u:Value):Prop :=
 (env.kindOf x=some .local/\m x=some u)\/((env.kindOf x=some .cell\/env.kindOf x=some .free)/\∃c,env.cells.lookup x=some c/\h.IsCell c (some u))
structure Cx.Ok(X:Cx):Prop where
 mod:Mod X.K X.mg X.base
 kind:X.env.scope.kind=.function
 glob:X.env.globals=mainGlobals
 blt:X.env.builtins=builtinsNs
 above:X.s₀.heap.objs.size<=X.env.locals
 inj:∀x y c,X.env.cells.lookup x=some c->X.env.cells.lookup y=some c->x=y
 has:∀x,(X.env.kindOf x=some .cell\/X.env.kindOf x=some .free)->∃c,X.env.cells.lookup x=some c
 cab:∀x c,X.fn x=true->X.env.cells.lookup x=some c->X.s₀.heap.objs.size<=c
 hd:X.calm=true->X.A.handled=none
 frames:X.A.frames=some X.stack
 stk:X.stack=X.outer\/(X.stack=X.env::X.outer/\X.env.frame=some X.env.locals)
 exf:∀b∈X.ex,b≠X.env.locals/\∀x c,X.env.cells.lookup x=some c->c≠b
 bs:∀b o,X.base.get? b=some o->X.s₀.heap.get? b=some o/\X.H₀ b=none
 bsz:X.base.objs.size<=X.s₀.heap.objs.size
 noex:∀b o,X.base.get? b=some o->b∉X.ex
 exfs:∀b∈X.ex,b∉X.fs
 funs:X.s₀.heap.FunFrames X.base X.outer
 frf:∀b∈X.fs,X.H₀ b=none
structure Inv(X:Cx)(pins:List (Addr×Obj))(σ:List (Option V))(H:Hp)(s:Shared):Prop where
 ok:X.Ok
 os:s.os=X.s₀.os
 bare:AllBare s.gens
 base:Un X.fs X.ex X.H₀ H X.s₀.heap s.heap
 loc:∃m,s.heap.Ns X.env.locals m/\∀(i:Nat)(x:Str)(v:V),X.N[i]?=some x->σ[i]?=some (some v)->Vis X.env.scope x->∃u,RelV v u/\Look X.env s.heap m x u
 cell:∀x c,X.env.cells.lookup x=some c->∃v,s.heap.IsCell c v
 free:H X.env.locals=none
 freeC:∀x c,X.env.cells.lookup x=some c->H c=none
 pin:∀p∈X.pn++pins,s.heap.get? p.1=some p.2/\H p.1=none/\p.1≠X.env.locals/\p.1∉X.fs/\∀v,p.2.data≠.cell v
 hok:HOk X.prog X.w H s.heap
 len:σ.length=X.N.length
section
variable{X:Cx}{pins:List (Addr×Obj)}{σ:List (Option V)}{H H':Hp}{s:Shared}{h':Heap}
theorem Cx.Ok.nofr(ok:X.Ok){b:Addr}{o:Obj}(e:X.base.get? b=some o):b∉X.fs:=λhb=>by
 have:=(ok.funs.mem hb).1
 rw[e]at this;cases this
theorem Inv.bs(I:Inv X pins σ H s):∀b o,X.base.get? b=some o->s.heap.get? b=some o/\H b=none:=λb o e =>
 ⟨I.base.keep b o (I.ok.bs b o e).1 (I.ok.bs b o e).2 (I.ok.nofr e) (I.ok.noex b o e),I.base.free b o (I.ok.bs b o e).1 (I.ok.bs b o e).2 (I.ok.noex b o e)⟩
theorem Inv.bk(I:Inv X pins σ H s):∀b o,X.base.get? b=some o->s.heap.get? b=some o:=λb o e=>(I.bs b o e).1
theorem Inv.mod(I:Inv X pins σ H s):Mod X.K X.mg X.base:=I.ok.mod
theorem Inv.kIn(I:Inv X pins σ H s):X.K.In s.heap:=I.ok.mod.kin.keeps I.bk
theorem Inv.lt(I:Inv X pins σ H s):X.env.locals<s.heap.objs.size:=let⟨_,hn,_⟩:=I.loc;hn.lt
theorem Inv.sz(I:Inv X pins σ H s):X.s₀.heap.objs.size<=s.heap.objs.size:=Ig I.ok.above (Nat.le_of_lt I.lt)
theorem Inv.nofs(I:Inv X pins σ H s){a:Addr}(h:s.heap.objs.size<=a):a∉X.fs:=λhb=>by
 obtain⟨_,o,ho,_⟩:=I.ok.funs.mem hb
 exact absurd (Ax (Ak ho) (Ig I.sz h)) (Ou _)
theorem Inv.cne(I:Inv X pins σ H s):∀x c,X.env.cells.lookup x=some c->c≠X.env.locals:=λx c e z=>by
 obtain⟨v,o,ho,hd⟩:=I.cell x c e
 obtain⟨m,⟨o',es,ep,ho',hd',_⟩,_⟩:=I.loc
 rw[z,ho']at ho;cases ho;rw[hd']at hd;cases hd
theorem Inv.funs(I:Inv X pins σ H s):s.heap.FunFrames X.base X.outer:=by
 have all:∀(l:List Env),(∀b∈frs l,b∈X.fs)->X.s₀.heap.FunFrames X.base l->s.heap.FunFrames X.base l:=by
  intro l
  induction l with
  |nil=>intro _ _;trivial
  |cons env r ih =>
   intro hs hl
   obtain⟨hk,⟨L,o,hf,hn,ho,hd⟩,hr⟩:=hl
   have hL:L∈X.fs:=hs L (by unfold frs;rw[List.filterMap_cons,hf];exact Ob)
   obtain⟨sl,e⟩:=I.base.slot L o ho (I.ok.frf L hL) hL λz=>I.ok.exfs L z hL
   exact⟨hk,⟨L,_,hf,hn,e,hd⟩,ih (λb hb=>hs b (by unfold frs;rw[List.filterMap_cons,hf];exact Ik _ hb)) hr⟩
 exact all X.outer (λ_ hb=>hb) I.ok.funs
theorem Inv.stack(I:Inv X pins σ H s):s.heap.FunFrames X.base X.stack:=by
 rcases I.ok.stk with e|⟨e,hf⟩
 ·rw[e];exact I.funs
 ·rw[e]
  obtain⟨m,hn,_⟩:=I.loc
  refine .cons (by rw[I.ok.kind];decide) hf hn ?_ I.funs
  exact Heap.get?_none_of_le (Ig I.ok.bsz I.ok.above)
theorem Inv.stkSub(I:Inv X pins σ H s):∀b∈frs X.stack,b∈X.env.locals::X.fs:=λb hb=>by
 rcases I.ok.stk with e|⟨e,hf⟩
 ·rw[e]at hb;exact Ik _ hb
 ·rw[e]at hb
  unfold frs at hb
  rw[List.filterMap_cons,hf]at hb
  exact hb
theorem Inv.stkFree(I:Inv X pins σ H s):∀b∈frs X.stack,H b=none:=λb hb=>by
 rcases A2.mp (I.stkSub b hb)with e|hb
 ·rw[e];exact I.free
 ·obtain⟨_,o,ho,_⟩:=I.ok.funs.mem hb
  exact I.base.free b o ho (I.ok.frf b hb) λz=>I.ok.exfs b z hb
theorem Inv.step{g':Array GenState}{t':Nat}{d':Drawn}{ch:List Addr}(I:Inv X pins σ H s)
  (hch:∀b∈ch,(b∈X.ex\/X.s₀.heap.objs.size<=b)/\b≠X.env.locals/\(∀x c,X.env.cells.lookup x=some c->c≠b)/\∀p∈X.pn++pins,p.1≠b)
  (keep:∀b o,b≠X.env.locals->b∉X.fs->b∉ch->s.heap.get? b=some o->H b=none->h'.get? b=some o)
  (slot:∀b o,b≠X.env.locals->b∈X.fs->b∉ch->s.heap.get? b=some o->H b=none->∃sl,h'.get? b=some {o with slots:=sl}) (free:∀b o,b∉ch->s.heap.get? b=some o->H b=none->H' b=none)
  (there:∀b o,b∉ch->s.heap.get? b=some o->∃o',h'.get? b=some o')
  (tups:∀b xs,H b=some (.tup xs)->H' b=some (.tup xs)) (frzs:∀b o u,H b=some (.frz o u)->H' b=some (.frz o u)) (tbls:∀b ps,H b=some (.tbl ps)->∃more,H' b=some (.tbl (ps++more)))
  (ns:∀m,s.heap.Ns X.env.locals m->h'.Ns X.env.locals m) (hok:HOk X.prog X.w H' h') (hg:AllBare g') :
  Inv X pins σ H' {s with heap:=h',gens:=g',drawn:=d',toks:=t'}:=by
 have neL:∀b o,X.s₀.heap.get? b=some o->b≠X.env.locals:=λb o e=>Av (Ax (Ak e) I.ok.above)
 have neC:∀b o,X.s₀.heap.get? b=some o->b∉X.ex->b∉ch:=λb o e hx hb=>by
  rcases(hch b hb).1 with z|z
  ·exact hx z
  ·exact absurd (Ax (Ak e) z) (Ou _)
 have cellK:∀x c,X.env.cells.lookup x=some c->∀v,s.heap.IsCell c v->h'.IsCell c v:=λx c e v ⟨o,ho,hd⟩=>by
  have nch:c∉ch:=λz=>(hch c z).2.2.1 x c e rfl
  by_cases hc:c∈X.fs
  ·obtain⟨sl,q⟩:=slot c o (I.cne x c e) hc nch ho (I.freeC x c e)
   exact⟨_,q,hd⟩
  ·exact⟨o,keep c o (I.cne x c e) hc nch ho (I.freeC x c e),hd⟩
 refine⟨I.ok,I.os,hg,⟨λb o e n hb hx=>?_,λb o e n hb hx=>?_,λb o e n hx=>?_,λb o e hx=>?_,λb xs e=>tups b xs (I.base.tups b xs e),λb o xs e=>frzs b o xs (I.base.frzs b o xs e),λb ps e=>?_⟩,?_,λx c e=>?_,?_,λx c e=>?_,λp hp=>?_,hok,I.len⟩
 ·exact keep b o (neL b o e) hb (neC b o e hx) (I.base.keep b o e n hb hx) (I.base.free b o e n hx)
 ·obtain⟨sl,e1⟩:=I.base.slot b o e n hb hx
  obtain⟨sl',e2⟩:=slot b _ (neL b o e) hb (neC b o e hx) e1 (I.base.free b o e n hx)
  exact⟨sl',e2⟩
 ·obtain⟨o',e1⟩:=I.base.there b o e hx
  exact free b o' (neC b o e hx) e1 (I.base.free b o e n hx)
 ·obtain⟨o',e1⟩:=I.base.there b o e hx
  exact there b o' (neC b o e hx) e1
 ·obtain⟨m1,e1⟩:=I.base.tbls b ps e
  obtain⟨m2,e2⟩:=tbls b _ e1
  exact⟨m1++m2,by rw[e2,Array.append_assoc]⟩
 ·obtain⟨m,hn,hl⟩:=I.loc
  refine⟨m,ns m hn,λi x v e1 e2 e3=>?_⟩
  obtain⟨u,r,l⟩:=hl i x v e1 e2 e3
  refine⟨u,r,?_⟩
  rcases l with l|⟨k,c,e,z⟩
  ·exact .inl l
  ·exact .inr ⟨k,c,e,cellK x c e _ z⟩
 ·obtain⟨v,z⟩:=I.cell x c e
  exact⟨v,cellK x c e v z⟩
 ·obtain⟨m,⟨o,_,_,ho,_⟩,_⟩:=I.loc
  exact free _ o (λz=>(hch _ z).2.1 rfl) ho I.free
 ·obtain⟨v,o,ho,hd⟩:=I.cell x c e
  exact free c o (λz=>(hch c z).2.2.1 x c e rfl) ho (I.freeC x c e)
 ·obtain⟨e,n,ne,nf,d⟩:=I.pin p hp
  have nch:p.1∉ch:=λz=>(hch p.1 z).2.2.2 p hp rfl
  exact⟨keep p.1 p.2 ne nf nch e n,free p.1 p.2 nch e n,ne,nf,d⟩
theorem Inv.un{t':Nat}(I:Inv X pins σ H s)(u:Un X.fs [] H H' s.heap h')(hok:HOk X.prog X.w H' h'):Inv X pins σ H' {s with heap:=h',toks:=t'}:=by
 obtain⟨m,⟨o,es,ep,ho,r⟩,_⟩:=id I.loc
 obtain⟨sl,hL⟩:=u.any ho I.free (by simp)
 exact I.step (g':=s.gens) (d':=s.drawn) (ch:=[]) (λ_ z=>nomatch z) (λb o _ hb _ e n=>u.keep b o e n hb (by simp)) (λb o _ hb _ e n=>u.slot b o e n hb (by simp)) (λb o _ e n=>u.free b o e n (by simp)) (λb o _ e=>u.there b o e (by simp)) u.tups u.frzs u.tbls (λm' hm=>by
  obtain⟨o',es',ep',ho',r'⟩:=hm
  rw[ho]at ho';cases ho'
  exact⟨_,es',ep',hL,r'⟩) hok I.bare
theorem Inv.call{g':Array GenState}{t':Nat}{d':Drawn}{ch:List Addr}(I:Inv X pins σ H s)(u:Un (frs X.stack) ch H H' s.heap h')(hok:HOk X.prog X.w H' h')(hg:AllBare g')
  (hch:∀b∈ch,(b∈X.ex\/X.s₀.heap.objs.size<=b)/\b≠X.env.locals/\(∀x c,X.env.cells.lookup x=some c->c≠b)/\∀p∈X.pn++pins,p.1≠b) :
  Inv X pins σ H' {s with heap:=h',gens:=g',drawn:=d',toks:=t'}:=by
 obtain⟨m,⟨o,es,ep,ho,r⟩,_⟩:=id I.loc
 obtain⟨sl,hL⟩:=u.any ho I.free λz=>(hch _ z).2.1 rfl
 exact I.step (ch:=ch) hch (λb o hL hb hc e n=>u.keep b o e n (λz=>(A2.mp (I.stkSub b z)).elim hL hb) hc) (λb o _ _ hc e n=>u.any e n hc) (λb o hc e n=>u.free b o e n hc) (λb o hc e=>u.there b o e hc) u.tups u.frzs u.tbls (λm' hm=>by
  obtain⟨o',es',ep',ho',r'⟩:=hm
  rw[ho]at ho';cases ho'
  exact⟨_,es',ep',hL,r'⟩) hok hg
theorem Inv.turned{t':Nat}{it:Addr}(I:Inv X pins σ H s)(k:∀b o,b≠it->s.heap.get? b=some o->h'.get? b=some o)(hn:H it=none)(hL:it≠X.env.locals)
  (h1:it∈X.ex\/X.s₀.heap.objs.size<=it) (h2:∀x c,X.env.cells.lookup x=some c->c≠it) (h3:∀p∈X.pn++pins,p.1≠it):Inv X pins σ H {s with heap:=h',toks:=t'}:=by
 have nit:∀b u,H b=some u->b≠it:=λb u e z=>by rw[z,hn]at e;cases e
 refine I.step (g':=s.gens) (d':=s.drawn) (ch:=[it]) (λb hb=>?_) (λb o _ _ hc e _=>k b o (λz=>hc (by simp[z])) e) (λb o _ _ hc e _=>⟨o.slots,k b o (λz=>hc (by simp[z])) e⟩) (λ_ _ _ _ n=>n)
  (λb o hc e=>⟨o,k b o (λz=>hc (by simp[z])) e⟩) (λ_ _ e=>e) (λ_ _ _ e=>e) (λb ps e=>⟨#[],by rw[e];simp⟩) (λm hm=>?_) (λb u e=>?_) I.bare
 ·have e:b=it:=by simpa using hb
  subst e
  exact⟨h1,hL,h2,h3⟩
 ·obtain⟨o,es,ep,ho,r⟩:=hm
  exact⟨o,es,ep,k _ o (Ut hL) ho,r⟩
 ·refine(I.hok b u e).stay (λc v hc q=>k c v ?_ q) (λ_ q=>q) λ_ _ q=>q
  rcases hc with z|z
  ·rw[z];exact nit b u e
  ·exact nit c _ z
theorem Inv.tok(I:Inv X pins σ H s)(t:Nat):Inv X pins σ H {s with toks:=t}:=I.un (h':=s.heap) (t':=t) Un.refl I.hok
theorem Inv.kept{t':Nat}(I:Inv X pins σ H s)(k:∀b u,s.heap.get? b=some u->h'.get? b=some u):Inv X pins σ H {s with heap:=h',toks:=t'}:=I.un (Un.kept k) (I.hok.kept k)
theorem Inv.laid{a:Addr}{o:HO}{t':Nat}(I:Inv X pins σ H s)(k:∀b u,s.heap.get? b=some u->h'.get? b=some u)(hp:s.heap.objs.size<=a)(new:ObjOk X.prog X.w (upd H a o) h' a o) :
  Inv X pins σ (upd H a o) {s with heap:=h',toks:=t'}:=I.un (Un.laid k hp (I.hok.fresh hp)) (I.hok.laid k hp new)
theorem Inv.write{x e:Addr}{o:HO}{t':Nat}(I:Inv X pins σ H s)(mu:Mut (H x))(he:e=x\/H e=some (.own x))(k:∀b u,b≠e->s.heap.get? b=some u->h'.get? b=some u)(heo:∃u,h'.get? e=some u)
  (new:ObjOk X.prog X.w (upd H x o) h' x o):Inv X pins σ (upd H x o) {s with heap:=h',toks:=t'}:=I.un (Un.write mu he k heo) (I.hok.write mu he k heo new)
theorem Inv.pins_of{pins':List (Addr×Obj)}(I:Inv X pins σ H s)(h:∀p∈pins',s.heap.get? p.1=some p.2/\H p.1=none/\p.1≠X.env.locals/\p.1∉X.fs/\∀v,p.2.data≠.cell v):Inv X pins' σ H s :=
 ⟨I.ok,I.os,I.bare,I.base,I.loc,I.cell,I.free,I.freeC,λp hp=>(A7.mp hp).elim (λz=>I.pin p (A9 _ z)) (h p),I.hok,I.len⟩
theorem jif{N:List Str}(hN:N.Nodup){i j:Nat}{x:Str}(a:N[i]?=some x)(b:N[j]?=some x):i=j:=by
 obtain⟨h1,e1⟩:=Aa.mp a
 obtain⟨h2,e2⟩:=Aa.mp b
 exact(List.getElem_inj hN).mp (e1.trans e2.symm)
theorem jeh{M:Model}{A:Around}{E:Value->Shared->Prop}{i:Nat}{x:Str}{v:V}{u:Value}{Q:Unit->Shared->Prop}(I:Inv X pins σ H s)(hN:X.N.Nodup)(hi:X.N[i]?=some x)(hx:Loc X.env.scope x)(r:RelV v u)
  (h:∀s',Inv X pins (σ.set i (some v)) H s'->(∃a,Heap.SameBut a s.heap s'.heap/\(a=X.env.locals\/X.env.cells.lookup x=some a))->Q () s') (hf:X.fn x=true\/X.env.scope.names.lookup x=some .local:=by first|exact .inl rfl|exact .inr rfl|assumption):wpAny M A (storeName X.env x u) Q E s:=by
 obtain⟨m,hn,hl⟩:=id I.loc
 have hcls:(X.env.scope.kind == .class || (X.env.scope.kind == .module && X.env.locals != X.env.globals))=false:=by rw[I.ok.kind];rfl
 have hiσ:i<σ.length:=by rw[I.len];exact(Aa.mp hi).1
 have cne:=I.cne
 have tracked:∀{a:Addr}{h':Heap},(∃o,s.heap.get? a=some o/\H a=none)->Heap.SameBut a s.heap h'->HOk X.prog X.w H h':=fun{a h'} ha hs b ob e=>by
  obtain⟨_,_,hfree⟩:=ha
  refine(I.hok b ob e).stay (λc w' hc q=>(hs.2 c ?_).trans q) (λ_ q=>q) λ_ _ q=>q
  rintro rfl
  rcases hc with rfl|hc
  ·rw[hfree]at e;cases e
  ·rw[hfree]at hc;cases hc
 rcases hx with hk|hk
 ·refine wpAny_storeName_local hk hn (λh' hn' hs=>?_) hcls
  obtain⟨oL,_,_,hoL,_⟩:=id hn
  refine h _ ⟨I.ok,I.os,I.bare,⟨λb o e n hb hx=>?_,λb o e n hb hx=>?_,I.base.free,λb o e hx=>?_,I.base.tups,I.base.frzs,I.base.tbls⟩,⟨_,hn',λj y v' e1 e2 e3=>?_⟩,λy c e=>?_,I.free,I.freeC,λp hp=>?_,tracked ⟨oL,hoL,I.free⟩ hs,by simpa using I.len⟩ ⟨_,hs,.inl rfl⟩
  ·exact(hs.2 b (Av (Ax (Ak e) I.ok.above))).trans (I.base.keep b o e n hb hx)
  ·obtain⟨sl,e1⟩:=I.base.slot b o e n hb hx
   exact⟨sl,(hs.2 b (Av (Ax (Ak e) I.ok.above))).trans e1⟩
  ·obtain⟨o',e1⟩:=I.base.there b o e hx
   exact⟨o',(hs.2 b (Av (Ax (Ak e) I.ok.above))).trans e1⟩
  ·by_cases hj:j=i
   ·subst hj
    rw[hi]at e1;cases e1
    rw[List.getElem?_set_self hiσ]at e2
    cases e2
    exact⟨u,r,.inl ⟨hk,by simp⟩⟩
   ·rw[List.getElem?_set_ne (Ut hj)]at e2
    obtain⟨u',r',q⟩:=hl j y v' e1 e2 e3
    refine⟨u',r',?_⟩
    rcases q with⟨k,e⟩|⟨k,c,e,z⟩
    ·refine .inl ⟨k,?_⟩
     have:y≠x:=λe=>hj (jif hN e1 (e▸hi))
     simp[this,e]
    ·exact .inr ⟨k,c,e,z.sameBut hs (cne y c e)⟩
  ·obtain⟨w',z⟩:=I.cell y c e
   exact⟨w',z.sameBut hs (cne y c e)⟩
  ·obtain⟨e,n,ne,nf,d⟩:=I.pin p hp
   exact⟨(hs.2 p.1 ne).trans e,n,ne,nf,d⟩
 ·have hfn:X.fn x=true:=by
   rcases hf with z|z
   ·exact z
   ·rw[z]at hk;cases hk
  obtain⟨c,hc⟩:=I.ok.has x (.inl hk)
  obtain⟨w',z⟩:=I.cell x c hc
  refine wpAny_storeName_cell I.ok.kind hk hc z (λh' hc' hs=>?_)
  obtain⟨oc,hoc,hocd⟩:=id z
  refine h {s with heap:=h'} ⟨I.ok,I.os,I.bare,⟨λb o e n hb hx=>?_,λb o e n hb hx=>?_,I.base.free,λb o e hx=>?_,I.base.tups,I.base.frzs,I.base.tbls⟩,⟨m,hn.sameBut hs (Ut (cne x c hc)),λj y v' e1 e2 e3=>?_⟩,λy c' e=>?_,I.free,I.freeC,λp hp=>?_,tracked ⟨oc,hoc,I.freeC x c hc⟩ hs,by simpa using I.len⟩ ⟨c,hs,.inr hc⟩
  ·exact(hs.2 b (Av (Ax (Ak e) (I.ok.cab x c hfn hc)))).trans (I.base.keep b o e n hb hx)
  ·obtain⟨sl,e1⟩:=I.base.slot b o e n hb hx
   exact⟨sl,(hs.2 b (Av (Ax (Ak e) (I.ok.cab x c hfn hc)))).trans e1⟩
  ·obtain⟨o',e1⟩:=I.base.there b o e hx
   exact⟨o',(hs.2 b (Av (Ax (Ak e) (I.ok.cab x c hfn hc)))).trans e1⟩
  ·by_cases hj:j=i
   ·subst hj
    rw[hi]at e1;cases e1
    rw[List.getElem?_set_self hiσ]at e2
    cases e2
    exact⟨u,r,.inr ⟨.inl hk,c,hc,hc'⟩⟩
   ·rw[List.getElem?_set_ne (Ut hj)]at e2
    obtain⟨u',r',q⟩:=hl j y v' e1 e2 e3
    refine⟨u',r',?_⟩
    rcases q with q|⟨k,c',e,z'⟩
    ·exact .inl q
    ·refine .inr ⟨k,c',e,z'.sameBut hs ?_⟩
     rintro rfl
     exact hj (jif hN e1 (I.ok.inj _ _ _ e hc▸hi))
  ·by_cases hcc:c'=c
   ·subst hcc;exact⟨_,hc'⟩
   ·obtain⟨w2,z2⟩:=I.cell y c' e
    exact⟨w2,z2.sameBut hs hcc⟩
  ·obtain⟨e,n,ne,nf,d⟩:=I.pin p hp
   refine⟨(hs.2 p.1 ?_).trans e,n,ne,nf,d⟩
   intro q
   rw[q,hoc]at e
   have q':oc=p.2:=Ar e
   exact d w' (by rw[<-q'];exact hocd)
theorem jfa{M:Model}{A:Around}{E:Value->Shared->Prop}{i:Nat}{x:Str}{v:V}{u:Value}{Q:Unit->Shared->Prop}(I:Inv X pins σ H s)(hN:X.N.Nodup)(hi:X.N[i]?=some x)(hx:Loc X.env.scope x)(r:RelV v u)
  (h:∀s',Inv X pins (σ.set i (some v)) H s'->Q () s') (hf:X.fn x=true\/X.env.scope.names.lookup x=some .local:=by first|exact .inl rfl|exact .inr rfl|assumption):wpAny M A (storeName X.env x u) Q E s :=
 jeh I hN hi hx r (λs' I' _=>h s' I') hf
theorem Inv.call'{s':Shared}{ch:List Addr}(I:Inv X pins σ H s)(ho:s'.os=s.os)(u:Un (frs X.stack) ch H H' s.heap s'.heap)(hok:HOk X.prog X.w H' s'.heap)(hg:AllBare s'.gens)
  (hch:∀b∈ch,(b∈X.ex\/X.s₀.heap.objs.size<=b)/\b≠X.env.locals/\(∀x c,X.env.cells.lookup x=some c->c≠b)/\∀p∈X.pn++pins,p.1≠b):Inv X pins σ H' s':=by
 obtain⟨h',g',d',t',o'⟩:=s'
 have e:o'=s.os:=ho
 subst e
 exact I.call (g':=g') (t':=t') (d':=d') u hok hg hch
end
abbrev XK:=Value->Option Addr->Hp->Prop
abbrev St:=List (Option V)
abbrev VK:=V->Hp->Prop
abbrev TE:=St->Hp->VK->Prop
abbrev TT:=St->Hp->(Bool->Hp->Prop)->Prop
abbrev TA:=St->Hp->(List V->Hp->Prop)->Prop
structure Ends where
 nx:St->Hp->Prop
 rt:VK
 bk:St->Hp->Prop:=λ_ _=>False
 ct:St->Hp->Prop:=λ_ _=>False
abbrev TS:=Ends->St->Hp->Prop
def EP(X:Cx)(pins:List (Addr×Obj))(σ:St)(Q:VK)(u:Value)(s':Shared):Prop:=∃v H',Inv X pins σ H' s'/\RelV v u/\Q v H'
def TP(X:Cx)(pins:List (Addr×Obj))(σ:St)(Q:Bool->Hp->Prop)(b:Bool)(s':Shared):Prop:=∃H',Inv X pins σ H' s'/\Q b H'
def AP(X:Cx)(pins:List (Addr×Obj))(σ:St)(Q:List V->Hp->Prop)(us:List Value)(s':Shared):Prop:=∃vs H',Inv X pins σ H' s'/\Vals vs us/\Q vs H'
def SP(X:Cx)(pins:List (Addr×Obj))(D:Ends)(f:Flow)(s':Shared):Prop :=
 match f with
 |.next=>∃σ' H',Inv X pins σ' H' s'/\D.nx σ' H'
 |.brk=>∃σ' H',Inv X pins σ' H' s'/\D.bk σ' H'
 |.cont=>∃σ' H',Inv X pins σ' H' s'/\D.ct σ' H'
 |.ret u=>∃v σ' H',Inv X pins σ' H' s'/\RelV v u/\D.rt v H'
def PE(X:Cx)(e:Expr)(t:TE):Prop :=
 ∀(pins:List (Addr×Obj))(s:Shared)(σ:St)(H:Hp)(Q:VK),Inv X pins σ H s->t σ H Q->wpAny (model X.prog X.w) X.A (eval e X.env) (EP X pins σ Q) X.xe s
def PT(X:Cx)(e:Expr)(t:TT):Prop :=
 ∀(pins:List (Addr×Obj))(s:Shared)(σ:St)(H:Hp)(Q:Bool->Hp->Prop),Inv X pins σ H s->t σ H Q->wpAny (model X.prog X.w) X.A (isTrue e X.env (eval e X.env)) (TP X pins σ Q) X.xe s
def PW(X:Cx)(e:Expr)(t:TT):Prop :=
 ∀(whole:Sem Value)(pins:List (Addr×Obj))(s:Shared)(σ:St)(H:Hp)(Q:Bool->Hp->Prop),Inv X pins σ H s->t σ H Q->wpAny (model X.prog X.w) X.A (isTrue e X.env whole) (TP X pins σ Q) X.xe s
theorem PW.pt{X:Cx}{e:Expr}{t:TT}(h:PW X e t):PT X e t:=h _
def PA(X:Cx)(es:List Expr)(t:TA):Prop :=
 ∀(pos:Pos)(pins:List (Addr×Obj))(s:Shared)(σ:St)(H:Hp)(Q:List V->Hp->Prop),Inv X pins σ H s->t σ H Q->wpAny (model X.prog X.w) X.A (spliced (backTo pos (starEach es X.env))) (AP X pins σ Q) X.xe s
def PS(X:Cx)(st:Stmt)(t:TS):Prop :=
 ∀(pins:List (Addr×Obj))(s:Shared)(σ:St)(H:Hp)(D:Ends),Inv X pins σ H s->t D σ H->wpAny (model X.prog X.w) X.A (exec st X.env) (SP X pins D) X.xe s
def PSs(X:Cx)(st:List Stmt)(t:TS):Prop :=
 ∀(pins:List (Addr×Obj))(s:Shared)(σ:St)(H:Hp)(D:Ends),Inv X pins σ H s->t D σ H->wpAny (model X.prog X.w) X.A (execs st X.env) (SP X pins D) X.xe s
theorem thn{α:Type}{t:Sem α}{Q Q':α->Shared->Prop}{M:Model}{A:Around}{E:Value->Shared->Prop}{s:Shared}(h:wpAny M A t Q E s)(hQ:∀a s,Q a s->Q' a s):wpAny M A t Q' E s:=Oo h hQ λ_ _ x=>x
section
variable{X:Cx}
def tVar(i:Nat):TE:=λσ H Q=>∃v,σ[i]?=some (some v)/\Q v H
def tC(v:V):TE:=λ_ H Q=>Q v H
theorem jb2{i:Nat}{x:Str}{pos:Pos}(hN:X.N[i]?=some x)(hv:Vis X.env.scope x)(hd:(x == ("__debug__":Str))=false:=by decide)(hcd:(x == ("__classdict__":Str))=false:=by decide):PE X (.Name x pos) (tVar i):=by
 intro pins s σ H Q I h
 obtain⟨v,e,h⟩:=h
 obtain⟨m,hn,hl⟩:=I.loc
 obtain⟨u,r,l⟩:=hl i x v hN e hv
 have fin:EP X pins σ Q u s:=⟨v,H,I,r,h⟩
 rcases l with⟨hk,hm⟩|⟨hk,c,hc,hcell⟩
 ·exact wpAny_Name (wpAny_loadName_local I.ok.kind hk hn hm fin) hd
 ·rcases hk with hk|hk
  ·exact wpAny_Name (wpAny_loadName_cell I.ok.kind hk hc hcell fin) hd
  ·exact wpAny_Name (wpAny_loadName_free I.ok.kind hk hc hcell fin hcd) hd
theorem pe_int{i j pos}:PE X (.Constant (.int i) j pos) (tC (.int i)):=λ_ _ _ H _ I h=>wpAny_Constant_int ⟨.int i,H,I.tok _,⟨_,rfl⟩,h⟩
theorem pe_bl{b j pos}:PE X (.Constant (.bool b) j pos) (tC (.bl b)):=λ_ _ _ H _ I h=>Constant_bool ⟨.bl b,H,I,rfl,h⟩
theorem pe_non{j pos}:PE X (.Constant .none j pos) (tC .non):=λ_ _ _ H _ I h=>Constant_none ⟨.non,H,I,rfl,h⟩
theorem pe_str{x j pos}:PE X (.Constant (.str x) j pos) (tC (.str x)):=λ_ _ _ H _ I h=>Wb ⟨.str x,H,I.tok _,⟨_,rfl⟩,h⟩
def Gl(X:Cx)(x:Str):Prop:=X.env.kindOf x=some .globalImplicit
theorem jf9{E:Value->Shared->Prop}{pins:List (Addr×Obj)}{s:Shared}{σ:St}{H:Hp}{x:Str}{u:Value}{pos:Pos}{Q:Value->Shared->Prop}(I:Inv X pins σ H s)(hg:Gl X x)(hm:X.mg x=some u)(h:Q u s)
  (hd:(x == ("__debug__":Str))=false:=by decide):wpAny (model X.prog X.w) X.A (eval (.Name x pos) X.env) Q E s :=
 Calls.Name_function_global I.ok.kind hg (Calls.loadGlobal_global (by rw[I.ok.glob];exact I.mod.glob.keeps I.bk) hm h) hd
theorem jd7{E:Value->Shared->Prop}{pins:List (Addr×Obj)}{s:Shared}{σ:St}{H:Hp}{x:Str}{u:Value}{pos:Pos}{Q:Value->Shared->Prop}(I:Inv X pins σ H s)(hg:Gl X x)(hm:X.mg x=none)(hv:bootBuiltins x=some u)(h:Q u s)
  (hn:x≠"__name__":=by decide) (hd:(x == ("__debug__":Str))=false:=by decide):wpAny (model X.prog X.w) X.A (eval (.Name x pos) X.env) Q E s:=by
 obtain⟨mb,h1,h2⟩:=I.mod.blt
 exact Calls.Name_function_global I.ok.kind hg (Calls.loadGlobal_builtin (by rw[I.ok.glob];exact I.mod.glob.keeps I.bk) hm (by rw[I.ok.blt];exact h1.keeps I.bk) ((h2 x hn).trans hv) h) hd
theorem pe_glob{x:Str}{v:V}{u:Value}{pos:Pos}(hg:Gl X x)(hm:X.mg x=some u)(r:RelV v u)(hd:(x == ("__debug__":Str))=false:=by decide):PE X (.Name x pos) (tC v) :=
 λ_ _ _ H _ I h=>jf9 I hg hm ⟨v,H,I,r,h⟩ hd
theorem pe_bltn{x:Str}{v:V}{u:Value}{pos:Pos}(hg:Gl X x)(hm:X.mg x=none)(hv:bootBuiltins x=some u)(r:RelV v u)(hn:x≠"__name__":=by decide)(hd:(x == ("__debug__":Str))=false:=by decide):PE X (.Name x pos) (tC v) :=
 λ_ _ _ H _ I h=>jd7 I hg hm hv ⟨v,H,I,r,h⟩ hn hd
variable{a b:Expr}{ta tb:TE}{pos:Pos}
def PC(X:Cx)(op:CmpOp)(a b:Expr)(t:TE):Prop :=
 ∀(pins:List (Addr×Obj))(s:Shared)(σ:St)(H:Hp)(Q:VK),Inv X pins σ H s->t σ H Q ->
  wpAny (model X.prog X.w) X.A (eval a X.env) (λv s₁=>wpAny (model X.prog X.w) X.A (eval b X.env) (λu s₂=>wpAny (model X.prog X.w) X.A (compareOp op v u) (EP X pins σ Q) X.xe s₂) X.xe s₁) X.xe s
def tB(t:TE):TT:=λσ H Q=>t σ H λx H1=>∃c,x=.bl c/\Q c H1
theorem pt_cmp{op:CmpOp}{t:TE}(h:PC X op a b t)(h1:behindInMarks op b=false:=by first|exact nobehind _ (by decide) (by decide)|rfl):PT X (.Compare a [op] [b] pos) (tB t):=by
 intro pins s σ H Q I hw
 refine wpAny_isTrue_Compare1 (thn (h pins s σ H _ I hw) λv s1 h1=>thn h1 λu s2 h2=>thn h2 λc s3 ⟨x,H1,I1,r1,q1⟩=>?_) h1
 obtain⟨d,rfl,q⟩:=q1
 cases r1
 exact Iu ⟨H1,I1,q⟩
theorem pt_val{e:Expr}{t:TE}(h:PE X e t)(he:∀whole,isTrue e X.env whole=(do let v <-whole;standAt e.pos;holding [v] (truthy v)):=by intro _;rfl):PT X e (tB t):=by
 intro pins s σ H Q I hw
 refine isTrue_plain (thn (h pins s σ H _ I hw) λv s1 ⟨x,H1,I1,r1,q1⟩=>?_) (he _)
 obtain⟨d,rfl,q⟩:=q1
 cases r1
 exact Iu ⟨H1,I1,q⟩
variable{tA tB':TT}{rest:List Expr}
def tAnd(t u:TT):TT:=λσ H Q=>t σ H λc H1=>if c=true then u σ H1 Q else Q false H1
def tOr(t u:TT):TT:=λσ H Q=>t σ H λc H1=>if c=true then Q true H1 else u σ H1 Q
def tNot(t:TT):TT:=λσ H Q=>t σ H λc H1=>Q (!c) H1
theorem pw_and1(ha:PT X a tA):PW X (.BoolOp .And [a] pos) tA:=by
 intro wh pins s σ H Q I h
 refine isTrue_and (thn (ha pins s σ H Q I h) λc s1 e=>?_)
 cases c with
 |true=>exact isTrue_and_nil e
 |false=>exact e
theorem pw_or1(ha:PT X a tA):PW X (.BoolOp .Or [a] pos) tA:=by
 intro wh pins s σ H Q I h
 refine isTrue_or (thn (ha pins s σ H Q I h) λc s1 e=>?_)
 cases c with
 |false=>exact isTrue_or_nil e
 |true=>exact e
theorem pw_and(ha:PT X a tA)(hb:PW X (.BoolOp .And (b::rest) pos) tB'):PW X (.BoolOp .And (a::b::rest) pos) (tAnd tA tB'):=by
 intro wh pins s σ H Q I h
 refine isTrue_and (thn (ha pins s σ H _ I h) λc s1 ⟨H1,I1,q1⟩=>?_)
 cases c with
 |true=>exact hb wh pins s1 σ H1 Q I1 q1
 |false=>exact⟨H1,I1,q1⟩
theorem pw_or(ha:PT X a tA)(hb:PW X (.BoolOp .Or (b::rest) pos) tB'):PW X (.BoolOp .Or (a::b::rest) pos) (tOr tA tB'):=by
 intro wh pins s σ H Q I h
 refine isTrue_or (thn (ha pins s σ H _ I h) λc s1 ⟨H1,I1,q1⟩=>?_)
 cases c with
 |true=>exact⟨H1,I1,q1⟩
 |false=>exact hb wh pins s1 σ H1 Q I1 q1
theorem pt_not(ha:PT X a tA):PT X (.UnaryOp .Not a pos) (tNot tA):=by
 intro pins s σ H Q I h
 exact isTrue_not (ha pins s σ H (λc H1=>Q (!c) H1) I h)
def jhq(ta tb:TE):TE:=λσ H Q=>ta σ H λx H1=>∃c,x=.bl c/\if c=true then tb σ H1 Q else Q (.bl false) H1
def tOrV(ta tb:TE):TE:=λσ H Q=>ta σ H λx H1=>∃c,x=.bl c/\if c=true then Q (.bl true) H1 else tb σ H1 Q
theorem pe_one{op}{t:TE}(h:PE X a t):PE X (.BoolOp op [a] pos) t:=λpins s σ H Q I hw=>BoolOp_one (h pins s σ H Q I hw)
theorem pe_and(ha:PE X a ta)(hb:PE X (.BoolOp .And (b::rest) pos) tb):PE X (.BoolOp .And (a::b::rest) pos) (jhq ta tb):=by
 intro pins s σ H Q I h
 refine BoolOp_and (thn (ha pins s σ H _ I h) λv s1 ⟨x,H1,I1,r1,q1⟩=>?_)
 obtain⟨c,rfl,q1⟩:=q1
 cases r1
 refine Iu ?_
 cases c with
 |true=>exact hb pins s1 σ H1 Q I1 q1
 |false=>exact⟨.bl false,H1,I1,rfl,q1⟩
theorem pe_or(ha:PE X a ta)(hb:PE X (.BoolOp .Or (b::rest) pos) tb):PE X (.BoolOp .Or (a::b::rest) pos) (tOrV ta tb):=by
 intro pins s σ H Q I h
 refine BoolOp_or (thn (ha pins s σ H _ I h) λv s1 ⟨x,H1,I1,r1,q1⟩=>?_)
 obtain⟨c,rfl,q1⟩:=q1
 cases r1
 refine Iu ?_
 cases c with
 |false=>exact hb pins s1 σ H1 Q I1 q1
 |true=>exact⟨.bl true,H1,I1,rfl,q1⟩
def tIf(t:TT)(ta tb:TE):TE:=λσ H Q=>t σ H λc H1=>if c=true then ta σ H1 Q else tb σ H1 Q
theorem pe_ifExp{c:Expr}(hc:PT X c tA)(ha:PE X a ta)(hb:PE X b tb):PE X (.IfExp c a b pos) (tIf tA ta tb):=by
 intro pins s σ H Q I h
 refine wpAny_IfExp (thn (hc pins s σ H _ I h) λd s1 ⟨H1,I1,q1⟩=>?_)
 cases d with
 |true=>exact ha pins s1 σ H1 Q I1 q1
 |false=>exact hb pins s1 σ H1 Q I1 q1
end
def SqL(K:PySem.W.Frag)(H:Hp)(a:Addr)(xs:List V):Prop :=
 Rd H a (.lst xs) \/
  ∃(o:Obj)(its:Array Value)(n:Nat),K.lookup a=some o/\o.cls=.type "list"/\o.dict=none/\o.data=.seq its n/\its.size<=sizeLine/\Vals xs its.toList
def SqT(K:PySem.W.Frag)(H:Hp)(a:Addr)(xs:List V):Prop :=
 Rd H a (.tup xs) \/
  ∃(o:Obj)(its:Array Value)(n:Nat),K.lookup a=some o/\o.cls=.type "tuple"/\o.data=.seq its n/\its.size<=sizeLine/\Vals xs its.toList
def absV:Value->Option V
 |.none=>some .non
 |.bool b=>some (.bl b)
 |.int i _=>some (.int i)
 |.str x _=>some (.str x)
 |.bytes b _=>some (.byt b)
 |.float b _=>some (.flt b)
 |.ref a=>some (.ref a)
 |.type n=>some (.ty n)
 |_=>none
theorem RelV.abs{x:V}{u:Value}(r:RelV x u):absV u=some x:=by
 cases x with
 |non=>cases r;rfl
 |bl _=>cases r;rfl
 |int _=>obtain⟨t,rfl⟩:=r;rfl
 |str _=>obtain⟨t,rfl⟩:=r;rfl
 |byt _=>obtain⟨t,rfl⟩:=r;rfl
 |flt _=>obtain⟨t,rfl⟩:=r;rfl
 |ref _=>cases r;rfl
 |ty _=>cases r;rfl
theorem RelV.inj{x y:V}{u:Value}(r:RelV x u)(q:RelV y u):x=y:=Ar (r.abs.symm.trans q.abs)
theorem Vals.inj:∀{xs ys:List V}{us:List Value},Vals xs us->Vals ys us->xs=ys
 |_,_,_,.nil,.nil=>rfl
 |_,_,_,.cons r t,.cons r' t'=>by rw[r.inj r',Vals.inj t t']
section
variable{X:Cx}{pins:List (Addr×Obj)}{σ:St}{H:Hp}{s:Shared}{a:Addr}{xs ys:List V}
theorem SqL.of{K:PySem.W.Frag}(h:H a=some (.lst xs)):SqL K H a xs:=.inl (.inl h)
theorem SqT.of{K:PySem.W.Frag}(h:H a=some (.tup xs)):SqT K H a xs:=.inl (.inl h)
theorem Inv.list(I:Inv X pins σ H s)(h:SqL X.K H a xs):∃its:List Value,Vals xs its/\PlainL s.heap a its.toArray/\xs.length<=sizeLine:=by
 rcases h with h|⟨o,its,n,hk,hc,hd,hs,hz,r⟩
 ·obtain⟨z,its,n,r,e⟩:=h.ok I.hok
  exact⟨its,r,⟨_,n,e,rfl,rfl,rfl⟩,z⟩
 ·refine⟨its.toList,r,⟨o,n,I.kIn a o hk,hc,hd,by simpa using hs⟩,?_⟩
  have e:=r.length
  simp only[Array.length_toList]at e
  omega
theorem Inv.tuple(I:Inv X pins σ H s)(h:SqT X.K H a xs):∃its:List Value,Vals xs its/\IsTup s.heap a its.toArray/\xs.length<=sizeLine:=by
 rcases h with h|⟨o,its,n,hk,hc,hs,hz,r⟩
 ·obtain⟨z,its,r,p⟩:=h.ok I.hok
  exact⟨its,r,p,z⟩
 ·refine⟨its.toList,r,⟨o,I.kIn a o hk,hc,n,by simpa using hs⟩,?_⟩
  have e:=r.length
  simp only[Array.length_toList]at e
  omega
theorem Inv.list_inj(I:Inv X pins σ H s)(h:SqL X.K H a xs)(h':SqL X.K H a ys):xs=ys:=by
 obtain⟨its,r,⟨o,n,e,_,_,d⟩,_⟩:=I.list h
 obtain⟨its',r',⟨o',n',e',_,_,d'⟩,_⟩:=I.list h'
 rw[e]at e';cases e'
 rw[d]at d'
 injection d' with d1 _
 have:its=its':=by simpa using Iy Array.toList d1
 subst this
 exact r.inj r'
theorem Inv.tuple_inj(I:Inv X pins σ H s)(h:SqT X.K H a xs)(h':SqT X.K H a ys):xs=ys:=by
 obtain⟨its,r,⟨o,e,_,n,d⟩,_⟩:=I.tuple h
 obtain⟨its',r',⟨o',e',_,n',d'⟩,_⟩:=I.tuple h'
 rw[e]at e';cases e'
 rw[d]at d'
 injection d' with d1 _
 have:its=its':=by simpa using Iy Array.toList d1
 subst this
 exact r.inj r'
end
abbrev Cx.wish(X:Cx)(E:Value->Shared->Prop):Cx:={X with xe:=E}
abbrev Cx.nox(X:Cx):Cx:=X.wish λ_ _=>False
theorem Cx.Ok.wish{X:Cx}(ok:X.Ok)(E:Value->Shared->Prop):(X.wish E).Ok :=
 ⟨ok.mod,ok.kind,ok.glob,ok.blt,ok.above,ok.inj,ok.has,ok.cab,ok.hd,ok.frames,ok.stk,ok.exf,ok.bs,ok.bsz,ok.noex,ok.exfs,ok.funs,ok.frf⟩
theorem Cx.Ok.unwish{X:Cx}{E:Value->Shared->Prop}(ok:(X.wish E).Ok):X.Ok :=
 ⟨ok.mod,ok.kind,ok.glob,ok.blt,ok.above,ok.inj,ok.has,ok.cab,ok.hd,ok.frames,ok.stk,ok.exf,ok.bs,ok.bsz,ok.noex,ok.exfs,ok.funs,ok.frf⟩
section
variable{X:Cx}{pins:List (Addr×Obj)}{σ:St}{H:Hp}{s:Shared}{E:Value->Shared->Prop}
theorem Inv.wish(I:Inv X pins σ H s)(E:Value->Shared->Prop):Inv (X.wish E) pins σ H s:=⟨I.ok.wish E,I.os,I.bare,I.base,I.loc,I.cell,I.free,I.freeC,I.pin,I.hok,I.len⟩
theorem Inv.unwish(I:Inv (X.wish E) pins σ H s):Inv X pins σ H s:=⟨I.ok.unwish,I.os,I.bare,I.base,I.loc,I.cell,I.free,I.freeC,I.pin,I.hok,I.len⟩
theorem SP.unwish{D:Ends}{f:Flow}{s':Shared}(h:SP (X.wish E) pins D f s'):SP X pins D f s':=by
 cases f with
 |next=>obtain⟨σ',H',I,q⟩:=h;exact⟨σ',H',I.unwish,q⟩
 |brk=>obtain⟨σ',H',I,q⟩:=h;exact⟨σ',H',I.unwish,q⟩
 |cont=>obtain⟨σ',H',I,q⟩:=h;exact⟨σ',H',I.unwish,q⟩
 |ret u=>obtain⟨v,σ',H',I,r,q⟩:=h;exact⟨v,σ',H',I.unwish,r,q⟩
theorem PSs.nox{st:List Stmt}{t:TS}(h:PSs X.nox st t):PSs X st t:=λpins s σ H D I hw =>
 Oo (h pins s σ H D (I.wish _) hw) (λ_ _ q=>q.unwish) λ_ _ z=>False.elim z
end
section
variable{X:Cx}{st:Stmt}{rest:List Stmt}{t u:TS}{e:Expr}{te:TE}{pos:Pos}
def jhx:TS:=λD σ H=>D.nx σ H
def tSeq(t u:TS):TS:=λD σ H=>t {D with nx:=u D} σ H
theorem pss_nil:PSs X [] jhx:=λ_ _ σ H _ I h=>Uy ⟨σ,H,I,h⟩
theorem pss_cons(h1:PS X st t)(h2:PSs X rest u):PSs X (st::rest) (tSeq t u):=by
 intro pins s σ H D I h
 refine Uq (thn (h1 pins s σ H {D with nx:=u D} I h) λf s1 q=>?_)
 cases f with
 |next =>
  obtain⟨σ',H',I',q⟩:=q
  exact h2 pins s1 σ' H' D I' q
 |ret v=>exact q
 |brk=>exact q
 |cont=>exact q
theorem pss_one(h1:PS X st t):PSs X [st] t:=by
 intro pins s σ H D I h
 refine Uq (thn (h1 pins s σ H D I h) λf s1 q=>?_)
 cases f with
 |next=>exact Uy q
 |ret v=>exact q
 |brk=>exact q
 |cont=>exact q
def jhu:TS:=λD σ H=>D.ct σ H
theorem ps_continue:PS X (.Continue pos) jhu:=λ_ _ σ H _ I h=>wpAny_Continue ⟨σ,H,I,h⟩
theorem Inv.quiet{pins:List (Addr×Obj)}{σ:St}{H:Hp}{s:Shared}(I:Inv X pins σ H s):interactive X.env=false:=by simp[interactive,I.ok.kind]
def jhv(te:TE):TS:=λD σ H=>te σ H λ_ H1=>D.nx σ H1
theorem ps_expr(he:PE X e te)(hs:swapsWith e none pos.line X.env=pure false:=by rfl):PS X (.Expr e pos) (jhv te):=by
 intro pins s σ H D I h
 exact wpAny_Expr_any (thn (he pins s σ H _ I h) λv s1 ⟨x,H1,I1,r1,q1⟩=>⟨σ,H1,I1,q1⟩) I.quiet hs
def tRet(te:TE):TS:=λD σ H=>te σ H D.rt
theorem ps_ret(he:PE X e te):PS X (.Return (some e) pos) (tRet te):=by
 intro pins s σ H D I h
 exact wpAny_Return_some (thn (he pins s σ H _ I h) λv s1 ⟨x,H1,I1,r1,q1⟩=>⟨x,σ,H1,I1,r1,q1⟩)
def tIfS(c:TT)(t u:TS):TS:=λD σ H=>c σ H λb H1=>if b=true then t D σ H1 else u D σ H1
theorem ps_if{c:Expr}{a b:List Stmt}{tc:TT}(hc:PT X c tc)(ha:PSs X a t)(hb:PSs X b u):PS X (.If c a b pos) (tIfS tc t u):=by
 intro pins s σ H D I h
 refine wpAny_If (thn (hc pins s σ H _ I h) λd s1 ⟨H1,I1,q1⟩=>?_)
 cases d with
 |true=>exact ha pins s1 σ H1 D I1 q1
 |false=>exact hb pins s1 σ H1 D I1 q1
def jlp:TS:=λ_ _ _=>False
theorem ps_never:PS X st jlp:=λ_ _ _ _ _ _ h=>h.elim
end
abbrev TG:=V->St->Hp->(St->Hp->Prop)->Prop
abbrev TGs:=List V->St->Hp->(St->Hp->Prop)->Prop
def PG(X:Cx)(target:Expr)(t:TG):Prop :=
 ∀(pins:List (Addr×Obj))(s:Shared)(σ:St)(H:Hp)(v:V)(u:Value)(Q:St->Hp->Prop),Inv X pins σ H s->RelV v u->t v σ H Q ->
  wpAny (model X.prog X.w) X.A (assign target X.env u) (λ_ s'=>∃σ' H',Inv X pins σ' H' s'/\Q σ' H') X.xe s
def PGs(X:Cx)(ts:List Expr)(t:TGs):Prop :=
 ∀(pins:List (Addr×Obj))(s:Shared)(σ:St)(H:Hp)(vs:List V)(us:List Value)(Q:St->Hp->Prop),Inv X pins σ H s->Vals vs us->t vs σ H Q ->
  wpAny (model X.prog X.w) X.A (assignInOrder ((assignEach ts X.env).map (·.2)) us) (λ_ s'=>∃σ' H',Inv X pins σ' H' s'/\Q σ' H') X.xe s
abbrev TSet:=V->V->V->Hp->(Hp->Prop)->Prop
def PSet(X:Cx)(t:TSet):Prop :=
 ∀(pins:List (Addr×Obj))(s:Shared)(σ:St)(H:Hp)(o i v:V)(ov iv u:Value)(Q:Hp->Prop),Inv X pins σ H s->RelV o ov->RelV i iv->RelV v u->t o i v H Q ->
  wpAny (model X.prog X.w) X.A (setItem ov iv u) (λ_ s'=>∃H',Inv X pins σ H' s'/\Q H') X.xe s
section
variable{X:Cx}{pos:Pos}
def jck(i:Nat):TG:=λv σ H Q=>Q (σ.set i (some v)) H
theorem pg_name{i:Nat}{x:Str}(hN:X.N.Nodup)(hi:X.N[i]?=some x)(hx:Loc X.env.scope x)(hf:X.fn x=true\/X.env.scope.names.lookup x=some .local:=by first|exact .inl rfl|exact .inr rfl|assumption):PG X (.Name x pos) (jck i):=by
 intro pins s σ H v u Q I r h
 exact wpAny_assign_Name (jfa I hN hi hx r (λs' I'=>⟨_,H,I',h⟩) hf)
def gNil:TGs:=λvs σ H Q=>vs=[]/\Q σ H
def jmu(t:TG)(u:TGs):TGs:=λvs σ H Q=>∃v r,vs=v::r/\t v σ H λσ' H'=>u r σ' H' Q
theorem pgs_nil:PGs X [] gNil:=by
 intro pins s σ H vs us Q I r h
 obtain⟨e,h⟩:=h
 subst e
 cases r
 exact assignInOrder_nil ⟨σ,H,I,h⟩
theorem pgs_cons{e:Expr}{es:List Expr}{t:TG}{u:TGs}(h1:PG X e t)(h2:PGs X es u)
  (hs:(assignEach (e::es) X.env).map (·.2)=assign e X.env::(assignEach es X.env).map (·.2):=by rfl):PGs X (e::es) (jmu t u):=by
 intro pins s σ H vs us Q I r h
 obtain⟨v,vr,e1,h⟩:=h
 subst e1
 cases r with
 |cons r rr =>
  rw[hs]
  refine assignInOrder_cons (thn (h1 pins s σ H _ _ _ I r h) λ_ s1 ⟨σ1,H1,I1,q1⟩=>?_)
  exact h2 pins s1 σ1 H1 _ _ Q I1 rr q1
def gTup(K:PySem.W.Frag)(n:Nat)(t:TGs):TG:=λv σ H Q=>∃a xs,v=.ref a/\SqT K H a xs/\xs.length=n/\t xs σ H Q
theorem pg_tup{es:List Expr}{k:Nat}{t:TGs}{n:Nat}(hc:X.calm=true)(h:PGs X es t)
  (hn:(assignEach es X.env).length=n:=by rfl) (hst:(assignEach es X.env).findIdx? (·.1)=none:=by rfl):PG X (.Tuple es k pos) (gTup X.K n t):=by
 intro pins s σ H v u Q I r hw
 obtain⟨a,xs,e1,hq,hl,hw⟩:=hw
 subst e1
 cases r
 obtain⟨its,rv,ht,hz⟩:=I.tuple hq
 refine assign_Tuple_tuple (I.ok.hd hc) ht (by simp[hn,<-hl,rv.length]) hst λh' hx=>?_
 have I1:Inv X pins σ H {s with heap:=h'}:=I.kept (t':=s.toks) λb o e=>hx b o (Av (Ak e)) e
 exact h pins _ σ H xs _ Q I1 (by simpa using rv) hw
def gSub(to ti:TE)(t:TSet):TG:=λv σ H Q=>to σ H λo H1=>ti σ H1 λi H2=>t o i v H2 λH3=>Q σ H3
theorem pg_sub{o i:Expr}{to ti:TE}{t:TSet}(ho:PE X o to)(hi:PE X i ti)(hs:PSet X t)
  (ha:∀v,assign (.Subscript o i pos) X.env v=(do
   let ov <-holding [v] (eval o X.env)
   let iv <-holding [v,ov] (eval i X.env)
   standAt pos
   holding [v,ov,iv] (setItem ov iv v)
   release [v,ov,iv] []):=by intro _;rfl):PG X (.Subscript o i pos) (gSub to ti t):=by
 intro pins s σ H v u Q I r h
 rw[ha]
 refine Ah (Uo (thn (ho pins s σ H _ I h) λov s1 ⟨x,H1,I1,r1,q1⟩=>?_))
 refine Ah (Uo (thn (hi pins s1 σ H1 _ I1 q1) λiv s2 ⟨y,H2,I2,r2,q2⟩=>?_))
 refine Ah (Up (Ah (Uo (thn (hs pins s2 σ H2 x y v ov iv u _ I2 r1 r2 r q2) λ_ s3 ⟨H3,I3,q3⟩=>?_))))
 exact wpAny_release ⟨σ,H3,I3,q3⟩
def tAsg(te:TE)(g:TG):TS:=λD σ H=>te σ H λx H1=>g x σ H1 D.nx
theorem ps_asg{tg e:Expr}{te:TE}{g:TG}(he:PE X e te)(hg:PG X tg g)(hs:swapsWithSole [tg] e pos.line X.env=pure false:=by rfl)(hw:swappedStores [tg] e X.env=pure none:=by rfl)
  (h1:(assignEach [tg] X.env).map (·.2)=[assign tg X.env]:=by rfl):PS X (.Assign [tg] e pos) (tAsg te g):=by
 intro pins s σ H D I h
 refine wpAny_Assign_stores (thn (he pins s σ H _ I h) λv s1 ⟨x,H1,I1,r1,q1⟩=>?_) hs hw
 rw[h1]
 exact thn (hg pins s1 σ H1 x v _ I1 r1 q1) λ_ s2 q=>q
theorem ps_set{i:Nat}{x:Str}{e:Expr}{te:TE}{pos':Pos}(hN:X.N.Nodup)(hi:X.N[i]?=some x)(hx:Loc X.env.scope x)(he:PE X e te)(hs:swapsWith e (some (.Name x pos')) pos.line X.env=pure false:=by rfl)(hf:X.fn x=true\/X.env.scope.names.lookup x=some .local:=by first|exact .inl rfl|exact .inr rfl|assumption) :
  PS X (.Assign [.Name x pos'] e pos) (tAsg te (jck i)):=by
 intro pins s σ H D I h
 refine wpAny_Assign_Name (thn (he pins s σ H _ I h) λv s1 ⟨y,H1,I1,r1,q1⟩=>?_) hs
 exact jfa I1 hN hi hx r1 (λs2 I2=>⟨_,H1,I2,q1⟩) hf
def jlq(c:TT)(tb:TS):TS:=λD σ H=>∃W:Nat->St->Hp->Prop,(∃m,W m σ H)/\∀m σ H,W m σ H ->
 c σ H λb H1=>if b=true then ∃N:St->Hp->Prop,(∀σ' H',N σ' H'->∃m',m'<m/\W m' σ' H')/\tb {D with nx:=N,ct:=N,bk:=D.nx} σ H1 else D.nx σ H1
theorem ps_while{c:Expr}{body:List Stmt}{tc:TT}{tb:TS}(hp:PassesOwn (model X.prog X.w) X.A X.env X.xe)(hc:PT X c tc)(hb:PSs X body tb):PS X (.While c body [] pos) (jlq tc tb):=by
 intro pins s σ H D I h
 obtain⟨W,⟨m0,w0⟩,turn⟩:=h
 refine wpAny_While (codeAny_whileLoop (λn s'=>∃σ' H',Inv X pins σ' H' s'/\W n σ' H') ?_ m0 ⟨σ,H,I,w0⟩)
 rintro n s1 ⟨σ1,H1,I1,w1⟩
 refine Om hp (thn (hc pins s1 σ1 H1 _ I1 (turn n σ1 H1 w1)) λb s2 ⟨H2,I2,q2⟩=>?_)
 cases b with
 |true =>
  obtain⟨N,hN,q2⟩:=q2
  rw[Ag rfl]
  refine Om hp (thn (hb pins s2 σ1 H2 _ I2 q2) λf s3 q3=>?_)
  cases f with
  |next =>
   obtain⟨σ3,H3,I3,n3⟩:=q3
   obtain⟨m',hm,w3⟩:=hN σ3 H3 n3
   exact⟨m',hm,σ3,H3,I3,w3⟩
  |cont =>
   obtain⟨σ3,H3,I3,n3⟩:=q3
   obtain⟨m',hm,w3⟩:=hN σ3 H3 n3
   exact⟨m',hm,σ3,H3,I3,w3⟩
  |brk=>exact q3
  |ret v=>exact q3
 |false =>
  rw[Ae Ay]
  exact Uy ⟨σ1,H2,I2,q2⟩
end
structure It where
 go:Nat->Hp->Prop
 yld:Nat->Hp->V->Hp->Prop
 stop:Nat->Hp->Prop
def FpOk(X:Cx)(pins:List (Addr×Obj))(H:Hp)(b:Addr):Prop :=
 H b=none/\b≠X.env.locals/\b∉X.fs/\(b∈X.ex\/X.s₀.heap.objs.size<=b)/\(∀x c,X.env.cells.lookup x=some c->c≠b)/\∀p∈X.pn++pins,p.1≠b
theorem Inv.fpOk{X:Cx}{pins:List (Addr×Obj)}{σ:St}{H H':Hp}{s:Shared}{b:Addr}(I:Inv X pins σ H s)(hb:s.heap.objs.size<=b)(hn:H' b=none):FpOk X pins H' b:=by
 refine⟨hn,Nat.ne_of_gt (Ax I.lt hb),I.nofs hb,.inr (Ig I.sz hb),λx c e z=>?_,λp hp z=>?_⟩
 ·obtain⟨v,q⟩:=I.cell x c e
  exact absurd (Ax q.lt (by rw[z];exact hb)) (Ou _)
 ·exact absurd (Ax (Ak (I.pin p hp).1) (by rw[z];exact hb)) (Ou _)
structure Turn(P:Program)(w:World)(K:PySem.W.Frag)(tg:Expr)(J:It)(fp:List Addr)(it:Addr)(tn:Nat->Heap->Prop):Prop where
 mem:it∈fp
 obj:∀i h,tn i h->∀b∈fp,∃o,h.get? b=some o/\∀v,o.data≠.cell v
 keep:∀i h h',tn i h->(∀b∈fp,∀o,h.get? b=some o->h'.get? b=some o)->tn i h'
 item:∀(X:Cx),X.prog=P->X.w=w->X.K=K->X.calm=true->∀(i:Nat)(pins:List (Addr×Obj))(s:Shared)(σ:St)(H:Hp)(E:Value->Shared->Prop),Inv X pins σ H s->(∀b∈fp,FpOk X pins H b)->tn i s.heap->J.go i H ->
  wpAny (model P w) X.A (pyNext (.ref it)) (λr s1=>∃u,r=some u /\
   wpAny (model P w) X.A (letOwnedTupleGo tg (.ref it) u) (λ_ s2=>∃x H',Inv X pins σ H' s2/\RelV x u/\J.yld i H x H'/\tn (i+1) s2.heap/\∀b∈fp,H' b=none) E s1) E s
 done:∀(X:Cx),X.prog=P->X.w=w->X.K=K->X.calm=true->∀(i:Nat)(pins:List (Addr×Obj))(s:Shared)(σ:St)(H:Hp)(E:Value->Shared->Prop),Inv X pins σ H s->(∀b∈fp,FpOk X pins H b)->tn i s.heap->J.stop i H ->
  wpAny (model P w) X.A (pyNext (.ref it)) (λr s1=>r=none/\Inv X pins σ H s1) E s
 self:∀(A:Around)(i:Nat)(s:Shared)(Q:Value->Shared->Prop)(E:Value->Shared->Prop),tn i s.heap->Q (.ref it) s->wpAny (model P w) A (pyIter (.ref it)) Q E s
abbrev TI:=St->Hp->(It->Hp->Prop)->Prop
def PIE(X:Cx)(pins:List (Addr×Obj))(σ:St)(tg:Expr)(R:It->Hp->Prop)(itv:Value)(s2:Shared):Prop :=
 ∃(it:Addr)(fp:List Addr)(tn:Nat->Heap->Prop)(J:It)(H':Hp),itv=.ref it/\Inv X pins σ H' s2/\Turn X.prog X.w X.K tg J fp it tn/\tn 0 s2.heap/\(∀b∈fp,FpOk X pins H' b)/\R J H'
def PI(X:Cx)(tg iter:Expr)(wi:TI):Prop :=
 ∀(pins:List (Addr×Obj))(s:Shared)(σ:St)(H:Hp)(R:It->Hp->Prop),Inv X pins σ H s->wi σ H R ->
  wpAny (model X.prog X.w) X.A (eval iter X.env) (λv s1=>wpAny (model X.prog X.w) X.A (pyIter v) (PIE X pins σ tg R) X.xe s1) X.xe s
theorem jfi{M:Model}{A:Around}{E:Value->Shared->Prop}{s:Shared}{tg:Expr}{it:Addr}{u:Value}{o:Obj}{n:String}{vs:Array Value}{Q:Unit->Shared->Prop}(ho:s.heap.get? it=some o)(hc:o.cls=.type n)(hd:o.data=.fields vs)
  (hn:["enumerate","zip","dict_itemiterator","dict_reverseitemiterator","odict_iterator","itertools.zip_longest","itertools.pairwise"].contains n=false) (hQ:Q () s):wpAny M A (letOwnedTupleGo tg (.ref it) u) Q E s:=by
 unfold letOwnedTupleGo
 cases tg <;> first
  |exact Ap hQ
  |(cases u <;> first
    |exact Ap hQ
    |(refine Ah (wpAny_load ho ?_)
      rw[hc,hd]
      show wpAny M A (if(["enumerate","zip","dict_itemiterator","dict_reverseitemiterator","odict_iterator","itertools.zip_longest","itertools.pairwise"].contains n && vs[0]? == some (rawInt _))=true then _ else _) Q E s
      rw[Ae (by intro h;rw[hn,Bool.false_and]at h;cases h)]
      exact Ap hQ))
def Itl(K:PySem.W.Frag)(a:Addr):It :=
 ⟨λi H=>∃xs x,SqL K H a xs/\xs[i]?=some x,λi H x H'=>H'=H/\∀xs,SqL K H a xs->xs[i]?=some x,λi H=>∃xs,SqL K H a xs/\xs.length<=i⟩
def Itt(K:PySem.W.Frag)(a:Addr):It :=
 ⟨λi H=>∃xs x,SqT K H a xs/\xs[i]?=some x,λi H x H'=>H'=H/\∀xs,SqT K H a xs->xs[i]?=some x,λi H=>∃xs,SqT K H a xs/\xs.length<=i⟩
def Itr(lo:Int)(n:Nat):It:=⟨λi _=>i<n,λi H x H'=>H'=H/\x=.int (lo+i),λi _=>n<=i⟩
theorem jlt{P:Program}{w:World}{K:PySem.W.Frag}{tg:Expr}(a it:Addr):Turn P w K tg (Itl K a) [it] it (λi h=>h.IsListIter it a i) where
 mem:=by simp
 obj:=λi h st b hb=>by
  have e:b=it:=by simpa using hb
  subst e
  obtain⟨o,e,c,d⟩:=st
  exact⟨o,e,λv z=>by rw[d]at z;cases z⟩
 keep:=λi h h' st k=>st.at λo e=>k it (by simp) o e
 item:=by
  intro X hP hw hK hc i pins s σ H E I hf st hg
  subst hP hw hK
  obtain⟨xs,x,hq,hx⟩:=hg
  obtain⟨its,rv,p,hz⟩:=I.list hq
  obtain⟨u,hu,ru⟩:=rv.get hx
  obtain⟨f0,f1,f2,f3,f4,f5⟩:=hf it (by simp)
  refine wpAny_pyNext_list_item st p.isList (x:=u) (by simpa using hu) λh' st' sb=>?_
  have I1:Inv X pins σ H {s with heap:=h'}:=I.turned (t':=s.toks) (λb o hb e=>(sb.2 b hb).trans e) f0 f1 f3 f4 f5
  obtain⟨o,e,c,d⟩:=id st'
  exact⟨u,rfl,jfi (s:={s with heap:=h'}) e c d (by decide) ⟨x,H,I1,ru,⟨rfl,λys hy=>by rw[I.list_inj hy hq];exact hx⟩,st',λb hb=>(hf b hb).1⟩⟩
 done:=by
  intro X hP hw hK hc i pins s σ H E I hf st hg
  subst hP hw hK
  obtain⟨xs,hq,hx⟩:=hg
  obtain⟨its,rv,p,hz⟩:=I.list hq
  obtain⟨f0,f1,f2,f3,f4,f5⟩:=hf it (by simp)
  have hl:=rv.length
  exact wpAny_pyNext_list_end (I.ok.hd hc) st p.isList (by simp;omega) λh' eb=>⟨rfl,I.turned (t':=s.toks) (λb o hb e=>eb b o hb e) f0 f1 f3 f4 f5⟩
 self:=λ_ _ _ _ _ st h=>wpAny_pyIter_listiter st h
theorem jkw{P:Program}{w:World}{K:PySem.W.Frag}{tg:Expr}(a it:Addr):Turn P w K tg (Itt K a) [it] it (λi h=>h.IsTupleIter it a i) where
 mem:=by simp
 obj:=λi h st b hb=>by
  have e:b=it:=by simpa using hb
  subst e
  obtain⟨o,e,c,d⟩:=st
  exact⟨o,e,λv z=>by rw[d]at z;cases z⟩
 keep:=λi h h' st k=>st.at λo e=>k it (by simp) o e
 item:=by
  intro X hP hw hK hc i pins s σ H E I hf st hg
  subst hP hw hK
  obtain⟨xs,x,hq,hx⟩:=hg
  obtain⟨its,rv,p,hz⟩:=I.tuple hq
  obtain⟨u,hu,ru⟩:=rv.get hx
  obtain⟨f0,f1,f2,f3,f4,f5⟩:=hf it (by simp)
  refine wpAny_pyNext_tuple_item st (show s.heap.IsTuple a its.toArray from p) (x:=u) (by simpa using hu) λh' st' sb=>?_
  have I1:Inv X pins σ H {s with heap:=h'}:=I.turned (t':=s.toks) (λb o hb e=>(sb.2 b hb).trans e) f0 f1 f3 f4 f5
  obtain⟨o,e,c,d⟩:=id st'
  exact⟨u,rfl,jfi (s:={s with heap:=h'}) e c d (by decide) ⟨x,H,I1,ru,⟨rfl,λys hy=>by rw[I.tuple_inj hy hq];exact hx⟩,st',λb hb=>(hf b hb).1⟩⟩
 done:=by
  intro X hP hw hK hc i pins s σ H E I hf st hg
  subst hP hw hK
  obtain⟨xs,hq,hx⟩:=hg
  obtain⟨its,rv,p,hz⟩:=I.tuple hq
  obtain⟨f0,f1,f2,f3,f4,f5⟩:=hf it (by simp)
  have hl:=rv.length
  exact wpAny_pyNext_tuple_end (I.ok.hd hc) st (show s.heap.IsTuple a its.toArray from p) (by simp;omega) λh' eb=>⟨rfl,I.turned (t':=s.toks) (λb o hb e=>eb b o hb e) f0 f1 f3 f4 f5⟩
 self:=λ_ _ _ _ _ st h=>wpAny_pyIter_tupleiter st h
theorem jkv{P:Program}{w:World}{K:PySem.W.Frag}{tg:Expr}(it:Addr)(lo:Int)(n:Nat):Turn P w K tg (Itr lo n) [it] it (λi h=>IsRangeIter h it (lo+(i:Nat)*1) ((n:Int)-(i:Nat)) 1) where
 mem:=by simp
 obj:=λi h st b hb=>by
  have e:b=it:=by simpa using hb
  subst e
  exact⟨_,st,λv z=>by
   have z':Data.fields _=Data.cell v:=z
   cases z'⟩
 keep:=λi h h' st k=>k it (by simp) _ st
 item:=by
  intro X hP hw hK hc i pins s σ H E I hf st hg
  subst hP hw hK
  obtain⟨f0,f1,f2,f3,f4,f5⟩:=hf it (by simp)
  have W:=Walks.range (prog:=X.prog) (w:=X.w) (I.ok.hd hc) it lo 1 n
  refine W.item i s _ _ hg st λv h' tk hv st' kk=>?_
  obtain⟨t,rfl⟩:=hv
  have I1:Inv X pins σ H {s with heap:=h',toks:=tk}:=I.turned (λb o hb e=>kk b o (by simpa using hb) e) f0 f1 f3 f4 f5
  refine⟨_,rfl,jfi (s:={s with heap:=h',toks:=tk}) (n:="range_iterator") st' rfl rfl (by decide) ⟨.int (lo+i),H,I1,⟨t,?_⟩,⟨rfl,rfl⟩,st',λb hb=>(hf b hb).1⟩⟩
  rw[Int.mul_one]
 done:=by
  intro X hP hw hK hc i pins s σ H E I hf st hg
  subst hP hw hK
  obtain⟨f0,f1,f2,f3,f4,f5⟩:=hf it (by simp)
  exact wpAny_pyNext_range_end (I.ok.hd hc) st (by have:n<=i:=hg;omega) λh' eb=>⟨rfl,I.turned (t':=s.toks) (λb o hb e=>eb b o hb e) f0 f1 f3 f4 f5⟩
 self:=λ_ _ _ _ _ st h=>wpAny_pyIter_rangeiter st h
section
variable{X:Cx}{tg:Expr}
theorem jmj{pins:List (Addr×Obj)}{σ:St}{H:Hp}{s:Shared}{R:It->Hp->Prop}{E:Value->Shared->Prop}{lo hi:Int}{t u v:Tok}{tk:Nat}(I:Inv X pins σ H s)(h1:-(2^62)<=lo)(h2:lo<2^62)(h3:-(2^62)<=hi)(h4:hi<2^62)
  (q:R (Itr lo (hi-lo).toNat) H):wpAny (model X.prog X.w) X.A (pyIter (.ref s.heap.objs.size)) (PIE X pins σ tg R) E {s with heap:=s.heap.push {cls:=.type "range",data:=.fields #[.int lo t,.int hi u,.int 1 v]},toks:=tk}:=by
 refine wpAny_pyIter_range (IsRange.new ..) (small_one h1 h2 h3 h4) ?_
 have I1:Inv X pins σ H {s with heap:=s.heap.push {cls:=.type "range",data:=.fields #[.int lo t,.int hi u,.int 1 v]},toks:=tk}:=I.kept λb o e=>Ad _ e
 refine⟨(s.heap.push {cls:=.type "range",data:=.fields #[.int lo t,.int hi u,.int 1 v]}).objs.size,[(s.heap.push {cls:=.type "range",data:=.fields #[.int lo t,.int hi u,.int 1 v]}).objs.size],_,_,H,rfl,
  I1.kept (t':=tk) λb o e=>Ad _ e,jkv _ lo (hi-lo).toNat,?_,λb hb=>?_,q⟩
 ·have e1:lo+((0:Nat):Int)*1=lo:=by simp
  have e2:(((hi-lo).toNat:Nat):Int)-((0:Nat):Int)=Builtin.Range.rangeSize lo hi 1:=by rw[rangeSize_one];split <;> omega
  show IsRangeIter _ _ (lo+((0:Nat):Int)*1) ((((hi-lo).toNat:Nat):Int)-((0:Nat):Int)) 1
  rw[e1,e2]
  exact Aw _ rfl
 ·have e:b=(s.heap.push {cls:=.type "range",data:=.fields #[.int lo t,.int hi u,.int 1 v]}).objs.size:=by simpa using hb
  subst e
  exact I1.fpOk (Ac _) (I1.hok.fresh (Ac _))
def jhj(ta:TA):TI:=λσ H R=>ta σ H λvs H1=>∃j:Int,vs=[.int j]/\-(2^62)<=j/\j<2^62/\R (Itr 0 j.toNat) H1
theorem pi_range1{a:Expr}{ta:TA}{p pos:Pos}(hg:Gl X "range")(hm:X.mg "range"=none)(ha:PA X [a] ta)(hs:starEach [a] X.env=[(false,eval a X.env)]:=by rfl):PI X tg (.Call (.Name "range" p) [a] [] pos) (jhj ta):=by
 intro pins s σ H R I h
 refine Call_ (jd7 I hg hm boot_range (O3 (thn (ha pos pins s σ H _ I h) λus s1 ⟨vs,H1,I1,r1,q1⟩=>?_) hs rfl))
 obtain⟨j,e,q1,q2,q⟩:=q1
 subst e
 cases r1 with
 |cons r rr =>
  cases rr
  obtain⟨t,rfl⟩:=r
  exact call_range_1 (jmj I1 (by omega) (by omega) q1 q2 (by simpa using q))
def tFor(wi:TI)(g:TG)(tb:TS):TS:=λD σ H=>wi σ H λJ H1=>∃W:Nat->Nat->St->Hp->Prop,(∃m,W 0 m σ H1)/\∀i m σ H,W i m σ H ->
 (J.stop i H/\D.nx σ H)\/(J.go i H/\∃N:St->Hp->Prop,(∀σ' H',N σ' H'->∃m',m'<m/\W (i+1) m' σ' H')/\∀x H',J.yld i H x H'->g x σ H' λσ2 H2=>tb {D with nx:=N,ct:=N,bk:=D.nx} σ2 H2)
def jeb(fp:List Addr)(h:Heap):List (Addr×Obj):=fp.filterMap λb=>(h.get? b).map λo=>(b,o)
theorem jcy{fp:List Addr}{h:Heap}{b:Addr}{o:Obj}(hb:b∈fp)(e:h.get? b=some o):(b,o)∈jeb fp h:=O9.mpr ⟨b,hb,by rw[e];rfl⟩
theorem jlj{fp:List Addr}{h:Heap}{p:Addr×Obj}(hp:p∈jeb fp h):p.1∈fp/\h.get? p.1=some p.2:=by
 obtain⟨b,hb,e⟩:=O9.mp hp
 cases q:h.get? b with
 |none=>rw[q]at e;cases e
 |some o =>
  rw[q]at e
  have e':(b,o)=p:=Ar e
  subst e'
  exact⟨hb,q⟩
theorem Inv.pinned{pins:List (Addr×Obj)}{σ:St}{H:Hp}{s:Shared}{fp:List Addr}(I:Inv X pins σ H s)(hf:∀b∈fp,FpOk X pins H b)(ho:∀b∈fp,∃o,s.heap.get? b=some o/\∀v,o.data≠.cell v):Inv X (pins++jeb fp s.heap) σ H s :=
 I.pins_of λp hp=>(A7.mp hp).elim (λz=>I.pin p (A5 _ z)) λz=>by
  obtain⟨hb,e⟩:=jlj z
  obtain⟨f0,f1,f2,_⟩:=hf p.1 hb
  obtain⟨o,e',d⟩:=ho p.1 hb
  rw[e]at e';cases e'
  exact⟨e,f0,f1,f2,d⟩
theorem Inv.unpinned{pins pl:List (Addr×Obj)}{σ:St}{H:Hp}{s:Shared}(I:Inv X (pins++pl) σ H s):Inv X pins σ H s:=I.pins_of λp hp=>I.pin p (A5 _ (A9 _ hp))
theorem ps_for{iter:Expr}{body:List Stmt}{wi:TI}{g:TG}{tb:TS}{pos:Pos}(hp:PassesOwn (model X.prog X.w) X.A X.env X.xe)(hc:X.calm=true)(hi:PI X tg iter wi)(hg:PG X tg g)(hb:PSs X body tb)
  (hs:∀x,foldedSetIterable iter X.env x=pure x:=by intro _;rfl):PS X (.For tg iter body [] pos) (tFor wi g tb):=by
 intro pins s σ H D I h
 refine wpAny_For (thn (hi pins s σ H _ I h) λv s1 h1=>thn h1 λitv s2 h2=>?_) hs
 obtain⟨it,fp,tn,J,H2,e,I2,T,st2,f2,W,⟨m0,w0⟩,turn⟩:=h2
 subst e
 have stat:∀{H':Hp},(∀b∈fp,H' b=none)->∀b∈fp,FpOk X pins H' b:=λhn b hb=>⟨hn b hb,(f2 b hb).2⟩
 refine codeAny_forLoop_any (λn s'=>∃i σ' H',Inv X pins σ' H' s'/\tn i s'.heap/\(∀b∈fp,H' b=none)/\W i n σ' H') ?_ m0 ⟨0,σ,H2,I2,st2,λb hb=>(f2 b hb).1,w0⟩
 rintro n s3 ⟨i,σ3,H3,I3,st3,fr3,w3⟩
 rcases turn i n σ3 H3 w3 with⟨stop,qn⟩|⟨go,N,hN,step⟩
 ·refine Om hp (thn (T.done X rfl rfl rfl hc i pins s3 σ3 H3 X.xe I3 (stat fr3) st3 stop) λr s4 ⟨hr,I4⟩=>?_)
  subst hr
  exact Uy ⟨σ3,H3,I4,qn⟩
 ·refine Om hp (thn (T.item X rfl rfl rfl hc i pins s3 σ3 H3 X.xe I3 (stat fr3) st3 go) λr s4 ⟨u,hr,h4⟩=>?_)
  subst hr
  refine Om hp (thn h4 λ_ s5 ⟨x,H5,I5,r5,y5,st5,fr5⟩=>?_)
  have I5':=I5.pinned (stat fr5) (T.obj _ _ st5)
  refine Om hp (thn (hg _ s5 σ3 H5 x u _ I5' r5 (step x H5 y5)) λ_ s6 ⟨σ6,H6,I6,q6⟩=>?_)
  refine Om hp (thn (hb _ s6 σ6 H6 _ I6 q6) λf s7 q7=>?_)
  have again:∀{σ7:St}{H7:Hp},Inv X (pins++jeb fp s5.heap) σ7 H7 s7->N σ7 H7->∃m,m<n/\∃i σ' H',Inv X pins σ' H' s7/\tn i s7.heap/\(∀b∈fp,H' b=none)/\W i m σ' H':=fun{σ7 H7} I7 n7=>by
   obtain⟨m',hm,w7⟩:=hN σ7 H7 n7
   refine⟨m',hm,i+1,σ7,H7,I7.unpinned,T.keep _ _ _ st5 λb hb o e=>(I7.pin (b,o) (A5 _ (A5 _ (jcy hb e)))).1,λb hb=>?_,w7⟩
   obtain⟨o,e,d⟩:=T.obj _ _ st5 b hb
   exact(I7.pin (b,o) (A5 _ (A5 _ (jcy hb e)))).2.1
  cases f with
  |next=>obtain⟨σ7,H7,I7,n7⟩:=q7;exact again I7 n7
  |cont=>obtain⟨σ7,H7,I7,n7⟩:=q7;exact again I7 n7
  |brk=>obtain⟨σ7,H7,I7,q7⟩:=q7;exact⟨σ7,H7,I7.unpinned,q7⟩
  |ret v=>obtain⟨x7,σ7,H7,I7,r7,q7⟩:=q7;exact⟨x7,σ7,H7,I7.unpinned,r7,q7⟩
end
theorem jl7{K:PySem.W.Frag}{a:Addr}{xs:List V}{g:TG}{tb:TS}{D:Ends}{σ:St}{H:Hp}(Pv:Nat->St->Hp->Prop)(h0:Pv 0 σ H)(hl:∀i σ H,i<=xs.length->Pv i σ H->SqL K H a xs)
  (hs:∀i x σ H,xs[i]?=some x->Pv i σ H->g x σ H λσ2 H2=>tb {D with nx:=Pv (i+1),ct:=Pv (i+1),bk:=D.nx} σ2 H2) (hd:∀σ H,Pv xs.length σ H->D.nx σ H) :
  ∃W:Nat->Nat->St->Hp->Prop,(∃m,W 0 m σ H)/\∀i m σ H,W i m σ H ->
   ((Itl K a).stop i H/\D.nx σ H)\/((Itl K a).go i H/\∃N:St->Hp->Prop,(∀σ' H',N σ' H'->∃m',m'<m/\W (i+1) m' σ' H')/\∀x H',(Itl K a).yld i H x H'->g x σ H' λσ2 H2=>tb {D with nx:=N,ct:=N,bk:=D.nx} σ2 H2):=by
 refine⟨λi m σ H=>m=xs.length-i/\i<=xs.length/\Pv i σ H,⟨xs.length,by simp,Ix _,h0⟩,?_⟩
 rintro i m σ H ⟨rfl,hi,p⟩
 have q:=hl i σ H hi p
 by_cases hlt:i<xs.length
 ·refine .inr ⟨⟨xs,xs[i],q,by simp[hlt]⟩,Pv (i+1),λσ' H' p'=>⟨xs.length-(i+1),by omega,rfl,hlt,p'⟩,λx H' y=>?_⟩
  obtain⟨e,y⟩:=y
  subst e
  exact hs i x σ _ (y xs q) p
 ·have e:i=xs.length:=by omega
  subst e
  exact .inl ⟨⟨xs,q,Ac _⟩,hd σ H p⟩
theorem jnd{K:PySem.W.Frag}{a:Addr}{xs:List V}{g:TG}{tb:TS}{D:Ends}{σ:St}{H:Hp}(Pv:Nat->St->Hp->Prop)(h0:Pv 0 σ H)(hl:∀i σ H,i<=xs.length->Pv i σ H->SqT K H a xs)
  (hs:∀i x σ H,xs[i]?=some x->Pv i σ H->g x σ H λσ2 H2=>tb {D with nx:=Pv (i+1),ct:=Pv (i+1),bk:=D.nx} σ2 H2) (hd:∀σ H,Pv xs.length σ H->D.nx σ H) :
  ∃W:Nat->Nat->St->Hp->Prop,(∃m,W 0 m σ H)/\∀i m σ H,W i m σ H ->
   ((Itt K a).stop i H/\D.nx σ H)\/((Itt K a).go i H/\∃N:St->Hp->Prop,(∀σ' H',N σ' H'->∃m',m'<m/\W (i+1) m' σ' H')/\∀x H',(Itt K a).yld i H x H'->g x σ H' λσ2 H2=>tb {D with nx:=N,ct:=N,bk:=D.nx} σ2 H2):=by
 refine⟨λi m σ H=>m=xs.length-i/\i<=xs.length/\Pv i σ H,⟨xs.length,by simp,Ix _,h0⟩,?_⟩
 rintro i m σ H ⟨rfl,hi,p⟩
 have q:=hl i σ H hi p
 by_cases hlt:i<xs.length
 ·refine .inr ⟨⟨xs,xs[i],q,by simp[hlt]⟩,Pv (i+1),λσ' H' p'=>⟨xs.length-(i+1),by omega,rfl,hlt,p'⟩,λx H' y=>?_⟩
  obtain⟨e,y⟩:=y
  subst e
  exact hs i x σ _ (y xs q) p
 ·have e:i=xs.length:=by omega
  subst e
  exact .inl ⟨⟨xs,q,Ac _⟩,hd σ H p⟩
theorem jk8{lo:Int}{n:Nat}{g:TG}{tb:TS}{D:Ends}{σ:St}{H:Hp}(Pv:Nat->St->Hp->Prop)(h0:Pv 0 σ H)
  (hs:∀i σ H,i<n->Pv i σ H->g (.int (lo+i)) σ H λσ2 H2=>tb {D with nx:=Pv (i+1),ct:=Pv (i+1),bk:=D.nx} σ2 H2) (hd:∀σ H,Pv n σ H->D.nx σ H) :
  ∃W:Nat->Nat->St->Hp->Prop,(∃m,W 0 m σ H)/\∀i m σ H,W i m σ H ->
   ((Itr lo n).stop i H/\D.nx σ H)\/((Itr lo n).go i H/\∃N:St->Hp->Prop,(∀σ' H',N σ' H'->∃m',m'<m/\W (i+1) m' σ' H')/\∀x H',(Itr lo n).yld i H x H'->g x σ H' λσ2 H2=>tb {D with nx:=N,ct:=N,bk:=D.nx} σ2 H2):=by
 refine⟨λi m σ H=>m=n-i/\i<=n/\Pv i σ H,⟨n,by simp,Ix _,h0⟩,?_⟩
 rintro i m σ H ⟨rfl,hi,p⟩
 by_cases hlt:i<n
 ·refine .inr ⟨hlt,Pv (i+1),λσ' H' p'=>⟨n-(i+1),by omega,rfl,hlt,p'⟩,λx H' y=>?_⟩
  obtain⟨e,y⟩:=y
  subst e y
  exact hs i σ _ hlt p
 ·have e:i=n:=by omega
  subst e
  exact .inl ⟨Ac _,hd σ H p⟩
abbrev R2:=V->V->Hp->VK->Prop
def OpR(X:Cx)(f:Value->Value->Sem Value)(r:R2):Prop :=
 ∀(pins:List (Addr×Obj))(s:Shared)(σ:St)(H:Hp)(x y:V)(v u:Value)(Q:VK),Inv X pins σ H s->RelV x v->RelV y u->r x y H Q ->
  wpAny (model X.prog X.w) X.A (f v u) (EP X pins σ Q) X.xe s
def UnR(X:Cx)(f:Value->Sem Value)(r:V->Hp->VK->Prop):Prop :=
 ∀(pins:List (Addr×Obj))(s:Shared)(σ:St)(H:Hp)(x:V)(v:Value)(Q:VK),Inv X pins σ H s->RelV x v->r x H Q ->
  wpAny (model X.prog X.w) X.A (f v) (EP X pins σ Q) X.xe s
def jcd(X:Cx)(f:Value)(r:List V->Hp->VK->Prop):Prop :=
 ∀(pins:List (Addr×Obj))(s:Shared)(σ:St)(H:Hp)(xs:List V)(us:List Value)(Q:VK),Inv X pins σ H s->Vals xs us->r xs H Q ->
  wpAny (model X.prog X.w) X.A (call f us) (EP X pins σ Q) X.xe s
def TruR(X:Cx)(r:V->Hp->(Bool->Hp->Prop)->Prop):Prop :=
 ∀(pins:List (Addr×Obj))(s:Shared)(σ:St)(H:Hp)(x:V)(v:Value)(Q:Bool->Hp->Prop),Inv X pins σ H s->RelV x v->r x H Q ->
  wpAny (model X.prog X.w) X.A (truthy v) (TP X pins σ Q) X.xe s
def tOp(r:R2)(ta tb:TE):TE:=λσ H Q=>ta σ H λx H1=>tb σ H1 λy H2=>r x y H2 Q
def tUn(r:V->Hp->VK->Prop)(ta:TE):TE:=λσ H Q=>ta σ H λx H1=>r x H1 Q
def rI(C:Int->Int->Prop)(g:Int->Int->V):R2:=λx y H Q=>∃i j,x=.int i/\y=.int j/\C i j/\Q (g i j) H
def rI0(g:Int->Int->V):R2:=λx y H Q=>∃i j,x=.int i/\y=.int j/\Q (g i j) H
def rU(g:Int->V):V->Hp->VK->Prop:=λx H Q=>∃i,x=.int i/\Q (g i) H
section
variable{X:Cx}{a b c:Expr}{ta tb tc:TE}{pos:Pos}
theorem binT(ha:PE X a ta)(hb:PE X b tb){pins:List (Addr×Obj)}{s:Shared}{σ:St}{H:Hp}{R:V->V->Hp->Prop}(I:Inv X pins σ H s)
  (h:ta σ H λx H1=>tb σ H1 λy H2=>R x y H2) {Q:Value->Shared->Prop}{f:Value->Value->Sem Value}
  (hf:∀v u s2 x y H2,Inv X pins σ H2 s2->RelV x v->RelV y u->R x y H2->wpAny (model X.prog X.w) X.A (f v u) Q X.xe s2) :
  wpAny (model X.prog X.w) X.A (eval a X.env) (λv s₁=>wpAny (model X.prog X.w) X.A (eval b X.env) (λu s₂=>wpAny (model X.prog X.w) X.A (f v u) Q X.xe s₂) X.xe s₁) X.xe s:=by
 refine thn (ha pins s σ H _ I h) λv s1 ⟨x,H1,I1,r1,q1⟩=>?_
 refine thn (hb pins s1 σ H1 _ I1 q1) λu s2 ⟨y,H2,I2,r2,q2⟩=>?_
 exact hf v u s2 x y H2 I2 r1 r2 q2
theorem pe_op{op:Operator}{r:R2}(ho:OpR X (binaryOp op) r)(ha:PE X a ta)(hb:PE X b tb):PE X (.BinOp a op b pos) (tOp r ta tb):=by
 intro pins s σ H Q I h
 exact wpAny_BinOp (binT ha hb I h λv u s2 x y H2 I2 rx ry q=>ho pins s2 σ H2 x y v u Q I2 rx ry q)
theorem pe_un{op:UnaryOp}{r:V->Hp->VK->Prop}(ho:UnR X (unaryOp op) r)(ha:PE X a ta):PE X (.UnaryOp op a pos) (tUn r ta):=by
 intro pins s σ H Q I h
 exact UnaryOp_ (thn (ha pins s σ H _ I h) λv s1 ⟨x,H1,I1,r1,q1⟩=>ho pins s1 σ H1 x v Q I1 r1 q1)
theorem opI{f:Value->Value->Sem Value}{C:Int->Int->Prop}{g:Int->Int->Int}
  (rule:∀(i j:Int)(t u:Tok)(s:Shared)(Q:Value->Shared->Prop)(E:Value->Shared->Prop),C i j->Q (.int (g i j) s.toks) {s with toks:=s.toks+1}->wpAny (model X.prog X.w) X.A (f (.int i t) (.int j u)) Q E s) :
  OpR X f (rI C λi j=>.int (g i j)):=by
 intro pins s σ H x y v u Q I rx ry h
 obtain⟨i,j,rfl,rfl,hc,q⟩:=h
 obtain⟨t,rfl⟩:=rx
 obtain⟨t',rfl⟩:=ry
 exact rule i j t t' s _ _ hc ⟨.int (g i j),H,I.tok _,⟨_,rfl⟩,q⟩
theorem opI0{f:Value->Value->Sem Value}{g:Int->Int->Int}
  (rule:∀(i j:Int)(t u:Tok)(s:Shared)(Q:Value->Shared->Prop)(E:Value->Shared->Prop),Q (.int (g i j) s.toks) {s with toks:=s.toks+1}->wpAny (model X.prog X.w) X.A (f (.int i t) (.int j u)) Q E s) :
  OpR X f (rI0 λi j=>.int (g i j)):=by
 intro pins s σ H x y v u Q I rx ry h
 obtain⟨i,j,rfl,rfl,q⟩:=h
 obtain⟨t,rfl⟩:=rx
 obtain⟨t',rfl⟩:=ry
 exact rule i j t t' s _ _ ⟨.int (g i j),H,I.tok _,⟨_,rfl⟩,q⟩
theorem opB0{f:Value->Value->Sem Value}{g:Int->Int->Bool}
  (rule:∀(i j:Int)(t u:Tok)(s:Shared)(Q:Value->Shared->Prop)(E:Value->Shared->Prop),Q (.bool (g i j)) s->wpAny (model X.prog X.w) X.A (f (.int i t) (.int j u)) Q E s) :
  OpR X f (rI0 λi j=>.bl (g i j)):=by
 intro pins s σ H x y v u Q I rx ry h
 obtain⟨i,j,rfl,rfl,q⟩:=h
 obtain⟨t,rfl⟩:=rx
 obtain⟨t',rfl⟩:=ry
 exact rule i j t t' s _ _ ⟨.bl (g i j),H,I,rfl,q⟩
def CDiv(i j:Int):Prop:=0<j/\j<1073741824
def CPow(i j:Int):Prop:=0<=j/\j<=1000000/\i.natAbs<2^64
def CMul(i j:Int):Prop:=(-(2^64)<i/\i<2^64)\/(-(2^64)<j/\j<2^64)
theorem CMul.ok{i j:Int}(h:CMul i j):IntMulOk i j:=by
 rcases h with⟨h1,h2⟩|⟨h1,h2⟩
 ·exact .of_left (intBits_le_64 h1 h2)
 ·exact .of_right (intBits_le_64 h1 h2)
theorem op_add:OpR X (binaryOp .Add) (rI0 λi j=>.int (i+j)):=opI0 λ_ _ _ _ _ _ _ q=>add_int q
theorem zq:OpR X (binaryOp .Sub) (rI0 λi j=>.int (i-j)):=opI0 λ_ _ _ _ _ _ _ q=>sub_int q
theorem op_mul:OpR X (binaryOp .Mult) (rI CMul λi j=>.int (i*j)):=opI λ_ _ _ _ _ _ _ hc q=>mul_int q hc.ok
theorem jbw:OpR X (binaryOp .FloorDiv) (rI CDiv λi j=>.int (i / j)):=opI λi j _ _ _ _ _ hc q=>by
 have h1:(0:Int)<j:=hc.1
 have h2:j<1073741824:=hc.2
 exact floordiv_int (by omega) (by rw[Int.fdiv_eq_ediv_of_nonneg i (by omega)];exact q) (.inl (PyProof.noPylong_small (by omega)))
theorem zx:OpR X (binaryOp .Mod) (rI (λ_ j=>0<j) λi j=>.int (i%j)):=opI λi j _ _ _ _ _ hc q=>by
 have h1:(0:Int)<j:=hc
 exact mod_int' (by omega) (by rw[Int.fmod_eq_emod_of_nonneg i (by omega)];exact q)
theorem op_pow:OpR X (binaryOp .Pow) (rI CPow λi j=>.int (i^j.toNat)):=opI λ_ _ _ _ _ _ _ hc q=>pow_int_small hc.1 hc.2.1 hc.2.2 q
theorem unI{f:Value->Sem Value}{g:Int->Int}
  (rule:∀(i:Int)(t:Tok)(s:Shared)(Q:Value->Shared->Prop)(E:Value->Shared->Prop),Q (.int (g i) s.toks) {s with toks:=s.toks+1}->wpAny (model X.prog X.w) X.A (f (.int i t)) Q E s) :
  UnR X f (rU λi=>.int (g i)):=by
 intro pins s σ H x v Q I rx h
 obtain⟨i,rfl,q⟩:=h
 obtain⟨t,rfl⟩:=rx
 exact rule i t s _ _ ⟨.int (g i),H,I.tok _,⟨_,rfl⟩,q⟩
theorem jf2:UnR X (unaryOp .USub) (rU λi=>.int (-i)):=unI λ_ _ _ _ _ q=>neg_int q
end
def scal:V->V->Bool
 |.non,.non=>true|.non,.int _=>true|.int _,.non=>true|.non,.bl _=>true|.bl _,.non=>true|.non,.str _=>true|.str _,.non=>true
 |.int _,.int _=>true|.bl _,.bl _=>true|.str _,.str _=>true|.byt _,.byt _=>true
 |.int _,.str _=>true|.str _,.int _=>true|.bl _,.str _=>true|.str _,.bl _=>true
 |_,_=>false
def rEq:R2:=λx y H Q=>scal x y=true/\Q (.bl (decide (x=y))) H
def rNe:R2:=λx y H Q=>scal x y=true/\Q (.bl (!decide (x=y))) H
theorem jjm{i j:Int}:decide (V.int i=V.int j)=(i == j):=by
 rw[Iz]
 simp
theorem jk2{i j:Bool}:decide (V.bl i=V.bl j)=(i == j):=by
 rw[Iz]
 simp
theorem jjn{i j:Str}:decide (V.str i=V.str j)=(i == j):=by
 rw[Iz]
 simp
theorem jjl{i j:Array UInt8}:decide (V.byt i=V.byt j)=(i.toList == j.toList):=by
 rw[Iz]
 cases i
 cases j
 simp
section
variable{X:Cx}{a b c:Expr}{ta tb tc:TE}{pos:Pos}
theorem jb8{pins:List (Addr×Obj)}{σ:St}{H:Hp}{s:Shared}{Q:VK}{k k':Bool}(I:Inv X pins σ H s)(q:Q (.bl k) H)(e:k=k'):EP X pins σ Q (.bool k') s:=by
 subst e
 exact⟨.bl k,H,I,rfl,q⟩
theorem jbm:OpR X (compareOp .Eq) rEq:=by
 intro pins s σ H x y v u Q I rx ry h
 obtain⟨hs,q⟩:=h
 cases x with
 |non =>
  cases rx
  cases y with
  |non=>cases ry;exact PySem.EqNone.eq_none_none (jb8 I q (by simp))
  |bl j=>cases ry;exact PySem.EqNone.eq_none_bool (jb8 I q (by simp))
  |int j=>obtain⟨t',rfl⟩:=ry;exact PySem.EqNone.eq_none_int (jb8 I q (by simp))
  |str j=>obtain⟨t',rfl⟩:=ry;exact PySem.EqNone.eq_none_str (jb8 I q (by simp))
  |_=>exact absurd (show false=true from hs) Ay
 |bl i =>
  cases rx
  cases y with
  |non=>cases ry;exact PySem.EqNone.eq_bool_none (jb8 I q (by simp))
  |bl j=>cases ry;exact eq_bool (jb8 I q jk2)
  |str j=>obtain⟨t',rfl⟩:=ry;exact PySem.EqMixed.eq_bool_str (jb8 I q (by simp))
  |_=>exact absurd (show false=true from hs) Ay
 |int i =>
  obtain⟨t,rfl⟩:=rx
  cases y with
  |non=>cases ry;exact PySem.EqNone.eq_int_none (jb8 I q (by simp))
  |int j=>obtain⟨t',rfl⟩:=ry;exact eq_int (jb8 I q jjm)
  |str j=>obtain⟨t',rfl⟩:=ry;exact PySem.EqMixed.eq_int_str (jb8 I q (by simp))
  |_=>exact absurd (show false=true from hs) Ay
 |str i =>
  obtain⟨t,rfl⟩:=rx
  cases y with
  |non=>cases ry;exact PySem.EqNone.eq_str_none (jb8 I q (by simp))
  |bl j=>cases ry;exact PySem.EqMixed.eq_str_bool (jb8 I q (by simp))
  |int j=>obtain⟨t',rfl⟩:=ry;exact PySem.EqMixed.eq_str_int (jb8 I q (by simp))
  |str j=>obtain⟨t',rfl⟩:=ry;exact eq_str (jb8 I q jjn)
  |_=>exact absurd (show false=true from hs) Ay
 |byt i =>
  obtain⟨t,rfl⟩:=rx
  cases y with
  |byt j=>obtain⟨t',rfl⟩:=ry;exact PySem.W.eq_bytes (jb8 I q jjl)
  |_=>exact absurd (show false=true from hs) Ay
 |_=>cases y <;> exact absurd (show false=true from hs) Ay
theorem jbn:OpR X (compareOp .NotEq) rNe:=by
 intro pins s σ H x y v u Q I rx ry h
 obtain⟨hs,q⟩:=h
 cases x with
 |non =>
  cases rx
  cases y with
  |non=>cases ry;exact PySem.EqNone.ne_none_none (jb8 I q (by simp))
  |bl j=>cases ry;exact PySem.EqNone.ne_none_bool (jb8 I q (by simp))
  |int j=>obtain⟨t',rfl⟩:=ry;exact PySem.EqNone.ne_none_int (jb8 I q (by simp))
  |str j=>obtain⟨t',rfl⟩:=ry;exact PySem.EqNone.ne_none_str (jb8 I q (by simp))
  |_=>exact absurd (show false=true from hs) Ay
 |bl i =>
  cases rx
  cases y with
  |non=>cases ry;exact PySem.EqNone.ne_bool_none (jb8 I q (by simp))
  |bl j=>cases ry;exact ne_bool (jb8 I q (Iy not jk2))
  |str j=>obtain⟨t',rfl⟩:=ry;exact PySem.EqMixed.ne_bool_str (jb8 I q (by simp))
  |_=>exact absurd (show false=true from hs) Ay
 |int i =>
  obtain⟨t,rfl⟩:=rx
  cases y with
  |non=>cases ry;exact PySem.EqNone.ne_int_none (jb8 I q (by simp))
  |int j=>obtain⟨t',rfl⟩:=ry;exact ne_int (jb8 I q (Iy not jjm))
  |str j=>obtain⟨t',rfl⟩:=ry;exact PySem.EqMixed.ne_int_str (jb8 I q (by simp))
  |_=>exact absurd (show false=true from hs) Ay
 |str i =>
  obtain⟨t,rfl⟩:=rx
  cases y with
  |non=>cases ry;exact PySem.EqNone.ne_str_none (jb8 I q (by simp))
  |bl j=>cases ry;exact PySem.EqMixed.ne_str_bool (jb8 I q (by simp))
  |int j=>obtain⟨t',rfl⟩:=ry;exact PySem.EqMixed.ne_str_int (jb8 I q (by simp))
  |str j=>obtain⟨t',rfl⟩:=ry;exact ne_str (jb8 I q (Iy not jjn))
  |_=>exact absurd (show false=true from hs) Ay
 |byt i =>
  obtain⟨t,rfl⟩:=rx
  cases y with
  |byt j=>obtain⟨t',rfl⟩:=ry;exact PySem.W.ne_bytes (jb8 I q (Iy not jjl))
  |_=>exact absurd (show false=true from hs) Ay
 |_=>cases y <;> exact absurd (show false=true from hs) Ay
theorem op_lt:OpR X (compareOp .Lt) (rI0 λi j=>.bl (decide (i<j))):=opB0 λ_ _ _ _ _ _ _ q=>lt_int q
theorem op_le:OpR X (compareOp .LtE) (rI0 λi j=>.bl (decide (i<=j))):=opB0 λ_ _ _ _ _ _ _ q=>le_int q
theorem jbz:OpR X (compareOp .Gt) (rI0 λi j=>.bl (decide (j<i))):=opB0 λ_ _ _ _ _ _ _ q=>gt_int q
theorem op_ge:OpR X (compareOp .GtE) (rI0 λi j=>.bl (decide (j<=i))):=opB0 λ_ _ _ _ _ _ _ q=>ge_int q
theorem op_lt_str:OpR X (compareOp .Lt) (λx y H Q=>∃i j,x=.str i/\y=.str j/\Q (.bl (decide (i.cps.toList<j.cps.toList))) H):=by
 intro pins s σ H x y v u Q I rx ry h
 obtain⟨i,j,rfl,rfl,q⟩:=h
 obtain⟨t,rfl⟩:=rx
 obtain⟨t',rfl⟩:=ry
 exact lt_str (jb8 I q rfl)
theorem op_in_str:OpR X (compareOp .In) (λx y H Q=>∃i j,x=.str i/\y=.str j/\Q (.bl (!(Builtin.Str.occurrences j i 0 j.length 1).isEmpty)) H):=by
 intro pins s σ H x y v u Q I rx ry h
 obtain⟨i,j,rfl,rfl,q⟩:=h
 obtain⟨t,rfl⟩:=rx
 obtain⟨t',rfl⟩:=ry
 exact in_str (jb8 I q rfl)
theorem op_isN:OpR X (compareOp .Is) (λx y H Q=>y=.non/\Q (.bl (decide (x=.non))) H):=by
 intro pins s σ H x y v u Q I rx ry h
 obtain⟨rfl,q⟩:=h
 cases ry
 refine is_none_gen (jb8 I q ?_)
 cases x <;> first
  |(cases rx;rfl)
  |(obtain⟨t,rfl⟩:=rx;rfl)
theorem j5(b:Expr){op:CmpOp}(h:op≠.In:=by decide)(h2:op≠.NotIn:=by decide):behindInMarks op b=false:=by
 have e1:(op == CmpOp.In)=false:=by cases op <;> first|rfl|exact absurd rfl h
 have e2:(op == CmpOp.NotIn)=false:=by cases op <;> first|rfl|exact absurd rfl h2
 cases b <;> simp[behindInMarks,e1,e2]
theorem pe_cmpR{op:CmpOp}{r:R2}(ho:OpR X (compareOp op) r)(ha:PE X a ta)(hb:PE X b tb)(hm:behindInMarks op b=false):PE X (.Compare a [op] [b] pos) (tOp r ta tb):=by
 intro pins s σ H Q I h
 exact wpAny_Compare1 (binT ha hb I h λv u s2 x y H2 I2 rx ry q=>ho pins s2 σ H2 x y v u Q I2 rx ry q) hm
def jhz(t:TE):TT:=λσ H Q=>t σ H λx H'=>∃k,x=.bl k/\Q k H'
theorem pt_cmpR{op:CmpOp}{r:R2}(ho:OpR X (compareOp op) r)(ha:PE X a ta)(hb:PE X b tb)(hm:behindInMarks op b=false):PT X (.Compare a [op] [b] pos) (jhz (tOp r ta tb)):=by
 intro pins s σ H Q I h
 refine wpAny_isTrue_Compare1 (thn (ha pins s σ H _ I h) λv s1 ⟨x,H1,I1,r1,q1⟩=>thn (hb pins s1 σ H1 _ I1 q1) λu s2 ⟨y,H2,I2,r2,q2⟩ =>
  thn (ho pins s2 σ H2 x y v u _ I2 r1 r2 q2) λc s3 ⟨z,H3,I3,r3,k,e,q3⟩=>?_) hm
 subst e
 cases r3
 exact Iu ⟨H3,I3,q3⟩
def jfy(r r':R2)(ta tb tc:TE):TE:=λσ H Q=>ta σ H λx H1=>tb σ H1 λy H2=>r x y H2 λz H3=>∃k,z=.bl k /\
 (if k=true then tc σ H3 λw' H4=>r' y w' H4 Q else Q (.bl false) H3)
theorem pe_chain{op op':CmpOp}{r r':R2}(ho:OpR X (compareOp op) r)(ho':OpR X (compareOp op') r')(ha:PE X a ta)(hb:PE X b tb)(hc:PE X c tc)
  (hm:lastMarks [op,op'] [b,c]=false:=by with_unfolding_all rfl):PE X (.Compare a [op,op'] [b,c] pos) (jfy r r' ta tb tc):=by
 intro pins s σ H Q I h
 refine Compare_chain (thn (ha pins s σ H _ I h) λv s1 ⟨x,H1,I1,r1,q1⟩=>chain_link (thn (hb pins s1 σ H1 _ I1 q1) λu s2 ⟨y,H2,I2,r2,q2⟩ =>
  thn (ho pins s2 σ H2 x y v u _ I2 r1 r2 q2) λd s3 ⟨z,H3,I3,r3,k,e,q3⟩=>?_)) hm
 subst e
 cases r3
 refine Iu ?_
 cases k with
 |false=>exact ite_ff ⟨.bl false,H3,I3,rfl,q3⟩
 |true=>exact ite_tt (chain_last (thn (hc pins s3 σ H3 _ I3 q3) λw' s4 ⟨z',H4,I4,r4,q4⟩=>ho' pins s4 σ H4 y z' u w' Q I4 r2 r4 q4))
def TruV(K:PySem.W.Frag)(x:V)(H:Hp)(k:Bool):Prop :=
 match x with
 |.non=>k=false
 |.bl b=>k=b
 |.int i=>k=(i != 0)
 |.str y=>y.length<=sizeLine/\k=((y.length:Int) != 0)
 |.byt y=>y.size<=sizeLine/\k=((y.size:Int) != 0)
 |.ref p=>(∃xs,SqL K H p xs/\k=!xs.isEmpty)\/(∃xs,SqT K H p xs/\k=!xs.isEmpty)\/∃kvs,H p=some (.dK kvs)/\k=!kvs.isEmpty
 |_=>False
theorem jkh{κ:Type}{kvs:List (κ×V)}{vs:List (κ×Value)}(r:KV kvs vs):(!vs.isEmpty)=!kvs.isEmpty:=by
 cases r <;> rfl
theorem jfl{xs:List V}{its:List Value}(r:Vals xs its):(!its.toArray.isEmpty)=!xs.isEmpty:=by
 cases r <;> simp
theorem jdc:(sizeLine:Nat)<2^63:=by rw[Wa];decide
theorem jor:TruR X (λx H Q=>∃k,TruV X.K x H k/\Q k H):=by
 intro pins s σ H x v Q I rx h
 obtain⟨k,e,q⟩:=h
 have hl:=jdc
 have hs:sizeLine=16777216:=Wa
 cases x with
 |non =>
  cases rx
  have e':k=false:=e
  subst e'
  exact truthy_none ⟨H,I,q⟩
 |bl b =>
  cases rx
  have e':k=b:=e
  subst e'
  exact Iu ⟨H,I,q⟩
 |int i =>
  obtain⟨t,rfl⟩:=rx
  have e':k=(i != 0):=e
  subst e'
  exact PySem.P.truthy_int ⟨H,I,q⟩
 |str y =>
  obtain⟨t,rfl⟩:=rx
  obtain⟨hy,e'⟩:y.length<=sizeLine/\k=((y.length:Int) != 0):=e
  subst e'
  exact PySem.P.truthy_str (by omega) ⟨H,I.tok _,q⟩
 |byt y =>
  obtain⟨t,rfl⟩:=rx
  obtain⟨hy,e'⟩:y.size<=sizeLine/\k=((y.size:Int) != 0):=e
  subst e'
  exact PySem.W.truthy_bytes (by omega) ⟨H,I.tok _,q⟩
 |ref p =>
  cases rx
  have e':(∃xs,SqL X.K H p xs/\k=!xs.isEmpty)\/(∃xs,SqT X.K H p xs/\k=!xs.isEmpty)\/∃kvs,H p=some (.dK kvs)/\k=!kvs.isEmpty:=e
  rcases e' with⟨xs,hx,e'⟩|⟨xs,hx,e'⟩|⟨kvs,hx,e'⟩
  ·subst e'
   obtain⟨its,r,pl,hz⟩:=I.list hx
   have hlen:=r.length
   exact wpAny_truthy_list pl.isList (by simp only[Aj];omega) ⟨H,I.tok _,by rw[jfl r];exact q⟩
  ·subst e'
   obtain⟨its,r,pl,hz⟩:=I.tuple hx
   have hlen:=r.length
   exact truthy_tuple pl (by simp only[Aj];omega) ⟨H,I.tok _,by rw[jfl r];exact q⟩
  ·subst e'
   obtain⟨hz,hS,vs,r,m⟩:kvs.length<=sizeLine/\(p == sysModules)=false/\∃vs,KV kvs vs/\s.heap.DictOf (jcc X.prog X.w) p vs:=I.hok p _ hx
   have hlen:kvs.length=vs.length:=Az r
   exact wpAny_truthy_dict hS m (by omega) ⟨H,I.tok _,by rw[jkh r];exact q⟩
 |_=>exact(show False from e).elim
theorem op_add_str:OpR X (binaryOp .Add) (λx y H Q=>∃i j,x=.str i/\y=.str j/\i.length+j.length<=sizeLine/\Q (.str (i++j)) H):=by
 intro pins s σ H x y v u Q I rx ry h
 obtain⟨i,j,rfl,rfl,hz,q⟩:=h
 obtain⟨t,rfl⟩:=rx
 obtain⟨t',rfl⟩:=ry
 exact add_str (λt' tk=>⟨.str (i++j),H,I.tok _,⟨_,rfl⟩,q⟩) hz
theorem jc3{x:V}{us:List Value}(r:Vals [x] us):∃u,us=[u]/\RelV x u:=by
 cases r with
 |cons r1 r2=>cases r2;exact⟨_,rfl,r1⟩
theorem jkx{x y:V}{us:List Value}(r:Vals [x,y] us):∃u w',us=[u,w']/\RelV x u/\RelV y w':=by
 cases r with
 |cons r1 r2 =>
  cases r2 with
  |cons r3 r4=>cases r4;exact⟨_,_,rfl,r1,r3⟩
theorem call_max2(hc:X.calm=true):jcd X (.builtin "max") (λxs H Q=>∃i j,xs=[.int i,.int j]/\Q (.int (if j>i then j else i)) H):=by
 intro pins s σ H xs us Q I r h
 obtain⟨i,j,rfl,q⟩:=h
 obtain⟨u,w',rfl,⟨t,rfl⟩,⟨t',rfl⟩⟩:=jkx r
 refine max_two_ints (I.ok.hd hc) λh' tk k=>⟨_,H,I.kept k,?_,q⟩
 by_cases hj:j>i
 ·rw[Ag hj,Ag hj];exact⟨_,rfl⟩
 ·rw[Ae hj,Ae hj];exact⟨_,rfl⟩
theorem call_min2(hc:X.calm=true):jcd X (.builtin "min") (λxs H Q=>∃i j,xs=[.int i,.int j]/\Q (.int (if j<i then j else i)) H):=by
 intro pins s σ H xs us Q I r h
 obtain⟨i,j,rfl,q⟩:=h
 obtain⟨u,w',rfl,⟨t,rfl⟩,⟨t',rfl⟩⟩:=jkx r
 refine min_two_ints (I.ok.hd hc) λh' tk k=>⟨_,H,I.kept k,?_,q⟩
 by_cases hj:j<i
 ·rw[Ag hj,Ag hj];exact⟨_,rfl⟩
 ·rw[Ae hj,Ae hj];exact⟨_,rfl⟩
theorem jbd:jcd X (.type "int") (λxs H Q=>(∃i,xs=[.int i]/\Q (.int i) H)\/∃k,xs=[.bl k]/\Q (.int (if k then 1 else 0)) H):=by
 intro pins s σ H xs us Q I r h
 rcases h with⟨i,rfl,q⟩|⟨k,rfl,q⟩
 ·obtain⟨u,rfl,t,rfl⟩:=jc3 r
  exact call_int_int ⟨.int i,H,I,⟨_,rfl⟩,q⟩
 ·obtain⟨u,rfl,r1⟩:=jc3 r
  cases r1
  exact call_int_bool ⟨.int (if k then 1 else 0),H,I.tok _,⟨_,rfl⟩,q⟩
end
structure ObjM(h:Heap)(x dx C:Addr)(mA:Str->Option Value):Prop where
 obj:h.get? x=some (PySem.W.instObj C dx)
 ns:h.Ns1 dx mA
 ne:dx≠x
theorem jlg{h:Heap}{dx:Addr}{mA:Str->Option Value}(n:h.Ns1 dx mA):∃od,h.get? dx=some od/\∀name,PySem.W.lookIn name od=some (mA name):=by
 obtain⟨o,es,ep,ho,hd,hk,_,hm⟩:=n
 refine⟨o,ho,λname=>?_⟩
 have e:=hm name
 unfold nsFind findBy at e
 rw[<-Array.find?_toList]at e
 unfold PySem.W.lookIn
 rw[hd]
 dsimp only
 split
 ·rename_i y q
  rw[q]at e
  exact Iy some e
 ·rename_i q
  rw[q]at e
  have a:es.toList.any (·.refKey)=false:=by
   rw[List.any_eq_false]
   intro y hy
   obtain⟨z,t,hkey⟩:=hk y (Array.mem_toList_iff.mp hy)
   simp[DictEntry.refKey,hkey]
  have a':¬es.toList.any (·.refKey)=true:=by rw[a];exact Ay
  rw[Ae a']
  exact Iy some e
theorem ObjM.look{h:Heap}{x dx C:Addr}{mA:Str->Option Value}(I:ObjM h x dx C mA):∃od,PySem.W.InstAt h x (PySem.W.instObj C dx) C (some od)/\∀name,PySem.W.lookIn name od=some (mA name) :=
 let⟨od,ho,hl⟩:=jlg I.ns
 ⟨od,⟨I.obj,rfl,rfl,ho⟩,hl⟩
section
variable{prog:Program}{w:World}{A:Around}{E:Value->Shared->Prop}{s:Shared}{K:PySem.W.Frag}{x dx C f:Addr}{mA:Str->Option Value}{name:Str}{v:Value}
theorem jne{expr:Bool}{Q:Value->Shared->Prop}(X:K.In s.heap)(I:ObjM s.heap x dx C mA)(hg:PySem.W.plainGet K C name=true)(hh:PySem.W.hasDictIn K C=true)
  (ha:PySem.W.findIn K (.ref C) name=some none) (hv:mA name=some v) (hv':PySem.W.handedIn v=true) (h:Q v {s with toks:=s.toks+1}) :
  wpAny (model prog w) A (getAttr (.ref x) name expr) Q E s:=by
 obtain⟨od,J,hl⟩:=I.look
 exact PySem.W.get_value X J (U5 hg).1 (PySem.W.findObj_own hh ha rfl (by rw[hl,hv])) hv' h
theorem jl8{pl:Sem Bool}{Q:Value×List Value->Shared->Prop}(X:K.In s.heap)(I:ObjM s.heap x dx C mA)(hg:PySem.W.plainGet K C name=true)
  (hf:PySem.W.findIn K (.ref C) name=some (some (.ref f))) (ht:PySem.W.isFn K (.ref f)=true) (hv:mA name=none) (h:Q (.ref f,[.ref x]) s) :
  wpAny (model prog w) A (getMethod (.ref x) name pl) Q E s:=by
 obtain⟨od,J,hl⟩:=I.look
 exact PySem.W.method_fn X J (U5 hg).1 (U5 hg).2 hf (Uc.mp ht) (by show(PySem.W.lookIn name od).map (·.isSome)=some false;rw[hl,hv];rfl) h
theorem jnv{ns:List Str}{Q:Unit->Shared->Prop}(X:K.In s.heap)(I:ObjM s.heap x dx C mA)
  (hs:PySem.W.findIn K (.ref C) "__setattr__"=some (some (.builtin "object.__setattr__"))) (hp:PySem.W.plainOver K C=true) (ht:PySem.W.takerIn K C name=some none) (hh:PySem.W.hasDictIn K C=true)
  (hw:PySem.Within mA ns) (hsz:ns.length<=sizeLine)
  (h:∀h',ObjM h' x dx C (λy=>if y=name then some v else mA y)->Heap.SameBut dx s.heap h'->Q () {s with heap:=h',toks:=s.toks+2}) :
  wpAny (model prog w) A (setAttr (.ref x) name v) Q E s:=by
 obtain⟨od,J,hl⟩:=I.look
 refine PySem.W.set_plain X J hs (PySem.W.osa_open (s:={s with toks:=s.toks+1}) (r:=none) X J hp ht λb=>?_)
 obtain⟨cd,hc,hd'⟩:=PySem.W.any_some hh
 have hx:s.heap.get? x=some ⟨.ref C,some dx,.plain,#[]⟩:=I.obj
 refine Ah (Ap (Ah (Ah (wpAny_loadPart hx (Ah (PySem.W.Looks.here (s:={s with toks:=s.toks+1}) (PySem.W.looks_clsIn X hc) ?_))))))
 rw[hd']
 refine Ap (a:=some dx) (Ah (Ap (Ah ?_)))
 refine wpAny_nsSet1 (s:={s with toks:=s.toks+1}) I.ns λh' hn2 hs2=>?_
 obtain⟨oD,esD,epD,hoD,hdD,hcD⟩:=hn2.count (PySem.Within.cons name v hw)
 refine Ah (wpAny_lookBehind hoD (by rw[hdD];exact pastItsLine_dict (Ig hcD (by rw[List.length_cons];omega))) ?_)
 exact Ap (h _ ⟨(hs2.2 _ (Ut I.ne)).trans I.obj,hn2,I.ne⟩ hs2)
theorem jme{R:Result->Shared->Prop}{vs:List Value}{kw:List (Str×Value)}(X:K.In s.heap)(hm:PySem.W.makesIn K C=true)
  (hi:PySem.W.findIn K (.ref C) "__init__"=some (some (.ref f))) (hf:PySem.W.typeIn K (.ref f)=some (.type "function"))
  (h:codeAny (model prog w) (A.under (.builtin "type.__call__" ⟨.ref C::vs,kw⟩)) (.call (.ref f) ⟨.ref (s.heap.objs.size+1)::vs,kw⟩) (PySem.W.InitBack (s.heap.objs.size+1) R)
   {s with heap:=(s.heap.push PySem.W.emptyDict).push (PySem.W.instObj C s.heap.objs.size)}) :
  codeAny (model prog w) A (.call (.ref C) ⟨vs,kw⟩) R s:=by
 obtain⟨hh,g,d,t,os⟩:=s
 exact PySem.W.make_core (PySem.W.makes_of X hm) (PySem.W.looks_findIn X hi) (λself=>PySem.W.bind_fn X self hf) (.inl rfl) h
end
def putF(f:Str)(v:V):List (Str×V)->List (Str×V)
 |[]=>[(f,v)]
 |(g,x)::r=>if g=f then(g,v)::r else(g,x)::putF f v r
theorem jez(f g:Str)(v:V):∀fs:List (Str×V),(putF f v fs).lookup g=if g=f then some v else fs.lookup g
 |[]=>by
  show List.lookup g [(f,v)]=_
  by_cases h:g=f
  ·have hb:(g == f)=true:=Uc.mpr h
   simp only[List.lookup,hb,Ag h]
  ·have hb:(g == f)=false:=Od.mpr h
   simp only[List.lookup,hb,Ae h]
 |(k,x)::r=>by
  have ih:=jez f g v r
  rw[show putF f v ((k,x)::r)=(if k=f then(k,v)::r else(k,x)::putF f v r)from rfl]
  by_cases hk:k=f
  ·rw[Ag hk]
   by_cases h:g=k
   ·have hb:(g == k)=true:=Uc.mpr h
    simp only[List.lookup,hb,Ag (h.trans hk)]
   ·have hb:(g == k)=false:=Od.mpr h
    simp only[List.lookup,hb,Ae (λe:g=f=>h (e.trans hk.symm))]
  ·rw[Ae hk]
   by_cases h:g=k
   ·have hb:(g == k)=true:=Uc.mpr h
    simp only[List.lookup,hb,Ae (λe:g=f=>hk (h.symm.trans e))]
   ·have hb:(g == k)=false:=Od.mpr h
    simp only[List.lookup,hb]
    exact ih
theorem jd6(f:Str)(v:V):∀fs:List (Str×V),f∈(putF f v fs).map (·.1)/\∀g,g∈fs.map (·.1)->g∈(putF f v fs).map (·.1)
 |[]=>⟨by simp[putF],λg h=>by simp at h⟩
 |(k,x)::r=>by
  obtain⟨i1,i2⟩:=jd6 f v r
  rw[show putF f v ((k,x)::r)=(if k=f then(k,v)::r else(k,x)::putF f v r)from rfl]
  by_cases hk:k=f
  ·rw[Ag hk]
   subst hk
   exact⟨by simp,λg h=>by simpa using h⟩
  ·rw[Ae hk]
   refine⟨?_,λg h=>?_⟩
   ·rw[Al]
    exact Ik _ i1
   ·rw[Al]at h⊢
    rcases A2.mp h with e|e
    ·exact A2.mpr (.inl e)
    ·exact Ik _ (i2 g e)
theorem jey(f:Str)(v:V):∀fs:List (Str×V),(putF f v fs).length<=fs.length+1
 |[]=>by simp[putF]
 |(k,x)::r=>by
  have ih:=jey f v r
  rw[show putF f v ((k,x)::r)=(if k=f then(k,v)::r else(k,x)::putF f v r)from rfl]
  by_cases hk:k=f
  ·rw[Ag hk,List.length_cons,List.length_cons];omega
  ·rw[Ae hk,List.length_cons,List.length_cons];omega
theorem RelO.some_of{v:V}{o:Option Value}(r:RelO (some v) o):∃u,o=some u/\RelV v u:=by
 cases o with
 |none=>exact(show False from r).elim
 |some u=>exact⟨u,rfl,r⟩
theorem RelO.none_of{o:Option Value}(r:RelO none o):o=none:=by
 cases o with
 |none=>rfl
 |some u=>exact(show False from r).elim
theorem jk9{v:V}{u:Value}(r:RelV v u):PySem.W.handedIn u=true:=by
 cases v with
 |non=>cases(show u=Value.none from r);rfl
 |bl b=>cases(show u=Value.bool b from r);rfl
 |int i=>obtain⟨t,e⟩:=(show ∃t,u=Value.int i t from r);cases e;rfl
 |str x=>obtain⟨t,e⟩:=(show ∃t,u=Value.str x t from r);cases e;rfl
 |byt b=>obtain⟨t,e⟩:=(show ∃t,u=Value.bytes b t from r);cases e;rfl
 |flt b=>obtain⟨t,e⟩:=(show ∃t,u=Value.float b t from r);cases e;rfl
 |ref a=>cases(show u=Value.ref a from r);rfl
 |ty n=>cases(show u=Value.type n from r);rfl
section
variable{P:Program}{w:World}{H H':Hp}{h h':Heap}{a C dx:Addr}{fs fs':List (Str×V)}
theorem jej(hok:HOk P w H h)(e:H a=some (.ins C dx fs)):∃mA,ObjM h a dx C mA/\(∀f,RelO (fs.lookup f) (mA f))/\PySem.Within mA (fs.map (·.1))/\fs.length<=1000/\H dx=some (.own a):=by
 obtain⟨d,z,ne,ob,mA,n,r,q⟩:=(show ObjOk P w H h a (.ins C dx fs)from hok a _ e)
 exact⟨mA,⟨ob,n,ne⟩,r,q,z,d⟩
end
structure Cls(K:PySem.W.Frag)(C:Addr):Prop where
 pg:PySem.W.plainGet K C Str.empty=true
 hd:PySem.W.hasDictIn K C=true
 po:PySem.W.plainOver K C=true
 sa:PySem.W.findIn K (.ref C) "__setattr__"=some (some (.builtin "object.__setattr__"))
theorem Cls.get{K:PySem.W.Frag}{C:Addr}(c:Cls K C)(f:Str):PySem.W.plainGet K C f=true:=c.pg
def NoAttr(K:PySem.W.Frag)(C:Addr)(f:Str):Prop:=PySem.W.findIn K (.ref C) f=some none
theorem NoAttr.taker{K:PySem.W.Frag}{C:Addr}{f:Str}(n:NoAttr K C f):PySem.W.takerIn K C f=some none:=by
 unfold PySem.W.takerIn
 rw[show PySem.W.findIn K (.ref C) f=some none from n]
 rfl
structure Meth(K:PySem.W.Frag)(C:Addr)(m:Str)(f:Addr):Prop where
 at_:PySem.W.findIn K (.ref C) m=some (some (.ref f))
 fn:PySem.W.isFn K (.ref f)=true
 kp:PySem.W.keepIn K (.ref f)=true
section
variable{X:Cx}{pins:List (Addr×Obj)}{σ:St}{H:Hp}{s:Shared}{a C dx:Addr}{fs:List (Str×V)}{f:Str}{v:V}{A:Around}{E:Value->Shared->Prop}
theorem jfg{b:Bool}{Q:Value->Shared->Prop}(I:Inv X pins σ H s)(e:H a=some (.ins C dx fs))(c:Cls X.K C)(n:NoAttr X.K C f)(l:fs.lookup f=some v)
  (h:∀u s',Inv X pins σ H s'->RelV v u->Q u s'):wpAny (model X.prog X.w) A (getAttr (.ref a) f b) Q E s:=by
 obtain⟨mA,O,r,_,_,_⟩:=jej I.hok e
 obtain⟨u,hu,ru⟩:=RelO.some_of (v:=v) (o:=mA f) (by rw[<-l];exact r f)
 exact jne I.kIn O (c.get f) c.hd n hu (jk9 ru) (h u _ (I.tok _) ru)
theorem jfh{m:Str}{g:Addr}{pl:Sem Bool}{Q:Value×List Value->Shared->Prop}(I:Inv X pins σ H s)(e:H a=some (.ins C dx fs))(c:Cls X.K C)(k:Meth X.K C m g)(l:fs.lookup m=none)
  (h:Q (.ref g,[.ref a]) s):wpAny (model X.prog X.w) A (getMethod (.ref a) m pl) Q E s:=by
 obtain⟨mA,O,r,_,_,_⟩:=jej I.hok e
 have hn:mA m=none:=RelO.none_of (by rw[<-l];exact r m)
 exact jl8 I.kIn O (c.get m) k.at_ k.fn hn h
theorem jfu{y:V}{u:Value}{Q:Unit->Shared->Prop}(I:Inv X pins σ H s)(e:H a=some (.ins C dx fs))(c:Cls X.K C)(n:NoAttr X.K C f)(hl:fs.length<1000)(ry:RelV y u)
  (h:∀s',Inv X pins σ (upd H a (.ins C dx (putF f y fs))) s'->Q () s'):wpAny (model X.prog X.w) A (setAttr (.ref a) f u) Q E s:=by
 obtain⟨mA,O,r,wi,_,ho⟩:=jej I.hok e
 have hz:(fs.map (·.1)).length<=sizeLine:=by rw[Ab,Wa];omega
 refine jnv I.kIn O c.sa c.po n.taker c.hd wi hz λh' O' sb=>h _ ?_
 have hd:∃o,h'.get? dx=some o:=let⟨o,_,_,e',_⟩:=O'.ns;⟨o,e'⟩
 refine I.write (x:=a) (e:=dx) (by rw[e];exact True.intro) (.inr ho) (λb q hb z=>(sb.2 b hb).trans z) hd ?_
 refine⟨by rw[jf O.ne];exact ho,?_,O.ne,O'.obj,_,O'.ns,λg=>?_,λg hg=>?_⟩
 ·have:=jey f y fs;omega
 ·show RelO ((putF f y fs).lookup g) (if g=f then some u else mA g)
  rw[jez]
  by_cases q:g=f
  ·rw[Ag q,Ag q];exact ry
  ·rw[Ae q,Ae q];exact r g
 ·by_cases q:g=f
  ·rw[q];exact(jd6 f y fs).1
  ·refine(jd6 f y fs).2 g (wi g λz=>hg ?_)
   show(if g=f then some u else mA g)=none
   rw[Ae q];exact z
theorem Inv.made(I:Inv X pins σ H s):Inv X pins σ (upd (upd H s.heap.objs.size (.own (s.heap.objs.size+1))) (s.heap.objs.size+1) (.ins C s.heap.objs.size []))
  {s with heap:=(s.heap.push PySem.W.emptyDict).push (PySem.W.instObj C s.heap.objs.size)}:=by
 have e1:(s.heap.push PySem.W.emptyDict).get? s.heap.objs.size=some PySem.W.emptyDict:=Aw s.heap rfl
 have e2:((s.heap.push PySem.W.emptyDict).push (PySem.W.instObj C s.heap.objs.size)).get? (s.heap.objs.size+1)=some (PySem.W.instObj C s.heap.objs.size):=by
  have:=Aw (s.heap.push PySem.W.emptyDict) (o:=PySem.W.instObj C s.heap.objs.size) rfl
  rwa[Heap.size_push]at this
 have e3:(s.heap.push PySem.W.emptyDict).Ns s.heap.objs.size (λ_=>none):=⟨PySem.W.emptyDict,#[],_,e1,rfl,(λe he=>absurd he (by simp)),λ_=>rfl⟩
 have I1:=I.laid (a:=s.heap.objs.size) (o:=.own (s.heap.objs.size+1)) (h':=s.heap.push PySem.W.emptyDict) (t':=s.toks) (λb u q=>Ad _ q) (Ac _) ⟨_,e1⟩
 refine I1.laid (a:=s.heap.objs.size+1) (o:=.ins C s.heap.objs.size []) (t':=s.toks) (λb u q=>Ad _ q) (Uz (Heap.size_push _ _)) ?_
 have ne:s.heap.objs.size≠s.heap.objs.size+1:=Av (Nat.lt_succ_self _)
 refine⟨by rw[jf ne,je],Ix _,ne,e2,λ_=>none,(Heap.Ns1.of_empty e3).at λo q=>Ad _ q,λ_=>True.intro,λy hy=>absurd rfl hy⟩
theorem jm7{prog:Program}{w:World}{env:Env}{e:Expr}{f:Str}{pos:Pos}{s:Shared}{Q:Value->Shared->Prop}(hb:attributeBase e f env (eval e env)=eval e env)
  (h:wpAny (model prog w) A (eval e env) (λo s₁=>wpAny (model prog w) A (getAttr o f true) Q E s₁) E s):wpAny (model prog w) A (eval (.Attribute e f pos) env) Q E s :=
 Attribute_any_ h (by rw[arm_eval_Attribute,hb])
end
def tFld(K:PySem.W.Frag)(ta:TE)(f:Str):TE:=λσ H Q=>ta σ H λx H1=>∃a C dx fs v,x=.ref a/\H1 a=some (.ins C dx fs)/\Cls K C/\NoAttr K C f/\fs.lookup f=some v/\Q v H1
def sFld(K:PySem.W.Frag)(ta tv:TE)(f:Str):TS:=λD σ H=>tv σ H λy H1=>ta σ H1 λx H2=>∃a C dx fs,x=.ref a/\H2 a=some (.ins C dx fs)/\Cls K C/\NoAttr K C f/\fs.length<1000 /\
 D.nx σ (upd H2 a (.ins C dx (putF f y fs)))
def InOp(X:Cx)(op:Operator)(rd:V->V->Hp->VK->Prop):Prop :=
 ∀(pins:List (Addr×Obj))(s:Shared)(σ:St)(H:Hp)(x y:V)(u v:Value)(Q:VK),Inv X pins σ H s->RelV x u->RelV y v->rd x y H Q->wpAny (model X.prog X.w) X.A (inplaceOp op u v) (EP X pins σ Q) X.xe s
def jgd(K:PySem.W.Frag)(ta tv:TE)(rd:V->V->Hp->VK->Prop)(f:Str):TS:=λD σ H=>ta σ H λx H1=>∃a C dx fs v,x=.ref a/\H1 a=some (.ins C dx fs)/\Cls K C/\NoAttr K C f/\fs.lookup f=some v /\
 tv σ H1 λy H2=>rd v y H2 λz H3=>∃dx' fs',H3 a=some (.ins C dx' fs')/\fs'.length<1000/\D.nx σ (upd H3 a (.ins C dx' (putF f z fs')))
section
variable{X:Cx}{o e value:Expr}{f:Str}{pos pos' tpos:Pos}{ta tv:TE}
theorem pe_fld(he:PE X e ta)(hb:attributeBase e f X.env (eval e X.env)=eval e X.env):PE X (.Attribute e f pos) (tFld X.K ta f):=by
 intro pins s σ H Q I h
 refine jm7 hb (thn (he pins s σ H _ I h) λu s1 ⟨x,H1,I1,rx,a,C,dx,fs,v,ex,ea,c,n,l,q⟩=>?_)
 subst ex
 obtain rfl:u=Value.ref a:=rx
 exact jfg I1 ea c n l λu' s2 I2 ru=>⟨v,H1,I2,ru,q⟩
theorem ps_fld(ha:PE X o ta)(hv:PE X value tv)(hs:swapsWith value (some (.Attribute o f pos')) pos.line X.env=pure false):PS X (.Assign [.Attribute o f pos'] value pos) (sFld X.K ta tv f):=by
 intro pins s σ H D I h
 refine plainObj_wpAny_Assign_Attribute (thn (hv pins s σ H _ I h) λu s1 ⟨y,H1,I1,ry,q⟩=>thn (ha pins s1 σ H1 _ I1 q) λov s2 ⟨x,H2,I2,rx,a,C,dx,fs,ex,ea,c,n,l,q2⟩=>?_) hs
 subst ex
 obtain rfl:ov=Value.ref a:=rx
 exact jfu I2 ea c n l ry λs3 I3=>⟨σ,_,I3,q2⟩
theorem ps_fldaug{op:Operator}{rd:V->V->Hp->VK->Prop}(ha:PE X o ta)(hv:PE X value tv)(hop:InOp X op rd):PS X (.AugAssign (.Attribute o f tpos) op value pos) (jgd X.K ta tv rd f):=by
 intro pins s σ H D I h
 refine wpAny_AugAssign_AttributeAny (thn (ha pins s σ H _ I h) λov s1 ⟨x,H1,I1,rx,a,C,dx,fs,v,ex,ea,c,n,l,q⟩=>?_)
 subst ex
 obtain rfl:ov=Value.ref a:=rx
 refine jfg I1 ea c n l λu s2 I2 ru=>thn (hv pins s2 σ H1 _ I2 q) λw3 s3 ⟨y,H2,I3,ry,q3⟩=>thn (hop pins s3 σ H2 v y u w3 _ I3 ru ry q3) λw4 s4 ⟨z,H3,I4,rz,dx',fs',ea',l',q4⟩=>?_
 exact jfu I4 ea' c n l' rz λs5 I5=>⟨σ,_,I5,q4⟩
def rAdd:V->V->Hp->VK->Prop:=λx y H Q=>∃i j,x=.int i/\y=.int j/\Q (.int (i+j)) H
theorem job:InOp X .Add rAdd:=by
 rintro pins s σ H x y u v Q I rx ry ⟨i,j,rfl,rfl,q⟩
 obtain⟨t,rfl⟩:=(show ∃t,u=Value.int i t from rx)
 obtain⟨t',rfl⟩:=(show ∃t',v=Value.int j t' from ry)
 exact PyProof.Rows.iadd_int ⟨.int (i+j),H,I.tok _,⟨_,rfl⟩,q⟩
end
section
variable{X:Cx}{pins:List (Addr×Obj)}{σ:St}{H:Hp}{s:Shared}{A:Around}{E:Value->Shared->Prop}{Q:Value->Shared->Prop}{c:Value}{b:Bool}
inductive TyOf (K:PySem.W.Frag) (H:Hp):V->Value->Prop where
 |non:TyOf K H .non (.type "NoneType")
 |bl (x:Bool):TyOf K H (.bl x) (.type "bool")
 |int (i:Int):TyOf K H (.int i) (.type "int")
 |str (x:Str):TyOf K H (.str x) (.type "str")
 |flt (x:UInt64):TyOf K H (.flt x) (.type "float")
 |lst {a:Addr}{xs:List V} (e:H a=some (.lst xs)):TyOf K H (.ref a) (.type "list")
 |frz {a:Addr}{o:Obj}{xs:List V} (e:H a=some (.frz o (.lst xs))):TyOf K H (.ref a) (.type "list")
 |tup {a:Addr}{xs:List V} (e:H a=some (.tup xs)):TyOf K H (.ref a) (.type "tuple")
 |dK {a:Addr}{kvs:List (Key×V)} (e:H a=some (.dK kvs)):TyOf K H (.ref a) (.type "dict")
 |dT {a:Addr}{kvs:List (List Key×V)} (e:H a=some (.dT kvs)):TyOf K H (.ref a) (.type "dict")
 |ins {a C dx:Addr}{fs:List (Str×V)} (e:H a=some (.ins C dx fs)) (cl:Cls K C) (ha:PySem.W.findIn K (.ref C) "__class__"=some (some (.builtin "object.__class__")))
   (hn:PySem.W.specialIn K (.builtin "object.__class__") "__get__"=some (some (.builtin "getset_descriptor.__get__"))) (htk:PySem.W.takesIn K (.builtin "object.__class__")=some true)
   (hm:PySem.W.mroIn K C (.type "object")=some true):TyOf K H (.ref a) (.ref C)
theorem jlb{x:V}{u t:Value}(I:Inv X pins σ H s)(rx:RelV x u)(ty:TyOf X.K H x t)(e:PySem.W.kitOne X.K t c=some b)(h:∀tk,Q (.bool b) {s with toks:=tk}) :
  wpAny (model X.prog X.w) A (call (.builtin "isinstance") [u,c]) Q E s:=by
 cases ty with
 |non=>cases(show u=Value.none from rx);exact Io PySem.W.kitx_none I.kIn True.intro e (λz=>nomatch z) h
 |bl y=>cases(show u=Value.bool y from rx);exact Io PySem.W.kitx_bool I.kIn True.intro e (λz=>nomatch z) h
 |int i=>obtain⟨t,q⟩:=(show ∃t,u=Value.int i t from rx);cases q;exact Io PySem.W.kitx_int I.kIn True.intro e (λz=>nomatch z) h
 |str y=>obtain⟨t,q⟩:=(show ∃t,u=Value.str y t from rx);cases q;exact Io PySem.W.kitx_str I.kIn True.intro e (λz=>nomatch z) h
 |flt y=>obtain⟨t,q⟩:=(show ∃t,u=Value.float y t from rx);cases q;exact Io PySem.W.kitx_float I.kIn True.intro e (λz=>nomatch z) h
 |@lst a xs ea =>
  cases(show u=Value.ref a from rx)
  obtain⟨_,_,n,_,h1⟩:=(show ObjOk X.prog X.w H s.heap a (.lst xs)from I.hok a _ ea)
  exact Io PySem.W.kitx_list I.kIn ⟨_,h1,rfl⟩ e (λz=>nomatch z) h
 |@frz a ob xs ea =>
  cases(show u=Value.ref a from rx)
  obtain⟨_,_,_,n,_,h1⟩:=(show ObjOk X.prog X.w H s.heap a (.frz ob (.lst xs))from I.hok a _ ea)
  exact Io PySem.W.kitx_list I.kIn ⟨_,h1,rfl⟩ e (λz=>nomatch z) h
 |@tup a xs ea =>
  cases(show u=Value.ref a from rx)
  obtain⟨_,_,_,p⟩:=(show ObjOk X.prog X.w H s.heap a (.tup xs)from I.hok a _ ea)
  obtain⟨o,h1,h2,_⟩:=p
  exact Io PySem.W.kitx_tuple I.kIn ⟨o,h1,h2⟩ e (λz=>nomatch z) h
 |@dK a kvs ea =>
  cases(show u=Value.ref a from rx)
  obtain⟨_,_,vs,_,p⟩:=(show ObjOk X.prog X.w H s.heap a (.dK kvs)from I.hok a _ ea)
  obtain⟨o,es,ep,h1,h2,_⟩:=p
  exact Io PySem.W.kitx_dict I.kIn ⟨o,h1,h2.1⟩ e (λz=>nomatch z) h
 |@dT a kvs ea =>
  cases(show u=Value.ref a from rx)
  obtain⟨_,_,xs,_,o,es,ep,h1,h2,_⟩:=(show ObjOk X.prog X.w H s.heap a (.dT kvs)from I.hok a _ ea)
  exact Io PySem.W.kitx_dict I.kIn ⟨o,h1,h2.1⟩ e (λz=>nomatch z) h
 |@ins a C dx fs ea cl ha hn htk hm =>
  cases(show u=Value.ref a from rx)
  obtain⟨mA,O,_⟩:=jej I.hok ea
  obtain⟨od,J,_⟩:=O.look
  exact Io (PySem.W.kitx_own (cl.get _) cl.hd ha hn htk hm) I.kIn J e (λz=>nomatch z) h
end
structure Room(k:Nat)(A:Around):Prop where
 hd:A.handled=none
 dp:A.depth+3*k+5<recursionLimit
 un:A.units+16*k+200<cLine
 gd:A.guards=some []
theorem Room.mono{j k:Nat}{A:Around}(r:Room k A)(h:j<=k):Room j A:=⟨r.hd,by have:=r.dp;omega,by have:=r.un;omega,r.gd⟩
theorem Room.deeper{k:Nat}{A:Around}(r:Room (k+1) A)(env:Env):Room k (A.deeper env) :=
 ⟨r.hd,by have:=r.dp;show A.depth+1+3*k+5<_;omega,by have:=r.un;show A.units+3+16*k+200<_;omega,r.gd⟩
theorem jkk{A:Around}{C:Addr}{us:List Value}{kw:List (Str×Value)}:(A.under (.builtin "type.__call__" ⟨.ref C::us,kw⟩)).depth=A.depth+1:=by
 first|rfl|simp[Around.under,Code.weight,Code.isCreation,Code.isGuard,Code.isCaller,Code.frames,Code.isFrame,guardIds]
theorem jkl{A:Around}{C:Addr}{us:List Value}{kw:List (Str×Value)}:(A.under (.builtin "type.__call__" ⟨.ref C::us,kw⟩)).units=A.units+1:=by
 first|rfl|simp[Around.under,Code.cUnits,Code.frames,Code.isFrame]
theorem Room.make{k:Nat}{A:Around}(r:Room (k+1) A)(C:Addr)(us:List Value)(kw:List (Str×Value)):Room k (A.under (.builtin "type.__call__" ⟨.ref C::us,kw⟩)) :=
 ⟨r.hd,by have:=r.dp;rw[jkk];omega,by have:=r.un;rw[jkl];omega,by first|exact r.gd|(simpa[Around.under,Code.isGuard,guardIds]using r.gd)⟩
theorem Room.depth{k:Nat}{A:Around}(r:Room k A):A.depth<recursionLimit:=by have:=r.dp;omega
theorem Room.units{k:Nat}{A:Around}(r:Room k A):A.units+64<cLine:=by have:=r.un;omega
def tNil:TA:=λ_ H Q=>Q [] H
def jht(ta:TE)(tr:TA):TA:=λσ H Q=>ta σ H λx H1=>tr σ H1 λxs H2=>Q (x::xs) H2
section
variable{X:Cx}{e:Expr}{es:List Expr}{te:TE}{t:TA}{pos:Pos}
theorem pa_nil:PA X [] tNil:=λ_ _ _ _ H Q I h=>Calls.spliced_nil ⟨[],H,I,.nil,h⟩
theorem pa_cons(ha:PE X e te)(hr:PA X es t)(hs:starEach (e::es) X.env=(false,eval e X.env)::starEach es X.env:=by rfl):PA X (e::es) (jht te t):=by
 intro pos pins s σ H Q I h
 rw[hs]
 show wpAny _ _ (spliced ((false,eval e X.env)::backTo pos (starEach es X.env))) _ _ s
 refine Ov (thn (ha pins s σ H _ I h) λu s1 ⟨x,H1,I1,r1,q1⟩=>?_)
 exact thn (hr pos pins s1 σ H1 _ I1 q1) λus s2 ⟨xs,H2,I2,r2,q2⟩=>⟨x::xs,H2,I2,.cons r1 r2,q2⟩
def tTup(t:TA):TE:=λσ H Q=>t σ H λxs H1=>xs.length<=sizeLine/\∀p,H1 p=none->Q (.ref p) (upd H1 p (.tup xs))
def tLst(t:TA):TE:=λσ H Q=>t σ H λxs H1=>xs.length<=sizeLine/\∀p,H1 p=none->Q (.ref p) (upd H1 p (.lst xs))
theorem pe_tup{x1}(h:PA X es t):PE X (.Tuple es x1 pos) (tTup t):=by
 intro pins s σ H Q I hq
 refine wpAny_Tuple_spliced (thn (h pos pins s σ H _ I hq) λus s1 ⟨xs,H1,I1,r,z,q⟩=>⟨by rw[<-r.length];exact z,?_⟩)
 have hf:H1 s1.heap.objs.size=none:=I1.hok.fresh (Ac _)
 refine⟨.ref s1.heap.objs.size,upd H1 s1.heap.objs.size (.tup xs),I1.laid (t':=s1.toks) (λb u e=>Ad _ e) (Ac _) ?_,rfl,q _ hf⟩
 exact⟨z,us,r,⟨_,Aw _ rfl,rfl,_,rfl⟩⟩
theorem pe_lst(h:PA X es t):PE X (.List es pos) (tLst t):=by
 intro pins s σ H Q I hq
 refine wpAny_List_spliced (thn (h pos pins s σ H _ I hq) λus s1 ⟨xs,H1,I1,r,z,q⟩=>⟨by rw[<-r.length];exact z,?_⟩)
 have hf:H1 s1.heap.objs.size=none:=I1.hok.fresh (Ac _)
 refine⟨.ref s1.heap.objs.size,upd H1 s1.heap.objs.size (.lst xs),I1.laid (t':=s1.toks) (λb u e=>Ad _ e) (Ac _) ?_,rfl,q _ hf⟩
 exact⟨z,us,0,r,Aw _ rfl⟩
end
abbrev Sp:=List V->Hp->VK->XK->Prop
abbrev CXT:=List Env->Hp->Shared->XK->Value->Shared->Prop
structure Env0(P:Program)(w:World)(K:PySem.W.Frag)(mg:Str->Option Value)(base:Heap)(A:Around)(outer:List Env)(s:Shared)(H:Hp):Prop where
 frames:A.frames=some outer
 mod:Mod K mg base
 bs:∀b o,base.get? b=some o->s.heap.get? b=some o/\H b=none
 bsz:base.objs.size<=s.heap.objs.size
 funs:s.heap.FunFrames base outer
 frf:∀b∈frs outer,H b=none
 hok:HOk P w H s.heap
 bare:AllBare s.gens
def CE(outer:List Env)(P:Program)(w:World)(H:Hp)(s:Shared)(Q:VK)(u:Value)(s':Shared):Prop :=
 ∃v H',s'.os=s.os/\AllBare s'.gens/\Un (frs outer) [] H H' s.heap s'.heap/\HOk P w H' s'.heap/\RelV v u/\Q v H'
def CR(CX:CXT)(outer:List Env)(P:Program)(w:World)(H:Hp)(s:Shared)(Q:VK)(E:XK)(r:Result)(s':Shared):Prop :=
 match r with
 |.ok (.ret u)=>CE outer P w H s Q u s'
 |.ok _=>False
 |.error e=>CX outer H s E e s'
structure FnOk(P:Program)(w:World)(K:PySem.W.Frag)(mg:Str->Option Value)(base:Heap)(CX:CXT)(k:Nat)(f:Addr)(fd:FuncData)(ps:List Str)(sp:Sp):Prop where
 len:∀vs H Q E,sp vs H Q E->vs.length=ps.length
 run:∀(A:Around)(outer:List Env)(s:Shared)(H:Hp)(args:Args)(us:List Value)(vs:List V)(Q:VK)(E:XK),Room k A->Env0 P w K mg base A outer s H->BindsTo s fd args (ps.zip us)->Vals vs us->sp vs H Q E ->
  codeAny (model P w) A (.call (.ref f) args) (CR CX outer P w H s Q E) s
theorem FnOk.mono{P:Program}{w:World}{K:PySem.W.Frag}{mg:Str->Option Value}{base:Heap}{CX:CXT}{j k:Nat}{f:Addr}{fd:FuncData}{ps:List Str}{sp:Sp}(F:FnOk P w K mg base CX j f fd ps sp)(h:j<=k) :
  FnOk P w K mg base CX k f fd ps sp:=⟨F.len,λA outer s H args us vs Q E hr=>F.run A outer s H args us vs Q E (hr.mono h)⟩
theorem Env0.make{P:Program}{w:World}{K:PySem.W.Frag}{mg:Str->Option Value}{base:Heap}{A:Around}{outer:List Env}{s:Shared}{H:Hp}(e:Env0 P w K mg base A outer s H)(C:Addr)(us:List Value)(kw:List (Str×Value)) :
  Env0 P w K mg base (A.under (.builtin "type.__call__" ⟨.ref C::us,kw⟩)) outer s H:=⟨by first|exact e.frames|(simpa[Around.under,Code.envs,Code.isFrame,pushEnvs]using e.frames),e.mod,e.bs,e.bsz,e.funs,e.frf,e.hok,e.bare⟩
section
variable{X:Cx}{pins:List (Addr×Obj)}{σ:St}{H:Hp}{s s':Shared}
theorem Inv.env0(I:Inv X pins σ H s):Env0 X.prog X.w X.K X.mg X.base X.A X.stack s H :=
 ⟨I.ok.frames,I.ok.mod,I.bs,Ig I.ok.bsz I.sz,I.stack,I.stkFree,I.hok,I.bare⟩
theorem Inv.after{Q:VK}{u:Value}(I:Inv X pins σ H s)(h:CE X.stack X.prog X.w H s Q u s'):EP X pins σ Q u s':=by
 obtain⟨v,H',os,bare,un,hok,r,q⟩:=h
 obtain⟨hh,g,d,t,os'⟩:=s'
 obtain rfl:os'=s.os:=os
 exact⟨v,H',I.call (h':=hh) (g':=g) (d':=d) (t':=t) (ch:=[]) un hok bare (λb z=>absurd z (by simp)),r,q⟩
end
def jhs(sp:Sp)(dvs:List V)(E:XK)(t:TA):TE:=λσ H Q=>t σ H λvs H1=>sp (vs++dvs) H1 Q E
def jeq(C:Addr)(m:Str)(sp:Sp)(dvs:List V)(E:XK)(ta:TE)(t:TA):TE:=λσ H Q=>ta σ H λx H1=>∃a dx fs,x=.ref a/\H1 a=some (.ins C dx fs)/\fs.lookup m=none /\
 t σ H1 λvs H2=>sp (x::(vs++dvs)) H2 Q E
def jhw(C:Addr)(sp:Sp)(dvs:List V)(E:XK)(t:TA):TE:=λσ H Q=>t σ H λvs H1=>∀x dx,H1 x=none->H1 dx=none->dx≠x ->
 sp (.ref x::(vs++dvs)) (upd (upd H1 dx (.own x)) x (.ins C dx [])) (λv H2=>v=.non/\Q (.ref x) H2) E
def Binds(K:PySem.W.Frag)(fd:FuncData)(ps:List Str)(ds:List Value):Prop :=
 ∀(s:Shared)(us:List Value),K.In s.heap->(us++ds).length=ps.length->BindsTo s fd ⟨us,[]⟩ (ps.zip (us++ds))
theorem Binds.all{K:PySem.W.Frag}{fd:FuncData}{ps:List Str}(h:∀us:List Value,us.length=ps.length->bindArgs fd ⟨us,[]⟩=pure (ps.zip us)):Binds K fd ps []:=λs us _ hl=>by
 rw[Im]at hl⊢
 exact .of_eq (h us hl)
def jct(CX:CXT)(X:Cx)(E:XK):Prop:=∀(pins:List (Addr×Obj))(σ:St)(H:Hp)(s:Shared)(e:Value)(s':Shared),Inv X pins σ H s->CX X.stack H s E e s'->X.xe e s'
section
variable{X:Cx}{CX:CXT}{k:Nat}{f C:Addr}{fd:FuncData}{ps:List Str}{sp:Sp}{dvs:List V}{ds:List Value}{E:XK}{x m:Str}{p pos apos:Pos}{e o:Expr}{es:List Expr}{ta:TE}{t:TA}
theorem jft{pins:List (Addr×Obj)}{σ:St}{H:Hp}{s:Shared}{Q:VK}{us:List Value}{vs:List V}(F:FnOk X.prog X.w X.K X.mg X.base CX k f fd ps sp)(hr:Room k X.A)(hb:Binds X.K fd ps ds)(hd:Vals dvs ds)(hx:jct CX X E)
  (I:Inv X pins σ H s) (r:Vals vs us) (h:sp (vs++dvs) H Q E):wpAny (model X.prog X.w) X.A (call (.ref f) us) (EP X pins σ Q) X.xe s:=by
 have r2:Vals (vs++dvs) (us++ds):=r.append hd
 have hl:(us++ds).length=ps.length:=by rw[<-r2.length];exact F.len _ _ _ _ h
 refine wpAny_call (codeAny_mono (F.run X.A X.stack s H ⟨us,[]⟩ (us++ds) (vs++dvs) Q E hr I.env0 (hb s us I.kIn hl) r2 h) λr s' hq=>?_)
 cases r with
 |error e=>exact hx pins σ H s e s' I hq
 |ok fl =>
  cases fl with
  |ret u=>exact I.after hq
  |next=>exact False.elim hq
  |brk=>exact False.elim hq
  |cont=>exact False.elim hq
theorem pe_call(F:FnOk X.prog X.w X.K X.mg X.base CX k f fd ps sp)(hr:Room k X.A)(hg:Gl X x)(hm:X.mg x=some (.ref f))(hk:PySem.W.keepIn X.K (.ref f)=true)(hb:Binds X.K fd ps ds)(hd:Vals dvs ds)(hx:jct CX X E)
  (ha:PA X (e::es) t) (hdb:(x == ("__debug__":Str))=false:=by decide) (he:starEach (e::es) X.env=(false,eval e X.env)::starEach es X.env:=by rfl) (hpl:(backTo pos (starEach es X.env)).any (·.1)=false:=by rfl) :
  PE X (.Call (.Name x p) (e::es) [] pos) (jhs sp dvs E t):=by
 intro pins s σ H Q I h
 refine Ow (jf9 I hg hm ?_ hdb)
 refine Wc (h₀:=X.base) I.ok.mod.kin hk (thn (ha pos pins s σ H _ I h) λus s1 ⟨vs,H1,I1,r,q⟩=>⟨I1.kIn,?_⟩) he hpl
 exact jft F hr hb hd hx I1 r q
theorem pe_meth{pl:Sem Bool}(he:PE X o ta)(c:Cls X.K C)(hm:Meth X.K C m f)(F:FnOk X.prog X.w X.K X.mg X.base CX k f fd ps sp)(hr:Room k X.A)(hb:Binds X.K fd ps ds)(hd:Vals dvs ds)(hx:jct CX X E)(ha:PA X (e::es) t)
  (hst:starEach (e::es) X.env=(false,eval e X.env)::starEach es X.env:=by rfl) (hpl:(backTo pos (starEach es X.env)).any (·.1)=false:=by rfl)
  (ht:eval (.Call (.Attribute o m apos) (e::es) [] pos) X.env=(do
   let ov <-eval o X.env
   standAt apos.atName
   let(f,first) <-holding [ov] (getMethod ov m pl)
   callWith pos f first (backTo pos (starEach (e::es) X.env)) (backToKw pos (keywordEach [] X.env))):=by rfl) :
  PE X (.Call (.Attribute o m apos) (e::es) [] pos) (jeq C m sp dvs E ta t):=by
 intro pins s σ H Q I h
 refine PySem.W.methodCall_KW (pl:=pl) (thn (he pins s σ H _ I h) λu s1 ⟨x,H1,I1,rx,a,dx,fs,ex,ea,l,q⟩=>?_) ht
 subst ex
 obtain rfl:u=Value.ref a:=rx
 refine jfh I1 ea c hm l ?_
 refine Wc (first:=[.ref a]) (h₀:=X.base) I.ok.mod.kin hm.kp (thn (ha pos pins s1 σ H1 _ I1 q) λus s2 ⟨vs,H2,I2,r,q2⟩=>⟨I2.kIn,?_⟩) hst hpl
 exact jft (us:=.ref a::us) (vs:=.ref a::vs) F hr hb hd hx I2 (.cons rfl r) q2
theorem pe_meth0{pl:Sem Bool}(he:PE X o ta)(c:Cls X.K C)(hm:Meth X.K C m f)(F:FnOk X.prog X.w X.K X.mg X.base CX k f fd ps sp)(hr:Room k X.A)(hb:Binds X.K fd ps ds)(hd:Vals dvs ds)(hx:jct CX X E)
  (ht:eval (.Call (.Attribute o m apos) [] [] pos) X.env=(do
   let ov <-eval o X.env
   standAt apos.atName
   let(f,first) <-holding [ov] (getMethod ov m pl)
   callWith pos f first (backTo pos (starEach [] X.env)) (backToKw pos (keywordEach [] X.env))):=by rfl) :
  PE X (.Call (.Attribute o m apos) [] [] pos) (jeq C m sp dvs E ta tNil):=by
 intro pins s σ H Q I h
 refine PySem.W.methodCall_KW (pl:=pl) (thn (he pins s σ H _ I h) λu s1 ⟨x,H1,I1,rx,a,dx,fs,ex,ea,l,q⟩=>?_) ht
 subst ex
 obtain rfl:u=Value.ref a:=rx
 refine jfh I1 ea c hm l ?_
 exact PySem.W.callWith_K0 (first:=[.ref a]) I1.kIn hm.kp (jft (us:=[.ref a]) (vs:=[.ref a]) F hr hb hd hx I1 (.cons rfl .nil) q)
structure Mk(K:PySem.W.Frag)(C f:Addr):Prop where
 makes:PySem.W.makesIn K C=true
 init:PySem.W.findIn K (.ref C) "__init__"=some (some (.ref f))
 fn:PySem.W.isFn K (.ref f)=true
 kp:PySem.W.keepIn K (.ref C)=true
theorem jmk{pins:List (Addr×Obj)}{σ:St}{H:Hp}{s:Shared}{Q:VK}{us:List Value}{vs:List V}(M:Mk X.K C f)(F:FnOk X.prog X.w X.K X.mg X.base CX k f fd ps sp)(hr:Room (k+1) X.A)(hb:Binds X.K fd ps ds)(hd:Vals dvs ds)
  (hx:jct CX X E) (I:Inv X pins σ H s) (r:Vals vs us)
  (h:∀x dx,H x=none->H dx=none->dx≠x->sp (.ref x::(vs++dvs)) (upd (upd H dx (.own x)) x (.ins C dx [])) (λv H2=>v=.non/\Q (.ref x) H2) E) :
  wpAny (model X.prog X.w) X.A (call (.ref C) us) (EP X pins σ Q) X.xe s:=by
 have hq:=h (s.heap.objs.size+1) s.heap.objs.size (I.hok.fresh (Nat.le_succ _)) (I.hok.fresh (Ac _)) (Av (Nat.lt_succ_self _))
 have I2:=Inv.made (C:=C) I
 have r2:Vals (V.ref (s.heap.objs.size+1)::(vs++dvs)) (Value.ref (s.heap.objs.size+1)::(us++ds)):=.cons rfl (r.append hd)
 have hl:(Value.ref (s.heap.objs.size+1)::us++ds).length=ps.length:=by
  have e:=r2.length
  rw[F.len _ _ _ _ hq]at e
  exact e.symm
 refine wpAny_call (jme (f:=f) I.kIn M.makes M.init (Uc.mp M.fn) (codeAny_mono (F.run _ X.stack _ _ ⟨Value.ref (s.heap.objs.size+1)::us,[]⟩ (Value.ref (s.heap.objs.size+1)::(us++ds)) _ _ E (hr.make C us [])
  (I2.env0.make C us []) (hb _ (Value.ref (s.heap.objs.size+1)::us) I2.kIn hl) r2 hq) λr s' hq'=>?_))
 cases r with
 |error e=>exact hx pins σ _ _ e s' I2 hq'
 |ok fl =>
  cases fl with
  |ret u =>
   obtain⟨v,H',I3,rv,ev,q3⟩:=I2.after hq'
   subst ev
   exact⟨rv,⟨V.ref (s.heap.objs.size+1),H',I3,rfl,q3⟩⟩
  |next=>exact False.elim hq'
  |brk=>exact False.elim hq'
  |cont=>exact False.elim hq'
theorem pe_make(M:Mk X.K C f)(F:FnOk X.prog X.w X.K X.mg X.base CX k f fd ps sp)(hr:Room (k+1) X.A)(hg:Gl X x)(hm:X.mg x=some (.ref C))(hb:Binds X.K fd ps ds)(hd:Vals dvs ds)(hx:jct CX X E)
  (ha:PA X (e::es) t) (hdb:(x == ("__debug__":Str))=false:=by decide) (he:starEach (e::es) X.env=(false,eval e X.env)::starEach es X.env:=by rfl) (hpl:(backTo pos (starEach es X.env)).any (·.1)=false:=by rfl) :
  PE X (.Call (.Name x p) (e::es) [] pos) (jhw C sp dvs E t):=by
 intro pins s σ H Q I h
 refine Ow (jf9 I hg hm ?_ hdb)
 refine Wc (h₀:=X.base) I.ok.mod.kin M.kp (thn (ha pos pins s σ H _ I h) λus s1 ⟨vs,H1,I1,r,q⟩=>⟨I1.kIn,?_⟩) he hpl
 exact jmk M F hr hb hd hx I1 r q
end
structure FnScope(N P:List Str)(sc:Scope):Prop where
 kind:sc.kind=.function
 co:sc.isCoroutine=false
 gen:sc.isGenerator=false
 nd:N.Nodup
 pre:N.take P.length=P
 par:∀x∈P,sc.names.lookup x=some .local\/sc.names.lookup x=some .cell
 nofree:∀y∈sc.names,y.2≠.free
theorem jgl{kindOf:Str->Option NameKind}{x:Str}:∀{binds:List (Str×Value)}{m:Str->Option Value},(∀v,(x,v)∉binds)->bindL kindOf binds m x=m x
 |[],_,_=>rfl
 |(n,v)::r,m,h=>by
  unfold bindL
  rw[jgl λw hw=>h w (Ik _ hw)]
  split
  ·have:x≠n:=by rintro rfl;exact h v Ob
   simp[this]
  ·rfl
theorem jgj{kindOf:Str->Option NameKind}{x:Str}:∀{binds:List (Str×Value)}{m:Str->Option Value},(∀v,(x,v)∉binds)->bindC kindOf binds m x=m x
 |[],_,_=>rfl
 |(n,v)::r,m,h=>by
  unfold bindC
  rw[jgj λw hw=>h w (Ik _ hw)]
  split
  ·rfl
  ·have:x≠n:=by rintro rfl;exact h v Ob
   simp[this]
theorem jgk{kindOf:Str->Option NameKind}{x:Str}{v:Value}:∀{P:List Str}{vs:List Value}{i:Nat}{m:Str->Option Value},P.Nodup->P[i]?=some x->vs[i]?=some v->kindOf x=some .local ->
  bindL kindOf (P.zip vs) m x=some v
 |[],_,_,_,_,h,_,_=>by simp at h
 |_::_,[],_,_,_,_,h,_=>by simp at h
 |p::P,w::vs,0,m,nd,h1,h2,hk=>by
  simp at h1 h2;subst h1;subst h2
  show bindL kindOf ((p,w)::P.zip vs) m p=_
  unfold bindL
  rw[jgl λv hv=>(Ox.mp nd).1 (U0 hv).1,Ag hk]
  simp
 |p::P,w::vs,i+1,m,nd,h1,h2,hk=>by
  show bindL kindOf ((p,w)::P.zip vs) m x=_
  unfold bindL
  exact jgk (i:=i) (Ox.mp nd).2 (by simpa using h1) (by simpa using h2) hk
theorem jgi{kindOf:Str->Option NameKind}{x:Str}{v:Value}:∀{P:List Str}{vs:List Value}{i:Nat}{m:Str->Option Value},P.Nodup->P[i]?=some x->vs[i]?=some v->kindOf x≠some .local ->
  bindC kindOf (P.zip vs) m x=some v
 |[],_,_,_,_,h,_,_=>by simp at h
 |_::_,[],_,_,_,_,h,_=>by simp at h
 |p::P,w::vs,0,m,nd,h1,h2,hk=>by
  simp at h1 h2;subst h1;subst h2
  show bindC kindOf ((p,w)::P.zip vs) m p=_
  unfold bindC
  rw[jgj λv hv=>(Ox.mp nd).1 (U0 hv).1,Ae hk]
  simp
 |p::P,w::vs,i+1,m,nd,h1,h2,hk=>by
  show bindC kindOf ((p,w)::P.zip vs) m x=_
  unfold bindC
  exact jgi (i:=i) (Ox.mp nd).2 (by simpa using h1) (by simpa using h2) hk
def start(N:List Str)(vs:List V):St:=vs.map some++List.replicate (N.length-vs.length) none
def cxOf(CX:CXT)(P:Program)(w:World)(K:PySem.W.Frag)(mg:Str->Option Value)(base:Heap)(N:List Str)(qual:Str)(scope:Scope)(f:Addr)(cd:Value)(A:Around)(outer:List Env)(s:Shared)(H:Hp)(E:XK):Cx where
 prog:=P
 w:=w
 K:=K
 mg:=mg
 base:=base
 A:=A.deeper (envOfC qual scope s.heap.objs.size f cd)
 N:=N
 s₀:=s
 H₀:=H
 env:=envOfC qual scope s.heap.objs.size f cd
 outer:=outer
 stack:=envOfC qual scope s.heap.objs.size f cd::outer
 ex:=[]
 calm:=true
 fn:=λ_=>true
 pn:=[]
 xe:=λe s'=>wpAny (model P w) (A.deeper (envOfC qual scope s.heap.objs.size f cd)) (leaving (envOfC qual scope s.heap.objs.size f cd) e) (λ_ s''=>CX outer H s E e s'') (λe' s''=>CX outer H s E e' s'') s'
theorem jh2{sc:Scope}{n:Nat}{x:Str}(h:sc.names.lookup x=some .cell):∃c,(cellsFrom n sc.names []).lookup x=some c:=by
 have q:=PySem.W.cellsFrom_some sc.names n [] (.inl h)
 exact Option.isSome_iff_exists.mp q
theorem jgs{CX:CXT}{P:Program}{w:World}{K:PySem.W.Frag}{mg:Str->Option Value}{base:Heap}{N ps:List Str}{qual:Str}{scope:Scope}{f:Addr}{cd:Value}{A:Around}{outer:List Env}{s s1:Shared}{H:Hp}{E:XK}{us:List Value}{vs:List V}
  (S:FnScope N ps scope) (hd:A.handled=none) (e0:Env0 P w K mg base A outer s H) (hl:vs.length=ps.length) (r:Vals vs us)
  (x:InCallC s s.heap.objs.size (bindL (envOfC qual scope s.heap.objs.size f cd).kindOf (ps.zip us) λ_=>none) (cellsFrom (s.heap.objs.size+1) scope.names []) (bindC (envOfC qual scope s.heap.objs.size f cd).kindOf (ps.zip us) λ_=>none) s1) :
  Inv (cxOf CX P w K mg base N qual scope f cd A outer s H E) [] (start N vs) H s1:=by
 have hpl:ps.length<=N.length:=by have:=Iy List.length S.pre;rw[Ir]at this;omega
 obtain⟨h1,tk,rfl,hk⟩:=x.done
 have noA:∀b:Addr,b∉(cxOf CX P w K mg base N qual scope f cd A outer s H E).ex:=λb z=>absurd (show b∈([]:List Addr)from z) (by simp)
 refine⟨⟨e0.mod,S.kind,rfl,rfl,Ac _,λy z c h1 h2=>?_,λy hy=>?_,λy c _ h=>?_,λ_=>hd,Around.frames_deeper e0.frames,.inr ⟨rfl,rfl⟩,λb z=>absurd z (noA b),e0.bs,e0.bsz,λb _ _=>noA b,λb z=>absurd z (noA b),e0.funs,e0.frf⟩,
  rfl,e0.bare,Un.kept hk,⟨_,x.toInCall.ns,λi y v h1 h2 h3=>?_⟩,λy c h=>⟨_,x.cell y c h⟩,e0.hok.fresh (Ac _),λy c h=>?_,λp hp=>absurd (show p∈([]:List (Addr×Obj))from hp) (by simp),e0.hok.kept hk,?_⟩
 ·exact name_of_addr x.apart (Iv h1) (Iv h2)
 ·have hy:scope.names.lookup y=some .cell\/scope.names.lookup y=some .free:=hy
  rcases hy with hy|hy
  ·exact jh2 hy
  ·exact absurd rfl (S.nofree _ (Iv hy))
 ·exact Nat.le_of_lt (x.above y c (Iv h))
 ·have hi:i<vs.length:=by
   unfold start at h2
   by_cases hi:i<vs.length
   ·exact hi
   ·rw[A6 (by simpa using hi)]at h2
    rw[List.getElem?_replicate]at h2
    split at h2 <;> cases h2
  have ha:vs[i]?=some v:=by
   unfold start at h2
   rw[Ih (by simpa using hi),Aq]at h2
   cases e:vs[i]? with
   |none=>rw[e]at h2;cases h2
   |some a=>rw[e]at h2;cases h2;rfl
  obtain⟨u,hu,rv⟩:=r.get ha
  have hp:ps[i]?=some y:=by
   rw[<-S.pre,List.getElem?_take_of_lt (by omega)];exact h1
  have ndP:ps.Nodup:=by rw[<-S.pre];exact S.nd.sublist (List.take_sublist _ _)
  refine⟨u,rv,?_⟩
  rcases S.par y (A0 hp)with k|k
  ·exact .inl ⟨k,jgk ndP hp hu k⟩
  ·obtain⟨c,e⟩:=jh2 (n:=s.heap.objs.size+1) k
   refine .inr ⟨.inl k,c,e,?_⟩
   have q:=x.cell y c e
   rw[jgi ndP hp hu (by show scope.names.lookup y≠_;rw[k];decide)]at q
   exact q
 ·exact e0.hok.fresh (Nat.le_of_lt (x.above y c (Iv h)))
 ·unfold start
  show _=N.length
  rw[A4,Ab,List.length_replicate]
  omega
theorem jmt{CX:CXT}{P:Program}{w:World}{K:PySem.W.Frag}{mg:Str->Option Value}{base:Heap}{k:Nat}{f:Addr}{name qual:Str}{params:Arguments}{body:List Stmt}{scope:Scope}{dV kV doc pm cdv ct oc:Value}{an od:Option Addr}
  {osl:Array (Option Value)}{N ps:List Str}{sp:Sp} (lk:K.lookup f=some ⟨oc,od,.func (PySem.W.fnOf name qual params body scope dV kV doc pm an cdv ct),osl⟩) (hcd:PySem.W.codeIn K cdv qual=true) (S:FnScope N ps scope)
  (len:∀vs H Q E,sp vs H Q E->vs.length=ps.length)
  (hbody:∀(A:Around)(outer:List Env)(s:Shared)(H:Hp)(vs:List V)(Q:VK)(E:XK),Room k (A.deeper (envOfC qual scope s.heap.objs.size f cdv))->sp vs H Q E ->
   ∃t,PSs (cxOf CX P w K mg base N qual scope f cdv A outer s H E) body t/\t {nx:=λ_ H'=>Q .non H',rt:=Q} (start N vs) H) :
  FnOk P w K mg base CX (k+1) f (PySem.W.fnOf name qual params body scope dV kV doc pm an cdv ct) ps sp:=by
 refine⟨len,λA outer s H args us vs Q E hr e0 hb r hsp=>?_⟩
 have hl:=len _ _ _ _ hsp
 have KX:K.In s.heap:=e0.mod.kin.keeps λb o e=>(e0.bs b o e).1
 have lim:s.heap.NoLimit:=e0.mod.nolimit.keeps λb o e=>(e0.bs b o e).1
 have hkind:∀y∈ps.zip us,scope.names.lookup y.1=some .local\/(scope.names.lookup y.1=some .cell/\((cellsFrom (s.heap.objs.size+1) scope.names []).lookup y.1).isSome=true):=fun⟨n,v⟩ hy=>by
  rcases S.par n (U0 hy).1 with q|q
  ·exact .inl q
  ·exact .inr ⟨q,PySem.W.cellsFrom_some _ _ _ (.inl q)⟩
 refine codeAny_call_function hr.depth (KX _ _ lk) rfl S.co S.gen rfl (PySem.W.codeRec_of KX hcd) (hb _ _ _ _ ?_)
 refine wpAny_newFunctionEnv_cells S.kind hkind λenv he s1 x=>?_
 subst he
 refine⟨lim.keeps x.toInCall.keep,codeAny_func ?_⟩
 obtain⟨t,ht,hq⟩:=hbody A outer s H vs Q E (hr.deeper _) hsp
 have I:Inv (cxOf CX P w K mg base N qual scope f cdv A outer s H E) [] (start N vs) H s1:=jgs S hr.hd e0 hl r x
 refine Oo (ht [] s1 (start N vs) H _ I hq) (λfl s' hs=>?_) λe s' hs=>hs
 have fin:∀{σ':St}{H':Hp}{v:V}{u:Value},Inv (cxOf CX P w K mg base N qual scope f cdv A outer s H E) [] σ' H' s'->RelV v u->Q v H'->CE outer P w H s Q u s' :=
  fun{σ' H' v u} J rv q=>⟨v,H',J.os,J.bare,J.base,J.hok,rv,q⟩
 cases fl with
 |ret u =>
  obtain⟨v,σ',H',J,rv,q⟩:=hs
  exact fin J rv q
 |next =>
  obtain⟨σ',H',J,q⟩:=hs
  exact fin (v:=V.non) (u:=Value.none) J rfl q
 |brk =>
  obtain⟨_,_,_,q⟩:=hs
  exact False.elim q
 |cont =>
  obtain⟨_,_,_,q⟩:=hs
  exact False.elim q
section
variable{X:Cx}{x:Str}{p pos:Pos}{e:Expr}{es:List Expr}{t:TA}{id T:String}{r:List V->Hp->VK->Prop}
def tCB(r:List V->Hp->VK->Prop)(t:TA):TE:=λσ H Q=>t σ H λvs H1=>r vs H1 Q
theorem pe_callB(hc:jcd X (.builtin id) r)(hg:Gl X x)(hm:X.mg x=none)(hv:bootBuiltins x=some (.builtin id))(ha:PA X (e::es) t)(hn:x≠"__name__":=by decide)(hdb:(x == ("__debug__":Str))=false:=by decide)
  (he:starEach (e::es) X.env=(false,eval e X.env)::starEach es X.env:=by rfl) (hpl:(backTo pos (starEach es X.env)).any (·.1)=false:=by rfl):PE X (.Call (.Name x p) (e::es) [] pos) (tCB r t):=by
 intro pins s σ H Q I h
 refine Ow (jd7 I hg hm hv ?_ hn hdb)
 exact PyProof.Rows.callWith_builtin1 (thn (ha pos pins s σ H _ I h) λus s1 ⟨vs,H1,I1,r1,q1⟩=>hc pins s1 σ H1 vs us Q I1 r1 q1) he hpl
theorem pe_callTy(hc:jcd X (.type T) r)(hg:Gl X x)(hm:X.mg x=none)(hv:bootBuiltins x=some (.type T))(ha:PA X (e::es) t)(hn:x≠"__name__":=by decide)(hdb:(x == ("__debug__":Str))=false:=by decide)
  (he:starEach (e::es) X.env=(false,eval e X.env)::starEach es X.env:=by rfl) (hpl:(backTo pos (starEach es X.env)).any (·.1)=false:=by rfl):PE X (.Call (.Name x p) (e::es) [] pos) (tCB r t):=by
 intro pins s σ H Q I h
 refine Ow (jd7 I hg hm hv ?_ hn hdb)
 exact O3 (thn (ha pos pins s σ H _ I h) λus s1 ⟨vs,H1,I1,r1,q1⟩=>hc pins s1 σ H1 vs us Q I1 r1 q1) he hpl
end
end L2
namespace HT
open PySem PyProof.Rows
section
variable{prog:Program}{w:World}{A:Around}{E:Value->Shared->Prop}{s:Shared}
theorem cat_tup{t b:Addr}{vs ws:List Value}{Q:Value->Shared->Prop}(ht:IsTup s.heap t vs.toArray)(hb:IsTup s.heap b ws.toArray)(hv:vs≠[])
  (h1:ws=[]->Q (.ref t) s) (h2:ws≠[]->Q (.ref s.heap.objs.size) {s with heap:=s.heap.push {cls:=.type "tuple",data:=.seq (vs++ws).toArray}})
  (hsz:vs.length+ws.length<=sizeLine):wpAny (model prog w) A (binaryOp .Add (.ref t) (.ref b)) Q E s:=by
 obtain⟨⟨cls,dd,data,sl⟩,ho,hc,n,hd⟩:=id ht
 obtain⟨⟨cls2,dd2,data2,sl2⟩,ho2,hc2,n2,hd2⟩:=id hb
 simp only at hc hd hc2 hd2
 subst hc hd hc2 hd2
 have e:vs.toArray++ws.toArray=(vs++ws).toArray:=by simp
 by_cases hw:ws=[]
 ·exact concat_meets ⟨_,ho,rfl⟩ ⟨_,ho2,rfl⟩ noFill_tuple_add seq_tuple_add PySem.F.slot_tuple_add PySem.F.entry_tuple_add (PySem.F.args_tuple_add_2 _ _)
   (tuple_addW1 t b vs.toArray ws.toArray n n2 dd dd2 sl sl2 (by simpa using hv) (by simp[hw])) ⟨ho,ho2,h1 hw⟩
 ·refine concat_meets ⟨_,ho,rfl⟩ ⟨_,ho2,rfl⟩ noFill_tuple_add seq_tuple_add PySem.F.slot_tuple_add PySem.F.entry_tuple_add (PySem.F.args_tuple_add_2 _ _)
   (tuple_addW2 t b vs.toArray ws.toArray n n2 dd dd2 sl sl2 (by simpa using hv) (by simpa using hw) (by rw[Aj,Aj];exact hsz)) ⟨ho,ho2,?_⟩
  rw[e]
  exact h2 hw
def sIx(n d:Nat):Option Int->Nat
 |none=>d
 |some v=>if v<0 then(v+(n:Int)).toNat else min v.toNat n
theorem jop(n d:Nat)(hd:d<=n)(o:Option Int):sIx n d o<=n:=by
 cases o with
 |none=>exact hd
 |some v =>
  show(if v<0 then(v+(n:Int)).toNat else min v.toNat n)<=n
  by_cases hv:v<0
  ·rw[Ag hv];omega
  ·rw[Ae hv];exact Nat.min_le_right _ _
theorem jji(v:Int)(n d:Nat):(if v<0 then max (v+(n:Int)) 0 else min v (n:Int))=((sIx n d (some v):Nat):Int):=by
 show(if v<0 then max (v+(n:Int)) 0 else min v (n:Int))=(((if v<0 then(v+(n:Int)).toNat else min v.toNat n):Nat):Int)
 by_cases hv:v<0
 ·simp only[Ag hv];omega
 ·simp only[Ae hv];omega
theorem jka(lo hi:Option Int)(n:Nat):Builtin.Slice.sliceAdjust lo hi 1 (n:Int)=(((sIx n 0 lo:Nat):Int),((sIx n n hi:Nat):Int)):=by
 have h1:¬((1:Int)<0):=by omega
 unfold Builtin.Slice.sliceAdjust
 simp only[h1,Oe]
 refine Prod.ext ?_ ?_
 ·cases lo with
  |none=>rfl
  |some v=>exact jji v n 0
 ·cases hi with
  |none=>rfl
  |some v=>exact jji v n n
theorem places_gen(i j:Nat):Builtin.Slice.slicePlaces (i:Int) (j:Int) 1=j-i:=by
 unfold Builtin.Slice.slicePlaces
 have h1:(1:Int)>0:=by omega
 simp only[h1,Of,Int.ediv_one]
 split <;> omega
theorem jfv{v:Value}{o:Option Int}{Q:Option Int->Shared->Prop}(p:IsPart v o)(h:Q o s):wpAny (model prog w) A (Builtin.Slice.slicePartIndex v) Q E s:=by
 cases p with
 |none=>exact slicePart_none h
 |int i t=>exact slicePart_int h
theorem je9{sl:Addr}{vl vu:Value}{lo hi:Option Int}{n:Nat}{Q:Int×Int×Nat->Shared->Prop}(hs:s.heap.IsSliceOf sl vl vu .none)(pl:IsPart vl lo)(pu:IsPart vu hi)
  (h:Q (((sIx n 0 lo:Nat):Int),1,sIx n n hi-sIx n 0 lo) s):wpAny (model prog w) A (Builtin.Slice.sliceApplied (.ref sl) (pure (n:Int))) Q E s:=by
 obtain⟨os,hos,hcs,hds⟩:=id hs
 unfold Builtin.Slice.sliceApplied Builtin.Slice.sliceFields
 refine Ah (Ah (wpAny_field hos hds (x:=vl) rfl (Ah (wpAny_field hos hds (x:=vu) rfl (Ah (wpAny_field hos hds (x:=.none) rfl (Ap ?_)))))))
 refine Ah (slicePart_none ?_)
 show wpAny _ _ (if((1:Int) == 0)=true then _ else _) _ _ s
 rw[Ae (by decide)]
 refine Ah (jfv pl (Ah (jfv pu (Ah (Ap ?_)))))
 show wpAny _ _ (match Builtin.Slice.sliceAdjust lo hi 1 (n:Int)with|(lo,hi)=>pure (lo,(1:Int),Builtin.Slice.slicePlaces lo hi 1)) _ _ s
 rw[jka lo hi n]
 show wpAny _ _ (pure (((sIx n 0 lo:Nat):Int),(1:Int),Builtin.Slice.slicePlaces ((sIx n 0 lo:Nat):Int) ((sIx n n hi:Nat):Int) 1)) _ _ s
 rw[places_gen]
 exact Ap h
theorem pick_gen(xs:Array Value)(i k:Nat):((List.range k).filterMap fun(m:Nat)=>xs[((i:Int)+(m:Int)*1).toNat]?).toArray=((xs.toList.drop i).take k).toArray:=by
 have e:(fun(m:Nat)=>xs[((i:Int)+(m:Int)*1).toNat]?)=λm=>xs[i+m]?:=by
  funext m
  have:((i:Int)+(m:Int)*1).toNat=i+m:=by omega
  rw[this]
 rw[e]
 have:=pick_run xs i k
 rw[List.filterMap_map]at this
 have e2:((λx=>xs[x]?)∘λx=>i+x)=λm=>xs[i+m]?:=rfl
 rw[e2]at this
 rw[this]
theorem getItem_tuple_cut{t sl:Addr}{items:Array Value}{vl vu:Value}{lo hi:Option Int}{Q:Value->Shared->Prop}(ht:IsTup s.heap t items)(hs:s.heap.IsSliceOf sl vl vu .none)(pl:IsPart vl lo)(pu:IsPart vu hi)
  (hw:¬(sIx items.size 0 lo=0/\sIx items.size items.size hi=items.size))
  (h:Q (.ref s.heap.objs.size) {s with heap:=s.heap.push {cls:=.type "tuple",data:=.seq ((items.toList.drop (sIx items.size 0 lo)).take (sIx items.size items.size hi-sIx items.size 0 lo)).toArray}})
  (hsz:items.size<=sizeLine):wpAny (model prog w) A (getItem (.ref t) (.ref sl)) Q E s:=by
 have htake:sizeOk (.seq ((items.toList.drop (sIx items.size 0 lo)).take (sIx items.size items.size hi-sIx items.size 0 lo)).toArray):=by
  show((items.toList.drop (sIx items.size 0 lo)).take (sIx items.size items.size hi-sIx items.size 0 lo)).toArray.size<=sizeLine
  rw[Aj,Ir,Ur,Array.length_toList]
  omega
 have hj:sIx items.size items.size hi<=items.size:=jop _ _ (Ac _) hi
 obtain⟨os,hos,hcs,hds⟩:=id hs
 have hTs:s.TypeIs (.ref sl) "slice":=⟨os,hos,hcs⟩
 unfold getItem
 try with_reducible refine Uo ?_
 first|refine Ah (Ap ?_)|skip
 refine Ah (wpAny_sequenceKey ht.typeIs (by decide) ?_)
 refine Ah (Uf (name:=Str.ofString "__getitem__") ht.typeIs Ot
  (wpAny_call_entry Ot ht.typeIs entry_tuple_getitem ?_ (args_tuple_getitem _ _)))
 show wpAny _ _ (Builtin.Tuple.tupleItemsOf (.ref t) >>= _) _ _ s
 refine Ah (tupleItemsOf_ ht ?_)
 refine Ah (wpAny_typeOf hTs ?_)
 rw[Ag (by decide)]
 refine Ah (je9 hs pl pu ?_)
 have hno:¬((((sIx items.size 0 lo:Nat):Int) == 0 && (1:Int) == 1 && (sIx items.size items.size hi-sIx items.size 0 lo) == items.size)=true):=by
  intro q
  rw[Oa,Oa]at q
  have q1:((sIx items.size 0 lo:Nat):Int)=0:=eq_of_beq q.1.1
  have q2:sIx items.size items.size hi-sIx items.size 0 lo=items.size:=eq_of_beq q.2
  exact hw ⟨by omega,by omega⟩
 show wpAny _ _ (if(((sIx items.size 0 lo:Nat):Int) == 0 && (1:Int) == 1 && (sIx items.size items.size hi-sIx items.size 0 lo) == items.size)=true then _ else _) _ _ s
 rw[Ae hno,pick_gen]
 first
  |exact Ah (m:=Builtin.Tuple.tupleExact _) (On (Ap ⟨_,rfl,Ap h⟩) htake)
  |exact Ah (m:=Builtin.Tuple.tupleExact _) (On (Ah (Ap (Ap ⟨_,rfl,Ap h⟩))) htake)
  |exact Ah (Ah (m:=Builtin.Tuple.tupleExact _) (On (Ap (Ap ⟨_,rfl,Ap h⟩)) htake))
  |exact Ah (Ah (m:=Builtin.Tuple.tupleExact _) (On (Ap ⟨_,rfl,Ap h⟩) htake))
end
end HT
namespace L2
open PySem PySem.Spec PyProof.Rows
abbrev TO:=St->Hp->(Option Int->Hp->Prop)->Prop
def PO(X:Cx)(e:Option Expr)(t:TO):Prop :=
 ∀(pins:List (Addr×Obj))(s:Shared)(σ:St)(H:Hp)(Q:Option Int->Hp->Prop),Inv X pins σ H s->t σ H Q ->
  wpAny (model X.prog X.w) X.A (evalPart e X.env) (λu s'=>∃o H',Inv X pins σ H' s'/\IsPart u o/\Q o H') X.xe s
def jer:TO:=λ_ H Q=>Q none H
def jhy(t:TE):TO:=λσ H Q=>t σ H λx H1=>∃i,x=.int i/\Q (some i) H1
section
variable{X:Cx}{e:Expr}{te:TE}{lo hi:Option Expr}{tl th:TO}{pos p2:Pos}
theorem po_none:PO X none jer:=by
 intro pins s σ H Q I h
 rw[evalPart_none]
 exact Ap ⟨none,H,I,.none,h⟩
theorem po_some(h:PE X e te):PO X (some e) (jhy te):=by
 intro pins s σ H Q I hw
 rw[evalPart_some]
 refine thn (h pins s σ H _ I hw) λu s1 ⟨x,H1,I1,r1,q1⟩=>?_
 obtain⟨i,rfl,q⟩:=q1
 obtain⟨t,rfl⟩:=r1
 exact⟨some i,H1,I1,.int i t,q⟩
def SlR(X:Cx)(r:V->Option Int->Option Int->Hp->VK->Prop):Prop :=
 ∀(pins:List (Addr×Obj))(s:Shared)(σ:St)(H:Hp)(x:V)(v vl vu:Value)(lo hi:Option Int)(sl:Addr)(Q:VK),Inv X pins σ H s->RelV x v->s.heap.IsSliceOf sl vl vu .none->IsPart vl lo->IsPart vu hi->r x lo hi H Q ->
  ∃T id,typeLookup (.type T) "__getitem__"=pure (some (.builtin id))/\s.TypeIs v T/\wpAny (model X.prog X.w) X.A (getItem v (.ref sl)) (EP X pins σ Q) X.xe s
def tSl(r:V->Option Int->Option Int->Hp->VK->Prop)(te:TE)(tl th:TO):TE:=λσ H Q=>te σ H λx H1=>tl σ H1 λl H2=>th σ H2 λu H3=>r x l u H3 Q
theorem pe_slice{r:V->Option Int->Option Int->Hp->VK->Prop}(hr:SlR X r)(he:PE X e te)(hl:PO X lo tl)(hu:PO X hi th):PE X (.Subscript e (.Slice lo hi none p2) pos) (tSl r te tl th):=by
 intro pins s σ H Q I h
 refine Subscript_ (thn (he pins s σ H _ I h) λv s1 ⟨x,H1,I1,r1,q1⟩=>?_)
 refine wpAny_Slice (thn (hl pins s1 σ H1 _ I1 q1) λvl s2 ⟨l,H2,I2,pl,q2⟩=>thn (hu pins s2 σ H2 _ I2 q2) λvu s3 ⟨u,H3,I3,pu,q3⟩=>?_)
 rw[evalPart_none]
 refine Ap ?_
 have I4:Inv X pins σ H3 {s3 with heap:=s3.heap.push {cls:=.type "slice",data:=.fields #[vl,vu,.none]}}:=I3.kept (t':=s3.toks) λb ob q=>Ad _ q
 obtain⟨T,id,hT,ht,hg⟩:=hr pins {s3 with heap:=s3.heap.push {cls:=.type "slice",data:=.fields #[vl,vu,.none]}} σ H3 x v vl vu l u s3.heap.objs.size Q I4 r1 (Heap.IsSliceOf.new ..) pl pu q3
 show wpAny (model X.prog X.w) X.A (subscriptTail e (.Slice lo hi none p2) v (.ref s3.heap.objs.size)) (EP X pins σ Q) X.xe {s3 with heap:=s3.heap.push {cls:=.type "slice",data:=.fields #[vl,vu,.none]}}
 exact tail_any (ops:=[.ref s3.heap.objs.size,v]) ht hT hg (by with_unfolding_all rfl)
def cutV(xs:List V)(lo hi:Option Int):List V:=(xs.drop (HT.sIx xs.length 0 lo)).take (HT.sIx xs.length xs.length hi-HT.sIx xs.length 0 lo)
theorem jex(xs:List V)(lo hi:Option Int):(cutV xs lo hi).length<=xs.length:=by
 unfold cutV
 rw[Ir,Ur]
 omega
def rSlT(K:PySem.W.Frag):V->Option Int->Option Int->Hp->VK->Prop:=λx lo hi H Q=>∃a xs,x=.ref a/\SqT K H a xs /\
 ¬(HT.sIx xs.length 0 lo=0/\HT.sIx xs.length xs.length hi=xs.length)/\∀p,H p=none->Q (.ref p) (upd H p (.tup (cutV xs lo hi)))
theorem sl_tup:SlR X (rSlT X.K):=by
 intro pins s σ H x v vl vu lo hi sl Q I rx hs pl pu h
 obtain⟨a,xs,rfl,hx,hw,q⟩:=h
 cases rx
 obtain⟨its,r,ht,hz⟩:=I.tuple hx
 have hlen:its.toArray.size=xs.length:=by rw[Aj];exact r.length.symm
 refine⟨"tuple",_,Ot.lookup,ht.typeIs,?_⟩
 refine HT.getItem_tuple_cut ht hs pl pu (by rw[hlen];exact hw) ?_ (by rw[hlen];exact hz)
 rw[hlen]
 refine⟨.ref s.heap.objs.size,_,I.laid (t':=s.toks) (o:=.tup (cutV xs lo hi)) (λb ob q=>Ad _ q) (Ac _) ?_,rfl,q _ (I.hok.fresh (Ac _))⟩
 exact⟨Ig (jex xs lo hi) hz,_,(r.drop (HT.sIx xs.length 0 lo)).take (HT.sIx xs.length xs.length hi-HT.sIx xs.length 0 lo),IsTup.new _ _⟩
def jo2(K:PySem.W.Frag):R2:=λx y H Q=>∃a b xs ys,x=.ref a/\y=.ref b/\SqT K H a xs/\SqT K H b ys/\xs≠[]/\xs.length+ys.length<=sizeLine /\
 (ys=[]->Q (.ref a) H)/\(ys≠[]->∀p,H p=none->Q (.ref p) (upd H p (.tup (xs++ys))))
theorem Vals.nil_iff{xs:List V}{us:List Value}(r:Vals xs us):us=[]↔xs=[]:=by
 cases r with
 |nil=>simp
 |cons _ _=>simp
theorem op_catT:OpR X (binaryOp .Add) (jo2 X.K):=by
 intro pins s σ H x y v u Q I rx ry h
 obtain⟨a,b,xs,ys,rfl,rfl,ha,hb,hx,hz,q1,q2⟩:=h
 cases rx
 cases ry
 obtain⟨its,r1,p1,_⟩:=I.tuple ha
 obtain⟨its2,r2,p2,_⟩:=I.tuple hb
 refine HT.cat_tup p1 p2 (λz=>hx (r1.nil_iff.mp z)) (λz=>⟨.ref a,H,I,rfl,q1 (r2.nil_iff.mp z)⟩) (λz=>?_) (by rw[<-r1.length,<-r2.length];exact hz)
 refine⟨.ref s.heap.objs.size,_,I.laid (t':=s.toks) (o:=.tup (xs++ys)) (λb ob q=>Ad _ q) (Ac _) ?_,rfl,q2 (λw=>z (r2.nil_iff.mpr w)) _ (I.hok.fresh (Ac _))⟩
 exact⟨by rw[A4];exact hz,_,r1.append r2,IsTup.new _ _⟩
end
def ixN(n:Nat)(i:Int):Option Nat:=if 0<=i then(if i<n then some i.toNat else none)else if -(n:Int)<=i then some (i+n).toNat else none
def atI{α:Type}(xs:List α)(i:Int):Option α:=(ixN xs.length i).bind λj=>xs[j]?
theorem jjr{n:Nat}{i:Int}{j:Nat}(h:ixN n i=some j):seqIndex? i n=some j/\j<n/\-(n:Int)<=i/\i<n:=by
 unfold ixN at h
 by_cases h0:0<=i
 ·rw[Ag h0]at h
  by_cases h1:i<n
  ·rw[Ag h1]at h
   have e:i.toNat=j:=Ar h
   exact⟨by rw[seqIndex_of h0 h1,e],by omega,by omega,h1⟩
  ·rw[Ae h1]at h;cases h
 ·rw[Ae h0]at h
  by_cases h1:-(n:Int)<=i
  ·rw[Ag h1]at h
   have e:(i+n).toNat=j:=Ar h
   exact⟨by rw[seqIndex_neg (by omega) h1,e],by omega,h1,by omega⟩
  ·rw[Ae h1]at h;cases h
theorem jf3{α:Type}{xs:List α}{i:Int}{v:α}(h:atI xs i=some v):∃j,seqIndex? i xs.length=some j/\xs[j]?=some v/\j<xs.length/\-(xs.length:Int)<=i/\i<xs.length:=by
 unfold atI at h
 cases e:ixN xs.length i with
 |none=>rw[e]at h;cases h
 |some j =>
  rw[e]at h
  obtain⟨h1,h2,h3,h4⟩:=jjr e
  exact⟨j,h1,h,h2,h3,h4⟩
theorem jdl{α:Type}{xs:List α}{j:Nat}{v:α}(h:xs[j]?=some v):atI xs (j:Int)=some v:=by
 have hj:j<xs.length:=(Aa.mp h).1
 have e:ixN xs.length (j:Int)=some j:=by
  unfold ixN
  rw[Ag (by omega),Ag (by omega)];simp
 unfold atI;rw[e];exact h
theorem jdr{α:Type}(xs:List α)(v:α):atI (xs++[v]) (-1)=some v:=by
 have hl:(xs++[v]).length=xs.length+1:=by simp
 have e:ixN (xs++[v]).length (-1)=some xs.length:=by
  unfold ixN
  rw[hl,Ae (by decide),Ag (by omega)]
  congr 1
  omega
 unfold atI
 rw[e]
 show(xs++[v])[xs.length]?=some v
 simp
def jjh(b:Expr):Prop:=∀o i,subscripted b false o i=operate [o,i] (getItem o i)
def IxR(X:Cx)(r:R2):Prop :=
 ∀(value slice:Expr)(pins:List (Addr×Obj))(s:Shared)(σ:St)(H:Hp)(x y:V)(v u:Value)(Q:VK),Inv X pins σ H s->RelV x v->RelV y u->r x y H Q ->
  subscripted slice false v u=operate [v,u] (getItem v u)->wpAny (model X.prog X.w) X.A (subscriptTail value slice v u) (EP X pins σ Q) X.xe s
def MtR(X:Cx)(id:String)(r:V->List V->Hp->VK->Prop):Prop :=
 ∀(pins:List (Addr×Obj))(s:Shared)(σ:St)(H:Hp)(x:V)(xs:List V)(v:Value)(us:List Value)(Q:VK),Inv X pins σ H s->RelV x v->Vals xs us->r x xs H Q ->
  wpAny (model X.prog X.w) X.A (call (.builtin id) (v::us)) (EP X pins σ Q) X.xe s
section
variable{X:Cx}{a b:Expr}{ta tb:TE}{pos:Pos}
theorem IxR.or{r r':R2}(h:IxR X r)(h':IxR X r'):IxR X (λx y H Q=>r x y H Q\/r' x y H Q):=by
 intro value slice pins s σ H x y v u Q I rx ry q hs
 rcases q with q|q
 ·exact h value slice pins s σ H x y v u Q I rx ry q hs
 ·exact h' value slice pins s σ H x y v u Q I rx ry q hs
theorem pe_ix{r:R2}(hr:IxR X r)(ha:PE X a ta)(hb:PE X b tb)(hs:jjh b):PE X (.Subscript a b pos) (tOp r ta tb):=by
 intro pins s σ H Q I h
 exact Subscript_ (binT ha hb I h λv u s2 x y H2 I2 rx ry q=>hr a b pins s2 σ H2 x y v u Q I2 rx ry q (hs _ _))
def rIxL(K:PySem.W.Frag):R2:=λx y H Q=>∃p xs i v,x=.ref p/\y=.int i/\SqL K H p xs/\atI xs i=some v/\Q v H
def rIxT(K:PySem.W.Frag):R2:=λx y H Q=>∃p xs i v,x=.ref p/\y=.int i/\SqT K H p xs/\atI xs i=some v/\Q v H
def rIxS:R2:=λx y H Q=>∃z i c,x=.str z/\y=.int i/\z.length<=sizeLine/\atI z.cps.toList i=some c/\Q (.str ⟨#[c]⟩) H
theorem ja4:IxR X (rIxL X.K):=by
 intro value slice pins s σ H x y v u Q I rx ry h hs
 obtain⟨p,xs,i,z,rfl,rfl,hq,he,q⟩:=h
 cases rx
 obtain⟨t,rfl⟩:=ry
 obtain⟨its,r,pl,hz⟩:=I.list hq
 obtain⟨j,h1,h2,h3,h4,h5⟩:=jf3 he
 obtain⟨w,ew,rw'⟩:=r.get h2
 have hl:=r.length
 have hn:=jdc
 have fin:EP X pins σ Q w s:=⟨z,H,I,rw',q⟩
 by_cases h0:0<=i
 ·have hj:i.toNat=j:=by
   rw[seqIndex_of h0 h5]at h1
   exact Ar h1
  exact item_listR pl.isList h0 (by omega) (by rw[hj];simpa using ew) fin hs
 ·have hj:(i+(its.toArray.size:Int)).toNat=j:=by
   rw[seqIndex_neg (by omega) h4]at h1
   rw[Aj,<-hl]
   exact Ar h1
  exact subscriptTail_builtinR (x:=w) pl.isList.typeIs slot_list_getitem.lookup
   (wpAny_getItem_list_neg (Q:=λr s'=>r=w/\EP X pins σ Q r s') pl.isList (by omega) (by rw[Aj] <;> omega) (by omega) (by rw[hj];simpa using ew) ⟨rfl,fin⟩) hs
theorem jb0:IxR X (rIxT X.K):=by
 intro value slice pins s σ H x y v u Q I rx ry h hs
 obtain⟨p,xs,i,z,rfl,rfl,hq,he,q⟩:=h
 cases rx
 obtain⟨t,rfl⟩:=ry
 obtain⟨its,r,pl,hz⟩:=I.tuple hq
 obtain⟨j,h1,h2,h3,h4,h5⟩:=jf3 he
 obtain⟨w,ew,rw'⟩:=r.get h2
 have hl:=r.length
 have hn:=jdc
 have fin:EP X pins σ Q w s:=⟨z,H,I,rw',q⟩
 exact subscriptTail_builtinR (x:=w) pl.typeIs slot_tuple_getitem.lookup
  (getItem_tuple (j:=j) (Q:=λr s'=>r=w/\EP X pins σ Q r s') pl (by omega) (by omega) (by rw[Aj,<-hl];exact h1) (by simpa using ew) ⟨rfl,fin⟩) hs
theorem ix_str:IxR X rIxS:=by
 intro value slice pins s σ H x y v u Q I rx ry h hs
 obtain⟨z,i,c,rfl,rfl,hz,he,q⟩:=h
 obtain⟨t,rfl⟩:=rx
 obtain⟨t',rfl⟩:=ry
 obtain⟨j,h1,h2,h3,h4,h5⟩:=jf3 he
 have hl:z.cps.toList.length=z.length:=by simp[Str.length]
 rw[hl]at h1 h4 h5
 have hn:=jdc
 exact tail_any (typeIs_str s z t) slot_str_getitem.lookup (getItem_str (c:=c) (by
  have e1:decide (i < -(2^63:Int))=false:=A8 (by omega)
  have e2:decide (i ≥ 2^63)=false:=A8 (by omega)
  rw[e1,e2,Bool.or_false]) (by rw[h1];simpa using h2) ⟨.str ⟨#[c]⟩,H,I.tok _,⟨_,rfl⟩,q⟩) hs
theorem jkm(its:List Value)(n j:Nat)(u:Value):Obj.mapSeq (·.setIfInBounds j u) {cls:=.type "list",data:=.seq its.toArray n}={cls:=.type "list",data:=.seq (its.set j u).toArray n}:=by
 simp[Obj.mapSeq]
theorem Inv.lst{pins:List (Addr×Obj)}{σ:St}{H:Hp}{s:Shared}{p:Addr}{xs:List V}(I:Inv X pins σ H s)(h:H p=some (.lst xs)) :
  ∃(its:List Value)(n:Nat),Vals xs its/\s.heap.get? p=some {cls:=.type "list",data:=.seq its.toArray n}/\xs.length<=sizeLine:=by
 obtain⟨z,its,n,r,e⟩:=I.hok p _ h
 exact⟨its,n,r,e,z⟩
theorem Inv.lstUpd{pins:List (Addr×Obj)}{σ:St}{H:Hp}{s:Shared}{p:Addr}{xs ys:List V}{its its':List Value}{n n':Nat}{f:Obj->Obj}(I:Inv X pins σ H s)(h:H p=some (.lst xs))
  (ho:s.heap.get? p=some {cls:=.type "list",data:=.seq its.toArray n}) (hf:f {cls:=.type "list",data:=.seq its.toArray n}={cls:=.type "list",data:=.seq its'.toArray n'}) (r:Vals ys its') (hz:ys.length<=sizeLine) (t:Nat) :
  Inv X pins σ (upd H p (.lst ys)) {s with heap:=s.heap.update p f,toks:=t}:=by
 have e:(s.heap.update p f).get? p=some {cls:=.type "list",data:=.seq its'.toArray n'}:=by
  rw[Uu f ho (by rw[hf] <;> rfl),hf]
 refine I.write (x:=p) (e:=p) (by rw[h];trivial) (.inl rfl) (λb u hb q=>(Heap.get?_update_other _ _ (Ut hb)).trans q) ⟨_,e⟩ ?_
 exact⟨hz,its',n',r,e⟩
def jo3:V->V->V->Hp->(Hp->Prop)->Prop:=λo i v H Q=>∃p xs k j,o=.ref p/\i=.int k/\H p=some (.lst xs)/\ixN xs.length k=some j/\Q (upd H p (.lst (xs.set j v)))
theorem jml:PSet X jo3:=by
 intro pins s σ H o i v ov iv u Q I ro ri rv h
 obtain⟨p,xs,k,j,rfl,rfl,hp,hj,q⟩:=h
 cases ro
 obtain⟨t,rfl⟩:=ri
 obtain⟨its,n,r,ho,hz⟩:=I.lst hp
 obtain⟨h1,h2,h3,h4⟩:=jjr hj
 have hl:=r.length
 have hn:=jdc
 have I':Inv X pins σ (upd H p (.lst (xs.set j v))) {s with heap:=s.heap.update p (Obj.mapSeq (·.setIfInBounds j u))} :=
  I.lstUpd hp ho (jkm its n j u) (r.set rv j) (by rw[List.length_set];exact hz) s.toks
 by_cases h0:0<=k
 ·have hk:k.toNat=j:=by
   rw[seqIndex_of h0 h4]at h1
   exact Ar h1
  exact PySem.W.ki_setAt ho h0 (by omega) (by rw[Aj,<-hl];exact h4) (by rw[hk];exact⟨_,I',q⟩)
 ·have hk:(k+(its.toArray.size:Int)).toNat=j:=by
   rw[seqIndex_neg (by omega) h3]at h1
   rw[Aj,<-hl]
   exact Ar h1
  exact PySem.W.ki_setBack ho (by omega) (by rw[Aj,<-hl];exact h3) (by omega) (by rw[hk];exact⟨_,I',q⟩)
theorem ji3(lo hi:Option Int)(n:Nat):(sliceBounds lo hi none n).1=((HT.sIx n 0 lo:Nat):Int)/\(sliceBounds lo hi none n).2.1=((HT.sIx n n hi:Nat):Int)/\(sliceBounds lo hi none n).2.2=1:=by
 refine⟨?_,?_,rfl⟩
 ·cases lo with
  |none=>simp[sliceBounds,HT.sIx]
  |some i =>
   simp only[sliceBounds,HT.sIx,Option.getD_none,show(1:Int)>0 by decide,Of]
   by_cases h:i<0
   ·simp only[h,Of] <;> omega
   ·simp only[h,Oe] <;> omega
 ·cases hi with
  |none=>simp[sliceBounds,HT.sIx]
  |some i =>
   simp only[sliceBounds,HT.sIx,Option.getD_none,show(1:Int)>0 by decide,Of]
   by_cases h:i<0
   ·simp only[h,Of] <;> omega
   ·simp only[h,Oe] <;> omega
theorem jhi(its:List Value)(lo hi:Option Int):slicePick its.toArray lo hi none=((its.drop (HT.sIx its.length 0 lo)).take (HT.sIx its.length its.length hi-HT.sIx its.length 0 lo)).toArray:=by
 obtain⟨h1,h2,h3⟩:=ji3 lo hi its.toArray.size
 unfold slicePick
 rw[h1,h2,h3]
 simp only[sliceRange_one,pick_run,Aj] <;> rfl
def rSlL(K:PySem.W.Frag):V->Option Int->Option Int->Hp->VK->Prop:=λx lo hi H Q=>∃a xs,x=.ref a/\SqL K H a xs/\∀p,H p=none->Q (.ref p) (upd H p (.lst (cutV xs lo hi)))
theorem sl_list:SlR X (rSlL X.K):=by
 intro pins s σ H x v vl vu lo hi sl Q I rx hs pl pu h
 obtain⟨a,xs,rfl,hx,q⟩:=h
 cases rx
 obtain⟨its,r,ht,hz⟩:=I.list hx
 have hlen:=r.length
 refine⟨"list",_,slot_list_getitem.lookup,ht.isList.typeIs,?_⟩
 refine wpAny_getItem_list_slice ht.isList hs pl pu .none (by simp) ?_ (by rw[Aj] <;> omega)
 rw[jhi,<-hlen]
 refine⟨.ref s.heap.objs.size,_,I.laid (t':=s.toks) (o:=.lst (cutV xs lo hi)) (λb ob q=>Ad _ q) (Ac _) ?_,rfl,q _ (I.hok.fresh (Ac _))⟩
 exact⟨Ig (jex xs lo hi) hz,_,0,(r.drop (HT.sIx xs.length 0 lo)).take (HT.sIx xs.length xs.length hi-HT.sIx xs.length 0 lo),Aw _ rfl⟩
def jcs:V->Bool
 |.non=>true
 |.bl _=>true
 |.int _=>true
 |.str _=>true
 |_=>false
def eqV:V->V->Bool
 |.non,.non=>true
 |.bl a,.bl b=>a == b
 |.bl a,.int b=>(if a then 1 else 0) == b
 |.int a,.bl b=>a == (if b then 1 else 0)
 |.int a,.int b=>a == b
 |.str a,.str b=>a == b
 |_,_=>false
theorem jn7{A:Around}{s:Shared}{y x:V}{u v:Value}(ry:RelV y u)(rx:RelV x v)(fy:jcs y=true)(fx:jcs x=true):SeqAt.EqAt A s u v (eqV y x):=by
 cases y with
 |non =>
  cases ry
  cases x with
  |non=>cases rx;exact SeqAt.EqAt.same _
  |bl b=>cases rx;exact SeqAt.EqAt.none_bool b
  |int b=>obtain⟨t,rfl⟩:=rx;exact SeqAt.EqAt.none_int b t
  |str b=>obtain⟨t,rfl⟩:=rx;exact SeqAt.EqAt.none_str b t
  |_=>exact absurd (show false=true from fx) Ay
 |bl a =>
  cases ry
  cases x with
  |non=>cases rx;exact SeqAt.EqAt.bool_none a
  |bl b=>cases rx;exact SeqAt.EqAt.bool_bool a b
  |int b=>obtain⟨t,rfl⟩:=rx;exact SeqAt.EqAt.bool_int a b t
  |str b=>obtain⟨t,rfl⟩:=rx;exact SeqAt.EqAt.bool_str a b t
  |_=>exact absurd (show false=true from fx) Ay
 |int a =>
  obtain⟨t',rfl⟩:=ry
  cases x with
  |non=>cases rx;exact SeqAt.EqAt.int_none a t'
  |bl b=>cases rx;exact SeqAt.EqAt.int_bool a t' b
  |int b=>obtain⟨t,rfl⟩:=rx;exact SeqAt.EqAt.int_int a t' b t
  |str b=>obtain⟨t,rfl⟩:=rx;exact SeqAt.EqAt.int_str a t' b t
  |_=>exact absurd (show false=true from fx) Ay
 |str a =>
  obtain⟨t',rfl⟩:=ry
  cases x with
  |non=>cases rx;exact SeqAt.EqAt.str_none a t'
  |bl b=>cases rx;exact SeqAt.EqAt.str_bool a t' b
  |int b=>obtain⟨t,rfl⟩:=rx;exact SeqAt.EqAt.str_int a t' b t
  |str b=>obtain⟨t,rfl⟩:=rx;exact SeqAt.EqAt.str_str a t' b t
  |_=>exact absurd (show false=true from fx) Ay
 |_=>exact absurd (show false=true from fy) Ay
def eqU(x:V)(u:Value):Bool:=match u with
 |.none=>eqV .non x
 |.bool b=>eqV (.bl b) x
 |.int i _=>eqV (.int i) x
 |.str z _=>eqV (.str z) x
 |_=>false
theorem jk5{x y:V}{u:Value}(r:RelV y u)(f:jcs y=true):eqU x u=eqV y x:=by
 cases y with
 |non=>cases r;rfl
 |bl b=>cases r;rfl
 |int i=>obtain⟨t,rfl⟩:=r;rfl
 |str z=>obtain⟨t,rfl⟩:=r;rfl
 |_=>exact absurd (show false=true from f) Ay
theorem jdk{x:V}:∀{xs:List V}{us:List Value},Vals xs us->xs.all jcs=true->us.any (eqU x)=xs.any λy=>eqV y x
 |_,_,.nil,_=>rfl
 |y::xs,u::us,.cons r t,f=>by
  rw[List.all_cons,Oa]at f
  rw[List.any_cons,List.any_cons,jk5 r f.1,jdk t f.2]
theorem jdd{A:Around}{s:Shared}{x:V}{v:Value}(rx:RelV x v)(fx:jcs x=true):∀{xs:List V}{us:List Value},Vals xs us->xs.all jcs=true->∀u∈us,SeqAt.EqAt A s u v (eqU x u)
 |_,_,.nil,_=>λu hu=>by cases hu
 |y::xs,u::us,.cons r t,f=>λu' hu=>by
  rw[List.all_cons,Oa]at f
  rcases A2.mp hu with rfl|hu
  ·rw[jk5 r f.1];exact jn7 r rx f.1 fx
  ·exact jdd rx fx t f.2 u' hu
def inV(x:V)(xs:List V):Bool:=xs.any λy=>eqV y x
def rIn(K:PySem.W.Frag)(neg:Bool):R2:=λx y H Q=>∃p xs,y=.ref p/\(SqL K H p xs\/SqT K H p xs)/\jcs x=true/\xs.all jcs=true/\Q (.bl (if neg then !inV x xs else inV x xs)) H
theorem op_in_seq:OpR X (compareOp .In) (rIn X.K false):=by
 intro pins s σ H x y v u Q I rx ry h
 obtain⟨p,xs,rfl,hq,fx,fs,q⟩:=h
 cases ry
 rcases hq with hq|hq
 ·obtain⟨its,r,pl,hz⟩:=I.list hq
  refine SeqAt.in_listAt (eqU x) pl.isList (λw hw=>jdd rx fx r fs w (by simpa using hw)) ⟨.bl _,H,I,rfl,?_⟩
  rw[show its.toArray.any (eqU x)=its.any (eqU x)by simp,jdk r fs]
  exact q
 ·obtain⟨its,r,pl,hz⟩:=I.tuple hq
  refine SeqAt.in_tupleAt (eqU x) pl (λw hw=>jdd rx fx r fs w (by simpa using hw)) ⟨.bl _,H,I,rfl,?_⟩
  rw[show its.toArray.any (eqU x)=its.any (eqU x)by simp,jdk r fs]
  exact q
theorem op_notIn_seq:OpR X (compareOp .NotIn) (rIn X.K true):=by
 intro pins s σ H x y v u Q I rx ry h
 obtain⟨p,xs,rfl,hq,fx,fs,q⟩:=h
 cases ry
 rcases hq with hq|hq
 ·obtain⟨its,r,pl,hz⟩:=I.list hq
  refine SeqAt.notIn_listAt (eqU x) pl.isList (λw hw=>jdd rx fx r fs w (by simpa using hw)) ⟨.bl _,H,I,rfl,?_⟩
  rw[show its.toArray.any (eqU x)=its.any (eqU x)by simp,jdk r fs]
  exact q
 ·obtain⟨its,r,pl,hz⟩:=I.tuple hq
  refine SeqAt.notIn_tupleAt (eqU x) pl (λw hw=>jdd rx fx r fs w (by simpa using hw)) ⟨.bl _,H,I,rfl,?_⟩
  rw[show its.toArray.any (eqU x)=its.any (eqU x)by simp,jdk r fs]
  exact q
theorem op_notIn_str:OpR X (compareOp .NotIn) (λx y H Q=>∃i j,x=.str i/\y=.str j/\Q (.bl (!(!(Builtin.Str.occurrences j i 0 j.length 1).isEmpty))) H):=by
 intro pins s σ H x y v u Q I rx ry h
 obtain⟨i,j,rfl,rfl,q⟩:=h
 obtain⟨t,rfl⟩:=rx
 obtain⟨t',rfl⟩:=ry
 exact notIn_str ⟨.bl _,H,I,rfl,q⟩
theorem zb:jcd X (.builtin "len") (λxs H Q=>∃p ys,xs=[.ref p]/\(SqL X.K H p ys\/SqT X.K H p ys)/\Q (.int ys.length) H):=by
 intro pins s σ H xs us Q I r h
 obtain⟨p,ys,rfl,hq,q⟩:=h
 obtain⟨u,rfl,rx⟩:=jc3 r
 cases rx
 have hn:=jdc
 rcases hq with hq|hq
 ·obtain⟨its,r',pl,hz⟩:=I.list hq
  have hlen:=r'.length
  exact Calls.call_len_list pl.isList (by simp only[Aj] <;> omega) ⟨.int ys.length,H,I.tok _,⟨s.toks+1,by rw[Aj,hlen]⟩,q⟩
 ·obtain⟨its,r',pl,hz⟩:=I.tuple hq
  have hlen:=r'.length
  exact len_tuple pl (by simp only[Aj] <;> omega) ⟨.int ys.length,H,I.tok _,⟨s.toks+1,by rw[Aj,hlen]⟩,q⟩
theorem call_len_str:jcd X (.builtin "len") (λxs H Q=>∃z,xs=[.str z]/\z.length<=sizeLine/\Q (.int z.length) H):=by
 intro pins s σ H xs us Q I r h
 obtain⟨z,rfl,hz,q⟩:=h
 obtain⟨u,rfl,t,rfl⟩:=jc3 r
 have hn:=jdc
 exact len_str (by omega) ⟨.int z.length,H,I.tok _,⟨_,rfl⟩,q⟩
theorem jar:jcd X (.type "list") (λxs H Q=>∃p ys,xs=[.ref p]/\(SqL X.K H p ys\/SqT X.K H p ys)/\∀l,H l=none->Q (.ref l) (upd H l (.lst ys))):=by
 intro pins s σ H xs us Q I r h
 obtain⟨p,ys,rfl,hq,q⟩:=h
 obtain⟨u,rfl,rx⟩:=jc3 r
 cases rx
 have fin:∀(its:List Value),Vals ys its->ys.length<=sizeLine->∀(h':Heap)(c':Nat),(∀b o',s.heap.get? b=some o'->h'.get? b=some o') ->
   h'.get? s.heap.objs.size=some {cls:=.type "list",dict:=none,data:=.seq its.toArray c',slots:=#[]}->EP X pins σ Q (.ref s.heap.objs.size) {s with heap:=h'}:=λits r' hz h' c' kp e =>
  ⟨.ref s.heap.objs.size,_,I.laid (t':=s.toks) kp (Ac _) (show ObjOk X.prog X.w _ h' _ (.lst ys)from⟨hz,its,c',r',e⟩),rfl,q _ (I.hok.fresh (Ac _))⟩
 rcases hq with hq|hq
 ·obtain⟨its,r',pl,hz⟩:=I.list hq
  have hlen:=r'.length
  obtain⟨o,ho,hc,n,hd⟩:=pl.isList
  exact call_list_seq p (.inl rfl) ho hc hd (λh' c' kp e=>fin its r' hz h' c' kp e) (by simp only[Aj] <;> omega)
 ·obtain⟨its,r',pl,hz⟩:=I.tuple hq
  have hlen:=r'.length
  obtain⟨o,ho,hc,n,hd⟩:=pl
  exact call_list_seq p (.inr rfl) ho hc hd (λh' c' kp e=>fin its r' hz h' c' kp e) (by simp only[Aj] <;> omega)
theorem jap:jcd X (.type "tuple") (λxs H Q=>∃p ys,xs=[.ref p]/\((SqL X.K H p ys/\∀l,H l=none->Q (.ref l) (upd H l (.tup ys)))\/(SqT X.K H p ys/\Q (.ref p) H))):=by
 intro pins s σ H xs us Q I r h
 obtain⟨p,ys,rfl,h⟩:=h
 obtain⟨u,rfl,rx⟩:=jc3 r
 cases rx
 rcases h with⟨hq,q⟩|⟨hq,q⟩
 ·obtain⟨its,r',pl,hz⟩:=I.list hq
  have hlen:=r'.length
  refine call_tuple_list pl.isList (λh' kp=>?_) (by simp only[Aj] <;> omega)
  have I1:Inv X pins σ H {s with heap:=h'}:=I.kept (t':=s.toks) kp
  have I2:Inv X pins σ (upd H h'.objs.size (.tup ys)) {s with heap:=h'.push {cls:=.type "tuple",data:=.seq its.toArray}} :=
   I1.laid (t':=s.toks) (λb o e=>Ad _ e) (Ac _) (show ObjOk X.prog X.w _ _ _ (.tup ys)from⟨hz,its,r',IsTup.new _ _⟩)
  exact⟨.ref h'.objs.size,_,I2,rfl,q _ (I1.hok.fresh (Ac _))⟩
 ·obtain⟨its,r',pl,hz⟩:=I.tuple hq
  exact call_tuple_same pl ⟨.ref p,H,I,rfl,q⟩
def tyV(K:PySem.W.Frag)(T:String)(x:V)(H:Hp):Prop:=match x with
 |.str _=>T="str"
 |.int _=>T="int"
 |.ref p=>(T="list"/\∃xs,SqL K H p xs)\/(T="tuple"/\∃o,K.lookup p=some o/\o.cls=.type "tuple"/\o.dict=none) \/
   (T="dict"/\((∃kvs,H p=some (.dK kvs))\/∃kvs,H p=some (.dT kvs)))\/(T="set"/\∃S n,H p=some (.set S n))
 |_=>False
theorem jlw{pins:List (Addr×Obj)}{σ:St}{H:Hp}{s:Shared}{T:String}{x:V}{v:Value}(I:Inv X pins σ H s)(r:RelV x v)(ty:tyV X.K T x H) :
  s.TypeIs v T/\∀a,v=.ref a->∃ob,s.heap.get? a=some ob/\ob.dict=none:=by
 cases x with
 |str z =>
  obtain⟨t,rfl⟩:=r
  cases(show T="str"from ty)
  exact⟨typeIs_str s z t,λ_ e=>nomatch e⟩
 |int i =>
  obtain⟨t,rfl⟩:=r
  cases(show T="int"from ty)
  exact⟨typeIs_int s i t,λ_ e=>nomatch e⟩
 |ref p =>
  cases r
  rcases ty with⟨rfl,xs,hq⟩|⟨rfl,o,hk,hc,hd⟩|⟨rfl,hk⟩|⟨rfl,S,n,hk⟩
  ·obtain⟨its,_,pl,_⟩:=I.list hq
   refine⟨pl.isList.typeIs,λa e=>?_⟩
   cases e
   obtain⟨o,n,e,c,hd,_⟩:=pl
   exact⟨o,e,hd⟩
  ·refine⟨⟨o,I.kIn p o hk,hc⟩,λa e=>?_⟩
   cases e
   exact⟨o,I.kIn _ o hk,hd⟩
  ·have z:∃o,s.heap.get? p=some o/\o.ExactDict:=by
    rcases hk with⟨kvs,hk⟩|⟨kvs,hk⟩
    ·obtain⟨_,_,_,_,o,_,_,e,ex,_⟩:=I.hok p _ hk
     exact⟨o,e,ex⟩
    ·obtain⟨_,_,_,_,o,_,_,e,ex,_⟩:=I.hok p _ hk
     exact⟨o,e,ex⟩
   obtain⟨o,e,ex⟩:=z
   refine⟨⟨o,e,ex.1⟩,λa e2=>?_⟩
   cases e2
   exact⟨o,e,ex.2.1⟩
  ·obtain⟨o,_,_,_,e,ex,_⟩:=I.hok p _ hk
   refine⟨⟨o,e,ex.1⟩,λa e2=>?_⟩
   cases e2
   exact⟨o,e,ex.2.1⟩
 |_=>exact False.elim ty
def tBM0(K:PySem.W.Frag)(T:String)(r:V->List V->Hp->VK->Prop)(to:TE):TE:=λσ H Q=>to σ H λx H1=>tyV K T x H1/\r x [] H1 Q
def tBM(K:PySem.W.Frag)(T:String)(r:V->List V->Hp->VK->Prop)(to:TE)(t:TA):TE:=λσ H Q=>to σ H λx H1=>tyV K T x H1/\t σ H1 λxs H2=>r x xs H2 Q
variable{o e:Expr}{es:List Expr}{to:TE}{t:TA}{name:Str}{apos cpos:Pos}{T id:String}{r:V->List V->Hp->VK->Prop}
theorem pe_bm0(pa:PlainAttrs T)(slot:Slot T name id)(hty:typeOf (.builtin id)=pure (.type "method_descriptor"))(hm:MtR X id r)(ho:PE X o to)
  (hbase:attributeBase o name X.env (eval o X.env)=eval o X.env:=by rfl) (hline:(apos.endLine == cpos.line)=true:=by rfl):PE X (.Call (.Attribute o name apos) [] [] cpos) (tBM0 X.K T r to):=by
 intro pins s σ H Q I h
 refine wpAny_Call_method0_late hbase hline (thn (ho pins s σ H _ I h) λv s1 ⟨x,H1,I1,r1,ty,q1⟩=>?_)
 obtain⟨h1,h2⟩:=jlw I1 r1 ty
 exact⟨T,id,pa,slot,hty,h1,h2,Oz rfl (PySem.evalArgs_none (hm pins s1 σ H1 x [] v [] Q I1 r1 .nil q1))⟩
theorem jb5(pa:PlainAttrs T)(slot:Slot T name id)(hty:typeOf (.builtin id)=pure (.type "method_descriptor"))(hm:MtR X id r)(ho:PE X o to)(ha:PA X (e::es) t)
  (hbase:attributeBase o name X.env (eval o X.env)=eval o X.env:=by rfl)
  (hfew:((backTo cpos (starEach (e::es) X.env)).all (λx=>!x.1) && (backToKw cpos (keywordEach [] X.env)).all (λx=>x.1.isSome)
   && decide ((e::es).length+([]:List Keyword).length+(if([]:List Keyword).isEmpty then 0 else 1)<30))=true:=by rfl)
  (hline:(apos.endLine == cpos.line)=true:=by rfl) (hs:starEach (e::es) X.env=(false,eval e X.env)::starEach es X.env:=by rfl) (hplain:(backTo cpos (starEach es X.env)).any (·.1)=false:=by rfl) :
  PE X (.Call (.Attribute o name apos) (e::es) [] cpos) (tBM X.K T r to t):=by
 intro pins s σ H Q I h
 refine wpAny_Call_method_late hbase hfew hline rfl (thn (ho pins s σ H _ I h) λv s1 ⟨x,H1,I1,r1,ty,q1⟩=>?_)
 obtain⟨h1,h2⟩:=jlw I1 r1 ty
 refine⟨T,id,pa,slot,hty,h1,h2,?_⟩
 have hA:=ha cpos pins s1 σ H1 _ I1 q1
 rw[hs]at hA⊢
 refine Oz (by show(false || (backTo cpos (starEach es X.env)).any (·.1))=false;rw[hplain] <;> rfl) (U1 ?_)
 exact thn hA λus s2 ⟨vs,H2,I2,r2,q2⟩=>hm pins s2 σ H2 x vs v us Q I2 r1 r2 q2
end
def MtM(X:Cx)(id:String)(r:V->List V->Hp->VK->Prop):Prop :=
 ∀(pins:List (Addr×Obj))(s:Shared)(σ:St)(H:Hp)(x:V)(xs:List V)(v:Value)(us:List Value)(Q:VK),Inv X pins σ H s->RelV x v->Vals xs us->r x xs H Q ->
  wpAny (model X.prog X.w) X.A (call (.builtin id) (v::us)) (EP X pins σ Q) X.xe s
theorem Vals.one{x:V}{us:List Value}(h:Vals [x] us):∃u,us=[u]/\RelV x u:=jc3 h
theorem Vals.zero:∀{us:List Value},Vals [] us->us=[]
 |_,.nil=>rfl
theorem Vals.dropLast{xs:List V}{us:List Value}(h:Vals xs us):Vals xs.dropLast us.dropLast:=by
 induction h with
 |nil=>exact .nil
 |cons r t ih =>
  cases t with
  |nil=>exact .nil
  |cons q t'=>exact .cons r ih
theorem Vals.eraseIdx:∀{xs:List V}{us:List Value}(i:Nat),Vals xs us->Vals (xs.eraseIdx i) (us.eraseIdx i)
 |_,_,_,.nil=>.nil
 |_,_,0,.cons _ t=>t
 |_,_,i+1,.cons r t=>.cons r (Vals.eraseIdx i t)
theorem Vals.rep{xs:List V}{us:List Value}(h:Vals xs us):∀k:Nat,Vals (List.replicate k xs).flatten (List.replicate k us).flatten
 |0=>.nil
 |k+1=>by
  rw[List.replicate_succ,List.replicate_succ,List.flatten_cons,List.flatten_cons]
  exact Vals.append h (Vals.rep h k)
theorem jkf{α:Type}(l:List α):l.eraseIdx (l.length-1)=l.dropLast:=by
 induction l with
 |nil=>rfl
 |cons a r ih =>
  cases r with
  |nil=>rfl
  |cons b r =>
   have e:(a::b::r).length-1=((b::r).length-1)+1:=by
    have h1:(a::b::r).length=r.length+2:=rfl
    have h2:(b::r).length=r.length+1:=rfl
    omega
   rw[e,List.eraseIdx_cons_succ,ih]
   all_goals rfl
theorem jgu{α:Type}:∀(l:List α)(i:Nat),(l.eraseIdx i).length<=l.length
 |[],_=>Ac _
 |_::_,0=>Nat.le_succ _
 |_::r,i+1=>Nat.succ_le_succ (jgu r i)
theorem jgq(its:List Value):∀(k:Nat)(acc:List Value),
  List.foldl (λx1 x2=>x1++x2) acc.toArray (List.replicate k its.toArray)=(acc++(List.replicate k its).flatten).toArray
 |0,acc=>by simp
 |k+1,acc=>by
  have e:acc.toArray++its.toArray=(acc++its).toArray:=by simp
  have e2:(acc++its)++(List.replicate k its).flatten=acc++(List.replicate (k+1) its).flatten:=by
   rw[List.replicate_succ,List.flatten_cons,Ic]
  rw[<-e2,<-jgq its k (acc++its),<-e,List.replicate_succ,List.foldl_cons]
section
variable{X:Cx}{pins:List (Addr×Obj)}{σ:St}{H:Hp}{s:Shared}{l b:Addr}{xs ys zs:List V}
theorem Inv.lset{its its':List Value}{n:Nat}{f:Array Value->Array Value}{t':Nat}(I:Inv X pins σ H s)(hH:H l=some (.lst xs))
  (e:s.heap.get? l=some {cls:=.type "list",data:=.seq its.toArray n}) (hf:f its.toArray=its'.toArray) (hv:Vals ys its') (hz:ys.length<=sizeLine) :
  Inv X pins σ (upd H l (.lst ys)) {s with heap:=s.heap.update l (Obj.mapSeq f),toks:=t'}:=by
 have q:=PySem.IsL.update e f
 rw[hf]at q
 refine I.write (x:=l) (e:=l) (by rw[hH];exact trivial) (.inl rfl) (λb' u hb hu=>(Heap.get?_update_other s.heap (Obj.mapSeq f) (Ut hb)).trans hu) ⟨_,q⟩ ?_
 exact⟨hz,its',_,hv,q⟩
theorem Inv.lnew{its:List Value}{t':Nat}(I:Inv X pins σ H s)(hv:Vals ys its)(hz:ys.length<=sizeLine) :
  Inv X pins σ (upd H s.heap.objs.size (.lst ys)) {s with heap:=s.heap.push {cls:=.type "list",data:=.seq its.toArray},toks:=t'} :=
 I.laid (λ_ _ q=>Ad _ q) (Ac _) ⟨hz,its,0,hv,Aw _ rfl⟩
theorem Inv.fresh(I:Inv X pins σ H s):H s.heap.objs.size=none:=I.hok.fresh (Ac _)
theorem Inv.lstM(I:Inv X pins σ H s)(hH:H l=some (.lst xs)):xs.length<=sizeLine/\∃(its:List Value)(n:Nat),Vals xs its/\xs.length=its.length/\s.heap.get? l=some {cls:=.type "list",data:=.seq its.toArray n}:=by
 obtain⟨z,its,n,r,e⟩:=I.hok l _ hH
 exact⟨z,its,n,r,r.length,e⟩
theorem jmh{n:Nat}(h:n<=sizeLine):Builtin.List.listTooLong n=false:=by
 unfold Builtin.List.listTooLong
 exact A8 (by omega)
end
section
variable{X:Cx}
def jns:V->List V->Hp->VK->Prop:=λx vs H Q=>∃l xs y,x=.ref l/\vs=[y]/\H l=some (.lst xs)/\xs.length<sizeLine/\Q .non (upd H l (.lst (xs++[y])))
theorem jas:MtM X "list.append" jns:=by
 intro pins s σ H x vs v us Q I rx rv h
 obtain⟨l,xs,y,rfl,rfl,hH,hz,q⟩:=h
 cases rx
 obtain⟨u,rfl,ru⟩:=rv.one
 obtain⟨z,its,n,r,hl,e⟩:=I.lstM hH
 refine Ud F.slot_list_append ⟨_,e,rfl⟩ F.entry_list_append (F.args_list_append_2 _ _) (PySem.list_append l its.toArray n u (by rw[Aj];omega)) ⟨e,?_⟩
 refine⟨.non,_,I.lset (its':=its++[u]) hH e (by simp) (r.append (.cons ru .nil)) ?_,rfl,q⟩
 rw[A4,List.length_singleton]
 omega
def rPop:V->List V->Hp->VK->Prop:=λx vs H Q=>∃l xs y,x=.ref l/\vs=[]/\H l=some (.lst xs)/\xs[xs.length-1]?=some y/\Q y (upd H l (.lst xs.dropLast))
theorem mt_pop:MtM X "list.pop" rPop:=by
 intro pins s σ H x vs v us Q I rx rv h
 obtain⟨l,xs,y,rfl,rfl,hH,hy,q⟩:=h
 cases rx
 have hus:=rv.zero
 subst hus
 obtain⟨z,its,n,r,hl,e⟩:=I.lstM hH
 obtain⟨u,hu,ru⟩:=r.get hy
 have hy':its.toArray[its.toArray.size-1]?=some u:=by
  show its.toArray[its.length-1]?=some u
  rw[<-Array.getElem?_toList,<-hl]
  exact hu
 refine Ud F.slot_list_pop ⟨_,e,rfl⟩ F.entry_list_pop (F.args_list_pop_1 _) (MeetsSeq.list_pop_last l its.toArray n u hy' (by rw[Aj];omega)) ⟨e,?_⟩
 refine⟨y,_,I.lset (its':=its.dropLast) hH e ?_ r.dropLast ?_,ru,q⟩
 ·show its.toArray.eraseIdxIfInBounds (its.toArray.size-1)=its.dropLast.toArray
  rw[Aj,List.eraseIdxIfInBounds_toArray,jkf]
 ·rw[List.length_dropLast]
  omega
def joo:V->List V->Hp->VK->Prop:=λx vs H Q=>∃l xs i k y,x=.ref l/\vs=[.int i]/\H l=some (.lst xs)/\-(2^63)<=i/\i<2^63/\seqIndex? i xs.length=some k/\xs[k]?=some y/\Q y (upd H l (.lst (xs.eraseIdx k)))
theorem mt_popAt:MtM X "list.pop" joo:=by
 intro pins s σ H x vs v us Q I rx rv h
 obtain⟨l,xs,i,k,y,rfl,rfl,hH,h1,h2,hk,hy,q⟩:=h
 cases rx
 obtain⟨u,rfl,ru⟩:=rv.one
 obtain⟨t,rfl⟩:=ru
 obtain⟨z,its,n,r,hl,e⟩:=I.lstM hH
 obtain⟨w,hw,rw'⟩:=r.get hy
 refine Ud F.slot_list_pop ⟨_,e,rfl⟩ F.entry_list_pop (F.args_list_pop_2 _ _)
  (MeetsSeq.list_pop_at l its.toArray n i t k w (fitsIndex_both h1 h2) (by rw[Aj,<-hl];exact hk) (by rw[<-Array.getElem?_toList];exact hw) (by rw[Aj];omega)) ⟨e,?_⟩
 refine⟨y,_,I.lset (its':=its.eraseIdx k) hH e ?_ (r.eraseIdx k) ?_,rw',q⟩
 ·show its.toArray.eraseIdxIfInBounds k=(its.eraseIdx k).toArray
  rw[List.eraseIdxIfInBounds_toArray]
 ·have:=jgu xs k
  omega
def rCat:R2:=λx y H Q=>∃l b xs zs,x=.ref l/\y=.ref b/\H l=some (.lst xs)/\H b=some (.lst zs)/\xs.length+zs.length<=sizeLine/\∀p,H p=none->Q (.ref p) (upd H p (.lst (xs++zs)))
theorem op_cat:OpR X (binaryOp .Add) rCat:=by
 intro pins s σ H x y v u Q I rx ry h
 obtain⟨l,b,xs,zs,rfl,rfl,hH,hB,hz,q⟩:=h
 cases rx
 cases ry
 obtain⟨z,its,n,r,hl,e⟩:=I.lstM hH
 obtain⟨z2,its2,n2,r2,hl2,e2⟩:=I.lstM hB
 refine PySem.P.add_list e e2 ?_ (by rw[Aj,Aj];omega)
 have ea:its.toArray++its2.toArray=(its++its2).toArray:=by simp
 rw[ea]
 exact⟨.ref _,_,I.lnew (t':=s.toks) (r.append r2) (by rw[A4];omega),rfl,q _ I.fresh⟩
def rRep:R2:=λx y H Q=>∃l k xs,x=.ref l/\y=.int k/\H l=some (.lst xs)/\-(2^63)<=k/\k<2^63/\xs.length*k.toNat<=sizeLine /\
 ∀p,H p=none->Q (.ref p) (upd H p (.lst (List.replicate k.toNat xs).flatten))
theorem jnn{α:Type}(xs:List α)(k:Nat):(List.replicate k xs).flatten.length=k*xs.length:=by
 induction k with
 |zero=>simp
 |succ k ih=>rw[List.replicate_succ,List.flatten_cons,A4,ih,Nat.succ_mul,Nat.add_comm]
theorem op_rep:OpR X (binaryOp .Mult) rRep:=by
 intro pins s σ H x y v u Q I rx ry h
 obtain⟨l,k,xs,rfl,rfl,hH,h1,h2,hz,q⟩:=h
 cases rx
 obtain⟨t,rfl⟩:=ry
 obtain⟨z,its,n,r,hl,e⟩:=I.lstM hH
 have hlen:its.toArray.size*k.toNat<=sizeLine:=by rw[Aj,<-hl];exact hz
 have hcap:¬its.toArray.size*k.toNat>(2^63-1) / 8:=by
  have:(sizeLine:Nat)<=(2^63-1) / 8:=by decide
  omega
 have hfit:¬(!Builtin.List.listFitsIndex k)=true:=by
  rw[fitsIndex_both h1 h2]
  exact Ay
 have hlong:¬Builtin.List.listTooLong (its.toArray.size*k.toNat)=true:=by
  rw[jmh hlen]
  exact Ay
 have hnew:List.foldl (λx1 x2=>x1++x2) #[] (List.replicate (if its.toArray.isEmpty=true then 0 else k.toNat) its.toArray)=(List.replicate k.toNat its).flatten.toArray:=by
  have f0:∀m:Nat,List.foldl (λx1 x2=>x1++x2) #[] (List.replicate m its.toArray)=(List.replicate m its).flatten.toArray:=λm=>by
   have:=jgq its m []
   rw[List.nil_append]at this
   exact this
  rw[f0]
  cases its with
  |nil=>simp
  |cons a r'=>rw[Ae (by simp)]
 refine wpAny_binaryOp_repeat_ref (T:="list") (U:="int") (by decide) ⟨_,e,rfl⟩ (λs'=>typeIs_int s' k t) noFill_list_mul F.fills_int_mul F.slot_int_rmul repeat_list F.slot_int_index.lookup
  (Ud F.slot_int_rmul (typeIs_int s k t) F.entry_int_rmul (F.args_int_rmul_2 _ _) (int___rmul___int_list k t l its.toArray n)
   ⟨e,rfl,⟨_,e,rfl⟩,Ud F.slot_list_mul ⟨_,e,rfl⟩ F.entry_list_mul (F.args_list_mul_2 _ _) (AutoListH.list___mul___list_int_3 l its.toArray n k t hfit hcap hlong) ⟨e,?_⟩⟩)
 rw[hnew]
 exact⟨.ref _,_,I.lnew (t':=s.toks) (r.rep k.toNat) (by rw[jnn,Nat.mul_comm];exact hz),rfl,q _ I.fresh⟩
end
end L2
namespace Att
open PySem PySem.W PySem.Calls PyProof.Rows
theorem jfk{P:Params}{h:Heap}:∀(ns:List Int)(vs:List Value),WellAll P h vs (ns.map WData.int)->IntsAre vs ns:=by
 intro ns
 induction ns with
 |nil =>
  intro vs w
  rw[Oj]at w
  cases w
  exact .nil
 |cons n ns ih =>
  intro vs w
  rw[Al]at w
  cases w with
  |cons a b =>
   cases a
   exact .cons _ _ (ih _ b)
theorem jlm{l:OpenLaw}{n:Nat}(hn:l.most=some n){P:Params}{h:Heap}{args:List WData}{vals:List Value}
  (hpre:l.row.toRowW.claim.pre args=true) (hwl:WellAll P h vals args) :
  ∃a vs ns,vals=[Value.ref a]/\args=[WData.list (ns.map WData.int)]/\h.get? a=some {cls:=.type "list",data:=.seq vs.toArray}/\IntsAre vs ns/\ns.length<=n:=by
 have hsh:WShape.hasAll [] args [.list .int]=true:=(pre_splitW hpre).1
 have hc:l.pre.holds [] {args:=args}=true:=(pre_splitW hpre).2
 obtain⟨d,r,rfl,h1,h2⟩:=hasAllW_cons hsh
 obtain rfl:=hasAllW_nil h2
 obtain⟨xs,rfl,h3⟩:=hasW_list h1
 obtain⟨ns,rfl⟩:=items_int h3
 have hlen:ns.length<=n:=by
  unfold OpenLaw.pre at hc
  have h4:(WTm.not (.lt (.lit (.int (n:Int))) (.len (.arg 0)))).holds [] {args:=[.list (ns.map .int)]}=true:=by
   have h4:=(holds_andW hc).1
   rw[hn]at h4
   exact h4
  have h5:=condW_of h4 (w_not (w_lt w_lit (w_len_list (w_arg rfl))))
  rw[Ab]at h5
  refine Nat.le_of_not_lt λq=>?_
  have q':(n:Int)<((ns.length:Nat):Int):=by omega
  first
   |(rw[Op q']at h5;exact absurd h5 (by decide))
   |(simp at h5;omega)
 cases hwl with
 |cons w1 w2 =>
  cases w2
  cases w1 with
  |list ho hall=>exact⟨_,_,ns,rfl,rfl,ho,jfk ns _ hall,hlen⟩
theorem post_true(l:OpenLaw)(args:List WData):l.row.toRowW.claim.post args (.bool true) args=true :=
 postW_of (r:=l.row.toRowW) (X:=(true == true))
  (show WShape.has [] (.bool true) .bool=true by first|rfl|decide|simp[WShape.has,WShape.arms,WShape.armsAll])
  (show(WTm.eq .res (.lit (.bool true))).value [] {args:=args,res:=some (.bool true),after:=args}=some (.bool (true == true))from w_eq_bool (w_res rfl) w_lit) rfl
theorem attach_call{l:OpenLaw}{n:Nat}{q:Program}{loose:List Str}{XP:(Str->Option Value)->Heap->Prop}{YP:World->Heap->Prop}{d:DefRec}
  (hn:l.most=some n) (hdf:d.params.defaults=[])
  (call:∀(w:World)(s₀ s₁:Shared)(mg mb:Str->Option Value)(fa:Addr)(o:Obj)(pm cd doc:Value)(a:Addr)(vs:List Value)(ns:List Int),
   Ground q loose [] XP w s₀ mg mb s₁.heap->YP w s₁.heap ->
   s₁.heap.get? fa=some o->o.data=.func (docDef d.name d.params d.body d.scope pm cd doc)->s₁.heap.CodeRec cd d.name->mg d.name=some (.ref fa) ->
   s₁.heap.get? a=some {cls:=.type "list",data:=.seq vs.toArray}->IntsAre vs ns->ns.length<=n->s₁.gens=#[] ->
   codeAny (model l.prog w) callerA (.call (.ref fa) ⟨[.ref a],[]⟩) (λr s'=>r=.ok (.ret (.bool true))/\OldK s₁.heap s'.heap/\s'.os=s₁.os/\AllBare s'.gens) s₁) :
  WalkO q loose XP YP l.row.toRowW d [] (λf vs=>PySem.call f vs):=by
 intro w s₀ s₁ mg mb G Y fa o pm cd doc dV kV ho hd hcd hD hmg hg args vals as hpre hlay hrd hwl hlo
 obtain rfl:dV=.none:=Dflts.none hD hdf
 obtain rfl:kV=.none:=Dflts.noKw hD
 obtain⟨a,vs,ns,rfl,rfl,hobj,hints,hlen⟩:=jlm hn hpre hwl
 refine enter_call (codeAny_mono (call w s₀ s₁ mg mb fa o pm cd doc a vs ns G Y ho (fd_plain hd) hcd hmg hobj hints hlen hg) λr s' hq=>?_)
 obtain⟨rfl,h2,h3,h4⟩:=hq
 exact⟨.inl ⟨.bool true,.bool true,[],rfl,λ_=>rfl,.bool true,post_true l _,λ_=>⟨List.Pairwise.nil,λ_ hm=>(nomatch hm)⟩⟩,h2,h3,h4⟩
end Att
namespace L2
open PySem PySem.Spec PyProof.Rows
theorem jhh:∀{vs:List Value}{ns:List Int},IntsAre vs ns->Vals (ns.map V.int) vs
 |_,_,.nil=>.nil
 |_,_,.cons n t h=>.cons ⟨t,rfl⟩ (jhh h)
def jx(s:Stmt):Arguments:=match s with
 |.FunctionDef _ a _ _ _ _ _ _ _ _=>a
 |_=>{posonlyargs:=[],args:=[],vararg:=none,kwonlyargs:=[],kw_defaults:=[],kwarg:=none,defaults:=[]}
def ju(s:Stmt):List Stmt:=match s with
 |.FunctionDef _ _ b _ _ _ _ _ _ _=>b
 |_=>[]
def jk(s:Stmt):Scope:=match s with
 |.FunctionDef _ _ _ _ _ _ sc _ _ _=>sc
 |_=>{kind:=.function,names:=[],isGenerator:=false,isCoroutine:=false}
abbrev CX0:CXT:=λ_ _ _ _ _ _=>False
abbrev E0:XK:=λ_ _ _=>False
theorem jr{X:Cx}:jct CX0 X E0:=λ_ _ _ _ _ _ _ h=>h.elim
structure Fun(K:PySem.W.Frag)(x qual:Str)(st:Stmt)(f:Addr)(fd:FuncData):Prop where
 ex:∃(oc:Value)(od:Option Addr)(kV doc pm:Value)(an:Option Addr)(cdv ct:Value)(osl:Array (Option Value)),
  fd=PySem.W.fnOf x qual (jx st) (ju st) (jk st) .none kV doc pm an cdv ct/\K.lookup f=some ⟨oc,od,.func fd,osl⟩/\PySem.W.codeIn K cdv qual=true
 kp:PySem.W.keepIn K (.ref f)=true
section
variable{P:Program}{w:World}{K:PySem.W.Frag}{mg:Str->Option Value}{base:Heap}
theorem Fun.ok{x qual:Str}{st:Stmt}{f:Addr}{fd:FuncData}{N ps:List Str}{k:Nat}{sp:Sp}(F:Fun K x qual st f fd)(S:FnScope N ps (jk st))(len:∀vs H Q E,sp vs H Q E->vs.length=ps.length)
  (hbody:∀(cdv:Value)(A:Around)(outer:List Env)(s:Shared)(H:Hp)(vs:List V)(Q:VK)(E:XK),Room k (A.deeper (envOfC qual (jk st) s.heap.objs.size f cdv))->sp vs H Q E ->
   ∃t,PSs (cxOf CX0 P w K mg base N qual (jk st) f cdv A outer s H E).nox (ju st) t/\t {nx:=λ_ H'=>Q .non H',rt:=Q} (start N vs) H):FnOk P w K mg base CX0 (k+1) f fd ps sp:=by
 obtain⟨oc,od,kV,doc,pm,an,cdv,ct,osl,rfl,lk,hcd⟩:=F.ex
 refine jmt lk hcd S len λA outer s H vs Q E hr hsp=>?_
 obtain⟨t,h,q⟩:=hbody cdv A outer s H vs Q E hr hsp
 exact⟨t,h.nox,q⟩
theorem Fun.binds{x qual:Str}{st:Stmt}{f:Addr}{fd:FuncData}{ps:List Str}(F:Fun K x qual st f fd)
  (h:∀(kV doc pm:Value)(an:Option Addr)(cdv ct:Value)(us:List Value),us.length=ps.length->bindArgs (PySem.W.fnOf x qual (jx st) (ju st) (jk st) .none kV doc pm an cdv ct) ⟨us,[]⟩=pure (ps.zip us)):Binds K fd ps []:=by
 obtain⟨oc,od,kV,doc,pm,an,cdv,ct,osl,rfl,lk,hcd⟩:=F.ex
 exact .all (h kV doc pm an cdv ct)
theorem jb9{x qual:Str}{st:Stmt}{f:Addr}{oc:Value}{od an:Option Addr}{osl:Array (Option Value)}{kV doc pm cdv ct:Value}(l:K.lookup f=some ⟨oc,od,.func (PySem.W.fnOf x qual (jx st) (ju st) (jk st) .none kV doc pm an cdv ct),osl⟩)
  (c:PySem.W.codeIn K cdv qual=true) (k:PySem.W.keepIn K (.ref f)=true):Fun K x qual st f (PySem.W.fnOf x qual (jx st) (ju st) (jk st) .none kV doc pm an cdv ct):=⟨⟨oc,od,kV,doc,pm,an,cdv,ct,osl,rfl,l,c⟩,k⟩
end
theorem joy{A:Around}{k:Nat}(hr:Room k A):A.units+1<cLine:=Ua (Nat.add_le_add_left (by decide:1<=64) _) hr.units
section
variable{X:Cx}
theorem pv(i:Nat){x:Str}{pos:Pos}(hN:X.N[i]?=some x:=by rfl)(hv:Vis X.env.scope x:=by first|exact Or.inl rfl|exact Or.inr (Or.inl rfl)|exact Or.inr (Or.inr rfl))(hd:(x == ("__debug__":Str))=false:=by decide)
  (hcd:(x == ("__classdict__":Str))=false:=by decide):PE X (.Name x pos) (tVar i):=jb2 hN hv hd hcd
end
theorem ite2{c A B:Prop}[Decidable c](h1:c->A)(h2:¬c->B):if c then A else B:=by
 by_cases h:c
 ·rw[Ag h]
  exact h1 h
 ·rw[Ae h]
  exact h2 h
section
variable{κ:Type}[DecidableEq κ]
def valV(kvs:List (κ×V))(k:κ):Option V:=(kvs.find? λkv=>decide (kv.1=k)).map (·.2)
def putK(kvs:List (κ×V))(k:κ)(v:V):List (κ×V) :=
 if(kvs.any λkv=>decide (kv.1=k))=true then kvs.map (λkv=>if kv.1=k then(kv.1,v)else kv)else kvs++[(k,v)]
theorem jci{p:κ×V}{r:List (κ×V)}{k:κ}(e:p.1=k):valV (p::r) k=some p.2:=by simp[valV,List.find?_cons,e]
theorem jch{p:κ×V}{r:List (κ×V)}{k:κ}(e:¬p.1=k):valV (p::r) k=valV r k:=by simp[valV,List.find?_cons,e]
theorem jd1(k:κ):∀kvs:List (κ×V),(kvs.any λkv=>decide (kv.1=k))=(valV kvs k).isSome
 |[]=>rfl
 |p::r=>by
  rw[List.any_cons]
  by_cases e:p.1=k
  ·simp only[jci e,Op e,Bool.true_or,Option.isSome_some]
  ·rw[jch e,A8 e,Bool.false_or];exact jd1 k r
theorem ji9(k j:κ)(y:V):∀kvs:List (κ×V),valV (kvs.map λkv=>if kv.1=k then(kv.1,y)else kv) j=(valV kvs j).map λx=>if j=k then y else x
 |[]=>rfl
 |p::r=>by
  have ih:=ji9 k j y r
  rw[Al]
  by_cases h:p.1=k
  ·rw[Ag h]
   by_cases e:p.1=j
   ·rw[jci (p:=(p.1,y)) e,jci e,Option.map_some,Ag (e.symm.trans h)]
   ·rw[jch (p:=(p.1,y)) e,jch e,ih]
  ·rw[Ae h]
   by_cases e:p.1=j
   ·rw[jci (p:=p) e,jci e,Option.map_some,Ae (λz=>h (e.trans z))]
   ·rw[jch (p:=p) e,jch e,ih]
theorem jhf(k j:κ)(y:V):∀kvs:List (κ×V),valV kvs k=none->valV (kvs++[(k,y)]) j=if j=k then some y else valV kvs j
 |[],_=>by
  by_cases e:k=j
  ·rw[Ag e.symm];exact jci (p:=(k,y)) e
  ·rw[Ae (λz=>e z.symm)];exact jch (p:=(k,y)) e
 |p::r,hn=>by
  rw[List.cons_append]
  have hk:¬p.1=k:=λz=>by rw[jci z]at hn;cases hn
  rw[jch hk]at hn
  have ih:=jhf k j y r hn
  by_cases e:p.1=j
  ·rw[jci e,jci e,Ae (λz=>hk (e.trans z))]
  ·rw[jch e,jch e,ih]
theorem jja(kvs:List (κ×V))(k j:κ)(y:V):valV (putK kvs k y) j=if j=k then some y else valV kvs j:=by
 unfold putK
 by_cases a:(kvs.any λkv=>decide (kv.1=k))=true
 ·rw[Ag a,ji9]
  rw[jd1]at a
  by_cases e:j=k
  ·obtain⟨x,hx⟩:=Option.isSome_iff_exists.mp a
   rw[Ag e,e,hx,Option.map_some,Ag rfl]
  ·rw[Ae e]
   cases valV kvs j with
   |none=>rfl
   |some x=>rw[Option.map_some,Ae e]
 ·rw[Ae a]
  refine jhf k j y kvs ?_
  rw[jd1]at a
  cases q:valV kvs k with
  |none=>rfl
  |some x=>rw[q]at a;exact(a rfl).elim
theorem jc0(kvs:List (κ×V))(k:κ)(v:V):(putK kvs k v).length<=kvs.length+1:=by
 unfold putK
 split
 ·rw[Ab];omega
 ·rw[A4,List.length_cons,List.length_nil];omega
theorem RelO.isSome_eq{o:Option V}{u:Option Value}(r:RelO o u):o.isSome=u.isSome:=by
 cases o with
 |none=>cases u with
  |none=>rfl
  |some _=>exact(show False from r).elim
 |some _=>cases u with
  |none=>exact(show False from r).elim
  |some _=>rfl
theorem KV.val{kvs:List (κ×V)}{vs:List (κ×Value)}(r:KV kvs vs)(k:κ):RelO (valV kvs k) (valueAt vs k):=by
 unfold KV at r
 induction r with
 |nil=>exact True.intro
 |@cons p q ps qs h t ih =>
  obtain⟨h1,h2⟩:=h
  by_cases e:p.1=k
  ·have e':q.1=k:=h1.symm.trans e
   have b:valueAt (q::qs) k=some q.2:=by simp[valueAt,List.find?_cons,e']
   rw[jci e,b];exact h2
  ·have e':¬q.1=k:=λz=>e (h1.trans z)
   have b:valueAt (q::qs) k=valueAt qs k:=by simp[valueAt,List.find?_cons,e']
   rw[jch e,b];exact ih
theorem KV.any{kvs:List (κ×V)}{vs:List (κ×Value)}(r:KV kvs vs)(k:κ):(kvs.any λkv=>decide (kv.1=k))=vs.any λkv=>decide (kv.1=k):=by
 unfold KV at r
 induction r with
 |nil=>rfl
 |cons h t ih=>rw[List.any_cons,List.any_cons,ih,h.1]
theorem KV.repl{kvs:List (κ×V)}{vs:List (κ×Value)}(r:KV kvs vs)(k:κ){y:V}{u:Value}(ry:RelV y u) :
  KV (kvs.map λkv=>if kv.1=k then(kv.1,y)else kv) (vs.map λkv=>if kv.1=k then(kv.1,u)else kv):=by
 unfold KV at r⊢
 induction r with
 |nil=>exact .nil
 |@cons p q ps qs h t ih =>
  rw[Al,Al]
  refine .cons ?_ ih
  obtain⟨h1,h2⟩:=h
  by_cases e:p.1=k
  ·rw[Ag e,Ag (h1.symm.trans e)];exact⟨h1,ry⟩
  ·rw[Ae e,Ae (λz=>e (h1.trans z))];exact⟨h1,h2⟩
theorem KV.put{kvs:List (κ×V)}{vs:List (κ×Value)}(r:KV kvs vs)(k:κ){y:V}{u:Value}(ry:RelV y u):KV (putK kvs k y) (stored vs k u):=by
 unfold putK stored
 rw[r.any k]
 by_cases e:(vs.any λkv=>decide (kv.1=k))=true
 ·rw[Ag e,Ag e];exact r.repl k ry
 ·rw[Ae e,Ae e];exact Oc r ⟨rfl,ry⟩
theorem KV.length{kvs:List (κ×V)}{vs:List (κ×Value)}(r:KV kvs vs):kvs.length=vs.length:=Az r
end
theorem jhk{P:Program}{w:World}{k:Key}{u:Value}(r:RelV (kV k) u):(jcc P w).is k u=true:=by
 cases k with
 |inl i=>obtain⟨t,e⟩:=(show ∃t,u=Value.int i t from r);subst e;exact jje P w i t
 |inr x=>obtain⟨t,e⟩:=(show ∃t,u=Value.str x t from r);subst e;exact jjf P w x t
theorem jgt{P:Program}{w:World}:∀{ks:List Key}{us:List Value},Vals (ks.map kV) us->ItemsAre (jcc P w) ks us
 |[],_,r=>by rw[Oj]at r;cases r;exact .nil
 |k::ks,_,r=>by
  rw[Al]at r
  cases r with
  |cons h t=>exact .cons (jhk h) (jgt t)
abbrev KT(H:Hp):List (List Key×V)->List (List Key×Addr×Value)->Prop:=Paired λp q=>p.1=q.1/\H q.2.1=some (.tup (p.1.map kV))/\RelV p.2 q.2.2
theorem KT.val{H:Hp}{kvs:List (List Key×V)}{xs:List (List Key×Addr×Value)}(r:KT H kvs xs)(k:List Key):RelO (valV kvs k) ((atKey xs k).map (·.2)):=by
 induction r with
 |nil=>exact True.intro
 |@cons p q ps qs h t ih =>
  obtain⟨h1,_,h2⟩:=h
  by_cases e:p.1=k
  ·have e':q.1=k:=h1.symm.trans e
   have b:atKey (q::qs) k=some q.2:=by simp[atKey,List.find?_cons,e']
   rw[jci e,b];exact h2
  ·have e':¬q.1=k:=λz=>e (h1.trans z)
   have b:atKey (q::qs) k=atKey qs k:=by simp[atKey,List.find?_cons,e']
   rw[jch e,b];exact ih
theorem KT.repl{H:Hp}{kvs:List (List Key×V)}{xs:List (List Key×Addr×Value)}(r:KT H kvs xs)(k:List Key){y:V}{u:Value}(ry:RelV y u) :
  KT H (kvs.map λkv=>if kv.1=k then(kv.1,y)else kv) (xs.map (putAt k u)):=by
 induction r with
 |nil=>exact .nil
 |@cons p q ps qs h t ih =>
  rw[Al,Al]
  refine .cons ?_ ih
  obtain⟨h1,h2,h3⟩:=h
  unfold putAt
  by_cases e:p.1=k
  ·rw[Ag e,Ag (h1.symm.trans e)];exact⟨h1,h2,ry⟩
  ·rw[Ae e,Ae (λz=>e (h1.trans z))];exact⟨h1,h2,h3⟩
theorem KT.put{H:Hp}{kvs:List (List Key×V)}{xs:List (List Key×Addr×Value)}(r:KT H kvs xs)(k:List Key){b:Addr}{y:V}{u:Value}(hb:H b=some (.tup (k.map kV)))(ry:RelV y u) :
  KT H (putK kvs k y) (storedH xs k b u):=by
 have e:(kvs.any λkv=>decide (kv.1=k))=(atKey xs k).isSome:=by
  rw[jd1,(r.val k).isSome_eq,Option.isSome_map]
 unfold putK storedH
 rw[e]
 by_cases q:(atKey xs k).isSome=true
 ·rw[Ag q,Ag q];exact r.repl k ry
 ·rw[Ae q,Ae q];exact Oc r ⟨rfl,hb,ry⟩
theorem KT.keeps{H H':Hp}{kvs:List (List Key×V)}{xs:List (List Key×Addr×Value)}(r:KT H kvs xs)(ht:∀b ys,H b=some (.tup ys)->H' b=some (.tup ys)):KT H' kvs xs :=
 Paired.mapP r λ_ _ z=>⟨z.1,ht _ _ z.2.1,z.2.2⟩
section
variable{P:Program}{w:World}{H:Hp}{h:Heap}{a:Addr}
theorem jm0{u:HO}(ok:HOk P w H h)(e:Rd H a u):ObjOk P w H h a u:=e.ok ok
theorem jfd{kvs:List (Key×V)}(ok:HOk P w H h)(e:Rd H a (.dK kvs)):kvs.length<=sizeLine/\(a == sysModules)=false/\∃vs,KV kvs vs/\h.DictOf (jcc P w) a vs :=
 show ObjOk P w H h a (.dK kvs)from jm0 ok e
theorem jou{kvs:List (Key×V)}(ok:HOk P w H h)(e:H a=some (.dK kvs)):kvs.length<=sizeLine/\(a == sysModules)=false/\∃vs,KV kvs vs/\h.DictOf (jcc P w) a vs:=jfd ok (.inl e)
theorem jd5{ks:List Key}(ok:HOk P w H h)(e:H a=some (.tup (ks.map kV))):(tupleKind (jcc P w)).is h ks a:=by
 obtain⟨_,its,r,o,h1,h2,n,h3⟩:=(show ObjOk P w H h a (.tup (ks.map kV))from ok a _ e)
 exact⟨o,its.toArray,n,h1,h2,h3,by simpa using jgt r⟩
theorem jfe{kvs:List (List Key×V)}(ok:HOk P w H h)(e:Rd H a (.dT kvs)):kvs.length<=sizeLine/\(a == sysModules)=false /\
  ∃xs,KT H kvs xs/\h.DictOfH (tupleKind (jcc P w)) a xs:=by
 obtain⟨z,y,xs,r,o,es,ep,h1,h2,h3,h4,h5⟩:=(show ObjOk P w H h a (.dT kvs)from jm0 ok e)
 refine⟨z,y,xs,r,o,es,ep,h1,h2,h3,h4,λx hx=>?_,h5⟩
 have all:∀{l:List (List Key×V)}{m:List (List Key×Addr×Value)},KT H l m->∀x∈m,(tupleKind (jcc P w)).is h x.1 x.2.1:=by
  intro l m q
  induction q with
  |nil=>intro x hx;exact nomatch hx
  |@cons p q ps qs hq t ih =>
   intro x hx
   rcases A2.mp hx with e|hx
   ·subst e
    exact jd5 ok (by rw[<-hq.1];exact hq.2.1)
   ·exact ih x hx
 exact all r x hx
theorem jms{kvs:List (List Key×V)}(ok:HOk P w H h)(e:H a=some (.dT kvs)):kvs.length<=sizeLine/\(a == sysModules)=false /\
  ∃xs,KT H kvs xs/\h.DictOfH (tupleKind (jcc P w)) a xs:=jfe ok (.inl e)
end
def DGet(H:Hp)(a:Addr)(y:V)(r:Option V):Prop :=
 (∃kvs k,Rd H a (.dK kvs)/\y=kV k/\r=valV kvs k)\/∃kvs k b,Rd H a (.dT kvs)/\y=.ref b/\H b=some (.tup (k.map kV))/\r=valV kvs k
def DPut(H:Hp)(a:Addr)(y v:V)(H':Hp):Prop :=
 (∃kvs k,H a=some (.dK kvs)/\y=kV k/\kvs.length<sizeLine/\H'=upd H a (.dK (putK kvs k v))) \/
 ∃kvs k b,H a=some (.dT kvs)/\y=.ref b/\H b=some (.tup (k.map kV))/\kvs.length<sizeLine/\H'=upd H a (.dT (putK kvs k v))
theorem DGet.k{H:Hp}{a:Addr}{kvs:List (Key×V)}{k:Key}(e:H a=some (.dK kvs)):DGet H a (kV k) (valV kvs k):=.inl ⟨kvs,k,.inl e,rfl,rfl⟩
theorem DPut.k{H:Hp}{a:Addr}{kvs:List (Key×V)}{k:Key}{v:V}(e:H a=some (.dK kvs))(hl:kvs.length<sizeLine):DPut H a (kV k) v (upd H a (.dK (putK kvs k v))):=.inl ⟨kvs,k,e,rfl,hl,rfl⟩
section
variable{X:Cx}{pins:List (Addr×Obj)}{σ:St}{H:Hp}{s:Shared}{a:Addr}{y v:V}{u r:Value}{o:Option V}{A:Around}{E:Value->Shared->Prop}
theorem Inv.big(I:Inv X pins σ H s):sysModules<s.heap.objs.size:=by
 have h:mainGlobals<s.heap.objs.size:=(I.mod.glob.keeps I.bk).lt
 exact O1 (by decide) h
theorem jk0{Q:Value->Shared->Prop}(hu:A.units+1<cLine)(I:Inv X pins σ H s)(g:DGet H a y (some v))(ry:RelV y u)(h:∀w' s',Inv X pins σ H s'->RelV v w'->Q w' s') :
  wpAny (model X.prog X.w) A (getItem (.ref a) u) Q E s:=by
 rcases g with⟨kvs,k,e,ey,l⟩|⟨kvs,k,b,e,ey,eb,l⟩
 ·subst ey
  obtain⟨z,hd,vs,rel,dd⟩:=jfd I.hok e
  obtain⟨w',hw,rw'⟩:=RelO.some_of (v:=v) (o:=valueAt vs k) (by rw[l];exact rel.val k)
  exact wpAny_getItem_of (jhk ry) dd.mapOf hw (h w' _ (I.tok _) rw')
 ·subst ey
  cases(show u=Value.ref b from ry)
  obtain⟨z,hd,xs,rel,dd⟩:=jfe I.hok e
  obtain⟨w',hw,rw'⟩:=RelO.some_of (v:=v) (o:=(atKey xs k).map (·.2)) (by rw[l];exact rel.val k)
  obtain⟨p,hp,hp2⟩:=Uk.mp hw
  refine wpAny_getItem_heap (Ub hu) (jd5 I.hok eb) dd hp ?_
  rw[hp2]
  exact h w' _ (I.tok _) rw'
theorem jna{Q:Value->Shared->Prop}(hu:A.units+1<cLine)(I:Inv X pins σ H s)(g:DGet H a y o)(ry:RelV y u)(h:∀s',Inv X pins σ H s'->Q (.bool (!o.isSome)) s') :
  wpAny (model X.prog X.w) A (compareOp .NotIn u (.ref a)) Q E s:=by
 rcases g with⟨kvs,k,e,ey,l⟩|⟨kvs,k,b,e,ey,eb,l⟩
 ·subst ey
  obtain⟨z,hd,vs,rel,dd⟩:=jfd I.hok e
  refine wpAny_notIn_of (jhk ry) hd dd.mapOf ?_
  rw[<-(rel.val k).isSome_eq,<-l]
  exact h _ (I.tok _)
 ·subst ey
  cases(show u=Value.ref b from ry)
  obtain⟨z,hd,xs,rel,dd⟩:=jfe I.hok e
  refine wpAny_notIn_heap (Ub hu) (jd5 I.hok eb) hd dd ?_
  have q:=(rel.val k).isSome_eq
  rw[Option.isSome_map]at q
  rw[<-q,<-l]
  exact h _ (I.tok _)
theorem jf4{h':Heap}{t':Nat}{ob:HO}(I:Inv X pins σ H s)(mu:Mut (H a))(hs:Heap.SameBut a s.heap h')(he:∃q,h'.get? a=some q)(new:ObjOk X.prog X.w (upd H a ob) h' a ob) :
  Inv X pins σ (upd H a ob) {s with heap:=h',toks:=t'} :=
 I.write (x:=a) (e:=a) mu (.inl rfl) (λb q hb z=>(hs.2 b hb).trans z) he new
theorem jn6{P:Program}{w:World}{H':Hp}{h':Heap}{kvs:List (Key×V)}{vs:List (Key×Value)}(z:kvs.length<=sizeLine)(hd:(a == sysModules)=false)(rel:KV kvs vs)(dd:h'.DictOf (jcc P w) a vs) :
  ObjOk P w H' h' a (.dK kvs):=⟨z,hd,vs,rel,dd⟩
theorem jk1{H':Hp}{Q:Unit->Shared->Prop}(hu:A.units+1<cLine)(I:Inv X pins σ H s)(g:DPut H a y v H')(ry:RelV y u)(rv:RelV v r)(h:∀s',Inv X pins σ H' s'->Q () s') :
  wpAny (model X.prog X.w) A (setItem (.ref a) u r) Q E s:=by
 rcases g with⟨kvs,k,e,ey,l,eH⟩|⟨kvs,k,b,e,ey,eb,l,eH⟩
 ·subst ey eH
  obtain⟨z,hd,vs,rel,dd⟩:=jou I.hok e
  have hz:vs.length<=sizeLine:=by rw[<-rel.length];exact z
  have hl:(putK kvs k v).length<=sizeLine:=by have:=jc0 kvs k v;omega
  refine wpAny_setItem_pairs (hsz:=hz) (jhk ry) dd λh' dd' hs=>h _ ?_
  have he:∃q,h'.get? a=some q:=let⟨q,_,_,hq,_⟩:=dd';⟨q,hq⟩
  exact jf4 I (by rw[e];exact True.intro) hs he (jn6 hl hd (rel.put k rv) dd')
 ·subst ey eH
  cases(show u=Value.ref b from ry)
  obtain⟨z,hd,xs,rel,dd⟩:=jms I.hok e
  have hz:xs.length<=sizeLine:=by rw[<-Az rel];exact z
  have hl:(putK kvs k v).length<=sizeLine:=by have:=jc0 kvs k v;omega
  refine wpAny_setItem_heap (hsz:=hz) (Ub hu) (jd5 I.hok eb) dd λh' dd' hs=>h _ ?_
  obtain⟨q,es,ep,hq,h2,h3,h4,_,h5⟩:=dd'
  refine jf4 I (by rw[e];exact True.intro) hs ⟨q,hq⟩ ⟨hl,hd,_,(rel.put k eb rv).keeps λc ys ec=>?_,q,es,ep,hq,h2,h3,h4,h5⟩
  rw[jf (jhm ec e (λz=>nomatch z))]
  exact ec
end
theorem jjd{X:Cx}{pins:List (Addr×Obj)}{σ:St}{H:Hp}{s:Shared}{a:Addr}{y:V}{o:Option V}(I:Inv X pins σ H s)(g:DGet H a y o):s.TypeIs (.ref a) "dict":=by
 rcases g with⟨kvs,k,e,_,_⟩|⟨kvs,k,b,e,_,_,_⟩
 ·obtain⟨_,_,vs,_,dd⟩:=jfd I.hok e
  exact dd.typeIs
 ·obtain⟨_,_,xs,_,dd⟩:=jfe I.hok e
  exact dd.typeIs
def jen(ty td:TE):TE:=λσ H Q=>ty σ H λy H1=>td σ H1 λx H2=>∃a o,x=.ref a/\DGet H2 a y o/\Q (.bl (!o.isSome)) H2
def jhp(td ty tv:TE):TS:=λD σ H=>tv σ H λv H1=>td σ H1 λx H2=>ty σ H2 λy H3=>∃a H4,x=.ref a/\DPut H3 a y v H4/\D.nx σ H4
section
variable{X:Cx}{o i e value:Expr}{pos pos' tpos:Pos}{td ty tv:TE}
theorem pc_dnotin(hu:X.A.units+1<cLine)(hi:PE X i ty)(ho:PE X o td):PC X .NotIn i o (jen ty td):=by
 intro pins s σ H Q I h
 refine thn (hi pins s σ H _ I h) λiv s1 ⟨y,H1,I1,ry,q1⟩=>thn (ho pins s1 σ H1 _ I1 q1) λu s2 ⟨x,H2,I2,rx,a,ov,ex,g,q2⟩=>?_
 subst ex
 obtain rfl:u=Value.ref a:=rx
 exact jna hu I2 g ry λs3 I3=>⟨.bl (!ov.isSome),H2,I3,rfl,q2⟩
theorem ps_dput(hu:X.A.units+1<cLine)(ho:PE X o td)(hi:PE X i ty)(hv:PE X value tv)(hs:swapsWith value (some (.Subscript o i pos')) pos.line X.env=pure false) :
  PS X (.Assign [.Subscript o i pos'] value pos) (jhp td ty tv):=by
 intro pins s σ H D I h
 refine wpAny_Assign_Subscript (thn (hv pins s σ H _ I h) λr s1 ⟨v,H1,I1,rv,q1⟩=>thn (ho pins s1 σ H1 _ I1 q1) λu s2 ⟨x,H2,I2,rx,q2⟩=>thn (hi pins s2 σ H2 _ I2 q2) λiv s3 ⟨y,H3,I3,ry,a,H4,ex,g,q3⟩=>?_) hs
 subst ex
 obtain rfl:u=Value.ref a:=rx
 exact jk1 hu I3 g ry rv λs4 I4=>⟨σ,H4,I4,q3⟩
end
theorem jl2{P:Program}{w:World}{H:Hp}(h:Heap)(hb:sysModules<h.objs.size):ObjOk P w H (h.push {cls:=.type "dict",data:=.dict #[]}) h.objs.size (.dK []) :=
 ⟨Ix _,Od.mpr (Ut (Av hb)),[],.nil,Heap.DictOf.new h⟩
theorem jl4{P:Program}{w:World}{H:Hp}(h:Heap)(hb:sysModules<h.objs.size):ObjOk P w H (h.push {cls:=.type "dict",data:=.dict #[]}) h.objs.size (.dT []) :=
 ⟨Ix _,Od.mpr (Ut (Av hb)),[],.nil,_,#[],0,Aw _ rfl,⟨rfl,rfl,rfl⟩,rfl,rfl,List.nodup_nil⟩
def jfz:TE:=λ_ H Q=>∀p,H p=none->Q (.ref p) (upd H p (.dT []))
section
variable{X:Cx}{pos:Pos}
theorem pe_dnewT:PE X (.Dict [] [] pos) jfz:=λpins s σ H Q I h =>
 wpAny_Dict_empty ⟨.ref s.heap.objs.size,_,I.laid (a:=s.heap.objs.size) (o:=.dT []) (t':=s.toks) (λ_ _ q=>Ad _ q) (Ac _) (jl4 s.heap I.big),rfl,h _ (I.hok.fresh (Ac _))⟩
end
structure M2(X:Cx)(o:Expr)(m:Str)(apos:Pos)(e f:Expr)(cpos:Pos):Prop where
 base:attributeBase o m X.env (eval o X.env)=eval o X.env
 few:((backTo cpos (starEach [e,f] X.env)).all (λx=>!x.1) && (backToKw cpos (keywordEach [] X.env)).all (λx=>x.1.isSome)
  && decide (([e,f]:List Expr).length+([]:List Keyword).length+(if([]:List Keyword).isEmpty then 0 else 1)<30))=true
 line:(apos.endLine == cpos.line)=true
 trees:backTo cpos (starEach [e,f] X.env)=[(false,eval e X.env),(false,eval f X.env)]
def IsD(H:Hp)(a:Addr):Prop:=(∃kvs,Rd H a (.dK kvs))\/∃kvs,Rd H a (.dT kvs)
theorem joc{X:Cx}{pins:List (Addr×Obj)}{σ:St}{H:Hp}{s:Shared}{a:Addr}(I:Inv X pins σ H s)(d:IsD H a) :
  s.TypeIs (.ref a) "dict"/\(∀b,Value.ref a=.ref b->∃ob,s.heap.get? b=some ob/\ob.dict=none)/\(a == sysModules)=false:=by
 rcases d with⟨kvs,e⟩|⟨kvs,e⟩
 ·obtain⟨_,hd,vs,_,dd⟩:=jfd I.hok e
  refine⟨dd.typeIs,λb q=>?_,hd⟩
  cases q
  obtain⟨ob,_,_,h1,h2,_⟩:=dd
  exact⟨ob,h1,h2.2.1⟩
 ·obtain⟨_,hd,xs,_,dd⟩:=jfe I.hok e
  refine⟨dd.typeIs,λb q=>?_,hd⟩
  cases q
  obtain⟨ob,_,_,h1,h2,_⟩:=dd
  exact⟨ob,h1,h2.2.1⟩
structure Kp(S:List Addr)(H H':Hp):Prop where
 old:∀a o,H a=some o->a∉S->H' a=some o
 tup:∀a xs,H a=some (.tup xs)->H' a=some (.tup xs)
 dom:∀a o,H a=some o->∃o',H' a=some o'
theorem Kp.refl(S:List Addr)(H:Hp):Kp S H H:=⟨λ_ _ e _=>e,λ_ _ e=>e,λ_ o e=>⟨o,e⟩⟩
theorem Kp.trans{S:List Addr}{H H1 H2:Hp}(a:Kp S H H1)(b:Kp S H1 H2):Kp S H H2 :=
 ⟨λc o e n=>b.old c o (a.old c o e n) n,λc xs e=>b.tup c xs (a.tup c xs e),λc o e=>let⟨o',e'⟩:=a.dom c o e;b.dom c o' e'⟩
theorem Kp.mono{S S':List Addr}{H H1:Hp}(a:Kp S H H1)(h:∀x∈S,x∈S'):Kp S' H H1:=⟨λc o e n=>a.old c o e λz=>n (h c z),a.tup,a.dom⟩
theorem Kp.free{S:List Addr}{H H1:Hp}(k:Kp S H H1){p:Addr}(h:H1 p=none):H p=none:=by
 cases e:H p with
 |none=>rfl
 |some o=>obtain⟨o',e'⟩:=k.dom p o e;rw[h]at e';cases e'
theorem Kp.trans'{S S':List Addr}{H H1 H2:Hp}(a:Kp S H H1)(b:Kp S' H1 H2)(h:∀x∈S',x∈S\/H x=none):Kp S H H2 :=
 ⟨λc o e n=>b.old c o (a.old c o e n) λz=>by
  rcases h c z with q|q
  ·exact n q
  ·(rw[q]at e;exact nomatch e),λc xs e=>b.tup c xs (a.tup c xs e),λc o e=>let⟨o',e'⟩:=a.dom c o e;b.dom c o' e'⟩
theorem Kp.new{S:List Addr}{H H1:Hp}(k:Kp S H H1){p:Addr}{o:HO}(h:H1 p=none):Kp S H (upd H1 p o) :=
 ⟨λc u e n=>by rw[jf (jj (k.old c u e n) h)];exact k.old c u e n,λc xs e=>by rw[jf (jj (k.tup c xs e) h)];exact k.tup c xs e,
  λc u e=>by
   obtain⟨o',e'⟩:=k.dom c u e
   exact⟨o',by rw[jf (jj e' h)];exact e'⟩⟩
theorem Kp.set{S:List Addr}{H H1:Hp}(k:Kp S H H1){b:Addr}{xs:List V}{o:HO}(hb:H1 b=some (.lst xs))(h:b∈S\/H b=none):Kp S H (upd H1 b o) :=
 ⟨λc u e n=>by
  have:c≠b:=by
   rintro rfl
   rcases h with h|h
   ·exact n h
   ·rw[h]at e;cases e
  rw[jf this];exact k.old c u e n,
 λc ys e=>by
  have e1:=k.tup c ys e
  rw[jf (jhm e1 hb (by intro z;cases z))];exact e1,
 λc u e=>by
  obtain⟨o',e'⟩:=k.dom c u e
  by_cases q:c=b
  ·subst q;exact⟨o,je⟩
  ·exact⟨o',by rw[jf q];exact e'⟩⟩
def jcb:Option HO->Option (List V)
 |some (.lst xs)=>some xs
 |_=>none
def jes:Option HO->Option (List V)
 |some (.tup xs)=>some xs
 |_=>none
def jc1:Option HO->Option (List V)
 |some (.lst xs)=>some xs
 |some (.tup xs)=>some xs
 |_=>none
theorem jgv(xs:List V):jcb (some (.lst xs))=some xs:=rfl
theorem jhe(xs:List V):jes (some (.tup xs))=some xs:=rfl
theorem jha(xs:List V):jc1 (some (.lst xs))=some xs:=rfl
theorem jhb(xs:List V):jc1 (some (.tup xs))=some xs:=rfl
theorem jcf{o:Option HO}{xs:List V}(h:jcb o=some xs):o=some (.lst xs):=by
 unfold jcb at h
 split at h
 ·cases h;rfl
 ·cases h
theorem je6{o:Option HO}{xs:List V}(h:jes o=some xs):o=some (.tup xs):=by
 unfold jes at h
 split at h
 ·cases h;rfl
 ·cases h
theorem jdw{o:Option HO}{xs:List V}(h:jc1 o=some xs):o=some (.lst xs)\/o=some (.tup xs):=by
 unfold jc1 at h
 split at h
 ·cases h;exact .inl rfl
 ·cases h;exact .inr rfl
 ·cases h
section
variable{X:Cx}
def rLtU:R2:=λx y H Q=>match x,y with
 |.int i,.int j=>Q (.bl (decide (i<j))) H
 |.str i,.str j=>Q (.bl (decide (i.cps.toList<j.cps.toList))) H
 |_,_=>False
theorem jaf:OpR X (compareOp .Lt) rLtU:=by
 intro pins s σ H x y v u Q I rx ry h
 cases x with
 |int i=>cases y with
  |int j=>exact op_lt pins s σ H _ _ v u Q I rx ry ⟨i,j,rfl,rfl,h⟩
  |_=>exact False.elim h
 |str i=>cases y with
  |str j=>exact op_lt_str pins s σ H _ _ v u Q I rx ry ⟨i,j,rfl,rfl,h⟩
  |_=>exact False.elim h
 |_=>exact False.elim h
def rLeU:R2:=λx y H Q=>match x,y with
 |.int i,.int j=>Q (.bl (decide (i<=j))) H
 |.str i,.str j=>Q (.bl (!decide (j.cps.toList<i.cps.toList))) H
 |_,_=>False
theorem ja1:OpR X (compareOp .LtE) rLeU:=by
 intro pins s σ H x y v u Q I rx ry h
 cases x with
 |int i=>cases y with
  |int j=>exact op_le pins s σ H _ _ v u Q I rx ry ⟨i,j,rfl,rfl,h⟩
  |_=>exact False.elim h
 |str i=>cases y with
  |str j =>
   obtain⟨t,rfl⟩:=rx
   obtain⟨t',rfl⟩:=ry
   exact PySem.P.le_str (jb8 I h (by rfl))
  |_=>exact False.elim h
 |_=>exact False.elim h
def rIxU:R2:=λx y H Q=>match x,y with
 |.str z,.int i=>z.length<=sizeLine/\∃c,atI z.cps.toList i=some c/\Q (.str ⟨#[c]⟩) H
 |.ref p,.int i=>∃xs,jc1 (H p)=some xs/\∃v,atI xs i=some v/\Q v H
 |_,_=>False
theorem ix_U:IxR X rIxU:=by
 intro value slice pins s σ H x y v u Q I rx ry h hs
 cases x with
 |str z=>cases y with
  |int i=>obtain⟨h1,c,h2,h3⟩:=h;exact ix_str value slice pins s σ H _ _ v u Q I rx ry ⟨z,i,c,rfl,rfl,h1,h2,h3⟩ hs
  |_=>exact False.elim h
 |ref p=>cases y with
  |int i =>
   obtain⟨xs,e,w,h2,h3⟩:=h
   rcases jdw e with e|e
   ·exact ja4 value slice pins s σ H _ _ v u Q I rx ry ⟨p,xs,i,w,rfl,rfl,SqL.of e,h2,h3⟩ hs
   ·exact jb0 value slice pins s σ H _ _ v u Q I rx ry ⟨p,xs,i,w,rfl,rfl,SqT.of e,h2,h3⟩ hs
  |_=>exact False.elim h
 |_=>exact False.elim h
theorem jkc{α:Type}(x:α)(r:List α):atI (x::r) 0=some x:=jdl (j:=0) rfl
theorem jkd{α:Type}(x y:α)(r:List α):atI (x::y::r) 1=some y:=jdl (j:=1) rfl
theorem jmp{α:Type}(x y z:α)(r:List α):atI (x::y::z::r) 2=some z:=jdl (j:=2) rfl
theorem jb7{α:Type}{xs:List α}{i:Int}{v:α}(h0:0<=i)(h:xs[i.toNat]?=some v):atI xs i=some v:=by
 have:=jdl (xs:=xs) (j:=i.toNat) h
 rwa[Int.toNat_of_nonneg h0]at this
def jmz:V->V->V->Hp->(Hp->Prop)->Prop:=λo i v H Q=>match o,i with
 |.ref p,.int k=>∃xs,jcb (H p)=some xs/\∃j,ixN xs.length k=some j/\Q (upd H p (.lst (xs.set j v)))
 |_,_=>False
theorem jkt:PSet X jmz:=by
 intro pins s σ H o i v ov iv u Q I ro ri rv h
 cases o with
 |ref p=>cases i with
  |int k =>
   obtain⟨xs,e,j,h1,h2⟩:=h
   exact jml pins s σ H _ _ v ov iv u Q I ro ri rv ⟨p,xs,k,j,rfl,rfl,jcf e,h1,h2⟩
  |_=>exact False.elim h
 |_=>exact False.elim h
def jho:List V->Hp->VK->Prop:=λxs H Q=>match xs with
 |[.str z]=>z.length<=sizeLine/\Q (.int z.length) H
 |[.ref p]=>∃ys,jc1 (H p)=some ys/\Q (.int ys.length) H
 |_=>False
theorem kj:jcd X (.builtin "len") jho:=by
 intro pins s σ H xs us Q I r h
 unfold jho at h
 split at h
 ·rename_i z;exact call_len_str pins s σ H _ us Q I r ⟨z,rfl,h⟩
 ·rename_i p
  obtain⟨ys,e,h⟩:=h
  rcases jdw e with e|e
  ·exact zb pins s σ H _ us Q I r ⟨p,ys,rfl,.inl (SqL.of e),h⟩
  ·exact zb pins s σ H _ us Q I r ⟨p,ys,rfl,.inr (SqT.of e),h⟩
 ·exact h.elim
def jkq:List V->Hp->VK->Prop:=λxs H Q=>match xs with
 |[.int i,.int j]=>Q (.int (if j<i then j else i)) H
 |_=>False
theorem call_minU(hc:X.calm=true):jcd X (.builtin "min") jkq:=by
 intro pins s σ H xs us Q I r h
 unfold jkq at h
 split at h
 ·rename_i i j;exact call_min2 hc pins s σ H _ us Q I r ⟨i,j,rfl,h⟩
 ·exact h.elim
def jkp:List V->Hp->VK->Prop:=λxs H Q=>match xs with
 |[.int i,.int j]=>Q (.int (if j>i then j else i)) H
 |_=>False
theorem call_maxU(hc:X.calm=true):jcd X (.builtin "max") jkp:=by
 intro pins s σ H xs us Q I r h
 unfold jkp at h
 split at h
 ·rename_i i j;exact call_max2 hc pins s σ H _ us Q I r ⟨i,j,rfl,h⟩
 ·exact h.elim
def jhn:List V->Hp->VK->Prop:=λxs H Q=>match xs with
 |[.int i]=>Q (.int i) H
 |[.bl k]=>Q (.int (if k then 1 else 0)) H
 |_=>False
theorem jbe:jcd X (.type "int") jhn:=by
 intro pins s σ H xs us Q I r h
 unfold jhn at h
 split at h
 ·rename_i i;exact jbd pins s σ H _ us Q I r (.inl ⟨i,rfl,h⟩)
 ·rename_i k;exact jbd pins s σ H _ us Q I r (.inr ⟨k,rfl,h⟩)
 ·exact h.elim
def sgn(z:Str):List V:=z.cps.toList.map λc=>V.str ⟨#[c]⟩
theorem jny(z:Str):(sgn z).length=z.length:=by simp[sgn,Str.length]
theorem jmn{z:Str}{acc:Array Value}(h:ItemsOf (SignAt z) acc z.cps.size):Vals (sgn z) acc.toList:=by
 obtain⟨h1,h2⟩:=h
 have hl:(sgn z).length=acc.toList.length:=by simp[sgn,h1]
 have gen:∀(xs:List V)(us:List Value),xs.length=us.length->(∀(i:Nat)(x:V)(u:Value),xs[i]?=some x->us[i]?=some u->RelV x u)->Vals xs us:=by
  intro xs
  induction xs with
  |nil=>intro us hl _;cases us with
   |nil=>exact .nil
   |cons _ _=>simp at hl
  |cons x xs ih=>intro us hl h;cases us with
   |nil=>simp at hl
   |cons u us=>exact .cons (h 0 x u rfl rfl) (ih us (by simpa using hl) λi a b e1 e2=>h (i+1) a b (by simpa using e1) (by simpa using e2))
 refine gen _ _ hl λi x u e1 e2=>?_
 obtain⟨c,t,hc,hu⟩:=h2 i u (by simpa using e2)
 subst hu
 simp only[sgn,Aq]at e1
 have:z.cps.toList[i]?=some c:=by simpa using hc
 rw[this]at e1
 have e1':V.str ⟨#[c]⟩=x:=Ar e1
 subst e1'
 exact⟨t,rfl⟩
def jfp:List V->Hp->VK->Prop:=λxs H Q=>match xs with
 |[.str z]=>z.length<=sizeLine/\∀l,H l=none->Q (.ref l) (upd H l (.lst (sgn z)))
 |[.ref p]=>∃ys,jc1 (H p)=some ys/\∀l,H l=none->Q (.ref l) (upd H l (.lst ys))
 |_=>False
theorem jad(hc:X.calm=true):jcd X (.type "list") jfp:=by
 intro pins s σ H xs us Q I r h
 unfold jfp at h
 split at h
 ·rename_i z
  obtain⟨u,rfl,t,rfl⟩:=jc3 r
  obtain⟨hz,q⟩:=h
  refine call_list_str (I.ok.hd hc) z t (λh' tk acc c hk hn hi=>?_) hz
  have hf:=I.hok.fresh (Ac s.heap.objs.size)
  refine⟨.ref s.heap.objs.size,upd H s.heap.objs.size (.lst (sgn z)),I.laid hk (Ac _) ⟨by rw[jny];exact hz,acc.toList,c,jmn hi,by simpa using hn⟩,rfl,q _ hf⟩
 ·rename_i p
  obtain⟨ys,e,h⟩:=h
  rcases jdw e with e|e
  ·exact jar pins s σ H _ us Q I r ⟨p,ys,rfl,.inl (SqL.of e),h⟩
  ·exact jar pins s σ H _ us Q I r ⟨p,ys,rfl,.inr (SqT.of e),h⟩
 ·exact h.elim
def jks:V->List V->Hp->VK->Prop:=λx vs H Q=>match x,vs with
 |.ref l,[.int i]=>∃xs,jcb (H l)=some xs/\0<=i/\∃y,xs[i.toNat]?=some y/\Q y (upd H l (.lst (xs.eraseIdx i.toNat)))
 |_,_=>False
theorem mt_popU:MtM X "list.pop" jks:=by
 intro pins s σ H x vs v us Q I rx rv h
 unfold jks at h
 split at h
 ·rename_i l i
  obtain⟨xs,e,h0,y,hy,q⟩:=h
  have e:=jcf e
  have hz:=(I.lstM e).1
  have hlt:i.toNat<xs.length:=(Aa.mp hy).1
  have hs:sizeLine=16777216:=Wa
  refine mt_popAt pins s σ H _ _ v us Q I rx rv ⟨l,xs,i,i.toNat,y,rfl,rfl,e,by omega,by omega,?_,hy,q⟩
  exact seqIndex_of h0 (by omega)
 ·exact h.elim
def rIsU(K:PySem.W.Frag):List V->Hp->VK->Prop:=λxs H Q=>match xs with
 |[x,.ty c]=>∃t b,TyOf K H x t/\PySem.W.kitOne K t (.type c)=some b/\Q (.bl b) H
 |_=>False
theorem call_isinstanceU:jcd X (.builtin "isinstance") (rIsU X.K):=by
 intro pins s σ H xs us Q I r h
 unfold rIsU at h
 split at h
 ·rename_i x c
  obtain⟨t,b,ty,e,q⟩:=h
  obtain⟨u,w',rfl,rx,rc⟩:=jkx r
  cases rc
  exact jlb I rx ty e λtk=>⟨.bl b,H,I.tok tk,rfl,q⟩
 ·exact h.elim
def ItS(z:Str):It:=⟨λi _=>i<z.length,λi H x H'=>H'=H/\∃c,z.cps.toList[i]?=some c/\x=.str ⟨#[c]⟩,λi _=>z.length<=i⟩
theorem jlu{P:Program}{w:World}{K:PySem.W.Frag}{tg:Expr}(z:Str)(t:Tok)(it:Addr):Turn P w K tg (ItS z) [it] it (λi h=>h.IsStrIter it "str_ascii_iterator" z t i) where
 mem:=by simp
 obj:=λi h st b hb=>by
  have e:b=it:=by simpa using hb
  subst e
  obtain⟨o,e,c,d⟩:=st
  exact⟨o,e,λv z=>by rw[d]at z;cases z⟩
 keep:=λi h h' st k=>let⟨o,ho,r⟩:=st;⟨o,k it (by simp) o ho,r⟩
 item:=by
  intro X hP hw hK hc i pins s σ H E I hf st hg
  subst hP hw hK
  obtain⟨f0,f1,f2,f3,f4,f5⟩:=hf it (by simp)
  have hi:i<z.cps.size:=hg
  refine wpAny_pyNext_ascii_item st (c:=z.cps[i]) (by simp[hi]) λh' st' sb=>?_
  have I1:Inv X pins σ H {s with heap:=h',toks:=s.toks+1}:=I.turned (t':=s.toks+1) (λb o hb e=>(sb.2 b hb).trans e) f0 f1 f3 f4 f5
  obtain⟨o,e,c,d⟩:=id st'
  exact⟨_,rfl,jfi (s:={s with heap:=h',toks:=s.toks+1}) e c d (by decide) ⟨.str ⟨#[z.cps[i]]⟩,H,I1,⟨_,rfl⟩,⟨rfl,_,by simp[hi],rfl⟩,st',λb hb=>(hf b hb).1⟩⟩
 done:=by
  intro X hP hw hK hc i pins s σ H E I hf st hg
  subst hP hw hK
  obtain⟨f0,f1,f2,f3,f4,f5⟩:=hf it (by simp)
  have hi:z.cps.size<=i:=hg
  exact wpAny_pyNext_ascii_end (I.ok.hd hc) st (by simp[hi]) λh' eb=>⟨rfl,I.turned (t':=s.toks) (λb o hb e=>eb b o hb e) f0 f1 f3 f4 f5⟩
 self:=λ_ _ _ _ _ st h=>wpAny_pyIter_striter_ascii st h
theorem jlv{P:Program}{w:World}{K:PySem.W.Frag}{tg:Expr}(z:Str)(t:Tok)(it:Addr):Turn P w K tg (ItS z) [it] it (λi h=>h.IsStrIter it "str_iterator" z t i) where
 mem:=by simp
 obj:=λi h st b hb=>by
  have e:b=it:=by simpa using hb
  subst e
  obtain⟨o,e,c,d⟩:=st
  exact⟨o,e,λv z=>by rw[d]at z;cases z⟩
 keep:=λi h h' st k=>let⟨o,ho,r⟩:=st;⟨o,k it (by simp) o ho,r⟩
 item:=by
  intro X hP hw hK hc i pins s σ H E I hf st hg
  subst hP hw hK
  obtain⟨f0,f1,f2,f3,f4,f5⟩:=hf it (by simp)
  have hi:i<z.cps.size:=hg
  refine wpAny_pyNext_wide_item st (c:=z.cps[i]) (by simp[hi]) λh' st' sb=>?_
  have I1:Inv X pins σ H {s with heap:=h',toks:=s.toks+1}:=I.turned (t':=s.toks+1) (λb o hb e=>(sb.2 b hb).trans e) f0 f1 f3 f4 f5
  obtain⟨o,e,c,d⟩:=id st'
  exact⟨_,rfl,jfi (s:={s with heap:=h',toks:=s.toks+1}) e c d (by decide) ⟨.str ⟨#[z.cps[i]]⟩,H,I1,⟨_,rfl⟩,⟨rfl,_,by simp[hi],rfl⟩,st',λb hb=>(hf b hb).1⟩⟩
 done:=by
  intro X hP hw hK hc i pins s σ H E I hf st hg
  subst hP hw hK
  obtain⟨f0,f1,f2,f3,f4,f5⟩:=hf it (by simp)
  have hi:z.cps.size<=i:=hg
  exact wpAny_pyNext_wide_end (I.ok.hd hc) st (by simp[hi]) λh' eb=>⟨rfl,I.turned (t':=s.toks) (λb o hb e=>eb b o hb e) f0 f1 f3 f4 f5⟩
 self:=λ_ _ _ _ _ st h=>wpAny_pyIter_striter_wide st h
def iAny(K:PySem.W.Frag)(t:TE):TI:=λσ H R=>t σ H λx H1=>match x with
 |.str z=>R (ItS z) H1
 |.ref a=>match H1 a with
  |some (.lst _)=>R (Itl K a) H1
  |some (.tup _)=>R (Itt K a) H1
  |_=>False
 |_=>False
theorem pi_any{tg l:Expr}{tl:TE}(hl:PE X l tl):PI X tg l (iAny X.K tl):=by
 intro pins s σ H R I h
 refine thn (hl pins s σ H _ I h) λv s1 ⟨x,H1,I1,r1,q1⟩=>?_
 cases x with
 |str z =>
  obtain⟨t,rfl⟩:=r1
  have fr:∀b∈[s1.heap.objs.size],FpOk X pins H1 b:=λb hb=>by
   have e:b=s1.heap.objs.size:=by simpa using hb
   subst e
   exact I1.fpOk (Ac _) (I1.hok.fresh (Ac _))
  cases ha:z.cps.all (·<128)
  ·exact wpAny_pyIter_wide ha ⟨s1.heap.objs.size,[s1.heap.objs.size],_,_,H1,rfl,I1.kept (t':=s1.toks) λb o e=>Ad _ e,jlv z t _,⟨_,Aw _ rfl,rfl,rfl⟩,fr,q1⟩
  ·exact wpAny_pyIter_ascii ha ⟨s1.heap.objs.size,[s1.heap.objs.size],_,_,H1,rfl,I1.kept (t':=s1.toks) λb o e=>Ad _ e,jlu z t _,⟨_,Aw _ rfl,rfl,rfl⟩,fr,q1⟩
 |ref a =>
  cases r1
  have fr:∀b∈[s1.heap.objs.size],FpOk X pins H1 b:=λb hb=>by
   have e:b=s1.heap.objs.size:=by simpa using hb
   subst e
   exact I1.fpOk (Ac _) (I1.hok.fresh (Ac _))
  simp only at q1
  split at q1
  ·rename_i xs e
   obtain⟨its,rv,p,hz⟩:=I1.list (SqL.of e)
   exact wpAny_pyIter_list p.isList ⟨s1.heap.objs.size,[s1.heap.objs.size],_,_,H1,rfl,I1.kept (t':=s1.toks) λb o e=>Ad _ e,jlt a _,⟨_,Aw _ rfl,rfl,rfl⟩,fr,q1⟩
  ·rename_i xs e
   obtain⟨its,rv,p,hz⟩:=I1.tuple (SqT.of e)
   exact wpAny_pyIter_tuple (show s1.heap.IsTuple a its.toArray from p) ⟨s1.heap.objs.size,[s1.heap.objs.size],_,_,H1,rfl,I1.kept (t':=s1.toks) λb o e=>Ad _ e,jkw a _,⟨_,Aw _ rfl,rfl,rfl⟩,fr,q1⟩
  ·exact q1.elim
 |_=>exact False.elim q1
theorem jnc{z:Str}{g:TG}{tb:TS}{D:Ends}{σ:St}{H:Hp}(Pv:Nat->St->Hp->Prop)(h0:Pv 0 σ H)
  (hs:∀i c σ H,z.cps.toList[i]?=some c->Pv i σ H->g (.str ⟨#[c]⟩) σ H λσ2 H2=>tb {D with nx:=Pv (i+1),ct:=Pv (i+1),bk:=D.nx} σ2 H2) (hd:∀σ H,Pv z.length σ H->D.nx σ H) :
  ∃W:Nat->Nat->St->Hp->Prop,(∃m,W 0 m σ H)/\∀i m σ H,W i m σ H ->
   ((ItS z).stop i H/\D.nx σ H)\/((ItS z).go i H/\∃N:St->Hp->Prop,(∀σ' H',N σ' H'->∃m',m'<m/\W (i+1) m' σ' H')/\∀x H',(ItS z).yld i H x H'->g x σ H' λσ2 H2=>tb {D with nx:=N,ct:=N,bk:=D.nx} σ2 H2):=by
 refine⟨λi m σ H=>m=z.length-i/\i<=z.length/\Pv i σ H,⟨z.length,by simp,Ix _,h0⟩,?_⟩
 rintro i m σ H ⟨rfl,hi,p⟩
 by_cases hlt:i<z.length
 ·refine .inr ⟨hlt,Pv (i+1),λσ' H' p'=>⟨z.length-(i+1),by omega,rfl,hlt,p'⟩,λx H' y=>?_⟩
  obtain⟨e,c,e1,e2⟩:=y
  subst e e2
  exact hs i c σ _ e1 p
 ·have e:i=z.length:=by omega
  subst e
  exact .inl ⟨Ac _,hd σ H p⟩
mutual
def Rep(H:Hp):V->PyData->Prop
 |v,.none=>v=.non
 |v,.bool b=>v=.bl b
 |v,.int i=>v=.int i
 |v,.str x=>v=.str x
 |v,.list ds=>∃a vs,v=.ref a/\H a=some (.lst vs)/\Reps H vs ds
 |v,.tuple ds=>∃a vs,v=.ref a/\H a=some (.tup vs)/\Reps H vs ds
 |_,.dict _=>False
def Reps(H:Hp):List V->List PyData->Prop
 |[],[]=>True
 |v::vs,d::ds=>Rep H v d/\Reps H vs ds
 |_,_=>False
end
section
variable{pins:List (Addr×Obj)}{σ:L2.St}{H:Hp}{s:Shared}
mutual
theorem Rep.reads(I:Inv X pins σ H s):∀{d:PyData}{v:V}{u:Value},Rep H v d->RelV v u->∃as,Reads s.heap u d as
 |.none,v,u,h,r=>by simp only[Rep]at h;subst h;cases r;exact⟨_,.none⟩
 |.bool b,v,u,h,r=>by simp only[Rep]at h;subst h;cases r;exact⟨_,.bool b⟩
 |.int i,v,u,h,r=>by simp only[Rep]at h;subst h;obtain⟨t,rfl⟩:=r;exact⟨_,.int i t⟩
 |.str x,v,u,h,r=>by simp only[Rep]at h;subst h;obtain⟨t,rfl⟩:=r;exact⟨_,.str x t⟩
 |.list ds,v,u,h,r=>by
  simp only[Rep]at h
  obtain⟨a,vs,rfl,e,h⟩:=h
  cases r
  obtain⟨its,rv,⟨o,n,e1,e2,e3,e4⟩,hz⟩:=I.list (SqL.of e)
  obtain⟨as,q⟩:=Reps.reads I h rv
  exact⟨_,reads_list_at e1 e2 e4 (by simpa using q)⟩
 |.tuple ds,v,u,h,r=>by
  simp only[Rep]at h
  obtain⟨a,vs,rfl,e,h⟩:=h
  cases r
  obtain⟨its,rv,⟨o,e1,e2,n,e4⟩,hz⟩:=I.tuple (SqT.of e)
  obtain⟨as,q⟩:=Reps.reads I h rv
  exact⟨_,reads_tuple_at e1 e2 e4 (by simpa using q)⟩
 |.dict _,v,u,h,r=>by simp only[Rep]at h
theorem Reps.reads(I:Inv X pins σ H s):∀{ds:List PyData}{vs:List V}{us:List Value},Reps H vs ds->Vals vs us->∃as,ReadsAll s.heap us ds as
 |[],[],us,h,r=>by cases r;exact⟨_,.nil⟩
 |[],v::vs,us,h,r=>by simp only[Reps]at h
 |d::ds,[],us,h,r=>by simp only[Reps]at h
 |d::ds,v::vs,us,h,r=>by
  simp only[Reps]at h
  cases r with
  |cons r1 r2 =>
   obtain⟨as,q⟩:=Rep.reads I h.1 r1
   obtain⟨bs,q2⟩:=Reps.reads I h.2 r2
   exact⟨_,.cons q q2⟩
end
end
def rEqD:R2:=λx y H Q=>∃d e,Rep H x d/\Rep H y e/\SeqAt.shaped d=true/\SeqAt.shaped e=true/\Q (.bl (PyData.eqv d e)) H
theorem op_eqD(hu:X.A.units+64<cLine):OpR X (compareOp .Eq) rEqD:=by
 intro pins s σ H x y v u Q I rx ry h
 obtain⟨d,e,hd,he,sd,se,q⟩:=h
 obtain⟨as,r1⟩:=hd.reads I rx
 obtain⟨bs,r2⟩:=he.reads I ry
 exact eq_dataH r1 r2 sd se hu ⟨.bl _,H,I,rfl,q⟩
def rNeD:R2:=λx y H Q=>∃d e,Rep H x d/\Rep H y e/\SeqAt.shaped d=true/\SeqAt.shaped e=true/\Q (.bl (!PyData.eqv d e)) H
theorem op_neD(hu:X.A.units+64<cLine):OpR X (compareOp .NotEq) rNeD:=by
 intro pins s σ H x y v u Q I rx ry h
 obtain⟨d,e,hd,he,sd,se,q⟩:=h
 obtain⟨as,r1⟩:=hd.reads I rx
 obtain⟨bs,r2⟩:=he.reads I ry
 exact ne_dataH r1 r2 sd se hu ⟨.bl _,H,I,rfl,q⟩
end
theorem yd:bootBuiltins "len"=some (.builtin "len"):=by decide +kernel
theorem bt_min:bootBuiltins "min"=some (.builtin "min"):=by decide +kernel
theorem bt_max:bootBuiltins "max"=some (.builtin "max"):=by decide +kernel
theorem zh:bootBuiltins "isinstance"=some (.builtin "isinstance"):=by decide +kernel
theorem bt_all:bootBuiltins "all"=some (.builtin "all"):=by decide +kernel
theorem bt_any:bootBuiltins "any"=some (.builtin "any"):=by decide +kernel
theorem ja0:bootBuiltins "int"=some (.type "int"):=by decide +kernel
theorem jat:bootBuiltins "list"=some (.type "list"):=by decide +kernel
theorem zm:bootBuiltins "tuple"=some (.type "tuple"):=by decide +kernel
theorem bt_bool:bootBuiltins "bool"=some (.type "bool"):=by decide +kernel
theorem bt_enumerate:bootBuiltins "enumerate"=some (.type "enumerate"):=by decide +kernel
section
variable{X:Cx}
def isL(x:V)(H:Hp):Prop:=match x with
 |.ref p=>(jcb (H p)).isSome=true
 |_=>False
def tBML(r:V->List V->Hp->VK->Prop)(to:TE)(t:TA):TE:=λσ H Q=>to σ H λx H1=>isL x H1/\t σ H1 λxs H2=>r x xs H2 Q
theorem isL.ty{K:PySem.W.Frag}{x:V}{H:Hp}(h:isL x H):tyV K "list" x H:=by
 unfold isL at h
 split at h
 ·rename_i p
  cases e:jcb (H p)with
  |none=>rw[e]at h;cases h
  |some ys=>exact .inl ⟨rfl,ys,SqL.of (jcf e)⟩
 ·exact h.elim
variable{o e:Expr}{es:List Expr}{to:TE}{t:TA}{name:Str}{apos cpos:Pos}{id:String}{r:V->List V->Hp->VK->Prop}
theorem PE.imp{e:Expr}{t t':TE}(h:PE X e t)(hi:∀σ H Q,t' σ H Q->t σ H Q):PE X e t':=λpins s σ H Q I hw=>h pins s σ H Q I (hi σ H Q hw)
theorem pe_bmL(slot:Slot "list" name id)(hty:typeOf (.builtin id)=pure (.type "method_descriptor"))(hm:MtM X id r)(ho:PE X o to)(ha:PA X (e::es) t)(mono:∀σ H Q Q',(∀v H',Q v H'->Q' v H')->to σ H Q->to σ H Q')
  (hbase:attributeBase o name X.env (eval o X.env)=eval o X.env:=by rfl)
  (hfew:((backTo cpos (starEach (e::es) X.env)).all (λx=>!x.1) && (backToKw cpos (keywordEach [] X.env)).all (λx=>x.1.isSome)
   && decide ((e::es).length+([]:List Keyword).length+(if([]:List Keyword).isEmpty then 0 else 1)<30))=true:=by rfl)
  (hline:(apos.endLine == cpos.line)=true:=by rfl) (hs:starEach (e::es) X.env=(false,eval e X.env)::starEach es X.env:=by rfl) (hplain:(backTo cpos (starEach es X.env)).any (·.1)=false:=by rfl) :
  PE X (.Call (.Attribute o name apos) (e::es) [] cpos) (tBML r to t) :=
 (jb5 PySem.F.plainAttrs_list slot hty hm ho ha hbase hfew hline hs hplain).imp λσ H Q h=>mono σ H _ _ (λv H' q=>⟨q.1.ty,q.2⟩) h
def jhr(r:V->List V->Hp->VK->Prop)(to:TE):TE:=λσ H Q=>to σ H λx H1=>isL x H1/\r x [] H1 Q
theorem pe_bmL0(slot:Slot "list" name id)(hty:typeOf (.builtin id)=pure (.type "method_descriptor"))(hm:MtM X id r)(ho:PE X o to)(mono:∀σ H Q Q',(∀v H',Q v H'->Q' v H')->to σ H Q->to σ H Q')
  (hbase:attributeBase o name X.env (eval o X.env)=eval o X.env:=by rfl) (hline:(apos.endLine == cpos.line)=true:=by rfl):PE X (.Call (.Attribute o name apos) [] [] cpos) (jhr r to) :=
 (pe_bm0 PySem.F.plainAttrs_list slot hty hm ho hbase hline).imp λσ H Q h=>mono σ H _ _ (λv H' q=>⟨q.1.ty,q.2⟩) h
theorem jca{i:Nat}:∀σ H Q Q',(∀v H',Q v H'->Q' v H')->tVar i σ H Q->tVar i σ H Q':=λ_ _ _ _ h ⟨v,e,q⟩=>⟨v,e,h v _ q⟩
def je7:V->List V->Hp->VK->Prop:=λx vs H Q=>match x,vs with
 |.ref l,[y]=>∃xs,jcb (H l)=some xs/\xs.length<sizeLine/\Q .non (upd H l (.lst (xs++[y])))
 |_,_=>False
theorem j9:MtM X "list.append" je7:=by
 intro pins s σ H x vs v us Q I rx rv h
 unfold je7 at h
 split at h
 ·rename_i l y
  obtain⟨xs,e,h⟩:=h
  exact jas pins s σ H _ _ v us Q I rx rv ⟨l,xs,y,rfl,rfl,jcf e,h⟩
 ·exact h.elim
def rEqU:R2:=λx y H Q=>match x,y with
 |.int i,.int j=>Q (.bl (decide (i=j))) H
 |.bl i,.bl j=>Q (.bl (decide (i=j))) H
 |.str i,.str j=>Q (.bl (decide (i=j))) H
 |.ref a,.ref b=>rEqD (.ref a) (.ref b) H Q
 |x,y=>scal x y=true/\Q (.bl (decide (x=y))) H
def rNeU:R2:=λx y H Q=>match x,y with
 |.int i,.int j=>Q (.bl (!decide (i=j))) H
 |.bl i,.bl j=>Q (.bl (!decide (i=j))) H
 |.str i,.str j=>Q (.bl (!decide (i=j))) H
 |.ref a,.ref b=>rNeD (.ref a) (.ref b) H Q
 |x,y=>scal x y=true/\Q (.bl (!decide (x=y))) H
theorem kx(hu:X.A.units+64<cLine):OpR X (compareOp .Eq) rEqU:=by
 intro pins s σ H x y v u Q I rx ry h
 unfold rEqU at h
 split at h
 ·exact jbm pins s σ H _ _ v u Q I rx ry ⟨rfl,by simpa using h⟩
 ·exact jbm pins s σ H _ _ v u Q I rx ry ⟨rfl,by simpa using h⟩
 ·exact jbm pins s σ H _ _ v u Q I rx ry ⟨rfl,by simpa using h⟩
 ·exact op_eqD hu pins s σ H _ _ v u Q I rx ry h
 ·exact jbm pins s σ H _ _ v u Q I rx ry h
theorem jb1(hu:X.A.units+64<cLine):OpR X (compareOp .NotEq) rNeU:=by
 intro pins s σ H x y v u Q I rx ry h
 unfold rNeU at h
 split at h
 ·exact jbn pins s σ H _ _ v u Q I rx ry ⟨rfl,by simpa using h⟩
 ·exact jbn pins s σ H _ _ v u Q I rx ry ⟨rfl,by simpa using h⟩
 ·exact jbn pins s σ H _ _ v u Q I rx ry ⟨rfl,by simpa using h⟩
 ·exact op_neD hu pins s σ H _ _ v u Q I rx ry h
 ·exact jbn pins s σ H _ _ v u Q I rx ry h
theorem jir(H:Hp)(Q:VK)(i j:Int):rLtU (.int i) (.int j) H Q=(Q (.bl (decide (i<j))) H):=rfl
theorem jis(H:Hp)(Q:VK)(i j:Str):rLtU (.str i) (.str j) H Q=(Q (.bl (decide (i.cps.toList<j.cps.toList))) H):=rfl
theorem jip(H:Hp)(Q:VK)(i j:Int):rLeU (.int i) (.int j) H Q=(Q (.bl (decide (i<=j))) H):=rfl
theorem jiq(H:Hp)(Q:VK)(i j:Str):rLeU (.str i) (.str j) H Q=(Q (.bl (!decide (j.cps.toList<i.cps.toList))) H):=rfl
theorem jio(H:Hp)(Q:VK)(z:Str)(i:Int):rIxU (.str z) (.int i) H Q=(z.length<=sizeLine/\∃c,atI z.cps.toList i=some c/\Q (.str ⟨#[c]⟩) H):=rfl
theorem jdx(H:Hp)(Q:VK)(p:Addr)(i:Int):rIxU (.ref p) (.int i) H Q=(∃xs,jc1 (H p)=some xs/\∃v,atI xs i=some v/\Q v H):=rfl
theorem jg1(H:Hp)(Q:VK)(z:Str):jho [.str z] H Q=(z.length<=sizeLine/\Q (.int z.length) H):=rfl
theorem jc5(H:Hp)(Q:VK)(p:Addr):jho [.ref p] H Q=(∃ys,jc1 (H p)=some ys/\Q (.int ys.length) H):=rfl
theorem jg3(H:Hp)(Q:VK)(i j:Int):jkq [.int i,.int j] H Q=(Q (.int (if j<i then j else i)) H):=rfl
theorem jg2(H:Hp)(Q:VK)(i j:Int):jkp [.int i,.int j] H Q=(Q (.int (if j>i then j else i)) H):=rfl
theorem jg0(H:Hp)(Q:VK)(i:Int):jhn [.int i] H Q=(Q (.int i) H):=rfl
theorem jin(H:Hp)(Q:VK)(k:Bool):jhn [.bl k] H Q=(Q (.int (if k then 1 else 0)) H):=rfl
theorem jfr(H:Hp)(Q:VK)(z:Str):jfp [.str z] H Q=(z.length<=sizeLine/\∀l,H l=none->Q (.ref l) (upd H l (.lst (sgn z)))):=rfl
theorem jfq(H:Hp)(Q:VK)(p:Addr):jfp [.ref p] H Q=(∃ys,jc1 (H p)=some ys/\∀l,H l=none->Q (.ref l) (upd H l (.lst ys))):=rfl
theorem jg6(H:Hp)(Q:VK)(l:Addr)(i:Int):jks (.ref l) [.int i] H Q=(∃xs,jcb (H l)=some xs/\0<=i/\∃y,xs[i.toNat]?=some y/\Q y (upd H l (.lst (xs.eraseIdx i.toNat)))):=rfl
theorem jcg(H:Hp)(Q:VK)(l:Addr)(y:V):je7 (.ref l) [y] H Q=(∃xs,jcb (H l)=some xs/\xs.length<sizeLine/\Q .non (upd H l (.lst (xs++[y])))):=rfl
theorem jij(H:Hp)(Q:VK)(i j:Int):rEqU (.int i) (.int j) H Q=(Q (.bl (decide (i=j))) H):=rfl
theorem jjv(H:Hp)(Q:VK)(i j:Bool):rEqU (.bl i) (.bl j) H Q=(Q (.bl (decide (i=j))) H):=rfl
theorem jil(H:Hp)(Q:VK)(i j:Str):rEqU (.str i) (.str j) H Q=(Q (.bl (decide (i=j))) H):=rfl
theorem jik(H:Hp)(Q:VK)(i j:Addr):rEqU (.ref i) (.ref j) H Q=(rEqD (.ref i) (.ref j) H Q):=rfl
theorem jit(H:Hp)(Q:VK)(i j:Int):rNeU (.int i) (.int j) H Q=(Q (.bl (!decide (i=j))) H):=rfl
theorem jjy(H:Hp)(Q:VK)(i j:Bool):rNeU (.bl i) (.bl j) H Q=(Q (.bl (!decide (i=j))) H):=rfl
theorem jiu(H:Hp)(Q:VK)(i j:Str):rNeU (.str i) (.str j) H Q=(Q (.bl (!decide (i=j))) H):=rfl
theorem je8(H:Hp)(Q:VK)(i j:Addr):rNeU (.ref i) (.ref j) H Q=(rNeD (.ref i) (.ref j) H Q):=rfl
theorem jjx(K:PySem.W.Frag)(x:V)(c:String)(H:Hp)(Q:VK):rIsU K [x,.ty c] H Q=(∃t b,TyOf K H x t/\PySem.W.kitOne K t (.type c)=some b/\Q (.bl b) H):=rfl
theorem jg7(p:Addr)(k:Int)(v:V)(H:Hp)(Q:Hp->Prop):jmz (.ref p) (.int k) v H Q=(∃xs,jcb (H p)=some xs/\∃j,ixN xs.length k=some j/\Q (upd H p (.lst (xs.set j v)))):=rfl
theorem jjp(p:Addr)(H:Hp):isL (.ref p) H=((jcb (H p)).isSome=true):=rfl
def jcm(J:It)(g:TG)(tb:TS)(D:Ends)(σ:L2.St)(H1:Hp):Prop:=∃W:Nat->Nat->L2.St->Hp->Prop,(∃m,W 0 m σ H1)/\∀i m σ H,W i m σ H ->
 (J.stop i H/\D.nx σ H)\/(J.go i H/\∃N:L2.St->Hp->Prop,(∀σ' H',N σ' H'->∃m',m'<m/\W (i+1) m' σ' H')/\∀x H',J.yld i H x H'->g x σ H' λσ2 H2=>tb {D with nx:=N,ct:=N,bk:=D.nx} σ2 H2)
theorem jj4(wi:TI)(g:TG)(tb:TS)(D:Ends)(σ:L2.St)(H:Hp):tFor wi g tb D σ H=wi σ H λJ H1=>jcm J g tb D σ H1:=rfl
theorem jcn{lo:Int}{n:Nat}{g:TG}{tb:TS}{D:Ends}{σ:L2.St}{H:Hp}(Pv:Nat->L2.St->Hp->Prop)(h0:Pv 0 σ H)
  (hs:∀i σ H,i<n->Pv i σ H->g (.int (lo+i)) σ H λσ2 H2=>tb {D with nx:=Pv (i+1),ct:=Pv (i+1),bk:=D.nx} σ2 H2) (hd:∀σ H,Pv n σ H->D.nx σ H):jcm (Itr lo n) g tb D σ H:=jk8 Pv h0 hs hd
theorem jmd{z:Str}{g:TG}{tb:TS}{D:Ends}{σ:L2.St}{H:Hp}(Pv:Nat->L2.St->Hp->Prop)(h0:Pv 0 σ H)
  (hs:∀i c σ H,z.cps.toList[i]?=some c->Pv i σ H->g (.str ⟨#[c]⟩) σ H λσ2 H2=>tb {D with nx:=Pv (i+1),ct:=Pv (i+1),bk:=D.nx} σ2 H2) (hd:∀σ H,Pv z.length σ H->D.nx σ H):jcm (ItS z) g tb D σ H:=jnc Pv h0 hs hd
theorem jd8{K:PySem.W.Frag}{a:Addr}{xs:List V}{g:TG}{tb:TS}{D:Ends}{σ:L2.St}{H:Hp}(Pv:Nat->L2.St->Hp->Prop)(h0:Pv 0 σ H)(hl:∀i σ H,i<=xs.length->Pv i σ H->H a=some (.lst xs))
  (hs:∀i x σ H,xs[i]?=some x->Pv i σ H->g x σ H λσ2 H2=>tb {D with nx:=Pv (i+1),ct:=Pv (i+1),bk:=D.nx} σ2 H2) (hd:∀σ H,Pv xs.length σ H->D.nx σ H):jcm (Itl K a) g tb D σ H :=
 jl7 Pv h0 (λi σ H h p=>SqL.of (hl i σ H h p)) hs hd
theorem jdu{K:PySem.W.Frag}{a:Addr}{xs:List V}{g:TG}{tb:TS}{D:Ends}{σ:L2.St}{H:Hp}(Pv:Nat->L2.St->Hp->Prop)(h0:Pv 0 σ H)(hl:∀i σ H,i<=xs.length->Pv i σ H->H a=some (.tup xs))
  (hs:∀i x σ H,xs[i]?=some x->Pv i σ H->g x σ H λσ2 H2=>tb {D with nx:=Pv (i+1),ct:=Pv (i+1),bk:=D.nx} σ2 H2) (hd:∀σ H,Pv xs.length σ H->D.nx σ H):jcm (Itt K a) g tb D σ H :=
 jnd Pv h0 (λi σ H h p=>SqT.of (hl i σ H h p)) hs hd
end
def clOf(env:Env):List (Str×NameKind)->List (Str×Addr)->List (Str×Addr)
 |[],cs=>cs
 |(n,k)::r,cs=>clOf env r (if k == .free then(n,(env.cells.lookup n).getD 0)::cs else cs)
theorem jc6{env:Env}{scope:Scope}(h:∀y∈scope.names,y.2=.free->∃c,env.cells.lookup y.1=some c):closureFor scope env=pure (clOf env scope.names []):=by
 have gen:∀(l:List (Str×NameKind))(cs:List (Str×Addr)),(∀y∈l,y.2=.free->∃c,env.cells.lookup y.1=some c) ->
   (forIn l cs λx r=>(match x with|(name,kind)=>if(kind == NameKind.free)=true then do let c <-cellOf env name;pure (ForInStep.yield ((name,c)::r))else pure (ForInStep.yield r)):Sem (List (Str×Addr)))=pure (clOf env l cs):=by
  intro l
  induction l with
  |nil=>intro cs _;rfl
  |cons y l ih =>
   intro cs hy
   obtain⟨n,k⟩:=y
   rw[List.forIn_cons]
   have hr:=λz hz=>hy z (Ik _ hz)
   by_cases hk:k=.free
   ·subst hk
    obtain⟨c,hc⟩:=hy _ (Ob ..) rfl
    have hc':env.cells.lookup n=some c:=hc
    have e:cellOf env n=pure c:=by unfold cellOf;rw[hc']
    simp only[O4,Of,e,pure_bind]
    rw[ih _ hr]
    simp[clOf,hc']
   ·have hb:(k == NameKind.free)=false:=by simpa using hk
    simp only[hb,Iq,Oe,pure_bind]
    rw[ih _ hr]
    simp[clOf,hb]
 exact(Iy (· >>= λs=>pure s) (gen scope.names [] h)).trans (by rfl)
theorem je3{env:Env}:∀(l:List (Str×NameKind))(cs:List (Str×Addr))(x:Str)(c:Addr),(∀y∈l,y.2=.free->∃c,env.cells.lookup y.1=some c)->(∀x c,cs.lookup x=some c->env.cells.lookup x=some c) ->
  (clOf env l cs).lookup x=some c->env.cells.lookup x=some c
 |[],cs,x,c,_,hc,h=>hc x c h
 |(n,k)::r,cs,x,c,hl,hc,h=>by
  unfold clOf at h
  refine je3 r _ x c (λy hy=>hl y (Ik _ hy)) (λz d hz=>?_) h
  split at hz
  ·rename_i hk
   rw[List.lookup_cons]at hz
   cases hzn:z == n with
   |true =>
    rw[hzn]at hz
    obtain⟨c',hc'⟩:=hl _ (Ob ..) (by simpa using hk)
    have hc'':env.cells.lookup n=some c':=hc'
    have ez:z=n:=by simpa using hzn
    subst ez
    rw[hc'']at hz
    rw[hc'']
    exact hz
   |false=>rw[hzn]at hz;exact hc z d hz
  ·exact hc z d hz
theorem jgm{env:Env}:∀(l:List (Str×NameKind))(cs:List (Str×Addr))(x:Str),(∃c,cs.lookup x=some c)->∃c,(clOf env l cs).lookup x=some c
 |[],cs,x,h=>h
 |(n,k)::r,cs,x,h=>by
  unfold clOf
  refine jgm r _ x ?_
  split
  ·rw[List.lookup_cons]
   cases x == n with
   |true=>exact⟨_,rfl⟩
   |false=>exact h
  ·exact h
theorem je2{env:Env}:∀(l:List (Str×NameKind))(cs:List (Str×Addr))(x:Str),(x,NameKind.free)∈l->∃c,(clOf env l cs).lookup x=some c
 |(n,k)::r,cs,x,h=>by
  unfold clOf
  rcases A2.mp h with h|h
  ·cases h
   refine jgm r _ _ ?_
   simp[List.lookup_cons]
  ·exact je2 r _ x h
abbrev Cx.comp(X:Cx)(scope:Scope)(C:Addr)(Nc:List Str)(s3:Shared)(H3:Hp)(fp:List Addr):Cx :=
 {X with N:=Nc,s₀:=s3,H₀:=H3,env:=compEnvC scope (clOf X.env scope.names []) C X.env,outer:=X.stack,stack:=X.stack,ex:=fp,fn:=λ_=>false,pn:=[],xe:=λ_ _=>False}
def jcz(js:List (Option Nat))(σ:L2.St):L2.St:=js.map λo=>o.bind λj=>(σ[j]?).getD none
def jeo(D:Addr)(te:TE):TS:=λE σ H=>te σ H λv H1=>∃ys,jcb (H1 D)=some ys/\ys.length<sizeLine/\E.nx σ (upd H1 D (.lst (ys++[v])))
def jem(wi:TI)(g:TG)(js:List (Option Nat))(te:TE):TE:=λσ H Q=>wi σ H λJ H1=>∀D,H1 D=none ->
 jcm J g (jeo D te) {nx:=λ_ H'=>Q (.ref D) H',rt:=λ_ _=>False} (jcz js σ) (upd H1 D (.lst []))
structure CompOk(X:Cx)(scope:Scope)(Nc:List Str)(js:List (Option Nat)):Prop where
 kind:scope.kind=.function
 nocell:∀y∈scope.names,y.2≠.cell
 loc:∀y∈scope.names,y.2=.local->scope.names.lookup y.1=some .local
 free:∀y∈scope.names,y.2=.free->X.env.kindOf y.1=some .cell\/X.env.kindOf y.1=some .free
 len:js.length=Nc.length
 nol:∀x,(x,NameKind.free)∈scope.names->scope.names.lookup x≠some .local
 see:∀(i j:Nat)(x:Str),js[i]?=some (some j)->Nc[i]?=some x->X.N[j]?=some x/\(x,NameKind.free)∈scope.names
section
variable{X:Cx}{pins:List (Addr×Obj)}{σ:L2.St}{H:Hp}{s:Shared}{scope:Scope}{Nc:List Str}{js:List (Option Nat)}{fp:List Addr}
theorem CompOk.has(c:CompOk X scope Nc js)(I:Inv X pins σ H s):∀y∈scope.names,y.2=.free->∃a,X.env.cells.lookup y.1=some a:=λy hy hf=>I.ok.has _ (c.free y hy hf)
theorem jee{env:Env}{x:Str}:∀{l:List (Str×NameKind)},(∀y∈l,y.2≠.cell) ->
  ((l.map fun(n,k)=>if(k == NameKind.free && env.scope.kind == .function && env.kindOf n == some .cell)then(n,NameKind.cell)else(n,k)).lookup x=some .cell \/
   (l.map fun(n,k)=>if(k == NameKind.free && env.scope.kind == .function && env.kindOf n == some .cell)then(n,NameKind.cell)else(n,k)).lookup x=some .free)->(x,NameKind.free)∈l
 |[],_,h=>by simp at h
 |(n,k)::r,hc,h=>by
  rw[Al]at h
  by_cases hx:x=n
  ·subst hx
   have hk:k=.free:=by
    have hk':k≠.cell:=hc _ (Ob ..)
    by_cases hcond:(k == NameKind.free && env.scope.kind == .function && env.kindOf x == some .cell)=true
    ·rw[Oa,Oa]at hcond
     simpa using hcond.1.1
    ·simp only[hcond,Iq,Oe,List.lookup_cons,O4]at h
     rcases h with h|h
     ·exact absurd (Ar h) hk'
     ·exact Ar h
   subst hk
   exact Ob ..
  ·refine Ik _ (jee (env:=env) (λy hy=>hc y (Ik _ hy)) ?_)
   have hxn:(x == n)=false:=by simpa using hx
   by_cases hcond:(k == NameKind.free && env.scope.kind == .function && env.kindOf n == some .cell)=true
   ·simpa only[hcond,Of,List.lookup_cons,hxn]using h
   ·simpa only[hcond,Iq,Oe,List.lookup_cons,hxn]using h
theorem je1{env:Env}{x:Str}:∀{l:List (Str×NameKind)},
  (l.map fun(n,k)=>if(k == NameKind.free && env.scope.kind == .function && env.kindOf n == some .cell)then(n,NameKind.cell)else(n,k)).lookup x=some .local->l.lookup x=some .local
 |[],h=>by simp at h
 |(n,k)::r,h=>by
  rw[Al]at h
  by_cases hx:x=n
  ·subst hx
   by_cases hcond:(k == NameKind.free && env.scope.kind == .function && env.kindOf x == some .cell)=true
   ·simp only[hcond,Of,List.lookup_cons,O4]at h
    cases h
   ·simp only[hcond,Iq,Oe,List.lookup_cons,O4]at h
    simp only[List.lookup_cons,O4]
    exact h
  ·have hxn:(x == n)=false:=by simpa using hx
   rw[List.lookup_cons,hxn]
   refine je1 (env:=env) ?_
   by_cases hcond:(k == NameKind.free && env.scope.kind == .function && env.kindOf n == some .cell)=true
   ·simpa only[hcond,Of,List.lookup_cons,hxn]using h
   ·simpa only[hcond,Iq,Oe,List.lookup_cons,hxn]using h
theorem jm9(c:CompOk X scope Nc js)(I:Inv X pins σ H s)(hf:∀b∈fp,FpOk X pins H b)(ho:∀b∈fp,∃o,s.heap.get? b=some o):(X.comp scope s.heap.objs.size Nc s H fp).Ok:=by
 have hs:=c.has I
 have sub:∀x a,(clOf X.env scope.names []).lookup x=some a->X.env.cells.lookup x=some a:=λx a=>je3 _ _ x a hs (λ_ _ z=>nomatch z)
 refine⟨I.ok.mod,c.kind,I.ok.glob,I.ok.blt,Ac _,λx y a e1 e2=>I.ok.inj x y a (sub x a e1) (sub y a e2),λx h=>je2 _ _ x (jee (env:=X.env) c.nocell h),(λx a h=>nomatch h),I.ok.hd,I.ok.frames,.inl rfl,λb hb=>⟨?_,λx a e=>?_⟩,I.bs,
  Ig I.ok.bsz I.sz,λb o e hb=>?_,λb hb hb'=>?_,I.stack,I.stkFree⟩
 ·obtain⟨o,e⟩:=ho b hb
  exact Av (Ak e)
 ·exact(hf b hb).2.2.2.2.1 x a (sub x a e)
 ·rcases(hf b hb).2.2.2.1 with z|z
  ·exact I.ok.noex b o e z
  ·exact absurd (Ax (Ak (I.ok.bs b o e).1) z) (Ou _)
 ·rcases A2.mp (I.stkSub b hb')with z|z
  ·exact(hf b hb).2.1 z
  ·exact(hf b hb).2.2.1 z
theorem jh5(c:CompOk X scope Nc js)(I:Inv X pins σ H s)(hf:∀b∈fp,FpOk X pins H b)(ho:∀b∈fp,∃o,s.heap.get? b=some o){h':Heap}{m:Str->Option Value}{tk:Nat}(hn:h'.Ns s.heap.objs.size m)
  (hk:∀b o,s.heap.get? b=some o->h'.get? b=some o):Inv (X.comp scope s.heap.objs.size Nc s H fp) [] (jcz js σ) H {s with heap:=h',toks:=tk}:=by
 have hs:=c.has I
 have sub:∀x a,(clOf X.env scope.names []).lookup x=some a->X.env.cells.lookup x=some a:=λx a=>je3 _ _ x a hs (λ_ _ z=>nomatch z)
 refine⟨jm9 c I hf ho,rfl,I.bare,Un.kept hk,⟨m,hn,λi x v e1 e2 e3=>?_⟩,λx a e=>?_,I.hok.fresh (Ac _),λx a e=>I.freeC x a (sub x a e),(λp hp=>nomatch hp),I.hok.kept hk,by simp only[jcz,Ab];exact c.len⟩
 ·have e2':(jcz js σ)[i]?=some (some v):=e2
  unfold jcz at e2'
  rw[Aq]at e2'
  cases ej:js[i]? with
  |none=>rw[ej]at e2';cases e2'
  |some o =>
   rw[ej]at e2'
   cases o with
   |none=>cases e2'
   |some j =>
    have e4:(σ[j]?).getD none=some v:=Ar e2'
    have e5:σ[j]?=some (some v):=by
     cases q:σ[j]? with
     |none=>rw[q]at e4;cases e4
     |some w=>rw[q]at e4;exact Iy some e4
    obtain⟨n1,n2⟩:=c.see i j x ej e1
    have hkd:=c.free _ n2 rfl
    obtain⟨a,ha⟩:=je2 (env:=X.env) scope.names [] x n2
    obtain⟨m0,_,hl⟩:=I.loc
    obtain⟨u,r,l⟩:=hl j x v n1 e5 (by
     rcases hkd with z|z
     ·exact .inr (.inl z)
     ·exact .inr (.inr z))
    refine⟨u,r,?_⟩
    rcases l with⟨k,_⟩|⟨_,a',ha',hcell⟩
    ·rcases hkd with z|z
     ·rw[z]at k;cases k
     ·rw[z]at k;cases k
    ·have:a'=a:=Ar (ha'.symm.trans (sub x a ha))
     subst this
     refine .inr ⟨?_,a',ha,?_⟩
     ·rcases e3 with z|z|z
      ·exfalso
       have q:(relabel scope X.env).names.lookup x=some .local:=z
       exact c.nol x n2 (je1 q)
      ·exact .inl z
      ·exact .inr z
     ·obtain⟨o,q,d⟩:=hcell
      exact⟨o,hk _ o q,d⟩
 ·obtain⟨v,o,q,d⟩:=I.cell x a (sub x a e)
  exact⟨v,o,hk _ o q,d⟩
theorem jc7(I:Inv X pins σ H s)(hf:∀b∈fp,FpOk X pins H b){σ':L2.St}{H':Hp}{s':Shared}{h'':Heap}(J:Inv (X.comp scope s.heap.objs.size Nc s H fp) [] σ' H' s')(hs:Heap.SameBut s.heap.objs.size s'.heap h'') :
  Inv X pins σ H' {s' with heap:=h''}:=by
 have ne:∀b o,s.heap.get? b=some o->b≠s.heap.objs.size:=λb o e=>Av (Ak e)
 have u:Un (frs X.stack) fp H H' s.heap s'.heap:=J.base
 refine I.call' (s':={s' with heap:=h''}) (ch:=fp) J.os ⟨λb o e n hb hx=>?_,λb o e n hb hx=>?_,u.free,λb o e hx=>?_,u.tups,u.frzs,u.tbls⟩ (λb o e=>?_) J.bare λb hb=>?_
 ·exact(hs.2 b (ne b o e)).trans (u.keep b o e n hb hx)
 ·obtain⟨sl,q⟩:=u.slot b o e n hb hx
  exact⟨sl,(hs.2 b (ne b o e)).trans q⟩
 ·obtain⟨o',q⟩:=u.there b o e hx
  exact⟨o',(hs.2 b (ne b o e)).trans q⟩
 ·have hC:H' s.heap.objs.size=none:=J.free
  refine(J.hok b o e).stay (λd v hd q=>(hs.2 d ?_).trans q) (λ_ q=>q) λ_ _ q=>q
  rintro rfl
  rcases hd with z|z
  ·rw[<-z,hC]at e;cases e
  ·rw[hC]at z;cases z
 ·obtain⟨_,f1,_,f3,f4,f5⟩:=hf b hb
  exact⟨f3,f1,f4,f5⟩
end
section
variable{X:Cx}{scope:Scope}{Nc:List Str}{js:List (Option Nat)}{elt tg iter:Expr}{pos:Pos}{wi:TI}{g:TG}{te:TE}
theorem jgn(hc:X.calm=true)(c:CompOk X scope Nc js)(hi:PI X tg iter wi)(hg:∀C s3 H3 fp,PG (X.comp scope C Nc s3 H3 fp) tg g)(he:∀C s3 H3 fp,PE (X.comp scope C Nc s3 H3 fp) elt te)
  {pins:List (Addr×Obj)}{s:Shared}{σ:L2.St}{H:Hp} (I:Inv X pins σ H s) {RR:Value->Addr->Result->Shared->Prop}{NX:Addr->Hp->Prop}
  (h:wi σ H λJ H1=>∀D,H1 D=none->jcm J g (jeo D te) {nx:=λ_ H'=>NX D H',rt:=λ_ _=>False} (jcz js σ) (upd H1 D (.lst [])))
  (fin:∀D H3 s3 fp σ5 H5 s6,Inv X pins σ H3 s3->(∀b∈fp,FpOk X pins H3 b)->Inv (X.comp scope s3.heap.objs.size Nc s3 H3 fp) [] σ5 H5 s6->NX D H5->RR (.ref D) s3.heap.objs.size (.ok .next) s6) :
  wpAny (model X.prog X.w) X.A (eval iter X.env) (λx s₁=>wpAny (model X.prog X.w) X.A (pyIter x) (λit s₂=>wpAny (model X.prog X.w) X.A (newList []) (λacc s₃ =>
   wpAny (model X.prog X.w) X.A (newFunctionEnv scope X.env.globals (clOf X.env scope.names []) [] X.env.qual none .none (some X.env)) (λcenv s₄ =>
    codeAny (model X.prog X.w) X.A (.compStart (.ListComp elt [⟨tg,iter,[],0⟩] scope pos) 0 it acc {cenv with scope:=relabel scope X.env}) (RR acc cenv.locals) s₄) X.xe s₃) X.xe s₂) X.xe s₁) X.xe s:=by
 refine thn (hi pins s σ H _ I h) λv s1 h1=>thn h1 λitv s2 h2=>?_
 obtain⟨it,fp,tn,J,H2,rfl,I2,T,st2,f2,h2⟩:=h2
 refine On ?_ (by show 0<=sizeLine;decide)
 have hD:H2 s2.heap.objs.size=none:=I2.hok.fresh (Ac _)
 have I3:Inv X pins σ (upd H2 s2.heap.objs.size (.lst [])) {s2 with heap:=s2.heap.push {cls:=.type "list",data:=.seq ([]:List Value).toArray}} :=
  I2.laid (t':=s2.toks) (λb u e=>Ad _ e) (Ac _) ⟨by show 0<=sizeLine;decide,[],0,.nil,Aw _ rfl⟩
 have f3:∀b∈fp,FpOk X pins (upd H2 s2.heap.objs.size (.lst [])) b:=λb hb=>by
  obtain⟨q0,q⟩:=f2 b hb
  obtain⟨o,e,_⟩:=T.obj _ _ st2 b hb
  exact⟨by rw[jf (Av (Ak e))];exact q0,q⟩
 have o3:∀b∈fp,∃o,(s2.heap.push {cls:=.type "list",data:=.seq ([]:List Value).toArray}).get? b=some o:=λb hb=>by
  obtain⟨o,e,_⟩:=T.obj _ _ st2 b hb
  exact⟨o,Ad _ e⟩
 have st3:tn 0 (s2.heap.push {cls:=.type "list",data:=.seq ([]:List Value).toArray}):=T.keep _ _ _ st2 λb _ o e=>Ad _ e
 generalize hh3:s2.heap.push {cls:=.type "list",data:=.seq ([]:List Value).toArray}=h3 at I3 o3 st3⊢
 refine U2 c.nocell (by intro y hy;simp at hy) (λh4 hn4 hs4=>?_) c.kind
 have k4:∀b o,h3.get? b=some o->h4.get? b=some o:=λb o e=>(hs4.2 b (Av (Ak e))).trans (Ad _ e)
 have I4:=jh5 (tk:=s2.toks+([]:List (Str×Value)).length) c I3 f3 o3 hn4 k4
 have st4:tn 0 h4:=T.keep _ _ _ st3 λb _ o e=>k4 b o e
 obtain⟨W,⟨m0,w0⟩,turn⟩:=h2 _ hD
 let s3:Shared:={s2 with heap:=h3}
 let Y:Cx:=X.comp scope h3.objs.size Nc s3 (upd H2 s2.heap.objs.size (.lst [])) fp
 have stat:∀{H':Hp},(∀b∈fp,H' b=none)->∀b∈fp,FpOk Y [] H' b:=λhn b hb=>⟨hn b hb,(I4.ok.exf b hb).1,I4.ok.exfs b hb,.inl hb,(I4.ok.exf b hb).2,(λp hp=>nomatch hp)⟩
 have loop:codeAny (model X.prog X.w) X.A (.compLoop (.ListComp elt [⟨tg,iter,[],0⟩] scope pos) 0 (.ref it) (.ref s2.heap.objs.size) Y.env)
   (RR (.ref s2.heap.objs.size) h3.objs.size) {s2 with heap:=h4,toks:=s2.toks+([]:List (Str×Value)).length}:=by
  refine codeAny_loop rfl (λn s'=>∃i σ' H',Inv Y [] σ' H' s'/\tn i s'.heap/\(∀b∈fp,H' b=none)/\W i n σ' H') (λn s5 hI=>?_) m0 ⟨0,_,_,I4,st4,λb hb=>(f3 b hb).1,w0⟩
  obtain⟨i,σ5,H5,I5,st5,fr5,w5⟩:=hI
  show wpAny _ X.A ((compTurn (.ListComp elt [⟨tg,iter,[],0⟩] scope pos) 0 (.ref it) (.ref s2.heap.objs.size) Y.env).onRaise (λx=>do noteFrame x Y.env;theTreesLotGoes x)) _ _ s5
  refine wpAny_noted (Oo (E:=λ_ _=>False) ?_ (λ_ _ q=>q) λ_ _ z=>z.elim)
  rw[compTurn_list1]
  refine Ah (Up (Ah ?_))
  rcases turn i n σ5 H5 w5 with⟨stop,qn⟩|⟨go,N,hN,step⟩
  ·refine thn (T.done Y rfl rfl rfl hc i [] s5 σ5 H5 _ I5 (stat fr5) st5 stop) λr s6 ⟨hr,I6⟩=>?_
   subst hr
   refine Ap ?_
   exact fin _ _ s3 fp σ5 H5 s6 I3 f3 I6 qn
  ·refine thn (T.item Y rfl rfl rfl hc i [] s5 σ5 H5 _ I5 (stat fr5) st5 go) λr s6 ⟨u,hr,h6⟩=>?_
   subst hr
   refine Ah (thn h6 λ_ s7 ⟨x,H7,I7,r7,y7,st7,fr7⟩=>?_)
   have I7':=I7.pinned (stat fr7) (T.obj _ _ st7)
   refine Ah (thn (hg _ _ _ _ _ s7 σ5 H7 x u _ I7' r7 (step x H7 y7)) λ_ s8 ⟨σ8,H8,I8,q8⟩=>?_)
   refine Ah (Ah (thn (he _ _ _ _ _ s8 σ8 H8 _ I8 q8) λv s9 ⟨y,H9,I9,r9,ys,e9,z9,n9⟩=>?_))
   refine Ah (thn (jas (X:=Y) _ s9 σ8 H9 (.ref s2.heap.objs.size) [y] (.ref s2.heap.objs.size) [v] (λw H'=>N σ8 H') I9 rfl (.cons r9 .nil) ⟨_,ys,y,rfl,rfl,jcf e9,z9,n9⟩) λw s10 ⟨_,H10,I10,_,n10⟩=>?_)
   refine Ap (Ap ⟨rfl,?_⟩)
   obtain⟨m',hm,w10⟩:=hN σ8 H10 n10
   refine⟨m',hm,i+1,σ8,H10,I10.unpinned,T.keep _ _ _ st7 λb hb o e=>(I10.pin (b,o) (A5 _ (A5 _ (jcy hb e)))).1,λb hb=>?_,w10⟩
   obtain⟨o,e,d⟩:=T.obj _ _ st7 b hb
   exact(I10.pin (b,o) (A5 _ (A5 _ (jcy hb e)))).2.1
 exact codeAny_compStart_list loop (T.self _ 0 _ _ _ st4 loop)
theorem pe_comp(hc:X.calm=true)(c:CompOk X scope Nc js)(hi:PI X tg iter wi)(hg:∀C s3 H3 fp,PG (X.comp scope C Nc s3 H3 fp) tg g)(he:∀C s3 H3 fp,PE (X.comp scope C Nc s3 H3 fp) elt te)
  (hs:∀x,foldedSetIterable iter X.env x=pure x:=by intro _;rfl):PE X (.ListComp elt [⟨tg,iter,[],0⟩] scope pos) (jem wi g js te):=by
 intro pins s σ H Q I h
 rw[eval_ListComp]
 refine Oq (use:=none) (g:=⟨tg,iter,[],0⟩) (gs:=[]) rfl hs (jc6 (c.has I)) c.kind c.loc
  (jgn (RR:=λacc C=>compPost (model X.prog X.w) X.A X.xe none (EP X pins σ Q) acc C) (NX:=λD H'=>Q (.ref D) H') hc c hi hg he I h λD H3 s3 fp σ5 H5 s6 I3 f3 I6 qn=>?_)
 obtain⟨m,hn,_⟩:=I6.loc
 exact⟨m,hn,λh' hs'=>⟨.ref D,H5,jc7 I3 f3 I6 hs',rfl,qn⟩⟩
theorem ps_setc{i:Nat}{y:Str}{py spos:Pos}(hN:X.N.Nodup)(hiN:X.N[i]?=some y)(hy:Loc X.env.scope y)(hc:X.calm=true)(c:CompOk X scope Nc js)(hi:PI X tg iter wi)(hg:∀C s3 H3 fp,PG (X.comp scope C Nc s3 H3 fp) tg g)
  (he:∀C s3 H3 fp,PE (X.comp scope C Nc s3 H3 fp) elt te) (hsw:swapsWith (.ListComp elt [⟨tg,iter,[],0⟩] scope pos) (some (.Name y py)) spos.line X.env=pure true:=by rfl)
  (hs:∀x,foldedSetIterable iter X.env x=pure x:=by intro _;rfl) (hf:X.fn y=true\/X.env.scope.names.lookup y=some .local:=by first|exact .inl rfl|exact .inr rfl|assumption) :
  PS X (.Assign [.Name y py] (.ListComp elt [⟨tg,iter,[],0⟩] scope pos) spos) (tAsg (jem wi g js te) (jck i)):=by
 intro pins s σ H D I h
 rw[exec_Assign_Name_used _ _ _ _ hsw]
 refine Ah (Up (Ah ?_))
 show wpAny _ X.A (do let _ <-comprehension (.ListComp elt [⟨tg,iter,[],0⟩] scope pos) scope X.env _ (newList []) false (eval iter X.env) (some (assign (.Name y py) X.env))) _ _ s
 refine Ah (Oo (Oq (use:=some (assign (.Name y py) X.env)) (g:=⟨tg,iter,[],0⟩) (gs:=[]) (Q:=λ_ s'=>SP X pins D .next s') rfl hs (jc6 (c.has I)) c.kind c.loc
  (jgn (RR:=λacc C=>compPost (model X.prog X.w) X.A X.xe (some (assign (.Name y py) X.env)) (λ_ s'=>SP X pins D .next s') acc C) (NX:=λDa H'=>D.nx (σ.set i (some (.ref Da))) H') hc c hi hg he I h λDa H3 s3 fp σ5 H5 s6 I3 f3 I6 qn=>?_))
  (λ_ s' hq=>Ap (Ap hq)) λ_ _ e=>e)
 obtain⟨m,hn,_⟩:=id I6.loc
 have I7:Inv X pins σ H5 s6:=jc7 I3 f3 I6 (.refl ..)
 have hC:H5 s3.heap.objs.size=none:=I6.free
 have nL:s3.heap.objs.size≠X.env.locals:=Nat.ne_of_gt I3.lt
 have nc:∀x a,X.env.cells.lookup x=some a->a≠s3.heap.objs.size:=λx a e=>by
  obtain⟨v,q⟩:=I3.cell x a e
  exact Av q.lt
 have np:∀p∈X.pn++pins,p.1≠s3.heap.objs.size:=λp hp=>Av (Ak (I3.pin p hp).1)
 show wpAny _ _ (assign (.Name y py) X.env (.ref Da)) _ _ _
 refine wpAny_assign_Name (jeh (v:=.ref Da) I7 hN hiN hy rfl (λs8 I8 hb=>?_) hf)
 obtain⟨a,hs8,ha⟩:=hb
 have nCa:s3.heap.objs.size≠a:=by
  rcases ha with z|z
  ·rw[z];exact nL
  ·exact(nc y a z).symm
 refine⟨m,hn.sameBut hs8 nCa,λh9 hs9=>?_⟩
 exact⟨_,H5,I8.turned (t':=s8.toks) (λb o hb e=>(hs9.2 b hb).trans e) hC nL (.inr (Ig I3.sz (Ac _))) nc np,qn⟩
end
section
variable{X:Cx}
def jgc:List V->Hp->VK->Prop:=λxs H Q=>match xs with
 |[.ref p]=>(∃ys,jcb (H p)=some ys/\∀l,H l=none->Q (.ref l) (upd H l (.tup ys)))\/(∃ys,jes (H p)=some ys/\Q (.ref p) H)
 |_=>False
theorem zj:jcd X (.type "tuple") jgc:=by
 intro pins s σ H xs us Q I r h
 unfold jgc at h
 split at h
 ·rename_i p
  rcases h with⟨ys,e,h⟩|⟨ys,e,h⟩
  ·exact jap pins s σ H _ us Q I r ⟨p,ys,rfl,.inl ⟨SqL.of (jcf e),h⟩⟩
  ·exact jap pins s σ H _ us Q I r ⟨p,ys,rfl,.inr ⟨SqT.of (je6 e),h⟩⟩
 ·exact h.elim
theorem jcp{p:Addr}{H:Hp}{Q:VK}{ys:List V}(e:H p=some (.lst ys))(h:∀l,H l=none->Q (.ref l) (upd H l (.tup ys))):jgc [.ref p] H Q:=.inl ⟨ys,by rw[e];rfl,h⟩
def jkr:R2:=λx y H Q=>match x,y with
 |.int i,.int j=>CMul i j/\Q (.int (i*j)) H
 |.ref l,.int k=>∃xs,jcb (H l)=some xs/\0<=k/\k<2^62/\xs.length*k.toNat<=sizeLine/\∀p,H p=none->Q (.ref p) (upd H p (.lst (List.replicate k.toNat xs).flatten))
 |_,_=>False
theorem zt:OpR X (binaryOp .Mult) jkr:=by
 intro pins s σ H x y v u Q I rx ry h
 cases x with
 |int i=>cases y with
  |int j=>exact op_mul pins s σ H _ _ v u Q I rx ry ⟨i,j,rfl,rfl,h⟩
  |_=>exact False.elim h
 |ref l=>cases y with
  |int k =>
   obtain⟨xs,e,k0,k1,h⟩:=h
   exact op_rep pins s σ H _ _ v u Q I rx ry ⟨l,k,xs,rfl,rfl,jcf e,by omega,by omega,h⟩
  |_=>exact False.elim h
 |_=>exact False.elim h
theorem jg4(H:Hp)(Q:VK)(i j:Int):jkr (.int i) (.int j) H Q=(CMul i j/\Q (.int (i*j)) H):=rfl
theorem jg5(H:Hp)(Q:VK)(l:Addr)(k:Int):jkr (.ref l) (.int k) H Q=(∃xs,jcb (H l)=some xs/\0<=k/\k<2^62/\xs.length*k.toNat<=sizeLine/\∀p,H p=none->Q (.ref p) (upd H p (.lst (List.replicate k.toNat xs).flatten))):=rfl
def isS(x:V):Prop:=match x with
 |.str _=>True
 |_=>False
def tBMS(r:V->List V->Hp->VK->Prop)(to:TE)(t:TA):TE:=λσ H Q=>to σ H λx H1=>isS x/\t σ H1 λxs H2=>r x xs H2 Q
theorem isS.ty{K:PySem.W.Frag}{x:V}{H:Hp}(h:isS x):tyV K "str" x H:=by
 unfold isS at h
 split at h
 ·rfl
 ·exact h.elim
theorem jjq(z:Str):isS (.str z)=True:=rfl
theorem jli{v:V}:∀σ H Q Q',(∀v H',Q v H'->Q' v H')->tC v σ H Q->tC v σ H Q':=λ_ _ _ _ h q=>h _ _ q
variable{o e:Expr}{es:List Expr}{to:TE}{t:TA}{name:Str}{apos cpos:Pos}{id:String}{r:V->List V->Hp->VK->Prop}
theorem pe_bmS(slot:Slot "str" name id)(hty:typeOf (.builtin id)=pure (.type "method_descriptor"))(hm:MtM X id r)(ho:PE X o to)(ha:PA X (e::es) t)(mono:∀σ H Q Q',(∀v H',Q v H'->Q' v H')->to σ H Q->to σ H Q')
  (hbase:attributeBase o name X.env (eval o X.env)=eval o X.env:=by rfl)
  (hfew:((backTo cpos (starEach (e::es) X.env)).all (λx=>!x.1) && (backToKw cpos (keywordEach [] X.env)).all (λx=>x.1.isSome)
   && decide ((e::es).length+([]:List Keyword).length+(if([]:List Keyword).isEmpty then 0 else 1)<30))=true:=by rfl)
  (hline:(apos.endLine == cpos.line)=true:=by rfl) (hs:starEach (e::es) X.env=(false,eval e X.env)::starEach es X.env:=by rfl) (hplain:(backTo cpos (starEach es X.env)).any (·.1)=false:=by rfl) :
  PE X (.Call (.Attribute o name apos) (e::es) [] cpos) (tBMS r to t) :=
 (jb5 PySem.F.plainAttrs_str slot hty hm ho ha hbase hfew hline hs hplain).imp λσ H Q h=>mono σ H _ _ (λv H' q=>⟨q.1.ty,q.2⟩) h
theorem jfx:∀{ys:List Str}{us:List Value},Vals (ys.map V.str) us->StrsAre us ys
 |[],us,r=>by rw[Oj]at r;cases r;exact .nil
 |y::ys,us,r=>by
  rw[Al]at r
  cases r with
  |cons r1 r2 =>
   obtain⟨t,rfl⟩:=r1
   exact .cons y t (jfx r2)
def jlk:V->List V->Hp->VK->Prop:=λx vs H Q=>match x,vs with
 |.str z,[.ref p]=>∃ys:List Str,H p=some (.lst (ys.map V.str))/\(ys.map (·.length)).sum+ys.length*z.length<=16777216/\Q (.str (Txt.join z ys)) H
 |_,_=>False
theorem jbp:MtM X "str.join" jlk:=by
 intro pins s σ H x vs v us Q I rx rv h
 unfold jlk at h
 split at h
 ·rename_i z p
  obtain⟨ys,e,hz,q⟩:=h
  obtain⟨t,rfl⟩:=rx
  obtain⟨u,rfl,ru⟩:=rv.one
  cases ru
  obtain⟨its,rr,pl,_⟩:=I.list (SqL.of e)
  exact join_list pl.isList (by simpa using jfx rr) hz λt' k=>⟨.str _,H,I.tok k,⟨_,rfl⟩,q⟩
 ·exact h.elim
def cutS(z:Str)(lo hi:Option Int):Str:=⟨((z.cps.toList.drop (HT.sIx z.length 0 lo)).take (HT.sIx z.length z.length hi-HT.sIx z.length 0 lo)).toArray⟩
theorem ji5(lo hi:Option Int)(n:Nat):Builtin.Str.strSliceIndices lo hi 1 n=(List.range (HT.sIx n n hi-HT.sIx n 0 lo)).map (HT.sIx n 0 lo+·):=by
 rw[<-sliceRange_one]
 unfold Builtin.Str.strSliceIndices
 have e1:(match lo with|none=>(if(1:Int)>0 then(0:Int)else(n:Int)-1)|some i=>let i:=if i<0 then i+(n:Int)else i;if(1:Int)>0 then max 0 (min i (n:Int))else max (-1) (min i ((n:Int)-1)))=((HT.sIx n 0 lo:Nat):Int):=by
  cases lo with
  |none=>simp[HT.sIx]
  |some v =>
   simp only[show(1:Int)>0 by decide,Of,HT.sIx]
   by_cases h:v<0
   ·simp only[h,Of];omega
   ·simp only[h,Oe];omega
 have e2:(match hi with|none=>(if(1:Int)>0 then(n:Int)else -1)|some i=>let i:=if i<0 then i+(n:Int)else i;if(1:Int)>0 then max 0 (min i (n:Int))else max (-1) (min i ((n:Int)-1)))=((HT.sIx n n hi:Nat):Int):=by
  cases hi with
  |none=>simp[HT.sIx]
  |some v =>
   simp only[show(1:Int)>0 by decide,Of,HT.sIx]
   by_cases h:v<0
   ·simp only[h,Of];omega
   ·simp only[h,Oe];omega
 have key:∀a b a' b':Int,a=a'->b=b'->sliceRange a b 1=sliceRange a' b' 1:=by
  intro a b a' b' h1 h2
  rw[h1,h2]
 exact key _ _ _ _ e1 e2
theorem jjk(z:Str)(lo hi:Option Int):Txt.slice z lo hi=cutS z lo hi:=by
 have e:(Builtin.Str.strSliceIndices lo hi 1 z.length).filterMap (z.cps[·]?)=(z.cps.toList.drop (HT.sIx z.length 0 lo)).take (HT.sIx z.length z.length hi-HT.sIx z.length 0 lo):=by
  rw[ji5,pick_run]
 unfold Txt.slice cutS
 split
 ·rename_i h
  have h2:((Builtin.Str.strSliceIndices lo hi 1 z.length).length == z.length)=true:=by simpa using h
  have h3:(Builtin.Str.strSliceIndices lo hi 1 z.length).length=z.length:=eq_of_beq h2
  rw[ji5,Ab,List.length_range]at h3
  have hl:z.cps.toList.length=z.length:=by simp[Str.length]
  have q:((z.cps.toList.drop (HT.sIx z.length 0 lo)).take (HT.sIx z.length z.length hi-HT.sIx z.length 0 lo))=z.cps.toList:=by
   have hb:HT.sIx z.length z.length hi<=z.length:=by
    cases hi with
    |none=>exact Ac _
    |some v=>simp only[HT.sIx];split <;> omega
   by_cases h0:z.length=0
   ·have:z.cps.toList=[]:=List.length_eq_zero_iff.mp (by omega)
    rw[this];simp
   ·have ha:HT.sIx z.length 0 lo=0:=by omega
    rw[h3,ha,List.drop_zero]
    exact Oi (by omega)
  rw[q]
 ·rw[e]
def rSlS:V->Option Int->Option Int->Hp->VK->Prop:=λx lo hi H Q=>∃z,x=.str z/\z.length<=sizeLine/\Q (.str (cutS z lo hi)) H
theorem sl_str:SlR X rSlS:=by
 intro pins s σ H x v vl vu lo hi sl Q I rx hs pl pu h
 obtain⟨z,rfl,hz,q⟩:=h
 obtain⟨t,rfl⟩:=rx
 have gen:∀(l u:Option (Int×Tok)),vl=partValue l->vu=partValue u->lo=l.map (·.1)->hi=u.map (·.1) ->
   wpAny (model X.prog X.w) X.A (getItem (.str z t) (.ref sl)) (EP X pins σ Q) X.xe s:=by
  intro l u e1 e2 e3 e4
  subst e1 e2 e3 e4
  refine wpAny_getItem_str_slice (l:=l) (u:=u) (st:=none) hs (by rfl) ?_
  have e:(if((((none:Option (Int×Tok)).map (·.1)).getD 1 == 1 && (slicePicked z l u none).length == z.length)=true)then z else⟨((slicePicked z l u none).filterMap (z.cps[·]?)).toArray⟩)=cutS z (l.map (·.1)) (u.map (·.1)):=by
   rw[<-jjk];rfl
  refine post_val_or_str ⟨?_,λt' c=>⟨.str (cutS z (l.map (·.1)) (u.map (·.1))),H,I.tok c,⟨t',Iy (Value.str · t') e⟩,q⟩⟩
  rw[e,<-jjk]
  exact Ig (Txt.slice_le _ _ _) hz
 refine⟨"str",_,F.slot_str_getitem.lookup,typeIs_str _ _ _,?_⟩
 cases pl with
 |none=>cases pu with
  |none=>exact gen none none rfl rfl rfl rfl
  |int j tj=>exact gen none (some (j,tj)) rfl rfl rfl rfl
 |int i ti=>cases pu with
  |none=>exact gen (some (i,ti)) none rfl rfl rfl rfl
  |int j tj=>exact gen (some (i,ti)) (some (j,tj)) rfl rfl rfl rfl
def jjj(sc:Scope)(N:List Str)(scope:Scope)(Nc:List Str)(js:List (Option Nat)):Bool :=
 (scope.kind == .function) && scope.names.all (λy=>!(y.2 == .cell)) && scope.names.all (λy=>!(y.2 == .local) || scope.names.lookup y.1 == some .local) &&
 scope.names.all (λy=>!(y.2 == .free) || ((sc.names.lookup y.1 == some .cell || sc.names.lookup y.1 == some .free) && !(scope.names.lookup y.1 == some .local))) && (js.length == Nc.length) &&
 (List.range js.length).all (λi=>match js[i]? with
  |some (some j)=>(N[j]? == Nc[i]?) && (match Nc[i]? with|some x=>scope.names.any (λy=>y.1 == x && y.2 == .free)|none=>true)
  |_=>true)
theorem jcv{sc scope:Scope}{N Nc:List Str}{js:List (Option Nat)}(hd:jjj sc N scope Nc js=true)(hsc:X.env.scope=sc:=by rfl)(hN:X.N=N:=by rfl):CompOk X scope Nc js:=by
 simp only[jjj,Oa,Os,Bool.or_eq_true,Bool.not_eq_true',Uc,U8]at hd
 obtain⟨⟨⟨⟨⟨h1,h2⟩,h3⟩,h4⟩,h5⟩,h6⟩:=hd
 have kk:∀x,X.env.kindOf x=sc.names.lookup x:=λx=>by rw[<-hsc];rfl
 refine⟨h1,λy hy e=>?_,λy hy e=>?_,λy hy e=>?_,h5,λx hx=>?_,λi j x e1 e2=>?_⟩
 ·have:=h2 y hy
  rw[e]at this;cases this
 ·rcases h3 y hy with q|q
  ·rw[e]at q;cases q
  ·exact q
 ·rcases h4 y hy with q|q
  ·rw[e]at q;cases q
  ·rw[kk]
   exact q.1
 ·rcases h4 _ hx with q|q
  ·cases q
  ·intro z
   have q2:=q.2
   rw[z]at q2
   cases q2
 ·have hi:i<js.length:=(Aa.mp e1).1
  have q:=h6 i hi
  rw[e1,e2]at q
  simp only[Oa,Uc,List.any_eq_true]at q
  refine⟨by rw[hN];exact q.1,?_⟩
  obtain⟨y,hy,hy1,hy2⟩:=q.2
  obtain⟨a,b⟩:=y
  simp only at hy1 hy2
  subst hy1 hy2
  exact hy
end
theorem Inv.turnedNew{X:Cx}{pins:List (Addr×Obj)}{σ:L2.St}{H:Hp}{s:Shared}{h':Heap}{t':Nat}{fp wr:List Addr}{T:Addr}{xs:List V}{vs:List Value}(I:Inv X pins σ H s)(hf:∀b∈wr,FpOk X pins H b)
  (k:∀b o,b∉wr->s.heap.get? b=some o->h'.get? b=some o) (hT:s.heap.objs.size<=T) (tup:IsTup h' T vs.toArray) (r:Vals xs vs) (hz:xs.length<=sizeLine) (there:∀b∈wr,∃o,h'.get? b=some o) :
  Inv X pins σ (upd H T (.tup xs)) {s with heap:=h',toks:=t'}:=by
 have neT:∀b u,H b=some u->b≠T:=λb u e=>Av (Ax (I.hok.lt e) hT)
 have nw:∀b u,H b=some u->b∉wr:=λb u e hb=>by rw[(hf b hb).1]at e;cases e
 refine I.step (g':=s.gens) (d':=s.drawn) (ch:=wr) (λb hb=>?_) (λb o _ _ hc e _=>k b o hc e) (λb o _ _ hc e _=>⟨o.slots,k b o hc e⟩) (λb o hc e n=>?_) (λb o hc e=>⟨o,k b o hc e⟩)
  (λb ys e=>by rw[jf (neT b _ e)];exact e) (λb o u e=>by rw[jf (neT b _ e)];exact e) (λb ps e=>⟨#[],by rw[jf (neT b _ e),e];simp⟩) (λm hm=>?_) (λb u e=>?_) I.bare
 ·obtain⟨_,f1,_,f3,f4,f5⟩:=hf b hb
  exact⟨f3,f1,f4,f5⟩
 ·rw[jf (Av (Ax (Ak e) hT))];exact n
 ·obtain⟨o,es,ep,ho,rr⟩:=hm
  exact⟨o,es,ep,k _ o (λz=>(hf _ z).2.1 rfl) ho,rr⟩
 ·by_cases hb:b=T
  ·subst hb
   rw[je]at e
   cases e
   exact⟨hz,vs,r,tup⟩
  ·rw[jf hb]at e
   refine(I.hok b u e).stay (λd v hd q=>k d v ?_ q) (λd q=>by rw[jf (neT d _ q)];exact q) λd ys q=>by rw[jf (neT d _ q)];exact q
   rcases hd with rfl|hd
   ·exact nw _ _ e
   ·exact nw _ _ hd
section
variable{X:Cx}
def rAddW:R2:=λx y H Q=>match x,y with
 |.int i,.int j=>Q (.int (i+j)) H
 |.str i,.str j=>i.length+j.length<=sizeLine/\Q (.str (i++j)) H
 |.ref l,.ref b=>(∃xs zs,jcb (H l)=some xs/\jcb (H b)=some zs/\xs.length+zs.length<=sizeLine/\∀p,H p=none->Q (.ref p) (upd H p (.lst (xs++zs)))) \/
   (∃xs zs,jes (H l)=some xs/\jes (H b)=some zs/\xs≠[]/\zs≠[]/\xs.length+zs.length<=sizeLine/\∀p,H p=none->Q (.ref p) (upd H p (.tup (xs++zs))))
 |_,_=>False
theorem jz:OpR X (binaryOp .Add) rAddW:=by
 intro pins s σ H x y v u Q I rx ry h
 cases x with
 |int i=>cases y with
  |int j=>exact op_add pins s σ H _ _ v u Q I rx ry ⟨i,j,rfl,rfl,h⟩
  |_=>exact False.elim h
 |str i=>cases y with
  |str j=>exact op_add_str pins s σ H _ _ v u Q I rx ry ⟨i,j,rfl,rfl,h⟩
  |_=>exact False.elim h
 |ref l=>cases y with
  |ref b =>
   rcases h with⟨xs,zs,e1,e2,h⟩|⟨xs,zs,e1,e2,n1,n2,hz,h⟩
   ·exact op_cat pins s σ H _ _ v u Q I rx ry ⟨l,b,xs,zs,rfl,rfl,jcf e1,jcf e2,h⟩
   ·exact op_catT pins s σ H _ _ v u Q I rx ry ⟨l,b,xs,zs,rfl,rfl,SqT.of (je6 e1),SqT.of (je6 e2),n1,hz,λz=>absurd z n2,λ_=>h⟩
  |_=>exact False.elim h
 |_=>exact False.elim h
theorem jed(H:Hp)(Q:VK)(i j:Int):rAddW (.int i) (.int j) H Q=(Q (.int (i+j)) H):=rfl
theorem jdi(H:Hp)(Q:VK)(i j:Str):rAddW (.str i) (.str j) H Q=(i.length+j.length<=sizeLine/\Q (.str (i++j)) H):=rfl
theorem rAddW.tup{H:Hp}{Q:VK}{l b:Addr}{xs zs:List V}(e1:H l=some (.tup xs))(e2:H b=some (.tup zs))(n1:xs≠[])(n2:zs≠[])(hz:xs.length+zs.length<=sizeLine)
  (h:∀p,H p=none->Q (.ref p) (upd H p (.tup (xs++zs)))):rAddW (.ref l) (.ref b) H Q:=.inr ⟨xs,zs,by rw[e1];rfl,by rw[e2];rfl,n1,n2,hz,h⟩
theorem rAddW.lst{H:Hp}{Q:VK}{l b:Addr}{xs zs:List V}(e1:H l=some (.lst xs))(e2:H b=some (.lst zs))(hz:xs.length+zs.length<=sizeLine)
  (h:∀p,H p=none->Q (.ref p) (upd H p (.lst (xs++zs)))):rAddW (.ref l) (.ref b) H Q:=.inl ⟨xs,zs,by rw[e1];rfl,by rw[e2];rfl,hz,h⟩
end
section
variable{X:Cx}
def rSlU(K:PySem.W.Frag):V->Option Int->Option Int->Hp->VK->Prop:=λx lo hi H Q=>match x with
 |.str z=>z.length<=sizeLine/\Q (.str (cutS z lo hi)) H
 |.ref a=>(∃xs,SqL K H a xs/\∀p,H p=none->Q (.ref p) (upd H p (.lst (cutV xs lo hi)))) \/
   ∃xs,SqT K H a xs/\¬(HT.sIx xs.length 0 lo=0/\HT.sIx xs.length xs.length hi=xs.length)/\∀p,H p=none->Q (.ref p) (upd H p (.tup (cutV xs lo hi)))
 |_=>False
theorem sl_U:SlR X (rSlU X.K):=by
 intro pins s σ H x v vl vu lo hi sl Q I rx hs pl pu h
 unfold rSlU at h
 split at h
 ·rename_i z
  exact sl_str pins s σ H (.str z) v vl vu lo hi sl Q I rx hs pl pu ⟨z,rfl,h⟩
 ·rename_i a
  rcases h with⟨xs,hx,q⟩|⟨xs,hx,nw,q⟩
  ·exact sl_list pins s σ H (.ref a) v vl vu lo hi sl Q I rx hs pl pu ⟨a,xs,rfl,hx,q⟩
  ·exact sl_tup pins s σ H (.ref a) v vl vu lo hi sl Q I rx hs pl pu ⟨a,xs,rfl,hx,nw,q⟩
 ·exact h.elim
theorem jiw(K:PySem.W.Frag)(H:Hp)(Q:VK)(z:Str)(lo hi:Option Int):rSlU K (.str z) lo hi H Q=(z.length<=sizeLine/\Q (.str (cutS z lo hi)) H):=rfl
theorem rSlU.lst{K:PySem.W.Frag}{H:Hp}{Q:VK}{a:Addr}{xs:List V}{lo hi:Option Int}(e:H a=some (.lst xs))(h:∀p,H p=none->Q (.ref p) (upd H p (.lst (cutV xs lo hi)))):rSlU K (.ref a) lo hi H Q:=.inl ⟨xs,SqL.of e,h⟩
end
section
variable{X:Cx}
def hasS(z y:Str):Bool:=!(Builtin.Str.occurrences z y 0 z.length 1).isEmpty
def rInU(K:PySem.W.Frag)(neg:Bool):R2:=λx y H Q=>match x,y with
 |.str i,.str j=>Q (.bl (if neg then !hasS j i else hasS j i)) H
 |x,.ref p=>∃xs,(SqL K H p xs\/SqT K H p xs)/\jcs x=true/\xs.all jcs=true/\Q (.bl (if neg then !inV x xs else inV x xs)) H
 |_,_=>False
theorem jim(K:PySem.W.Frag)(neg:Bool)(H:Hp)(Q:VK)(i j:Str):rInU K neg (.str i) (.str j) H Q=Q (.bl (if neg then !hasS j i else hasS j i)) H:=rfl
theorem zw{K:PySem.W.Frag}(hK:X.K=K):OpR X (compareOp .In) (rInU K false):=by
 subst hK
 intro pins s σ H x y v u Q I rx ry h
 unfold rInU at h
 split at h
 ·rename_i i j
  exact op_in_str pins s σ H _ _ v u Q I rx ry ⟨i,j,rfl,rfl,h⟩
 ·rename_i p
  obtain⟨xs,h⟩:=h
  exact op_in_seq pins s σ H _ _ v u Q I rx ry ⟨p,xs,rfl,h⟩
 ·exact h.elim
theorem op_notinU{K:PySem.W.Frag}(hK:X.K=K):OpR X (compareOp .NotIn) (rInU K true):=by
 subst hK
 intro pins s σ H x y v u Q I rx ry h
 unfold rInU at h
 split at h
 ·rename_i i j
  exact op_notIn_str pins s σ H _ _ v u Q I rx ry ⟨i,j,rfl,rfl,h⟩
 ·rename_i p
  obtain⟨xs,h⟩:=h
  exact op_notIn_seq pins s σ H _ _ v u Q I rx ry ⟨p,xs,rfl,h⟩
 ·exact h.elim
theorem rInU.lst{K:PySem.W.Frag}{neg:Bool}{H:Hp}{Q:VK}{x:V}{p:Addr}{xs:List V}(e:H p=some (.lst xs))(fx:jcs x=true)(fs:xs.all jcs=true)(q:Q (.bl (if neg then !inV x xs else inV x xs)) H):rInU K neg x (.ref p) H Q:=by
 cases x <;> exact⟨xs,.inl (SqL.of e),fx,fs,q⟩
theorem rInU.tupS{K:PySem.W.Frag}{neg:Bool}{H:Hp}{Q:VK}{x:V}{p:Addr}{xs:List V}(e:SqT K H p xs)(fx:jcs x=true)(fs:xs.all jcs=true)(q:Q (.bl (if neg then !inV x xs else inV x xs)) H):rInU K neg x (.ref p) H Q:=by
 cases x <;> exact⟨xs,.inr e,fx,fs,q⟩
theorem lt1(a b:Nat):([a]<[b])=(a<b):=by simp[List.cons_lt_cons_iff]
theorem jfs(bs:List Bool)(d:Bool):(List.range bs.length).map (λi=>(bs[i]?).getD d)=bs:=by
 apply List.ext_getElem?
 intro i
 by_cases h:i<bs.length
 ·simp[h]
 ·rw[List.getElem?_eq_none_iff.mpr (by simp;omega),List.getElem?_eq_none_iff.mpr (by omega)]
theorem jd2:∀{bs:List Bool}{us:List Value},Vals (bs.map V.bl) us->∀(i:Nat)(v:Value),us[i]?=some v->∃b,bs[i]?=some b/\v=.bool b
 |[],us,r,i,v,e=>by rw[Oj]at r;cases r;simp at e
 |b::bs,us,r,i,v,e=>by
  rw[Al]at r
  cases r with
  |cons r1 r2 =>
   cases i with
   |zero=>cases r1;simp at e;exact⟨b,rfl,e.symm⟩
   |succ i=>simp at e;obtain⟨b',e1,e2⟩:=jd2 r2 i v e;exact⟨b',by simpa using e1,e2⟩
def jkn:List V->Hp->VK->Prop:=λxs H Q=>match xs with
 |[.ref p]=>∃bs:List Bool,H p=some (.lst (bs.map V.bl))/\Q (.bl (bs.all id)) H
 |_=>False
def jko:List V->Hp->VK->Prop:=λxs H Q=>match xs with
 |[.ref p]=>∃bs:List Bool,H p=some (.lst (bs.map V.bl))/\Q (.bl (bs.any id)) H
 |_=>False
theorem jjs{s:Shared}{h':Heap}{o:Obj}(hk:∀b x,b∉[s.heap.objs.size]->(s.heap.push o).get? b=some x->h'.get? b=some x):∀b x,s.heap.get? b=some x->h'.get? b=some x :=
 λb x e=>hk b x (λhm=>by rw[Am.mp hm]at e;exact Ou _ (Ak e)) (Ad _ e)
theorem call_allU(hc:X.calm=true):jcd X (.builtin "all") jkn:=by
 intro pins s σ H xs us Q I r h
 unfold jkn at h
 split at h
 ·rename_i p
  obtain⟨bs,e,q⟩:=h
  obtain⟨u,rfl,ru⟩:=jc3 r
  cases ru
  obtain⟨its,rr,pl,_⟩:=I.list (SqL.of e)
  have isl:=pl.isList
  have plt:p<s.heap.objs.size:=by obtain⟨_,e,_⟩:=isl;exact Ak e
  refine call_all_walk (wpAny_pyIter_list isl ?_)
  refine⟨s.heap.objs.size,[s.heap.objs.size,p],[s.heap.objs.size],its.toArray.size,_,_,λi=>(bs[i]?).getD true,rfl,Walks.list (A:=X.A.in1) (I.ok.hd hc) _ p (Av plt) its.toArray,
   ⟨⟨_,Aw _ rfl,rfl,rfl⟩,isl.push _⟩,λi v s' Q' E' hp hq=>?_,λh' tk hk=>?_⟩
  ·obtain⟨b,e,rfl⟩:=jd2 rr i v (by simpa using hp)
   simp only[Option.getD_some,e]at hq
   exact Iu hq
  ·have e:((List.range its.toArray.size).all λi=>(bs[i]?).getD true)=bs.all id:=by
    have hlen:its.length=bs.length:=by have:=rr.length;simpa using this.symm
    rw[Aj,hlen]
    conv=>rhs;rw[<-jfs bs true,List.all_map]
    rfl
   rw[e]
   exact⟨.bl _,H,I.kept (jjs hk),rfl,q⟩
 ·exact h.elim
theorem call_anyU(hc:X.calm=true):jcd X (.builtin "any") jko:=by
 intro pins s σ H xs us Q I r h
 unfold jko at h
 split at h
 ·rename_i p
  obtain⟨bs,e,q⟩:=h
  obtain⟨u,rfl,ru⟩:=jc3 r
  cases ru
  obtain⟨its,rr,pl,_⟩:=I.list (SqL.of e)
  have isl:=pl.isList
  have plt:p<s.heap.objs.size:=by obtain⟨_,e,_⟩:=isl;exact Ak e
  refine call_any_walk (wpAny_pyIter_list isl ?_)
  refine⟨s.heap.objs.size,[s.heap.objs.size,p],[s.heap.objs.size],its.toArray.size,_,_,λi=>(bs[i]?).getD false,rfl,Walks.list (A:=X.A.in1) (I.ok.hd hc) _ p (Av plt) its.toArray,
   ⟨⟨_,Aw _ rfl,rfl,rfl⟩,isl.push _⟩,λi v s' Q' E' hp hq=>?_,λh' tk hk=>?_⟩
  ·obtain⟨b,e,rfl⟩:=jd2 rr i v (by simpa using hp)
   simp only[Option.getD_some,e]at hq
   exact Iu hq
  ·have e:((List.range its.toArray.size).any λi=>(bs[i]?).getD false)=bs.any id:=by
    have hlen:its.length=bs.length:=by have:=rr.length;simpa using this.symm
    rw[Aj,hlen]
    conv=>rhs;rw[<-jfs bs false,List.any_map]
    rfl
   rw[e]
   exact⟨.bl _,H,I.kept (jjs hk),rfl,q⟩
 ·exact h.elim
theorem jgy(p:Addr)(H:Hp)(Q:VK):jkn [.ref p] H Q=(∃bs:List Bool,H p=some (.lst (bs.map V.bl))/\Q (.bl (bs.all id)) H):=rfl
theorem jgz(p:Addr)(H:Hp)(Q:VK):jko [.ref p] H Q=(∃bs:List Bool,H p=some (.lst (bs.map V.bl))/\Q (.bl (bs.any id)) H):=rfl
end
theorem jh0{H:Hp}{D:Addr}{a b:HO}:upd (upd H D a) D b=upd H D b:=jc9
section
variable{D:Addr}{te:TE}{E:Ends}{r:L2.St}{H:Hp}
theorem jl1{z:Str}(f:Nat->V)(hz:z.length<=sizeLine)(he:∀c∈z.cps.toList,∀l Q,Q (f c) (upd H D (.lst l))->te (some (.str ⟨#[c]⟩)::r) (upd H D (.lst l)) Q)
  (hn:∀v,E.nx (v::r) (upd H D (.lst (z.cps.toList.map f)))):jcm (ItS z) (jck 0) (jeo D te) E (none::r) (upd H D (.lst [])):=by
 have hzl:z.cps.toList.length=z.length:=by simp[Str.length]
 refine jmd (λi σ H'=>∃v:Option V,σ=v::r/\H'=upd H D (.lst ((z.cps.toList.take i).map f))) ⟨none,rfl,rfl⟩ ?_ ?_
 ·rintro i c σ H' hc ⟨v,rfl,rfl⟩
  have hl:i<z.cps.toList.length:=(Aa.mp hc).1
  refine he c (A0 hc) _ _ ⟨_,by rw[je];rfl,by simp;omega,some (.str ⟨#[c]⟩),rfl,?_⟩
  rw[jh0,Ue,hc]
  simp
 ·rintro σ H' ⟨v,rfl,rfl⟩
  rw[Oi (by omega)]
  exact hn v
theorem jh6{K:PySem.W.Frag}{a:Addr}{xs:List V}(f:V->V)(ha:H a=some (.tup xs))(hD:H D=none)(hz:xs.length<=sizeLine)(he:∀x∈xs,∀l Q,Q (f x) (upd H D (.lst l))->te (some x::r) (upd H D (.lst l)) Q)
  (hn:∀v,E.nx (v::r) (upd H D (.lst (xs.map f)))):jcm (Itt K a) (jck 0) (jeo D te) E (none::r) (upd H D (.lst [])):=by
 have ne:a≠D:=jj ha hD
 refine jdu (xs:=xs) (λi σ H'=>∃v:Option V,σ=v::r/\H'=upd H D (.lst ((xs.take i).map f))) ⟨none,rfl,rfl⟩ ?_ ?_ ?_
 ·rintro i σ H' _ ⟨v,_,rfl⟩
  rw[jf ne];exact ha
 ·rintro i x σ H' hx ⟨v,rfl,rfl⟩
  have hl:i<xs.length:=(Aa.mp hx).1
  refine he x (A0 hx) _ _ ⟨_,by rw[je];rfl,by simp;omega,some x,rfl,?_⟩
  rw[jh0,Ue,hx]
  simp
 ·rintro σ H' ⟨v,rfl,rfl⟩
  rw[Oi (Ac _)]
  exact hn v
end
end L2
set_option autoImplicit true
set_option relaxedAutoImplicit true
namespace L2
open PySem PySem.Spec PyProof.Rows
structure QE(X:Cx)(e:Expr)(t:TE):Prop where
 h:PE X e t
structure QT(X:Cx)(e:Expr)(t:TT):Prop where
 h:PT X e t
structure QW(X:Cx)(e:Expr)(t:TT):Prop where
 h:PW X e t
structure QA(X:Cx)(es:List Expr)(t:TA):Prop where
 h:PA X es t
structure QS(X:Cx)(st:Stmt)(t:TS):Prop where
 h:PS X st t
structure QSs(X:Cx)(st:List Stmt)(t:TS):Prop where
 h:PSs X st t
structure QG(X:Cx)(e:Expr)(t:TG):Prop where
 h:PG X e t
structure QGs(X:Cx)(es:List Expr)(t:TGs):Prop where
 h:PGs X es t
structure QI(X:Cx)(tg iter:Expr)(wi:TI):Prop where
 h:PI X tg iter wi
structure QO(X:Cx)(e:Option Expr)(t:TO):Prop where
 h:PO X e t
structure QC(X:Cx)(op:CmpOp)(a b:Expr)(t:TE):Prop where
 h:PC X op a b t
theorem kh:QSs X [] jhx:=⟨pss_nil⟩
theorem ji(h1:QS X stm t):QSs X [stm] t:=⟨pss_one h1.h⟩
theorem jh(h1:QS X stm t)(h2:QSs X rst u):QSs X (stm::rst) (tSeq t u):=⟨pss_cons h1.h h2.h⟩
theorem qpv(i:Nat){x:Str}{pos:Pos}(hN:X.N[i]?=some x:=by rfl)(hv:Vis X.env.scope x:=by first|exact Or.inl rfl|exact Or.inr (Or.inl rfl)|exact Or.inr (Or.inr rfl))
  (hd:(x == ("__debug__":Str))=false:=by decide) (hcd:(x == ("__classdict__":Str))=false:=by decide):QE X (.Name x pos) (tVar i):=⟨pv i hN hv hd hcd⟩
theorem jg:QE X (.Constant (.int i) j pos) (tC (.int i)):=⟨pe_int⟩
theorem jag:QE X (.Constant (.bool b) j pos) (tC (.bl b)):=⟨pe_bl⟩
theorem ja8:QE X (.Constant .none j pos) (tC .non):=⟨pe_non⟩
theorem jm:QE X (.Constant (.str x) j pos) (tC (.str x)):=⟨pe_str⟩
theorem jai{x:Str}{v:V}{u:Value}{pos:Pos}(hg:Gl X x)(hm:X.mg x=some u)(r:RelV v u)(hd:(x == ("__debug__":Str))=false:=by decide):QE X (.Name x pos) (tC v):=⟨pe_glob hg hm r hd⟩
theorem jah{x:Str}{v:V}{u:Value}{pos:Pos}(hg:Gl X x)(hm:X.mg x=none)(hv:bootBuiltins x=some u)(r:RelV v u)(hn:x≠"__name__":=by decide)(hd:(x == ("__debug__":Str))=false:=by decide) :
  QE X (.Name x pos) (tC v):=⟨pe_bltn hg hm hv r hn hd⟩
theorem jp(ho:OpR X (binaryOp op) r)(ha:QE X a ta)(hb:QE X b tb):QE X (.BinOp a op b pos) (tOp r ta tb):=⟨pe_op ho ha.h hb.h⟩
theorem ja3(ho:UnR X (unaryOp op) r)(ha:QE X a ta):QE X (.UnaryOp op a pos) (tUn r ta):=⟨pe_un ho ha.h⟩
theorem zr(ho:OpR X (compareOp op) r)(ha:QE X a ta)(hb:QE X b tb)(hm:behindInMarks op b=false):QE X (.Compare a [op] [b] pos) (tOp r ta tb):=⟨pe_cmpR ho ha.h hb.h hm⟩
theorem jt(ho:OpR X (compareOp op) r)(ha:QE X a ta)(hb:QE X b tb)(hm:behindInMarks op b=false):QT X (.Compare a [op] [b] pos) (jhz (tOp r ta tb)):=⟨pt_cmpR ho ha.h hb.h hm⟩
theorem jbg(ho:OpR X (compareOp op) r)(ho':OpR X (compareOp op') r')(ha:QE X a ta)(hb:QE X b tb)(hc:QE X c tc)(hm:lastMarks [op,op'] [b,c]=false:=by with_unfolding_all rfl) :
  QE X (.Compare a [op,op'] [b,c] pos) (jfy r r' ta tb tc):=⟨pe_chain ho ho' ha.h hb.h hc.h hm⟩
theorem qpt_cmp(h:QC X op a b t)(h1:behindInMarks op b=false:=by first|exact nobehind _ (by decide) (by decide)|rfl):QT X (.Compare a [op] [b] pos) (tB t):=⟨pt_cmp h.h h1⟩
theorem qpc_dnotin(hu:X.A.units+1<cLine)(hi:QE X i ty)(ho:QE X o td):QC X .NotIn i o (jen ty td):=⟨pc_dnotin hu hi.h ho.h⟩
theorem jav(ha:QT X a tA):QT X (.UnaryOp .Not a pos) (tNot tA):=⟨pt_not ha.h⟩
theorem QW.pt(h:QW X e t):QT X e t:=⟨PW.pt h.h⟩
theorem jby(ha:QT X a tA)(hb:QW X (.BoolOp .And (b::rst) pos) tB'):QW X (.BoolOp .And (a::b::rst) pos) (tAnd tA tB'):=⟨pw_and ha.h hb.h⟩
theorem jaa(ha:QT X a tA)(hb:QW X (.BoolOp .Or (b::rst) pos) tB'):QW X (.BoolOp .Or (a::b::rst) pos) (tOr tA tB'):=⟨pw_or ha.h hb.h⟩
theorem qpw_and1(ha:QT X a tA):QW X (.BoolOp .And [a] pos) tA:=⟨pw_and1 ha.h⟩
theorem z5(ha:QT X a tA):QW X (.BoolOp .Or [a] pos) tA:=⟨pw_or1 ha.h⟩
theorem z4{e:Expr}(h:QE X e t)(he:∀whole,isTrue e X.env whole=(do let v <-whole;standAt e.pos;holding [v] (truthy v)):=by intro _;rfl):QT X e (tB t):=⟨pt_val h.h he⟩
theorem ja9(h:QE X a t):QE X (.BoolOp op [a] pos) t:=⟨pe_one h.h⟩
theorem qpe_and(ha:QE X a ta)(hb:QE X (.BoolOp .And (b::rst) pos) tb):QE X (.BoolOp .And (a::b::rst) pos) (jhq ta tb):=⟨pe_and ha.h hb.h⟩
theorem jb3(ha:QE X a ta)(hb:QE X (.BoolOp .Or (b::rst) pos) tb):QE X (.BoolOp .Or (a::b::rst) pos) (tOrV ta tb):=⟨pe_or ha.h hb.h⟩
theorem qpe_ifExp(hc:QT X c tA)(ha:QE X a ta)(hb:QE X b tb):QE X (.IfExp c a b pos) (tIf tA ta tb):=⟨pe_ifExp hc.h ha.h hb.h⟩
theorem j8(h:QA X es t):QE X (.List es pos) (tLst t):=⟨pe_lst h.h⟩
theorem j6(h:QA X es t):QE X (.Tuple es x1 pos) (tTup t):=⟨pe_tup h.h⟩
theorem jbi(hr:SlR X r)(he:QE X e te)(hl:QO X lw tl)(hu:QO X hi th):QE X (.Subscript e (.Slice lw hi none p2) pos) (tSl r te tl th):=⟨pe_slice hr he.h hl.h hu.h⟩
theorem jbt:QO X none jer:=⟨po_none⟩
theorem jbu(h:QE X e te):QO X (some e) (jhy te):=⟨po_some h.h⟩
theorem jq(hr:IxR X r)(ha:QE X a ta)(hb:QE X b tb)(hs:jjh b):QE X (.Subscript a b pos) (tOp r ta tb):=⟨pe_ix hr ha.h hb.h hs⟩
theorem jaz(hc:X.calm=true)(c:CompOk X scope Nc js)(hi:QI X tg iter wi)(hg:∀C s3 H3 fp,QG (X.comp scope C Nc s3 H3 fp) tg g)(he:∀C s3 H3 fp,QE (X.comp scope C Nc s3 H3 fp) elt te)
  (hs:∀x,foldedSetIterable iter X.env x=pure x:=by intro _;rfl):QE X (.ListComp elt [⟨tg,iter,[],0⟩] scope pos) (jem wi g js te):=⟨pe_comp hc c hi.h (λC s H f=>(hg C s H f).h) (λC s H f=>(he C s H f).h) hs⟩
theorem qps_setc{i:Nat}{y:Str}{py spos:Pos}(hN:X.N.Nodup)(hiN:X.N[i]?=some y)(hy:Loc X.env.scope y)(hc:X.calm=true)(c:CompOk X scope Nc js)(hi:QI X tg iter wi)(hg:∀C s3 H3 fp,QG (X.comp scope C Nc s3 H3 fp) tg g)
  (he:∀C s3 H3 fp,QE (X.comp scope C Nc s3 H3 fp) elt te) (hsw:swapsWith (.ListComp elt [⟨tg,iter,[],0⟩] scope pos) (some (.Name y py)) spos.line X.env=pure true:=by rfl)
  (hs:∀x,foldedSetIterable iter X.env x=pure x:=by intro _;rfl) (hf:X.fn y=true\/X.env.scope.names.lookup y=some .local:=by first|exact .inl rfl|exact .inr rfl|assumption) :
  QS X (.Assign [.Name y py] (.ListComp elt [⟨tg,iter,[],0⟩] scope pos) spos) (tAsg (jem wi g js te) (jck i)):=⟨ps_setc hN hiN hy hc c hi.h (λC s H f=>(hg C s H f).h) (λC s H f=>(he C s H f).h) hsw hs hf⟩
theorem jo(F:FnOk X.prog X.w X.K X.mg X.base CX k f fd ps sp)(hr:Room k X.A)(hg:Gl X x)(hm:X.mg x=some (.ref f))(hk:PySem.W.keepIn X.K (.ref f)=true)(hb:Binds X.K fd ps ds)(hd:Vals dvs ds)(hx:jct CX X E)
  (ha:QA X (e::es) t) (hdb:(x == ("__debug__":Str))=false:=by decide) (he:starEach (e::es) X.env=(false,eval e X.env)::starEach es X.env:=by rfl) (hpl:(backTo pos (starEach es X.env)).any (·.1)=false:=by rfl) :
  QE X (.Call (.Name x p) (e::es) [] pos) (jhs sp dvs E t):=⟨pe_call F hr hg hm hk hb hd hx ha.h hdb he hpl⟩
theorem yg(hc:jcd X (.type T) r)(hg:Gl X x)(hm:X.mg x=none)(hv:bootBuiltins x=some (.type T))(ha:QA X (e::es) t)(hn:x≠"__name__":=by decide)(hdb:(x == ("__debug__":Str))=false:=by decide)
  (he:starEach (e::es) X.env=(false,eval e X.env)::starEach es X.env:=by rfl) (hpl:(backTo pos (starEach es X.env)).any (·.1)=false:=by rfl):QE X (.Call (.Name x p) (e::es) [] pos) (tCB r t):=⟨pe_callTy hc hg hm hv ha.h hn hdb he hpl⟩
theorem jv(hc:jcd X (.builtin idn) r)(hg:Gl X x)(hm:X.mg x=none)(hv:bootBuiltins x=some (.builtin idn))(ha:QA X (e::es) t)(hn:x≠"__name__":=by decide)(hdb:(x == ("__debug__":Str))=false:=by decide)
  (he:starEach (e::es) X.env=(false,eval e X.env)::starEach es X.env:=by rfl) (hpl:(backTo pos (starEach es X.env)).any (·.1)=false:=by rfl):QE X (.Call (.Name x p) (e::es) [] pos) (tCB r t):=⟨pe_callB hc hg hm hv ha.h hn hdb he hpl⟩
theorem ky(slot:Slot "list" name idn)(hty:typeOf (.builtin idn)=pure (.type "method_descriptor"))(hm:MtM X idn r)(ho:QE X o to)(ha:QA X (e::es) t)(mono:∀σ H Q Q',(∀v H',Q v H'->Q' v H')->to σ H Q->to σ H Q')
  (hbase:attributeBase o name X.env (eval o X.env)=eval o X.env:=by rfl)
  (hfew:((backTo cpos (starEach (e::es) X.env)).all (λx=>!x.1) && (backToKw cpos (keywordEach [] X.env)).all (λx=>x.1.isSome)
   && decide ((e::es).length+([]:List Keyword).length+(if([]:List Keyword).isEmpty then 0 else 1)<30))=true:=by rfl)
  (hline:(apos.endLine == cpos.line)=true:=by rfl) (hs:starEach (e::es) X.env=(false,eval e X.env)::starEach es X.env:=by rfl) (hplain:(backTo cpos (starEach es X.env)).any (·.1)=false:=by rfl) :
  QE X (.Call (.Attribute o name apos) (e::es) [] cpos) (tBML r to t):=⟨pe_bmL slot hty hm ho.h ha.h mono hbase hfew hline hs hplain⟩
theorem ja7(slot:Slot "str" name idn)(hty:typeOf (.builtin idn)=pure (.type "method_descriptor"))(hm:MtM X idn r)(ho:QE X o to)(ha:QA X (e::es) t)(mono:∀σ H Q Q',(∀v H',Q v H'->Q' v H')->to σ H Q->to σ H Q')
  (hbase:attributeBase o name X.env (eval o X.env)=eval o X.env:=by rfl)
  (hfew:((backTo cpos (starEach (e::es) X.env)).all (λx=>!x.1) && (backToKw cpos (keywordEach [] X.env)).all (λx=>x.1.isSome)
   && decide ((e::es).length+([]:List Keyword).length+(if([]:List Keyword).isEmpty then 0 else 1)<30))=true:=by rfl)
  (hline:(apos.endLine == cpos.line)=true:=by rfl) (hs:starEach (e::es) X.env=(false,eval e X.env)::starEach es X.env:=by rfl) (hplain:(backTo cpos (starEach es X.env)).any (·.1)=false:=by rfl) :
  QE X (.Call (.Attribute o name apos) (e::es) [] cpos) (tBMS r to t):=⟨pe_bmS slot hty hm ho.h ha.h mono hbase hfew hline hs hplain⟩
theorem jbr(slot:Slot "list" name idn)(hty:typeOf (.builtin idn)=pure (.type "method_descriptor"))(hm:MtM X idn r)(ho:QE X o to)(mono:∀σ H Q Q',(∀v H',Q v H'->Q' v H')->to σ H Q->to σ H Q')
  (hbase:attributeBase o name X.env (eval o X.env)=eval o X.env:=by rfl) (hline:(apos.endLine == cpos.line)=true:=by rfl):QE X (.Call (.Attribute o name apos) [] [] cpos) (jhr r to):=⟨pe_bmL0 slot hty hm ho.h mono hbase hline⟩
theorem jd:QA X [] tNil:=⟨pa_nil⟩
theorem jc(ha:QE X e te)(hr:QA X es t)(hs:starEach (e::es) X.env=(false,eval e X.env)::starEach es X.env:=by rfl):QA X (e::es) (jht te t):=⟨pa_cons ha.h hr.h hs⟩
theorem kg{i:Nat}{x:Str}(hN:X.N.Nodup)(hi:X.N[i]?=some x)(hx:Loc X.env.scope x)(hf:X.fn x=true\/X.env.scope.names.lookup x=some .local:=by first|exact .inl rfl|exact .inr rfl|assumption):QG X (.Name x pos) (jck i):=⟨pg_name hN hi hx hf⟩
theorem jbx{es:List Expr}{t:TGs}{n:Nat}{K:PySem.W.Frag}(hc:X.calm=true)(h:QGs X es t)(hK:X.K=K)(hn:(assignEach es X.env).length=n:=by rfl)(hst:(assignEach es X.env).findIdx? (·.1)=none:=by rfl) :
  QG X (.Tuple es k pos) (gTup K n t):=by subst hK;exact⟨pg_tup hc h.h hn hst⟩
theorem jbs:QGs X [] gNil:=⟨pgs_nil⟩
theorem jak{e:Expr}{es:List Expr}(h1:QG X e t)(h2:QGs X es u)(hs:(assignEach (e::es) X.env).map (·.2)=assign e X.env::(assignEach es X.env).map (·.2):=by rfl):QGs X (e::es) (jmu t u):=⟨pgs_cons h1.h h2.h hs⟩
theorem jba{o i:Expr}(ho:QE X o to)(hi:QE X i ti)(hs:PSet X t)
  (ha:∀v,assign (.Subscript o i pos) X.env v=(do
   let ov <-holding [v] (eval o X.env)
   let iv <-holding [v,ov] (eval i X.env)
   standAt pos
   holding [v,ov,iv] (setItem ov iv v)
   release [v,ov,iv] []):=by intro _;rfl):QG X (.Subscript o i pos) (gSub to ti t):=⟨pg_sub ho.h hi.h hs ha⟩
theorem jn{i:Nat}{x:Str}{e:Expr}{te:TE}{pos':Pos}(hN:X.N.Nodup)(hi:X.N[i]?=some x)(hx:Loc X.env.scope x)(he:QE X e te)(hs:swapsWith e (some (.Name x pos')) pos.line X.env=pure false:=by rfl)
  (hf:X.fn x=true\/X.env.scope.names.lookup x=some .local:=by first|exact .inl rfl|exact .inr rfl|assumption):QS X (.Assign [.Name x pos'] e pos) (tAsg te (jck i)):=⟨ps_set hN hi hx he.h hs hf⟩
theorem jbb{tg e:Expr}(he:QE X e te)(hg:QG X tg g)(hs:swapsWithSole [tg] e pos.line X.env=pure false:=by rfl)(hw:swappedStores [tg] e X.env=pure none:=by rfl)
  (h1:(assignEach [tg] X.env).map (·.2)=[assign tg X.env]:=by rfl):QS X (.Assign [tg] e pos) (tAsg te g):=⟨ps_asg he.h hg.h hs hw h1⟩
theorem qps_dput(hu:X.A.units+1<cLine)(ho:QE X o td)(hi:QE X i ty)(hv:QE X value tv)(hs:swapsWith value (some (.Subscript o i pos')) pos.line X.env=pure false) :
  QS X (.Assign [.Subscript o i pos'] value pos) (jhp td ty tv):=⟨ps_dput hu ho.h hi.h hv.h hs⟩
theorem jy(he:QE X e te):QS X (.Return (some e) pos) (tRet te):=⟨ps_ret he.h⟩
theorem ke(he:QE X e te)(hs:swapsWith e none pos.line X.env=pure false:=by rfl):QS X (.Expr e pos) (jhv te):=⟨ps_expr he.h hs⟩
theorem j7(hc:QT X c tc)(ha:QSs X a t)(hb:QSs X b u):QS X (.If c a b pos) (tIfS tc t u):=⟨ps_if hc.h ha.h hb.h⟩
theorem zc{iter:Expr}(hp:PassesOwn (model X.prog X.w) X.A X.env X.xe)(hc:X.calm=true)(hi:QI X tg iter wi)(hg:QG X tg g)(hb:QSs X body tb)(hs:∀x,foldedSetIterable iter X.env x=pure x:=by intro _;rfl) :
  QS X (.For tg iter body [] pos) (tFor wi g tb):=⟨ps_for hp hc hi.h hg.h hb.h hs⟩
theorem jal(hp:PassesOwn (model X.prog X.w) X.A X.env X.xe)(hc:QT X c tc)(hb:QSs X body tb):QS X (.While c body [] pos) (jlq tc tb):=⟨ps_while hp hc.h hb.h⟩
theorem qps_continue:QS X (.Continue pos) jhu:=⟨ps_continue⟩
theorem zf{a:Expr}{ta:TA}{p pos:Pos}(hg:Gl X "range")(hm:X.mg "range"=none)(ha:QA X [a] ta)(hs:starEach [a] X.env=[(false,eval a X.env)]:=by rfl):QI X tg (.Call (.Name "range" p) [a] [] pos) (jhj ta):=⟨pi_range1 hg hm ha.h hs⟩
theorem zk{K:PySem.W.Frag}(hl:QE X l tl)(hK:X.K=K):QI X tg l (iAny K tl):=by subst hK;exact⟨pi_any hl.h⟩
def jep(D:Addr)(tt:TT)(te:TE):TS:=λE σ H=>tt σ H λb H1=>if b=true then jeo D te E σ H1 else E.nx σ H1
def jc8(wi:TI)(g:TG)(js:List (Option Nat))(tt:TT)(te:TE):TE:=λσ H Q=>wi σ H λJ H1=>∀D,H1 D=none ->
 jcm J g (jep D tt te) {nx:=λ_ H'=>Q (.ref D) H',rt:=λ_ _=>False} (jcz js σ) (upd H1 D (.lst []))
theorem jh4(elt target iter cd:Expr)(scope:Scope)(pos:Pos)(it acc:Value)(env:Env) :
  compTurn (.ListComp elt [⟨target,iter,[cd],0⟩] scope pos) 0 it acc env=(standAt iter.pos >>= λ_=>pyNext it >>= λr=>match r with
   |none=>pure (.done .next)
   |some v=>letOwnedTupleGo target it v >>= λ_=>assign target env v >>= λ_ =>
    (forIn [cd] true λc ok=>if ok=true then(isTrue c env (eval c env) >>= λb=>pure (ForInStep.yield b))else pure (ForInStep.yield ok)) >>= λok =>
    if ok=true then((eval elt env >>= λx=>call (.builtin "list.append") [acc,x] >>= λ_=>pure ()) >>= λ_=>again (.compLoop (.ListComp elt [⟨target,iter,[cd],0⟩] scope pos) 0 it acc env))
    else again (.compLoop (.ListComp elt [⟨target,iter,[cd],0⟩] scope pos) 0 it acc env)):=by rfl
section
variable{X:Cx}{scope:Scope}{Nc:List Str}{js:List (Option Nat)}{elt tg iter cd:Expr}{pos:Pos}{wi:TI}{g:TG}{te:TE}{tt:TT}
theorem jew(hc:X.calm=true)(c:CompOk X scope Nc js)(hi:PI X tg iter wi)(hg:∀C s3 H3 fp,PG (X.comp scope C Nc s3 H3 fp) tg g)(ht:∀C s3 H3 fp,PT (X.comp scope C Nc s3 H3 fp) cd tt)(he:∀C s3 H3 fp,PE (X.comp scope C Nc s3 H3 fp) elt te)
  {pins:List (Addr×Obj)}{s:Shared}{σ:L2.St}{H:Hp} (I:Inv X pins σ H s) {RR:Value->Addr->Result->Shared->Prop}{NX:Addr->Hp->Prop}
  (h:wi σ H λJ H1=>∀D,H1 D=none->jcm J g (jep D tt te) {nx:=λ_ H'=>NX D H',rt:=λ_ _=>False} (jcz js σ) (upd H1 D (.lst [])))
  (fin:∀D H3 s3 fp σ5 H5 s6,Inv X pins σ H3 s3->(∀b∈fp,FpOk X pins H3 b)->Inv (X.comp scope s3.heap.objs.size Nc s3 H3 fp) [] σ5 H5 s6->NX D H5->RR (.ref D) s3.heap.objs.size (.ok .next) s6) :
  wpAny (model X.prog X.w) X.A (eval iter X.env) (λx s₁=>wpAny (model X.prog X.w) X.A (pyIter x) (λit s₂=>wpAny (model X.prog X.w) X.A (newList []) (λacc s₃ =>
   wpAny (model X.prog X.w) X.A (newFunctionEnv scope X.env.globals (clOf X.env scope.names []) [] X.env.qual none .none (some X.env)) (λcenv s₄ =>
    codeAny (model X.prog X.w) X.A (.compStart (.ListComp elt [⟨tg,iter,[cd],0⟩] scope pos) 0 it acc {cenv with scope:=relabel scope X.env}) (RR acc cenv.locals) s₄) X.xe s₃) X.xe s₂) X.xe s₁) X.xe s:=by
 refine thn (hi pins s σ H _ I h) λv s1 h1=>thn h1 λitv s2 h2=>?_
 obtain⟨it,fp,tn,J,H2,rfl,I2,T,st2,f2,h2⟩:=h2
 refine On ?_ (by show 0<=sizeLine;decide)
 have hD:H2 s2.heap.objs.size=none:=I2.hok.fresh (Ac _)
 have I3:Inv X pins σ (upd H2 s2.heap.objs.size (.lst [])) {s2 with heap:=s2.heap.push {cls:=.type "list",data:=.seq ([]:List Value).toArray}} :=
  I2.laid (t':=s2.toks) (λb u e=>Ad _ e) (Ac _) ⟨by show 0<=sizeLine;decide,[],0,.nil,Aw _ rfl⟩
 have f3:∀b∈fp,FpOk X pins (upd H2 s2.heap.objs.size (.lst [])) b:=λb hb=>by
  obtain⟨q0,q⟩:=f2 b hb
  obtain⟨o,e,_⟩:=T.obj _ _ st2 b hb
  exact⟨by rw[jf (Av (Ak e))];exact q0,q⟩
 have o3:∀b∈fp,∃o,(s2.heap.push {cls:=.type "list",data:=.seq ([]:List Value).toArray}).get? b=some o:=λb hb=>by
  obtain⟨o,e,_⟩:=T.obj _ _ st2 b hb
  exact⟨o,Ad _ e⟩
 have st3:tn 0 (s2.heap.push {cls:=.type "list",data:=.seq ([]:List Value).toArray}):=T.keep _ _ _ st2 λb _ o e=>Ad _ e
 generalize hh3:s2.heap.push {cls:=.type "list",data:=.seq ([]:List Value).toArray}=h3 at I3 o3 st3⊢
 refine U2 c.nocell (by intro y hy;simp at hy) (λh4 hn4 hs4=>?_) c.kind
 have k4:∀b o,h3.get? b=some o->h4.get? b=some o:=λb o e=>(hs4.2 b (Av (Ak e))).trans (Ad _ e)
 have I4:=jh5 (tk:=s2.toks+([]:List (Str×Value)).length) c I3 f3 o3 hn4 k4
 have st4:tn 0 h4:=T.keep _ _ _ st3 λb _ o e=>k4 b o e
 obtain⟨W,⟨m0,w0⟩,turn⟩:=h2 _ hD
 let s3:Shared:={s2 with heap:=h3}
 let Y:Cx:=X.comp scope h3.objs.size Nc s3 (upd H2 s2.heap.objs.size (.lst [])) fp
 have stat:∀{H':Hp},(∀b∈fp,H' b=none)->∀b∈fp,FpOk Y [] H' b:=λhn b hb=>⟨hn b hb,(I4.ok.exf b hb).1,I4.ok.exfs b hb,.inl hb,(I4.ok.exf b hb).2,(λp hp=>nomatch hp)⟩
 have loop:codeAny (model X.prog X.w) X.A (.compLoop (.ListComp elt [⟨tg,iter,[cd],0⟩] scope pos) 0 (.ref it) (.ref s2.heap.objs.size) Y.env)
   (RR (.ref s2.heap.objs.size) h3.objs.size) {s2 with heap:=h4,toks:=s2.toks+([]:List (Str×Value)).length}:=by
  refine codeAny_loop rfl (λn s'=>∃i σ' H',Inv Y [] σ' H' s'/\tn i s'.heap/\(∀b∈fp,H' b=none)/\W i n σ' H') (λn s5 hI=>?_) m0 ⟨0,_,_,I4,st4,λb hb=>(f3 b hb).1,w0⟩
  obtain⟨i,σ5,H5,I5,st5,fr5,w5⟩:=hI
  show wpAny _ X.A ((compTurn (.ListComp elt [⟨tg,iter,[cd],0⟩] scope pos) 0 (.ref it) (.ref s2.heap.objs.size) Y.env).onRaise (λx=>do noteFrame x Y.env;theTreesLotGoes x)) _ _ s5
  refine wpAny_noted (Oo (E:=λ_ _=>False) ?_ (λ_ _ q=>q) λ_ _ z=>z.elim)
  rw[jh4]
  refine Ah (Up (Ah ?_))
  rcases turn i n σ5 H5 w5 with⟨stop,qn⟩|⟨go,N,hN,step⟩
  ·refine thn (T.done Y rfl rfl rfl hc i [] s5 σ5 H5 _ I5 (stat fr5) st5 stop) λr s6 ⟨hr,I6⟩=>?_
   subst hr
   refine Ap ?_
   exact fin _ _ s3 fp σ5 H5 s6 I3 f3 I6 qn
  ·refine thn (T.item Y rfl rfl rfl hc i [] s5 σ5 H5 _ I5 (stat fr5) st5 go) λr s6 ⟨u,hr,h6⟩=>?_
   subst hr
   refine Ah (thn h6 λ_ s7 ⟨x,H7,I7,r7,y7,st7,fr7⟩=>?_)
   have I7':=I7.pinned (stat fr7) (T.obj _ _ st7)
   refine Ah (thn (hg _ _ _ _ _ s7 σ5 H7 x u _ I7' r7 (step x H7 y7)) λ_ s8 ⟨σ8,H8,I8,q8⟩=>?_)
   have fin2:∀{H':Hp}{s':Shared},Inv Y ([]++jeb fp s7.heap) σ8 H' s'->N σ8 H'->∃m,m<n/\∃i σ1 H1,Inv Y [] σ1 H1 s'/\tn i s'.heap/\(∀b∈fp,H1 b=none)/\W i m σ1 H1:=fun{H'}{s'} I10 n10=>by
    obtain⟨m',hm,w10⟩:=hN σ8 H' n10
    refine⟨m',hm,i+1,σ8,H',I10.unpinned,T.keep _ _ _ st7 λb hb o e=>(I10.pin (b,o) (A5 _ (A5 _ (jcy hb e)))).1,λb hb=>?_,w10⟩
    obtain⟨o,e,d⟩:=T.obj _ _ st7 b hb
    exact(I10.pin (b,o) (A5 _ (A5 _ (jcy hb e)))).2.1
   rw[List.forIn_cons,Ag rfl]
   refine Ah (Ah (Ah (thn (ht _ _ _ _ _ s8 σ8 H8 _ I8 q8) λok s9 ⟨H9,I9,q9⟩=>Ap ?_)))
   simp only[List.forIn_nil]
   refine Ap ?_
   cases ok with
   |false =>
    simp only[Iq,Oe]at q9⊢
    exact Ap ⟨rfl,fin2 I9 q9⟩
   |true =>
    simp only[Of]at q9⊢
    refine Ah (Ah (thn (he _ _ _ _ _ s9 σ8 H9 _ I9 q9) λv s10 ⟨y,H10,I10,r10,ys,e10,z10,n10⟩=>?_))
    refine Ah (thn (jas (X:=Y) _ s10 σ8 H10 (.ref s2.heap.objs.size) [y] (.ref s2.heap.objs.size) [v] (λw H'=>N σ8 H') I10 rfl (.cons r10 .nil) ⟨_,ys,y,rfl,rfl,jcf e10,z10,n10⟩) λw s11 ⟨_,H11,I11,_,n11⟩=>?_)
    exact Ap (Ap ⟨rfl,fin2 I11 n11⟩)
 exact codeAny_compStart_list loop (T.self _ 0 _ _ _ st4 loop)
theorem pe_compIf(hc:X.calm=true)(c:CompOk X scope Nc js)(hi:PI X tg iter wi)(hg:∀C s3 H3 fp,PG (X.comp scope C Nc s3 H3 fp) tg g)(ht:∀C s3 H3 fp,PT (X.comp scope C Nc s3 H3 fp) cd tt)(he:∀C s3 H3 fp,PE (X.comp scope C Nc s3 H3 fp) elt te)
  (hs:∀x,foldedSetIterable iter X.env x=pure x:=by intro _;rfl):PE X (.ListComp elt [⟨tg,iter,[cd],0⟩] scope pos) (jc8 wi g js tt te):=by
 intro pins s σ H Q I h
 rw[eval_ListComp]
 refine Oq (use:=none) (g:=⟨tg,iter,[cd],0⟩) (gs:=[]) rfl hs (jc6 (c.has I)) c.kind c.loc
  (jew (RR:=λacc C=>compPost (model X.prog X.w) X.A X.xe none (EP X pins σ Q) acc C) (NX:=λD H'=>Q (.ref D) H') hc c hi hg ht he I h λD H3 s3 fp σ5 H5 s6 I3 f3 I6 qn=>?_)
 obtain⟨m,hn,_⟩:=I6.loc
 exact⟨m,hn,λh' hs'=>⟨.ref D,H5,jc7 I3 f3 I6 hs',rfl,qn⟩⟩
theorem ps_setcIf{i:Nat}{y:Str}{py spos:Pos}(hN:X.N.Nodup)(hiN:X.N[i]?=some y)(hy:Loc X.env.scope y)(hc:X.calm=true)(c:CompOk X scope Nc js)(hi:PI X tg iter wi)(hg:∀C s3 H3 fp,PG (X.comp scope C Nc s3 H3 fp) tg g)
  (ht:∀C s3 H3 fp,PT (X.comp scope C Nc s3 H3 fp) cd tt) (he:∀C s3 H3 fp,PE (X.comp scope C Nc s3 H3 fp) elt te) (hsw:swapsWith (.ListComp elt [⟨tg,iter,[cd],0⟩] scope pos) (some (.Name y py)) spos.line X.env=pure true:=by rfl)
  (hs:∀x,foldedSetIterable iter X.env x=pure x:=by intro _;rfl) (hf:X.fn y=true\/X.env.scope.names.lookup y=some .local:=by first|exact .inl rfl|exact .inr rfl|assumption) :
  PS X (.Assign [.Name y py] (.ListComp elt [⟨tg,iter,[cd],0⟩] scope pos) spos) (tAsg (jc8 wi g js tt te) (jck i)):=by
 intro pins s σ H D I h
 rw[exec_Assign_Name_used _ _ _ _ hsw]
 refine Ah (Up (Ah ?_))
 show wpAny _ X.A (do let _ <-comprehension (.ListComp elt [⟨tg,iter,[cd],0⟩] scope pos) scope X.env _ (newList []) false (eval iter X.env) (some (assign (.Name y py) X.env))) _ _ s
 refine Ah (Oo (Oq (use:=some (assign (.Name y py) X.env)) (g:=⟨tg,iter,[cd],0⟩) (gs:=[]) (Q:=λ_ s'=>SP X pins D .next s') rfl hs (jc6 (c.has I)) c.kind c.loc
  (jew (RR:=λacc C=>compPost (model X.prog X.w) X.A X.xe (some (assign (.Name y py) X.env)) (λ_ s'=>SP X pins D .next s') acc C) (NX:=λDa H'=>D.nx (σ.set i (some (.ref Da))) H') hc c hi hg ht he I h λDa H3 s3 fp σ5 H5 s6 I3 f3 I6 qn=>?_))
  (λ_ s' hq=>Ap (Ap hq)) λ_ _ e=>e)
 obtain⟨m,hn,_⟩:=id I6.loc
 have I7:Inv X pins σ H5 s6:=jc7 I3 f3 I6 (.refl ..)
 have hC:H5 s3.heap.objs.size=none:=I6.free
 have nL:s3.heap.objs.size≠X.env.locals:=Nat.ne_of_gt I3.lt
 have nc:∀x a,X.env.cells.lookup x=some a->a≠s3.heap.objs.size:=λx a e=>by
  obtain⟨v,q⟩:=I3.cell x a e
  exact Av q.lt
 have np:∀p∈X.pn++pins,p.1≠s3.heap.objs.size:=λp hp=>Av (Ak (I3.pin p hp).1)
 show wpAny _ _ (assign (.Name y py) X.env (.ref Da)) _ _ _
 refine wpAny_assign_Name (jeh (v:=.ref Da) I7 hN hiN hy rfl (λs8 I8 hb=>?_) hf)
 obtain⟨a,hs8,ha⟩:=hb
 have nCa:s3.heap.objs.size≠a:=by
  rcases ha with z|z
  ·rw[z];exact nL
  ·exact(nc y a z).symm
 refine⟨m,hn.sameBut hs8 nCa,λh9 hs9=>?_⟩
 exact⟨_,H5,I8.turned (t':=s8.toks) (λb o hb e=>(hs9.2 b hb).trans e) hC nL (.inr (Ig I3.sz (Ac _))) nc np,qn⟩
theorem ja2(hc:X.calm=true)(c:CompOk X scope Nc js)(hi:QI X tg iter wi)(hg:∀C s3 H3 fp,QG (X.comp scope C Nc s3 H3 fp) tg g)(ht:∀C s3 H3 fp,QT (X.comp scope C Nc s3 H3 fp) cd tt)(he:∀C s3 H3 fp,QE (X.comp scope C Nc s3 H3 fp) elt te)
  (hs:∀x,foldedSetIterable iter X.env x=pure x:=by intro _;rfl):QE X (.ListComp elt [⟨tg,iter,[cd],0⟩] scope pos) (jc8 wi g js tt te) :=
 ⟨pe_compIf hc c hi.h (λC s H f=>(hg C s H f).h) (λC s H f=>(ht C s H f).h) (λC s H f=>(he C s H f).h) hs⟩
theorem qps_setcIf{i:Nat}{y:Str}{py spos:Pos}(hN:X.N.Nodup)(hiN:X.N[i]?=some y)(hy:Loc X.env.scope y)(hc:X.calm=true)(c:CompOk X scope Nc js)(hi:QI X tg iter wi)(hg:∀C s3 H3 fp,QG (X.comp scope C Nc s3 H3 fp) tg g)
  (ht:∀C s3 H3 fp,QT (X.comp scope C Nc s3 H3 fp) cd tt) (he:∀C s3 H3 fp,QE (X.comp scope C Nc s3 H3 fp) elt te) (hsw:swapsWith (.ListComp elt [⟨tg,iter,[cd],0⟩] scope pos) (some (.Name y py)) spos.line X.env=pure true:=by rfl)
  (hs:∀x,foldedSetIterable iter X.env x=pure x:=by intro _;rfl) (hf:X.fn y=true\/X.env.scope.names.lookup y=some .local:=by first|exact .inl rfl|exact .inr rfl|assumption) :
  QS X (.Assign [.Name y py] (.ListComp elt [⟨tg,iter,[cd],0⟩] scope pos) spos) (tAsg (jc8 wi g js tt te) (jck i)) :=
 ⟨ps_setcIf hN hiN hy hc c hi.h (λC s H f=>(hg C s H f).h) (λC s H f=>(ht C s H f).h) (λC s H f=>(he C s H f).h) hsw hs hf⟩
end
section
variable{D:Addr}{te:TE}{tt:TT}{E:Ends}{r:L2.St}{H:Hp}
theorem jdh{α:Type}(p:α->Bool)(f:α->V)(xs:List α)(i:Nat)(x:α)(h:xs[i]?=some x):((xs.take (i+1)).filter p).map f=((xs.take i).filter p).map f++(if p x=true then[f x]else[]):=by
 rw[Ue,h]
 simp only[Option.toList_some,Wd,Ip]
 congr 1
 by_cases q:p x=true
 ·simp[q]
 ·simp[q]
theorem jev{K:PySem.W.Frag}{a:Addr}{xs:List V}(p:V->Bool)(f:V->V)(ha:H a=some (.lst xs))(hD:H D=none)(hz:xs.length<=sizeLine)
  (ht:∀x∈xs,∀l Q,Q (p x) (upd H D (.lst l))->tt (some x::r) (upd H D (.lst l)) Q) (he:∀x∈xs,p x=true->∀l Q,Q (f x) (upd H D (.lst l))->te (some x::r) (upd H D (.lst l)) Q)
  (hn:∀v,E.nx (v::r) (upd H D (.lst ((xs.filter p).map f)))):jcm (Itl K a) (jck 0) (jep D tt te) E (none::r) (upd H D (.lst [])):=by
 have ne:a≠D:=jj ha hD
 refine jd8 (xs:=xs) (λi σ H'=>∃v:Option V,σ=v::r/\H'=upd H D (.lst (((xs.take i).filter p).map f))) ⟨none,rfl,rfl⟩ ?_ ?_ ?_
 ·rintro i σ H' _ ⟨v,_,rfl⟩
  rw[jf ne];exact ha
 ·rintro i x σ H' hx ⟨v,rfl,rfl⟩
  have hl:i<xs.length:=(Aa.mp hx).1
  have hm:=A0 hx
  have hf:(((xs.take i).filter p).map f).length<=i:=by
   rw[Ab]
   exact Ig (Uv _ _) (by rw[Ir];omega)
  refine ht x hm _ _ ?_
  by_cases q:p x=true
  ·rw[q,Ag rfl]
   refine he x hm q _ _ ⟨_,by rw[je];rfl,by omega,some x,rfl,?_⟩
   rw[jh0,jdh p f xs i x hx,Ag q]
  ·rw[Ae q]
   refine⟨some x,rfl,?_⟩
   rw[jdh p f xs i x hx,Ae q,Im]
 ·rintro σ H' ⟨v,rfl,rfl⟩
  rw[Oi (Ac _)]
  exact hn v
theorem jke{K:PySem.W.Frag}{a:Addr}{xs:List V}(p:V->Bool)(f:V->V)(ha:H a=some (.tup xs))(hD:H D=none)(hz:xs.length<=sizeLine)
  (ht:∀x∈xs,∀l Q,Q (p x) (upd H D (.lst l))->tt (some x::r) (upd H D (.lst l)) Q) (he:∀x∈xs,p x=true->∀l Q,Q (f x) (upd H D (.lst l))->te (some x::r) (upd H D (.lst l)) Q)
  (hn:∀v,E.nx (v::r) (upd H D (.lst ((xs.filter p).map f)))):jcm (Itt K a) (jck 0) (jep D tt te) E (none::r) (upd H D (.lst [])):=by
 have ne:a≠D:=jj ha hD
 refine jdu (xs:=xs) (λi σ H'=>∃v:Option V,σ=v::r/\H'=upd H D (.lst (((xs.take i).filter p).map f))) ⟨none,rfl,rfl⟩ ?_ ?_ ?_
 ·rintro i σ H' _ ⟨v,_,rfl⟩
  rw[jf ne];exact ha
 ·rintro i x σ H' hx ⟨v,rfl,rfl⟩
  have hl:i<xs.length:=(Aa.mp hx).1
  have hm:=A0 hx
  have hf:(((xs.take i).filter p).map f).length<=i:=by
   rw[Ab]
   exact Ig (Uv _ _) (by rw[Ir];omega)
  refine ht x hm _ _ ?_
  by_cases q:p x=true
  ·rw[q,Ag rfl]
   refine he x hm q _ _ ⟨_,by rw[je];rfl,by omega,some x,rfl,?_⟩
   rw[jh0,jdh p f xs i x hx,Ag q]
  ·rw[Ae q]
   refine⟨some x,rfl,?_⟩
   rw[jdh p f xs i x hx,Ae q,Im]
 ·rintro σ H' ⟨v,rfl,rfl⟩
  rw[Oi (Ac _)]
  exact hn v
end
section
variable{X:Cx}
def rTru(x:V)(H:Hp)(Q:Bool->Hp->Prop):Prop:=match x with
 |.bl b=>Q b H
 |.int i=>Q (i != 0) H
 |.non=>Q false H
 |.str y=>y.length<=sizeLine/\Q ((y.length:Int) != 0) H
 |.ref p=>∃xs,jc1 (H p)=some xs/\Q (!xs.isEmpty) H
 |_=>False
def tTru(ta:TE):TT:=λσ H Q=>ta σ H λx H1=>rTru x H1 Q
theorem jdf(p:Addr)(H:Hp)(Q:Bool->Hp->Prop):rTru (.ref p) H Q=(∃xs,jc1 (H p)=some xs/\Q (!xs.isEmpty) H):=rfl
theorem jjz(b:Bool)(H:Hp)(Q:Bool->Hp->Prop):rTru (.bl b) H Q=Q b H:=rfl
theorem jix(y:Str)(H:Hp)(Q:Bool->Hp->Prop):rTru (.str y) H Q=(y.length<=sizeLine/\Q ((y.length:Int) != 0) H):=rfl
theorem pt_tru{a:Expr}{ta:TE}(ha:PE X a ta)(he:∀whole,isTrue a X.env whole=(do let v <-whole;standAt a.pos;holding [v] (truthy v)):=by intro _;rfl):PT X a (tTru ta):=by
 intro pins s σ H Q I h
 refine isTrue_plain (thn (ha pins s σ H _ I h) λv s1 ⟨x,H1,I1,r1,q1⟩=>jor pins s1 σ H1 x v Q I1 r1 ?_) (he _)
 replace q1:rTru x H1 Q:=q1
 unfold rTru at q1
 split at q1
 ·exact⟨_,rfl,q1⟩
 ·exact⟨_,rfl,q1⟩
 ·exact⟨_,rfl,q1⟩
 ·exact⟨_,⟨q1.1,rfl⟩,q1.2⟩
 ·obtain⟨xs,e,q⟩:=q1
  rcases jdw e with e|e
  ·exact⟨_,.inl ⟨xs,SqL.of e,rfl⟩,q⟩
  ·exact⟨_,.inr (.inl ⟨xs,SqT.of e,rfl⟩),q⟩
 ·exact q1.elim
def jiv:V->List V->Hp->VK->Prop:=λx vs H Q=>match x,vs with
 |.ref l,[]=>∃xs,jcb (H l)=some xs/\∃y,xs[xs.length-1]?=some y/\Q y (upd H l (.lst xs.dropLast))
 |_,_=>False
theorem jdy(l:Addr)(H:Hp)(Q:VK):jiv (.ref l) [] H Q=(∃xs,jcb (H l)=some xs/\∃y,xs[xs.length-1]?=some y/\Q y (upd H l (.lst xs.dropLast))):=rfl
theorem jbq:MtM X "list.pop" jiv:=by
 intro pins s σ H x vs v us Q I rx rv h
 unfold jiv at h
 split at h
 ·rename_i l
  obtain⟨xs,e,y,hy,q⟩:=h
  exact mt_pop pins s σ H _ _ v us Q I rx rv ⟨l,xs,y,rfl,rfl,jcf e,hy,q⟩
 ·exact h.elim
end
def tMid(t u:TS):TS:=λD σ H=>∃J:L2.St->Hp->Prop,t {D with nx:=J} σ H/\∀σ H,J σ H->u D σ H
theorem pss_mid{X:Cx}{st:Stmt}{rest:List Stmt}{t u:TS}(h1:PS X st t)(h2:PSs X rest u):PSs X (st::rest) (tMid t u):=by
 intro pins s σ H D I h
 obtain⟨J,h,hJ⟩:=h
 refine Uq (thn (h1 pins s σ H {D with nx:=J} I h) λf s1 q=>?_)
 cases f with
 |next =>
  obtain⟨σ1,H1,I1,q1⟩:=q
  exact h2 pins s1 σ1 H1 D I1 (hJ _ _ q1)
 |ret v=>exact q
 |brk=>exact q
 |cont=>exact q
theorem yw{X:Cx}{st:Stmt}{rest:List Stmt}{t u:TS}(h1:QS X st t)(h2:QSs X rest u):QSs X (st::rest) (tMid t u):=⟨pss_mid h1.h h2.h⟩
section
variable{X:Cx}
theorem jbj{st:Stmt}:QS X st jlp:=⟨ps_never⟩
theorem jbc{a:Expr}{ta:TE}(ha:QE X a ta)(he:∀whole,isTrue a X.env whole=(do let v <-whole;standAt a.pos;holding [v] (truthy v)):=by intro _;rfl):QT X a (tTru ta):=⟨pt_tru ha.h he⟩
theorem yv{K:PySem.W.Frag}(hK:X.K=K):jcd X (.builtin "isinstance") (rIsU K):=by
 subst hK
 exact call_isinstanceU
end
theorem Kp.setD{S:List Addr}{H H1:Hp}(k:Kp S H H1){b:Addr}{kvs:List (List Key×V)}{o:HO}(hb:H1 b=some (.dT kvs))(h:b∈S\/H b=none):Kp S H (upd H1 b o) :=
 ⟨λc u e n=>by
  have:c≠b:=by
   rintro rfl
   rcases h with h|h
   ·exact n h
   ·rw[h]at e;cases e
  rw[jf this];exact k.old c u e n,
 λc ys e=>by
  have e1:=k.tup c ys e
  rw[jf (jhm e1 hb (by intro z;cases z))];exact e1,
 λc u e=>by
  obtain⟨o',e'⟩:=k.dom c u e
  by_cases q:c=b
  ·subst q;exact⟨o,je⟩
  ·exact⟨o',by rw[jf q];exact e'⟩⟩
theorem jb6{X:Cx}{K:PySem.W.Frag}(hK:X.K=K):SlR X (rSlU K):=by
 subst hK
 exact sl_U
end L2
set_option autoImplicit true
set_option relaxedAutoImplicit true
set_option autoImplicit true
set_option relaxedAutoImplicit true
namespace L2
open PySem PySem.Spec PyProof.Rows
section
variable{X:Cx}
theorem jj6(K:PySem.W.Frag)(z:Str)(H:Hp):tyV K "str" (.str z) H=True:=by simp[tyV]
end
section
variable{prog:Program}{w:World}{A:Around}{E:Value->Shared->Prop}{s:Shared}
theorem ji8{h:Heap}{g:Array GenState}{d:Drawn}{t:Nat}{os:OsState}{it a:Addr}{i:Nat}{vs:Array Value}{u:Value}{Q:Value->Shared->Prop}(hi:h.IsTupleIter it a i)(ha:h.IsTuple a vs)(hu:vs[i]?=some u)
  (q:∀h',h'.IsTupleIter it a (i+1)->Heap.SameBut it h h'->Q u ⟨h',g,d,t,os⟩):wpAny (model prog w) A (Builtin.SmallTypes.nextOf (.ref it)) Q E ⟨h,g,d,t,os⟩:=by
 obtain⟨⟨ci,di,dti,si⟩,e1,c1,d1⟩:=id hi
 obtain⟨⟨ca,da,dta,sa⟩,e2,c2,n2,d2⟩:=ha
 dsimp only at c1 d1 c2 d2
 subst c1 d1 c2 d2
 have sl:=PySem.F.slot_tuple_iterator_next
 have hT:(⟨h,g,d,t,os⟩:Shared).TypeIs (.ref it) "tuple_iterator":=hi.typeIs
 have fin:=q _ ⟨_,Uu (Obj.mapFields (·.setIfInBounds 1 (rawInt (i+1)))) e1 rfl,rfl,by simp[Obj.mapFields,rawInt]⟩ (.update ..)
 refine Ah (Uf hT sl (wpAny_call_entry sl hT Ul ?_ (Ug _)))
 unfold Builtin.«tuple_iterator.__next__»
 repeat (any_goals (first|assumption|with_reducible refine Uh e1 ?_|with_reducible refine Uh e2 ?_|wp_step))
 have e3:vs[((i:Nat):Int).toNat]?=some u:=hu
 rw[e3]
 exact Ah (wpAny_setField e1 rfl (by simp) (Ap ⟨u,rfl,Ap fin⟩))
theorem jjg{h:Heap}{g:Array GenState}{d:Drawn}{t:Nat}{os:OsState}{it a:Addr}{i:Nat}{vs:Array Value}{Q:Value->Shared->Prop}(hh:A.handled=none)(hi:h.IsTupleIter it a i)(ha:h.IsTuple a vs)(hu:vs[i]?=none)
  (q:∀h' e,Heap.ExtBut it h h'->(∃o,h'.get? e=some o/\o.cls=.type "StopIteration")->E (.ref e) ⟨h',g,d,t,os⟩):wpAny (model prog w) A (Builtin.SmallTypes.nextOf (.ref it)) Q E ⟨h,g,d,t,os⟩:=by
 obtain⟨⟨ci,di,dti,si⟩,e1,c1,d1⟩:=id hi
 obtain⟨⟨ca,da,dta,sa⟩,e2,c2,n2,d2⟩:=ha
 dsimp only at c1 d1 c2 d2
 subst c1 d1 c2 d2
 have sl:=PySem.F.slot_tuple_iterator_next
 have hT:(⟨h,g,d,t,os⟩:Shared).TypeIs (.ref it) "tuple_iterator":=hi.typeIs
 have h1:A.in1.handled=none:=hh
 refine Ah (Uf hT sl (wpAny_call_entry sl hT Ul ?_ (Ug _)))
 unfold Builtin.«tuple_iterator.__next__»
 repeat (any_goals (first|assumption|with_reducible refine Uh e1 ?_|with_reducible refine Uh e2 ?_|wp_step))
 have e3:vs[((i:Nat):Int).toNat]?=none:=hu
 rw[e3]
 refine Ah (wpAny_rule (Ah (wpAny_setField e1 rfl (by simp) ?_)))
 unfold Builtin.SmallTypes.stopIteration
 have fm:firstArgMember (.type "StopIteration") []=pure .none:=rfl
 unfold newExc
 repeat (any_goals (first|assumption|rw[fm]|wp_step))
 exact wpAny_raiseNew_none h1 (q _ _ (((U6 ..).extBut.push _).push _) ⟨_,Aw _ rfl,rfl⟩)
theorem jk3(hh:A.handled=none)(it a:Addr)(ne:a≠it)(vs:Array Value):Draws prog w A it [it,a] vs.size (λi v=>vs[i]?=some v) (λi h=>h.IsTupleIter it a i/\h.IsTuple a vs) where
 live:=λ_ _ st=>let⟨o,ho,_⟩:=st.1;⟨o,ho⟩
 frame:=λ_ _ _ st hk=>by
  obtain⟨⟨o,ho,r⟩,⟨o2,ho2,r2⟩⟩:=st
  exact⟨⟨o,hk it (by simp) o ho,r⟩,⟨o2,hk a (by simp) o2 ho2,r2⟩⟩
 item:=λi s Q E hi st hQ=>by
  obtain⟨hp,g,d,t,os⟩:=s
  obtain⟨o2,ho2,r2⟩:=st.2
  exact ji8 st.1 st.2 (u:=vs[i]) (by simp[hi]) λh' hit' hs'=>hQ _ h' t (by simp[hi]) ⟨hit',⟨o2,(hs'.2 a ne).trans ho2,r2⟩⟩ hs'
 done:=λs Q E st hE=>by
  obtain⟨hp,g,d,t,os⟩:=s
  exact jjg hh st.1 st.2 (by simp) hE
open AutoSeq1 (wpAny_loadPart')in
theorem jk4(a:Addr)(vs:Array Value)(n:Nat)(dct:Option Addr)(sl:Array (Option Value)) :
  Meets (Builtin.«enumerate.__new__» ⟨[.type "enumerate",.ref a],[]⟩) (λ_ R s=>s.heap.get? a=some ⟨.type "tuple",dct,.seq vs n,sl⟩ /\
   R (.ok (.ret (.ref (s.heap.push {cls:=.type "tuple_iterator",data:=.fields #[.ref a,.int 0 0]}).objs.size)))
    {s with heap:=(s.heap.push {cls:=.type "tuple_iterator",data:=.fields #[.ref a,.int 0 0]}).push {cls:=.type "enumerate",data:=.fields #[.none,.bool false,.ref s.heap.objs.size,rawInt 0,.none,.none]}}) :=
 .of_wp λprog w A R s h=>by
  obtain⟨hp,g,d,tk,os⟩:=s;obtain⟨ha,h⟩:=h
  have hsb:=sub_enumerate
  have hT:Heap.IsTuple (Shared.heap ⟨hp,g,d,tk,os⟩) a vs:=⟨_,ha,rfl,n,rfl⟩
  wp_walk using Oy ha
  refine wpAny_stack_any λk=>Ap ?_
  split <;> (try (rename_i c _ _ _ _ _;generalize(c == Value.type "enumerate")=b;cases b)) <;> (wp_walk using Oy ha,wpAny_pyIter_tuple hT) <;> exact⟨_,rfl,h⟩
theorem call_enumT{a:Addr}{vs:Array Value}{Q:Value->Shared->Prop}(ht:s.heap.IsTuple a vs)
  (q:∀h',IsEnum h' (s.heap.objs.size+1) s.heap.objs.size 0 .none->h'.IsTupleIter s.heap.objs.size a 0->(∀b o,s.heap.get? b=some o->h'.get? b=some o)->Q (.ref (s.heap.objs.size+1)) {s with heap:=h'}) :
  wpAny (model prog w) A (call (.type "enumerate") [.ref a]) Q E s:=by
 obtain⟨⟨c,dct,dt,sl⟩,ha,hc,n,hd⟩:=ht
 dsimp only at hc hd
 subst hc hd
 refine callType_new PySem.F.called_enumerate (by decide) (PySem.F.typeCall_enumerate_1 _) (PySem.F.newCall_enumerate_1 _) (λobj=>PySem.F.args_object_init_2 obj _) PySem.F.entry_enumerate_new (jk4 a vs n dct sl) ⟨ha,?_⟩
 have hz:(s.heap.push {cls:=.type "tuple_iterator",data:=.fields #[.ref a,.int 0 0]}).objs.size=s.heap.objs.size+1:=Heap.size_push ..
 have he:IsEnum ((s.heap.push {cls:=.type "tuple_iterator",data:=.fields #[.ref a,.int 0 0]}).push {cls:=.type "enumerate",data:=.fields #[.none,.bool false,.ref s.heap.objs.size,rawInt 0,.none,.none]}) (s.heap.objs.size+1) s.heap.objs.size 0 .none:=by
  have e:=Aw (s.heap.push {cls:=.type "tuple_iterator",data:=.fields #[.ref a,.int 0 0]}) (o:={cls:=.type "enumerate",data:=.fields #[.none,.bool false,.ref s.heap.objs.size,rawInt 0,.none,.none]}) rfl
  rw[hz]at e;exact e
 show _/\_
 rw[hz]
 exact⟨⟨_,he,rfl⟩,q _ he ⟨_,Ad _ (Aw _ rfl),rfl,rfl⟩ λb o x=>Ad _ (Ad _ x)⟩
end
def ItE(K:PySem.W.Frag)(a:Addr):It:=⟨λi H=>∃xs x,SqT K H a xs/\xs[i]?=some x,λi H x H'=>∃T y,H T=none/\x=.ref T/\(∀xs,SqT K H a xs->xs[i]?=some y)/\H'=upd H T (.tup [.int (i:Int),y]),λi H=>∃xs,SqT K H a xs/\xs.length=i⟩
theorem jku{P:Program}{w:World}{K:PySem.W.Frag}{elts:List Expr}{kk:Nat}{pos:Pos}(a e it:Addr)(ne:e≠it):Turn P w K (.Tuple elts kk pos) (ItE K a) [e,it] e (λi h=>(∃old,IsEnum h e it i old)/\h.IsTupleIter it a i) where
 mem:=by simp
 obj:=λi h st b hb=>by
  obtain⟨⟨old,he⟩,⟨o,ho,hc,hd⟩⟩:=st
  rcases A2.mp hb with rfl|hb
  ·exact⟨_,he,λv z=>by cases z⟩
  ·rw[Am.mp hb]
   exact⟨o,ho,λv z=>by rw[hd]at z;cases z⟩
 keep:=λi h h' st k=>by
  obtain⟨⟨old,he⟩,⟨o,ho,r⟩⟩:=st
  exact⟨⟨old,k e (by simp) _ he⟩,⟨o,k it (by simp) o ho,r⟩⟩
 item:=by
  intro X hP hw hK hc i pins s σ H E I hf st hg
  subst hP hw hK
  obtain⟨xs,x,hq,hx⟩:=hg
  obtain⟨its,rv,p,hz⟩:=I.tuple hq
  obtain⟨u,hu,ru⟩:=rv.get hx
  have fr:∀b∈[e,it],b≠a:=λb hb z=>by
   subst z
   obtain⟨o,eo,hcl⟩:∃o,s.heap.get? b=some o/\o.cls≠.type "tuple":=by
    obtain⟨⟨old,he⟩,⟨o,ho,hc',hd⟩⟩:=st
    rcases A2.mp hb with rfl|hb
    ·exact⟨_,he,by simp⟩
    ·rw[Am.mp hb]
     exact⟨o,ho,by rw[hc'];simp⟩
   obtain⟨o2,ho2,hc2,_⟩:=p
   rw[eo]at ho2
   cases ho2
   exact hcl hc2
  have WA:=WalksT.enumerateD (jk3 (prog:=X.prog) (w:=X.w) (A:=X.A.in1) (show X.A.in1.handled=none from I.ok.hd hc) it a (fr it (by simp)).symm its.toArray) e ne (by simp[ne,fr e (by simp)]) (by simp)
  have hlt:i<its.toArray.size:=by
   rw[Aj]
   exact(Aa.mp hu).1
  refine WA.item i s _ _ hlt ⟨st.1,st.2,p⟩ λT vs h' tk hp hT htup mid kk'=>⟨_,rfl,?_⟩
  have nTw:=WA.apart _ _ _ mid
  refine WA.go _ _ _ i T {s with heap:=h',toks:=tk} _ _ mid λh'' st'' k''=>?_
  have tup':IsTup h'' T vs:=by
   obtain⟨o,eo,r⟩:=htup
   exact⟨o,k'' T o nTw eo,r⟩
  have hv:Vals [V.int (i:Int),x] vs.toList:=by
   obtain⟨t',u',hu',rfl⟩:=hp
   rw[show its.toArray[i]?=some u from by simpa using hu]at hu'
   cases hu'
   exact .cons ⟨t',rfl⟩ (.cons ru .nil)
  refine⟨.ref T,upd H T (.tup [.int (i:Int),x]),?_,rfl,⟨T,x,I.hok.fresh hT,rfl,λys hy=>by rw[I.tuple_inj hy hq];exact hx,rfl⟩,⟨st''.1,st''.2.1⟩,λb hb=>?_⟩
  ·refine I.turnedNew (fp:=[e,it]) (wr:=[e,it]) hf (λb o hb eo=>k'' b o hb (kk' b o hb eo)) hT (by simpa using tup') hv (by show 2<=sizeLine;decide) λb hb=>?_
   obtain⟨⟨old,he⟩,⟨⟨o,ho,_⟩,_⟩⟩:=st''
   rcases A2.mp hb with rfl|hb
   ·exact⟨_,he⟩
   ·rw[Am.mp hb];exact⟨o,ho⟩
  ·have hlt:b<s.heap.objs.size:=by
    obtain⟨⟨old,he⟩,⟨o,ho,_⟩⟩:=st
    rcases A2.mp hb with rfl|hb
    ·exact Ak he
    ·rw[Am.mp hb];exact Ak ho
   rw[jf (Av (Ax hlt hT))]
   exact(hf b hb).1
 done:=by
  intro X hP hw hK hc i pins s σ H E I hf st hg
  subst hP hw hK
  obtain⟨xs,hq,hi⟩:=hg
  obtain⟨its,rv,p,hz⟩:=I.tuple hq
  have fr:∀b∈[e,it],b≠a:=λb hb z=>by
   subst z
   obtain⟨o,eo,hcl⟩:∃o,s.heap.get? b=some o/\o.cls≠.type "tuple":=by
    obtain⟨⟨old,he⟩,⟨o,ho,hc',hd⟩⟩:=st
    rcases A2.mp hb with rfl|hb
    ·exact⟨_,he,by simp⟩
    ·rw[Am.mp hb]
     exact⟨o,ho,by rw[hc'];simp⟩
   obtain⟨o2,ho2,hc2,_⟩:=p
   rw[eo]at ho2
   cases ho2
   exact hcl hc2
  have WA:=WalksT.enumerateD (jk3 (prog:=X.prog) (w:=X.w) (A:=X.A.in1) (show X.A.in1.handled=none from I.ok.hd hc) it a (fr it (by simp)).symm its.toArray) e ne (by simp[ne,fr e (by simp)]) (by simp)
  have hn:its.toArray.size=i:=by rw[Aj,<-rv.length];exact hi
  refine WA.done s _ _ (by rw[hn];exact⟨st.1,st.2,p⟩) λh' tk kk'=>⟨rfl,?_⟩
  have nw:∀b u,H b=some u->b∉[e,it]:=λb u eo hb=>by rw[(hf b hb).1]at eo;cases eo
  refine I.step (g':=s.gens) (d':=s.drawn) (ch:=[e,it]) (λb hb=>?_) (λb o _ _ hc e _=>kk' b o hc e) (λb o _ _ hc e _=>⟨o.slots,kk' b o hc e⟩) (λb o hc e n=>n) (λb o hc e=>⟨o,kk' b o hc e⟩)
   (λ_ _ e=>e) (λ_ _ _ e=>e) (λb ps e=>⟨#[],by rw[e];simp⟩) (λm hm=>?_) (λb u e=>?_) I.bare
  ·obtain⟨_,f1,_,f3,f4,f5⟩:=hf b hb
   exact⟨f3,f1,f4,f5⟩
  ·obtain⟨o,es,ep,ho,rr⟩:=hm
   exact⟨o,es,ep,kk' _ o (λz=>(hf _ z).2.1 rfl) ho,rr⟩
  ·refine(I.hok b u e).stay (λd v hd q=>kk' d v ?_ q) (λ_ q=>q) λ_ _ q=>q
   rcases hd with rfl|hd
   ·exact nw _ _ e
   ·exact nw _ _ hd
 self:=λA i s Q E st q=>by
  obtain⟨⟨old,he⟩,_⟩:=st
  exact wpAny_pyIter_enum he q
section
variable{X:Cx}
def jfj(K:PySem.W.Frag)(ta:TA):TI:=λσ H R=>ta σ H λvs H1=>∃a,vs=[.ref a]/\(∃xs,SqT K H1 a xs)/\R (ItE K a) H1
theorem pi_enumT{K:PySem.W.Frag}{a:Expr}{ta:TA}{p pos tpos:Pos}{elts:List Expr}{kk:Nat}(hK:X.K=K)(hg:Gl X "enumerate")(hm:X.mg "enumerate"=none)(ha:PA X [a] ta)(hs:starEach [a] X.env=[(false,eval a X.env)]:=by rfl) :
  PI X (.Tuple elts kk tpos) (.Call (.Name "enumerate" p) [a] [] pos) (jfj K ta):=by
 subst hK
 intro pins s σ H R I h
 refine Call_ (jd7 I hg hm bt_enumerate (O3 (thn (ha pos pins s σ H _ I h) λus s1 ⟨vs,H1,I1,r1,q1⟩=>?_) hs rfl))
 obtain⟨ad,e,⟨xs,hx⟩,q⟩:=q1
 subst e
 obtain⟨u,rfl,ru⟩:=jc3 r1
 cases ru
 obtain⟨its,rv,pt,hz⟩:=I1.tuple hx
 refine call_enumT (vs:=its.toArray) pt λh' he hi hk=>?_
 have I2:Inv X pins σ H1 {s1 with heap:=h'}:=I1.kept (t':=s1.toks) hk
 refine wpAny_pyIter_enum he ⟨s1.heap.objs.size+1,[s1.heap.objs.size+1,s1.heap.objs.size],_,_,H1,rfl,I2,jku ad (s1.heap.objs.size+1) s1.heap.objs.size (Nat.succ_ne_self _),⟨⟨.none,he⟩,hi⟩,λb hb=>?_,q⟩
 have hb':s1.heap.objs.size<=b:=by
  rcases A2.mp hb with rfl|hb
  ·omega
  ·rw[Am.mp hb];exact Ac _
 exact I1.fpOk (H':=H1) hb' (I1.hok.fresh hb')
theorem qpi_enumT{K:PySem.W.Frag}{a:Expr}{ta:TA}{p pos tpos:Pos}{elts:List Expr}{kk:Nat}(hK:X.K=K)(hg:Gl X "enumerate")(hm:X.mg "enumerate"=none)(ha:QA X [a] ta)(hs:starEach [a] X.env=[(false,eval a X.env)]:=by rfl) :
  QI X (.Tuple elts kk tpos) (.Call (.Name "enumerate" p) [a] [] pos) (jfj K ta):=⟨pi_enumT hK hg hm ha.h hs⟩
end
section
variable{X:Cx}
def jgb:V->List V->Hp->VK->Prop:=λx vs H Q=>match x,vs with
 |.str z,[.str y]=>(y.length == 0)=false/\z.length<=sizeLine/\(Txt.split z y).length<=sizeLine/\∀p,H p=none->Q (.ref p) (upd H p (.lst ((Txt.split z y).map V.str)))
 |_,_=>False
theorem je0(z y:Str)(H:Hp)(Q:VK):jgb (.str z) [.str y] H Q=((y.length == 0)=false/\z.length<=sizeLine/\(Txt.split z y).length<=sizeLine/\∀p,H p=none->Q (.ref p) (upd H p (.lst ((Txt.split z y).map V.str)))):=rfl
theorem jhg:∀(l:List Str)(k:Nat),Vals (l.map V.str) (strsFrom k l)
 |[],_=>.nil
 |x::l,k=>.cons ⟨_,rfl⟩ (jhg l (k+1))
theorem mt_splitU:MtM X "str.split" jgb:=by
 intro pins s σ H x vs v us Q I rx rv h
 unfold jgb at h
 split at h
 ·rename_i z y
  obtain⟨hy,hz,hn,q⟩:=h
  obtain⟨t,rfl⟩:=rx
  obtain⟨u,rfl,⟨t',rfl⟩⟩:=rv.one
  have fin:∀(l:List Str)(ws:List Value)(k:Nat),Txt.split z y=l->Vals (l.map V.str) ws->wants (EP X pins σ Q) X.xe (.ok (.ret (.ref s.heap.objs.size))) {s with heap:=s.heap.push {cls:=.type "list",data:=.seq ws.toArray},toks:=k}:=λl ws k e r=>by
   subst e
   exact⟨.ref s.heap.objs.size,upd H s.heap.objs.size (.lst ((Txt.split z y).map V.str)),I.laid (o:=.lst ((Txt.split z y).map V.str)) (t':=k) (λb o e=>Ad _ e) (Ac _) ⟨by rw[Ab];exact hn,ws,0,r,Aw _ rfl⟩,rfl,q _ (I.hok.fresh (Ac _))⟩
  have one:∀ws,ws=[Value.str z t]->Vals ([z].map V.str) ws:=λws e=>by subst e;exact .cons ⟨t,rfl⟩ .nil
  have road:=fun{S:PySem.Spec} (g:Meets (Builtin.«str.split» ⟨[.str z t,.str y t'],[]⟩) S)=>Ud (prog:=X.prog) (w:=X.w) (A:=X.A) (E:=X.xe) (Q:=EP X pins σ Q) PySem.F.slot_str_split (typeIs_str s z t) PySem.F.entry_str_split (PySem.F.args_str_split_2 _ _) g
  by_cases h1:(decide (z.length<y.length) || decide (Builtin.Str.strKind z<Builtin.Str.strKind y))=true
  ·exact road (meets_str_split_cannot_occur z y t t' h1) (fin [z] _ s.toks (Ag h1) (one _ rfl))
  ·by_cases hf:(Builtin.Str.occurrences z y 0 z.length (z.length+1)).isEmpty=true
   ·exact road (meets_str_split_not_found z y t t' (by simpa using h1) hy hf) (fin [z] _ s.toks ((Ae h1).trans (Ag hf)) (one _ rfl))
   ·have e:Txt.split z y=Builtin.Str.partsBetween z (Builtin.Str.occurrences z y 0 z.length (z.length+1)) y.length:=(Ae h1).trans (Ae hf)
    exact road (meets_str_split_sep z y t t' (by simpa using h1) hy (by simpa using hf) hz (by rw[<-e];exact hn)) (fin _ _ _ e (jhg _ _))
 ·exact h.elim
end
section
variable{X:Cx}
def jjw:V->List V->Hp->VK->Prop:=λx vs H Q=>match x,vs with
 |.ref l,[y]=>∃(xs:List V)(ds:List PyData)(d:PyData)(j:Nat),H l=some (.lst xs)/\Reps H xs ds/\Rep H y d/\PyData.canLayAll0 ds=true/\d.canLay0=true/\PyData.depthAll ds<=40/\(∃e,ds[j]?=some e/\PyData.eqv e d=true) /\
   (∀m e,m<j->ds[m]?=some e->PyData.eqv e d=false)/\Q (.int (j:Int)) H
 |_,_=>False
theorem mt_indexD(hu:X.A.units+64<cLine):MtM X "list.index" jjw:=by
 intro pins s σ H x vs v us Q I rx rv h
 unfold jjw at h
 split at h
 ·rename_i l y
  obtain⟨xs,ds,d,j,e,hr,hy,hcs,hcd,hdp,⟨ej,hj,hit⟩,hno,q⟩:=h
  cases rx
  obtain⟨u,rfl,ru⟩:=rv.one
  obtain⟨z,its,n,r,hl,eo⟩:=I.lstM e
  obtain⟨as,ra⟩:=hr.reads I r
  obtain⟨bs,rb⟩:=hy.reads I ru
  have hm:=SeqAt.readsAll_map ds its as hcs ra
  have hlen:its.length=ds.length:=by rw[<-hm,Ab]
  have hjl:j<ds.length:=(Aa.mp hj).1
  have at':∀m (hm':m<its.toArray.size),ds[m]?=some (SeqAt.readOf s.heap its.toArray[m]):=λm hm'=>by
   rw[<-hm,Aq]
   have:its[m]?=some its.toArray[m]:=by simp
   rw[this]
   rfl
  have hs:sizeLine=16777216:=Wa
  have hjs:j<its.toArray.size:=by rw[Aj];omega
  have hxl:xs.length=its.length:=r.length
  have hz:xs.length<=sizeLine:=z
  refine Ud F.slot_list_index ⟨_,eo,rfl⟩ F.entry_list_index (F.args_list_index_2 _ _) (SeqAt.list_indexAt l its.toArray n none #[] u (λy=>PyData.eqv (SeqAt.readOf s.heap y) d) j hjs (by omega) ?_ ?_) ⟨eo,?_,?_⟩
  ·have:=at' j hjs
   rw[hj]at this
   rw[<-Ar this]
   exact hit
  ·intro m hm' hlt
   exact hno m _ hlt (at' m hm')
  ·refine SeqAt.items_eqAt (by simpa using ra) rb hcs hcd ?_
   omega
  ·exact⟨.int (j:Int),H,I.tok _,⟨_,rfl⟩,q⟩
 ·exact h.elim
end
section
variable{N:Nat}{r:Array Nat}(hN:0<N)(hr:∀x∈r.toList,x<N)
include hN hr
omit hN hr in
end
abbrev FZ(o:Obj):HO:=.frz o (.ext λ_=>True)
section
variable{P:Program}{w:World}{H H':Hp}{h h':Heap}{a:Addr}{o:Obj}{cs:List Addr}
theorem FZ.get(x:HOk P w H h)(e:H a=some (FZ o)):h.get? a=some o:=(x a _ e).1
theorem FZ.mk(e:h.get? a=some o):ObjOk P w H h a (FZ o):=⟨e,trivial,⟨o,e⟩,λ_ _ _ _=>trivial⟩
def hideC(H:Hp)(cs:List Addr):Hp:=λb=>if b∈cs then none else H b
def backC(H H':Hp)(cs:List Addr):Hp:=λb=>if b∈cs then H b else H' b
theorem jdb(m:a∈cs):hideC H cs a=none:=Ag m
theorem jc2(m:a∉cs):hideC H cs a=H a:=Ae m
theorem jkg{u:HO}(e:hideC H cs a=some u):a∉cs/\H a=some u:=by
 by_cases m:a∈cs
 ·rw[jdb m]at e;cases e
 ·exact⟨m,by rwa[jc2 m]at e⟩
theorem jcx(e:H a=none):hideC H cs a=none:=by unfold hideC;split <;> first|rfl|exact e
theorem jh1(m:a∈cs):backC H H' cs a=H a:=Ag m
theorem jcu(m:a∉cs):backC H H' cs a=H' a:=Ae m
theorem HOk.hideC(x:HOk P w H h)(fz:∀c∈cs,∃o,H c=some (FZ o)):HOk P w (hideC H cs) h:=λb u q=>by
 obtain⟨_,q'⟩:=jkg q
 refine(x b u q').stay (λ_ _ _ z=>z) (λc z=>?_) λc xs z=>?_
 ·rw[jc2 λm=>by obtain⟨o,e⟩:=fz c m;rw[z]at e;cases e];exact z
 ·rw[jc2 λm=>by obtain⟨o,e⟩:=fz c m;rw[z]at e;cases e];exact z
theorem Un.backC{fs:List Addr}(u:Un fs [] (hideC H cs) H' h h')(fz:∀c∈cs,∃o,H c=some (FZ o)):Un fs [] H (backC H H' cs) h h' where
 keep:=λb o e n hb hx=>u.keep b o e (jcx n) hb hx
 slot:=λb o e n hb hx=>u.slot b o e (jcx n) hb hx
 free:=λb o e n hx=>by
  rw[jcu λm=>by obtain⟨o,z⟩:=fz b m;rw[n]at z;cases z]
  exact u.free b o e (jcx n) hx
 there:=u.there
 tups:=λb xs e=>by
  have m:b∉cs:=λm=>by obtain⟨o,z⟩:=fz b m;rw[e]at z;cases z
  rw[jcu m];exact u.tups b xs (by rw[jc2 m];exact e)
 frzs:=λb o u' e=>by
  by_cases m:b∈cs
  ·rw[jh1 m];exact e
  ·rw[jcu m];exact u.frzs b o u' (by rw[jc2 m];exact e)
 tbls:=λb ps e=>by
  have m:b∉cs:=λm=>by obtain⟨o,z⟩:=fz b m;rw[e]at z;cases z
  obtain⟨more,q⟩:=u.tbls b ps (by rw[jc2 m];exact e)
  exact⟨more,by rw[jcu m];exact q⟩
theorem HOk.backC{fs:List Addr}(x:HOk P w H h)(x':HOk P w H' h')(u:Un fs [] (L2.hideC H cs) H' h h')(fz:∀c∈cs,∃o,H c=some (FZ o))(nf:∀c∈cs,c∉fs):HOk P w (backC H H' cs) h':=λb v q=>by
 by_cases m:b∈cs
 ·rw[jh1 m]at q
  obtain⟨o,e⟩:=fz b m
  rw[e]at q
  cases Ar q
  exact FZ.mk (u.keep b o (FZ.get x e) (jdb m) (nf b m) (by simp))
 ·rw[jcu m]at q
  have no:∀c∈cs,H' c=none:=λc hc=>by
   obtain⟨o,e⟩:=fz c hc
   exact u.free c o (FZ.get x e) (jdb hc) (by simp)
  refine(x' b v q).stay (λ_ _ _ z=>z) (λc z=>?_) λc xs z=>?_
  ·rw[jcu λhc=>by rw[no c hc]at z;cases z];exact z
  ·rw[jcu λhc=>by rw[no c hc]at z;cases z];exact z
end
structure LamScope(ps fs:List Str)(sc:Scope):Prop where
 kind:sc.kind=.function
 co:sc.isCoroutine=false
 gen:sc.isGenerator=false
 nd:(ps++fs).Nodup
 par:∀x∈ps,sc.names.lookup x=some .local
 nocell:∀y∈sc.names,y.2≠.cell
 fr:∀x∈fs,sc.names.lookup x=some .free
 only:∀x,sc.names.lookup x=some .free->x∈fs
def jfc(P:Program)(w:World)(K:PySem.W.Frag)(mg:Str->Option Value)(base:Heap)(N:List Str)(qual:Str)(scope:Scope)(f:Addr)(cd:Value)(cl:List (Str×Addr))(A:Around)(outer:List Env)(s:Shared)(H:Hp):Cx where
 prog:=P
 w:=w
 K:=K
 mg:=mg
 base:=base
 A:=A.deeper (PySem.W.envX qual scope s.heap.objs.size f cd cl)
 N:=N
 s₀:=s
 H₀:=H
 env:=PySem.W.envX qual scope s.heap.objs.size f cd cl
 outer:=outer
 stack:=PySem.W.envX qual scope s.heap.objs.size f cd cl::outer
 ex:=[]
 calm:=true
 fn:=λ_=>false
 pn:=[]
 xe:=λ_ _=>False
structure Caps(H:Hp)(cl:List (Str×Addr))(fs:List Str)(ws:List V):Prop where
 len:ws.length=fs.length
 at_:∀(i:Nat)(x:Str)(v:V),fs[i]?=some x->ws[i]?=some v->∃c o u,cl.lookup x=some c/\H c=some (FZ o)/\o.data=.cell (some u)/\RelV v u
 has:∀x∈fs,∃c,cl.lookup x=some c
 fz:∀p∈cl,∃o u,H p.2=some (FZ o)/\o.data=.cell u
 inj:∀x y c,cl.lookup x=some c->cl.lookup y=some c->x=y
def CodeZ(H:Hp)(c:Addr)(qual:Str):Prop:=∃oc vs t,H c=some (FZ oc)/\oc.data=.fields vs/\vs[1]?=some (.str qual t)
theorem jj9{α β:Type}:∀{l:List α}{m:List β}{i:Nat}{x:α}{y:β},l[i]?=some x->m[i]?=some y->(l.zip m)[i]?=some (x,y)
 |[],_,_,_,_,h,_=>by simp at h
 |_::_,[],_,_,_,_,h=>by simp at h
 |_::_,_::_,0,_,_,h,h'=>by simp at h h';subst h;subst h';rfl
 |_::l,_::m,i+1,_,_,h,h'=>by
  simp at h h'
  simpa using jj9 (l:=l) (m:=m) h h'
theorem jkj{ps:List Str}{us:List Value}(nd:ps.Nodup){i:Nat}{x:Str}{u:Value}(h:ps[i]?=some x)(h':us[i]?=some u):(ps.zip us).reverse.lookup x=some u:=by
 have key:∀(l:List (Str×Value)),(l.map Prod.fst).Nodup->(x,u)∈l->l.lookup x=some u:=by
  intro l
  induction l with
  |nil=>intro _ m;cases m
  |cons q l ih =>
   intro nd m
   obtain⟨y,v⟩:=q
   rw[Al,Ox]at nd
   rcases A2.mp m with e|m
   ·cases e;simp[List.lookup]
   ·have:x≠y:=λe=>nd.1 (by rw[<-e];exact Ia.mpr ⟨(x,u),m,rfl⟩)
    rw[List.lookup_cons]
    have b:(x == y)=false:=by simpa using this
    rw[b]
    exact ih nd.2 m
 refine key _ ?_ (List.mem_reverse.mpr (A0 (jj9 h h')))
 rw[List.map_reverse]
 refine(List.reverse_perm _).nodup_iff.mpr ?_
 have:∀(l:List Str)(m:List Value),((l.zip m).map Prod.fst).Sublist l:=by
  intro l
  induction l with
  |nil=>intro m;simp
  |cons y l ih =>
   intro m
   cases m with
   |nil=>simp
   |cons v m=>exact(ih m).cons₂ y
 exact nd.sublist (this ps us)
section
variable{P:Program}{w:World}{K:PySem.W.Frag}{mg:Str->Option Value}{base:Heap}{k:Nat}{f c':Addr}{name qual:Str}{params:Arguments}{body:Expr}{scope:Scope}{pm ct:Value}{ps fs:List Str}{cl:List (Str×Addr)}{sp:Sp}
theorem jnf{A:Around}{outer:List Env}{s:Shared}{h1:Heap}{tk:Tok}{H:Hp}{us:List Value}{vs ws:List V}(S:LamScope ps fs scope)(hd:A.handled=none)(e0:Env0 P w K mg base A outer s H)(hl:vs.length=ps.length)(r:Vals vs us)(cap:Caps H cl fs ws)
  (hns:h1.Ns s.heap.objs.size λy=>(ps.zip us).reverse.lookup y) (hk:∀b o,s.heap.get? b=some o->h1.get? b=some o) :
  Inv (jfc P w K mg base (ps++fs) qual scope f (.ref c') cl A outer s (hideC H (cl.map Prod.snd))) [] (vs.map some++ws.map some) (hideC H (cl.map Prod.snd)) {s with heap:=h1,toks:=tk}:=by
 have fz:∀c∈cl.map Prod.snd,∃o,H c=some (FZ o):=λc hc=>by
  obtain⟨p,hp,rfl⟩:=Ia.mp hc
  obtain⟨o,u,e,_⟩:=cap.fz p hp
  exact⟨o,e⟩
 have hok:=HOk.hideC e0.hok fz
 have inC:∀x c,cl.lookup x=some c->c∈cl.map Prod.snd:=λx c e=>Ia.mpr ⟨(x,c),Iv e,rfl⟩
 have noA:∀b:Addr,b∉(jfc P w K mg base (ps++fs) qual scope f (.ref c') cl A outer s (hideC H (cl.map Prod.snd))).ex:=λb z=>absurd (show b∈([]:List Addr)from z) (by simp)
 refine⟨⟨e0.mod,S.kind,rfl,rfl,Ac _,cap.inj,λy hy=>?_,λy c z=>(by cases z),λ_=>hd,Around.frames_deeper e0.frames,.inr ⟨rfl,rfl⟩,λb z=>absurd z (noA b),λb o e=>⟨(e0.bs b o e).1,jcx (e0.bs b o e).2⟩,e0.bsz,λb _ _=>noA b,λb z=>absurd z (noA b),e0.funs,λb z=>jcx (e0.frf b z)⟩,
  rfl,e0.bare,Un.kept hk,⟨_,hns,λi y v q1 q2 q3=>?_⟩,λy c h=>?_,jcx (e0.hok.fresh (Ac _)),λy c h=>jdb (inC y c h),λp hp=>absurd (show p∈([]:List (Addr×Obj))from hp) (by simp),hok.kept hk,?_⟩
 ·have hy:scope.names.lookup y=some .cell\/scope.names.lookup y=some .free:=hy
  rcases hy with hy|hy
  ·exact absurd rfl (S.nocell _ (Iv hy))
  ·exact cap.has y (S.only y hy)
 ·have q1:(ps++fs)[i]?=some y:=q1
  by_cases hi:i<ps.length
  ·rw[Ih hi]at q1
   rw[Ih (by rw[Ab];omega),Aq]at q2
   have ha:vs[i]?=some v:=by
    cases e:vs[i]? with
    |none=>rw[e]at q2;cases q2
    |some a=>rw[e]at q2;cases q2;rfl
   obtain⟨u,hu,rv⟩:=r.get ha
   exact⟨u,rv,.inl ⟨S.par y (A0 q1),jkj (S.nd.sublist (List.sublist_append_left _ _)) q1 hu⟩⟩
  ·rw[A6 (by omega)]at q1
   rw[A6 (by rw[Ab];omega),Ab,hl,Aq]at q2
   have ha:ws[i-ps.length]?=some v:=by
    cases e:ws[i-ps.length]? with
    |none=>rw[e]at q2;cases q2
    |some a=>rw[e]at q2;cases q2;rfl
   obtain⟨c,o,u,e1,e2,e3,rv⟩:=cap.at_ _ y v q1 ha
   exact⟨u,rv,.inr ⟨.inr (S.fr y (A0 q1)),c,e1,o,hk _ _ (FZ.get e0.hok e2),e3⟩⟩
 ·obtain⟨o,u,e,d⟩:=cap.fz (y,c) (Iv h)
  exact⟨u,o,hk _ _ (FZ.get e0.hok e),d⟩
 ·show(vs.map some++ws.map some).length=(ps++fs).length
  rw[A4,A4,Ab,Ab,hl,cap.len]
theorem jn8(S:LamScope ps fs scope)(len:∀vs H Q E,sp vs H Q E->vs.length=ps.length)
  (hbody:∀(vs:List V)(H:Hp)(Q:VK)(E:XK),sp vs H Q E->H f=some (FZ (PySem.W.kla_obj name qual params body scope cl pm c' ct))/\CodeZ H c' qual/\∃ws,Caps H cl fs ws /\
   ∀(A:Around)(outer:List Env)(s:Shared),Room k (A.deeper (PySem.W.envX qual scope s.heap.objs.size f (.ref c') cl)) ->
    ∃t,PE (jfc P w K mg base (ps++fs) qual scope f (.ref c') cl A outer s (hideC H (cl.map Prod.snd))) body t/\t (vs.map some++ws.map some) (hideC H (cl.map Prod.snd)) λv H'=>(∀c∈cl.map Prod.snd,H' c=none)->Q v (backC H H' (cl.map Prod.snd))) :
  FnOk P w K mg base CX0 (k+1) f (PySem.W.kla_fn name qual params body scope cl pm (.ref c') ct) ps sp:=by
 refine⟨len,λA outer s H args us vs Q E hr e0 hb r hsp=>?_⟩
 have hl:=len _ _ _ _ hsp
 obtain⟨hf,⟨oc,vc,tc,hc,hoc,hv1⟩,ws,cap,hb0⟩:=hbody vs H Q E hsp
 have lim:s.heap.NoLimit:=e0.mod.nolimit.keeps λb o e=>(e0.bs b o e).1
 have fz:∀c∈cl.map Prod.snd,∃o,H c=some (FZ o):=λc hc=>by
  obtain⟨p,hp,rfl⟩:=Ia.mp hc
  obtain⟨o,u,e,_⟩:=cap.fz p hp
  exact⟨o,e⟩
 refine PySem.W.kla_callFunE hr.depth (FZ.get e0.hok hf) rfl S.co S.gen rfl ⟨c',oc,vc,tc,rfl,FZ.get e0.hok hc,hoc,hv1⟩ (hb _ _ _ _ ?_)
 refine U2 S.nocell (λy hy=>S.par _ (U0 hy).1) (λh1 hns hsb=>⟨lim.fresh _ hsb,?_⟩) S.kind
 show codeAny _ _ (.expr body (PySem.W.envX qual scope s.heap.objs.size f (.ref c') cl)) _ _
 have hk:∀b o,s.heap.get? b=some o->h1.get? b=some o:=λb o e=>hsb.extBut b o (Av (Ak e)) (Ad _ e)
 obtain⟨t,ht,hq⟩:=hb0 A outer s (hr.deeper _)
 have I:=jnf (f:=f) (c':=c') (qual:=qual) (tk:=s.toks+(ps.zip us).length) S hr.hd e0 hl r cap hns hk
 refine PySem.W.kla_codeExpr (Oo (ht [] _ _ _ _ I hq) (λu s' hs=>?_) λe s' hs=>False.elim hs)
 obtain⟨v,H',J,rv,q⟩:=hs
 have nf:∀c∈cl.map Prod.snd,c∉frs outer:=λc hc z=>by
  obtain⟨o,e⟩:=fz c hc
  rw[e0.frf c z]at e;cases e
 exact⟨v,_,J.os,J.bare,Un.backC J.base fz,HOk.backC e0.hok J.hok J.base fz nf,rv,q λc hc=>by
  obtain⟨o,e⟩:=fz c hc
  exact J.base.free c o (FZ.get e0.hok e) (jdb hc) (by intro z;exact absurd (show c∈([]:List Addr)from z) (by simp))⟩
end
theorem jkb{pos pos':Pos}{c:Value}(l:List Value)(h:TriplesOk l){v:Value}(e:codeAmong pos' (l++[rawInt pos.line,rawInt pos.col,c])=some v):codeAmong pos' l=some v\/v=c:=by
 fun_induction TriplesOk l with
 |case1 =>
  simp only[List.nil_append,codeAmong,rawInt]at e
  split at e
  ·exact .inr (Ar e).symm
  ·cases e
 |case2 a t b u x rest ih =>
  simp only[List.cons_append,codeAmong]at e⊢
  split at e
  ·rename_i hc;rw[Ag hc];exact .inl e
  ·rename_i hc;rw[Ae hc];exact ih h e
 |case3 l h1 h2=>exact h.elim
def TabOk(H:Hp)(Pt:Addr)(qual:Str):Prop:=∃ps,H Pt=some (.tbl ps)/\TriplesOk ps.toList/\∀pos cv,codeAmong pos ps.toList=some cv->∃c,cv=.ref c/\CodeZ H c qual
theorem CodeZ.kp{S:List Addr}{H H':Hp}{c:Addr}{qual:Str}(k:Kp S H H')(n:c∉S)(x:CodeZ H c qual):CodeZ H' c qual:=let⟨oc,vs,t,e,r⟩:=x;⟨oc,vs,t,k.old _ _ e n,r⟩
def tLam(Pt:Addr)(qual:Str)(params:Arguments)(body:Expr)(scope:Scope)(cl:List (Str×Addr))(pm:Value):TE:=λσ H Q=>TabOk H Pt qual/\∀f c ct H',H f=none->Kp [Pt] H H'->H' f=some (FZ (PySem.W.kla_obj "<lambda>" qual params body scope cl pm c ct))->CodeZ H' c qual->TabOk H' Pt qual->Q (.ref f) H'
section
variable{X:Cx}
theorem pe_lambda{params:Arguments}{body:Expr}{scope:Scope}{pos:Pos}{c Pt:Addr}{cl:List (Str×Addr)}(hdef:defaultsOf params X.env=([],[]))(hcl:closureFor scope X.env=pure cl)(hcode:X.env.code=.ref c)(hC:PySem.W.CodeHd X.base c Pt)(hbt:X.base.BuiltinsAt X.mg Pt) :
  PE X (.Lambda params body scope pos) (tLam Pt (X.env.qual++"<lambda>") params body scope cl ((X.mg "__name__").getD .none)):=by
 intro pins s σ H Q I h
 obtain⟨⟨ps,hP,ht,hin⟩,h⟩:=h
 have oP:s.heap.get? Pt=some (PySem.W.tabObj ps):=I.hok Pt _ hP
 have hgs:s.heap.Ns mainGlobals X.mg:=I.mod.glob.keeps I.bk
 have hgP:mainGlobals≠Pt:=λq=>by
  obtain⟨o,es,ep,e,hd,_⟩:=hgs
  rw[q,oP]at e;cases e;cases hd
 have hb:s.heap.BuiltinsAt X.mg Pt:=let⟨bm,o,b1,b2,b3,b4,b5,r⟩:=hbt;⟨bm,o,b1,b2,b3,b4,I.bk _ _ b5,r⟩
 have C:=hC.keeps I.bk
 refine PySem.W.kla_eval hdef ?_
 cases hf:codeAmong pos ps.toList with
 |some cv =>
  obtain⟨c',rfl,cz⟩:=hin pos cv hf
  refine PySem.W.kla_makeFunctionHit (mg:=X.mg) hcl I.ok.glob hgs hcode C oP ht hf hb λctv h' tk hk hsz=>?_
  have hf:H h'.objs.size=none:=I.hok.fresh hsz
  have kp:Kp [Pt] H (upd H h'.objs.size (FZ (PySem.W.kla_obj "<lambda>" (X.env.qual++"<lambda>") params body scope cl ((X.mg "__name__").getD .none) c' ctv))):=(Kp.refl [Pt] H).new hf
  have kp0:Kp [] H (upd H h'.objs.size (FZ (PySem.W.kla_obj "<lambda>" (X.env.qual++"<lambda>") params body scope cl ((X.mg "__name__").getD .none) c' ctv))):=(Kp.refl [] H).new hf
  refine⟨.ref h'.objs.size,_,I.laid (t':=tk) (λb u e=>Ad _ (hk b u e)) hsz (FZ.mk (Aw _ rfl)),rfl,h _ c' ctv _ hf kp je (cz.kp kp0 (by simp)) ⟨ps,kp0.old _ _ hP Ai,ht,λp v e=>?_⟩⟩
  obtain⟨c2,e2,z⟩:=hin p v e
  exact⟨c2,e2,z.kp kp0 (by simp)⟩
 |none =>
  refine PySem.W.kla_makeFunction (mg:=X.mg) hcl I.ok.glob hgs hcode C oP ht hf hgP hb λc' ctv h' tk hx hge hlt hrec htb=>?_
  obtain⟨c₂,oc,vs,t,e2,hoc,hd,hv⟩:=hrec
  cases e2
  have lP:Pt<s.heap.objs.size:=Ak oP
  have lt:∀b u,H b=some u->b<s.heap.objs.size:=λb u e=>(I.hok b u e).lt
  have nPc:Pt≠c':=Av (Ax lP hge)
  have nPf:Pt≠h'.objs.size:=Av (O1 (Ax lP hge) hlt)
  have ncf:c'≠h'.objs.size:=Av hlt
  have fC:H c'=none:=I.hok.fresh hge
  have fF:H h'.objs.size=none:=I.hok.fresh (Ig hge (Nat.le_of_lt hlt))
  let o1:Obj:=PySem.W.kla_obj "<lambda>" (X.env.qual++"<lambda>") params body scope cl ((X.mg "__name__").getD .none) c' ctv
  let ps':Array Value:=ps++#[rawInt pos.line,rawInt pos.col,.ref c']
  let H':Hp:=upd (upd (upd H Pt (.tbl ps')) c' (FZ oc)) h'.objs.size (FZ o1)
  have eF:H' h'.objs.size=some (FZ o1):=je
  have eC:H' c'=some (FZ oc):=by show upd _ _ _ c'=_;rw[jf ncf,je]
  have eP:H' Pt=some (.tbl ps'):=by show upd _ _ _ Pt=_;rw[jf nPf,jf nPc,je]
  have eO:∀b,b≠Pt->b≠c'->b≠h'.objs.size->H' b=H b:=λb n1 n2 n3=>by show upd _ _ _ b=_;rw[jf n3,jf n2,jf n1]
  have eS:∀b,b<s.heap.objs.size->b≠Pt->H' b=H b:=λb l n=>eO b n (Av (Ax l hge)) (Av (O1 (Ax l hge) hlt))
  have kp:Kp [Pt] H H':=by
   refine⟨λb o e n=>?_,λb xs e=>?_,λb o e=>?_⟩
   ·rw[eS b (lt b _ e) (by simpa using n)];exact e
   ·rw[eS b (lt b _ e) (λz=>by rw[z,hP]at e;cases e)];exact e
   ·by_cases z:b=Pt
    ·exact⟨_,by rw[z];exact eP⟩
    ·exact⟨o,by rw[eS b (lt b _ e) z];exact e⟩
  have kept:∀b o,b≠Pt->s.heap.get? b=some o->(h'.push o1).get? b=some o:=λb o n e=>Ad _ (hx b o n e)
  have un:Un (frs X.stack) [] H H' s.heap (h'.push o1):=by
   refine⟨λb o e n _ _=>kept b o (λz=>by rw[z,hP]at n;cases n) e,λb o e n _ _=>⟨o.slots,kept b o (λz=>by rw[z,hP]at n;cases n) e⟩,λb o e n _=>?_,λb o e _=>?_,λb xs e=>kp.tup b xs e,λb o u e=>?_,λb qs e=>?_⟩
   ·rw[eS b (Ak e) (λz=>by rw[z,hP]at n;cases n)];exact n
   ·by_cases z:b=Pt
    ·exact⟨_,by rw[z];exact Ad _ htb⟩
    ·exact⟨o,kept b o z e⟩
   ·exact kp.old b _ e (by simp;intro z;rw[z,hP]at e;cases e)
   ·by_cases z:b=Pt
    ·subst z
     rw[hP]at e
     cases Ar e
     exact⟨_,eP⟩
    ·exact⟨#[],by rw[eS b (lt b _ e) z,e];simp⟩
  have hok:HOk X.prog X.w H' (h'.push o1):=λb u q=>by
   by_cases z1:b=h'.objs.size
   ·subst z1
    rw[eF]at q
    cases Ar q
    exact FZ.mk (Aw _ rfl)
   ·by_cases z2:b=c'
    ·subst z2
     rw[eC]at q
     cases Ar q
     exact FZ.mk (Ad _ hoc)
    ·by_cases z3:b=Pt
     ·subst z3
      rw[eP]at q
      cases Ar q
      exact Ad _ htb
     ·rw[eO b z3 z2 z1]at q
      refine(I.hok b u q).stay (λd v hd' e=>kept d v ?_ e) (λd e=>?_) λd xs e=>kp.tup d xs e
      ·rcases hd' with rfl|hd'
       ·exact z3
       ·intro z;rw[z,hP]at hd';cases hd'
      ·exact kp.old d _ e (by simp;intro z;rw[z,hP]at e;cases e)
  have nC:∀c2,(∃o,H c2=some (FZ o))->c2∉[Pt]:=λc2 ⟨o,e⟩ m=>by
   rw[Am.mp m,hP]at e;cases e
  refine⟨.ref h'.objs.size,H',I.call (g':=s.gens) (d':=s.drawn) (t':=tk) (ch:=[]) un hok I.bare (λb z=>absurd z (by simp)),rfl,h _ c' ctv H' fF kp eF ⟨oc,vs,t,eC,hd,hv⟩ ⟨ps',eP,?_,λp v e=>?_⟩⟩
  ·have hl:ps'.toList=ps.toList++[rawInt pos.line,rawInt pos.col,.ref c']:=by simp[ps']
   rw[hl];exact TriplesOk_snoc _ _ _ _ ht
  ·have hl:ps'.toList=ps.toList++[rawInt pos.line,rawInt pos.col,.ref c']:=by simp[ps']
   rw[hl]at e
   rcases jkb _ ht e with e|rfl
   ·obtain⟨c2,e2,z⟩:=hin p v e
    exact⟨c2,e2,z.kp kp (nC c2 (let⟨oc,_,_,q,_⟩:=z;⟨oc,q⟩))⟩
   ·exact⟨c',rfl,oc,vs,t,eC,hd,hv⟩
end
theorem jm8{h:Heap}{c P:Addr}{ps:Array Value}(C:PySem.W.CodeHd h c P)(e:h.get? P=some (PySem.W.tabObj ps)):isCodeTable h P:=(C.tab e).isCodeTable
theorem jle{P:Program}{w:World}{K:PySem.W.Frag}{mg mb:Str->Option Value}{CX:CXT}{k:Nat}{fa a:Addr}{fd:FuncData}{x:Str}{sp:Sp}{s₁:Shared}{vs:List Value}{ns:List Int}{ts:List Addr}
  (KX:K.In s₁.heap) (hns:s₁.heap.Ns mainGlobals mg) (hb:s₁.heap.Ns builtinsNs mb) (hbb:∀x:Str,x≠"__name__"->mb x=bootBuiltins x) (hlim:s₁.heap.NoLimit) (hg:s₁.gens=#[])
  (ha:s₁.heap.get? a=some {cls:=.type "list",data:=.seq vs.toArray}) (hi:IntsAre vs ns) (hl:ns.length<=sizeLine) (hr:Room k callerA)
  (hts:∀t∈ts,s₁.heap.get? t=some (PySem.W.tabObj #[])) (hcd:∀t∈ts,∃c,PySem.W.CodeHd s₁.heap c t) (hKt:∀t∈ts,K.lookup t=none) (hbm:∀t∈ts,s₁.heap.BuiltinsAt mg t)
  (F:∀base:Heap,K.In base->base.Ns mainGlobals mg->(∀t∈ts,base.BuiltinsAt mg t)->FnOk P w K mg base CX k fa fd [x] sp) (hbind:∀(s:Shared)(u:Value),BindsTo s fd ⟨[u],[]⟩ [(x,u)])
  (hsp:∀H:Hp,SqL K H a (ns.map V.int)->(∀t∈ts,H t=some (.tbl #[]))->sp [.ref a] H (λv _=>v=.bl true) λ_ _ _=>False)
  (hCX:∀H e s',CX [] H s₁ (λ_ _ _=>False) e s'->False) :
  codeAny (model P w) callerA (.call (.ref fa) ⟨[.ref a],[]⟩) (λr s'=>r=.ok (.ret (.bool true))/\OldK s₁.heap s'.heap/\s'.os=s₁.os/\AllBare s'.gens) s₁:=by
 have rv:=jhh hi
 have lenV:=hi.length
 have naT:a∉ts:=λm=>by
  have:=hts a m
  rw[ha]at this
  cases this
 have core:∀H:Hp,(∀b,H b=none\/(∃o xs,H b=some (.frz o (.lst xs)))\/b∈ts)->(∀t∈ts,H t=some (.tbl #[]))->SqL K H a (ns.map V.int)->HOk P w H s₁.heap->(∀b,H b≠none->b=a\/b∈ts)->(H a≠none->K.lookup a=none) ->
   codeAny (model P w) callerA (.call (.ref fa) ⟨[.ref a],[]⟩) (λr s'=>r=.ok (.ret (.bool true))/\OldK s₁.heap s'.heap/\s'.os=s₁.os/\AllBare s'.gens) s₁:=by
  intro H hO hT hS hok hA hK
  have base_of:∀{b:Addr}{o:Obj},s₁.heap.get? b=some o->H b=none->(hidT s₁.heap H).get? b=some o:=λe n=>jl9 e n
  have noB:∀{b:Addr}{o:Obj},s₁.heap.get? b=some o->(∀vs n,o.data≠.seq vs n)->(∀vs,o.data≠.fields vs)->H b=none:=fun{b o} e d1 d2=>by
   cases q:H b with
   |none=>rfl
   |some u =>
    rcases hA b (by rw[q];simp)with e'|e'
    ·subst e'
     rw[ha]at e;cases e
     exact absurd rfl (d1 _ _)
    ·rw[hts b e']at e;cases e
     exact absurd rfl (d2 _)
  have nsK:∀{b:Addr}{m:Str->Option Value},s₁.heap.Ns b m->(hidT s₁.heap H).Ns b m:=fun{b m} ⟨o,es,ep,e,d,r⟩=>⟨o,es,ep,base_of e (noB e (by rw[d];nofun) (by rw[d];nofun)),d,r⟩
  have hKb:K.In (hidT s₁.heap H):=λb o e=>base_of (KX b o e) (by
   cases q:H b with
   |none=>rfl
   |some u =>
    rcases hA b (by rw[q];simp)with e'|e'
    ·subst e'
     rw[hK (by rw[q];simp)]at e;cases e
    ·rw[hKt b e']at e;cases e)
  have hBb:∀t∈ts,(hidT s₁.heap H).BuiltinsAt mg t:=λt ht=>let⟨bm,o,b1,b2,b3,b4,b5,b6,b7,b8⟩:=hbm t ht
   ⟨bm,o,b1,b2,b3,b4,base_of b5 (noB b5 (by rw[b8];nofun) (by rw[b8];nofun)),b6,b7,b8⟩
  have hM:Mod K mg (hidT s₁.heap H):=⟨hKb,nsK hns,⟨mb,nsK hb,hbb⟩,let⟨mc,h1,h2⟩:=hlim;⟨mc,nsK h1,h2⟩⟩
  have e0:Env0 P w K mg (hidT s₁.heap H) callerA [] s₁ H:=⟨rfl,hM,λb o e=>jnp e,Uz (jla _ _),trivial,λb hb=>absurd (show b∈([]:List Addr)from hb) (by simp),hok,.of_eq hg⟩
  refine codeAny_mono ((F _ hKb (nsK hns) hBb).run callerA [] s₁ H ⟨[.ref a],[]⟩ [.ref a] [.ref a] _ _ hr e0 (hbind s₁ (.ref a)) (.cons rfl .nil) (hsp H hS hT)) λr s' h=>?_
  cases r with
  |error e=>exact(hCX H e s' h).elim
  |ok fl =>
   cases fl with
   |next=>exact False.elim h
   |brk=>exact False.elim h
   |cont=>exact False.elim h
   |ret u =>
    obtain⟨v,H',os,bare,un,hok',r',q⟩:=h
    have q':v=.bl true:=q
    subst q'
    obtain rfl:u=Value.bool true:=r'
    have grown:∀b∈ts,∃ps,s'.heap.get? b=some (PySem.W.tabObj ps):=λb m=>by
     obtain⟨more,e⟩:=un.tbls b #[] (hT b m)
     exact⟨_,hok' b _ e⟩
    have keep:∀b o,b∉ts->s₁.heap.get? b=some o->s'.heap.get? b=some o:=λb o m e=>by
     cases q:H b with
     |none=>exact un.keep b o e q (by intro z;exact absurd (show b∈([]:List Addr)from z) (by simp)) (by simp)
     |some u =>
      rcases hO b with z|⟨ob,xs,z⟩|z
      ·rw[q]at z;cases z
      ·have z2:=un.frzs b ob _ z
       obtain⟨e1,_⟩:=hok b _ z
       obtain⟨e2,_⟩:=hok' b _ z2
       rw[e]at e1;cases e1
       exact e2
      ·exact absurd z m
    refine⟨rfl,⟨λb o e=>?_,λb o e=>?_⟩,os,bare⟩
    ·by_cases m:b∈ts
     ·obtain⟨c,hc⟩:=hcd b m
      obtain⟨ps,hP⟩:=grown b m
      have e2:=hts b m
      rw[e]at e2
      cases Ar e2
      exact .inr (.inl ⟨jm8 hc (hts b m),rfl,#[],ps,rfl,by rw[Array.empty_append];exact hP⟩)
     ·exact .inl (keep b o m e)
    ·by_cases m:b∈ts
     ·obtain⟨ps,hP⟩:=grown b m
      exact⟨_,hP⟩
     ·exact⟨o,keep b o m e⟩
 cases hk:K.lookup a with
 |some o =>
  have e:=KX a o hk
  rw[ha]at e
  cases e
  refine core (λb=>if b∈ts then some (.tbl #[])else none) (λb=>?_) (λt m=>Ag m) (.inr ⟨_,vs.toArray,_,hk,rfl,rfl,rfl,by rw[Aj,lenV];exact hl,by simpa using rv⟩) (λb u z=>?_) (λb z=>?_) λz=>absurd (Ae naT) z
  ·by_cases m:b∈ts
   ·exact .inr (.inr m)
   ·exact .inl (Ae m)
  ·by_cases m:b∈ts
   ·have z':=(Ag m).symm.trans z
    cases z'
    exact hts b m
   ·have z':=(Ae m).symm.trans z
    cases z'
  ·by_cases m:b∈ts
   ·exact .inr m
   ·exact absurd (Ae m) z
 |none =>
  refine core (λb=>if b∈ts then some (.tbl #[])else if b=a then some (.frz {cls:=.type "list",data:=.seq vs.toArray} (.lst (ns.map V.int)))else none) (λb=>?_) (λt m=>Ag m) (.inl (.inr ⟨{cls:=.type "list",data:=.seq vs.toArray},(Ae naT).trans (Ag rfl)⟩)) (λb u z=>?_) (λb z=>?_) λ_=>hk
  ·by_cases m:b∈ts
   ·exact .inr (.inr m)
   ·by_cases hb:b=a
    ·exact .inr (.inl ⟨_,_,(Ae m).trans (Ag hb)⟩)
    ·exact .inl ((Ae m).trans (Ae hb))
  ·by_cases m:b∈ts
   ·have z':=(Ag m).symm.trans z
    cases z'
    exact hts b m
   ·by_cases hb:b=a
    ·have z':=((Ae m).trans (Ag hb)).symm.trans z
     cases z'
     subst hb
     exact⟨ha,by rw[Ab];exact hl,vs,_,rv,ha⟩
    ·have z':=((Ae m).trans (Ae hb)).symm.trans z
     cases z'
  ·by_cases m:b∈ts
   ·exact .inr m
   ·by_cases hb:b=a
    ·exact .inl hb
    ·exact absurd ((Ae m).trans (Ae hb)) z
theorem walk_ofT{l:PySem.W.OpenLaw}{n k:Nat}{q:Program}{loose:List Str}{XP:(Str->Option Value)->Heap->Prop}{YP:World->Heap->Prop}{d:DefRec}{K:Params->PySem.W.Frag}{CX:World->CXT}{sp:World->Sp}{x:Str}{ts:List Addr}
  (hn:l.most=some n) (hn2:n<=sizeLine) (hdf:d.params.defaults=[]) (hr:Room k callerA)
  (hY:∀(w:World)(h:Heap),YP w h->(K w.params).In h) (hT:∀(w:World)(h:Heap),YP w h->∀t∈ts,h.get? t=some (PySem.W.tabObj #[]))
  (hC:∀(w:World)(h:Heap),(K w.params).In h->∀t∈ts,∃c,PySem.W.CodeHd h c t) (hN:∀w:World,∀t∈ts,(K w.params).lookup t=none)
  (F:∀(w:World)(mg:Str->Option Value)(fa:Addr)(h:Heap),(K w.params).In h->h.Ns mainGlobals mg->mg d.name=some (.ref fa) ->
   ∃fd:FuncData,(∀(s:Shared)(u:Value),BindsTo s fd ⟨[u],[]⟩ [(x,u)]) /\
    ∀base:Heap,(K w.params).In base->base.Ns mainGlobals mg->(∀t∈ts,base.BuiltinsAt mg t)->FnOk l.prog w (K w.params) mg base (CX w) k fa fd [x] (sp w))
  (hsp:∀(w:World)(H:Hp)(a:Addr)(ns:List Int),ns.length<=n->SqL (K w.params) H a (ns.map V.int)->(∀t∈ts,H t=some (.tbl #[]))->sp w [.ref a] H (λv _=>v=.bl true) λ_ _ _=>False)
  (hCX:∀(w:World)(H:Hp)(s:Shared)(e:Value)(s':Shared),CX w [] H s (λ_ _ _=>False) e s'->False) :
  PySem.W.WalkO q loose XP YP l.row.toRowW d [] (λf vs=>PySem.call f vs):=by
 refine Att.attach_call hn hdf λw s₀ s₁ mg mb fa o pm cd doc a vs ns G Y ho hd hcd hmg hobj hints hlen hg=>?_
 have KX:=hY w _ Y
 have TX:=hT w _ Y
 obtain⟨fd,hb,hF⟩:=F w mg fa _ KX G.T.g hmg
 refine jle (ts:=ts) KX G.T.g G.T.b G.T.builtins G.T.nolimit hg hobj hints (Ig hlen hn2) hr TX (hC w _ KX) (hN w) (λt ht=>?_) hF hb (λH hS hT=>hsp w H a ns hlen hS hT) λH e s'=>hCX w H s₁ e s'
 obtain⟨bm,ob,b1,b2,b3,b4,b5,b6⟩:=G.T.bmain
 refine⟨bm,ob,b1,b2,λq=>?_,λq=>?_,b3,b4,b5,b6⟩
 ·obtain⟨o,es,ep,e,hd,_⟩:=G.T.g
  rw[q,e]at b3;cases b3;rw[hd]at b6;cases b6
 ·rw[q,TX t ht]at b3;cases b3;cases b4
section
variable{X:Cx}{o i:Expr}{td ty:TE}{pos:Pos}
theorem jao{params:Arguments}{body:Expr}{scope:Scope}{pos:Pos}{c Pt:Addr}{cl:List (Str×Addr)}{qual:Str}{pm:Value}(hq:X.env.qual++"<lambda>"=qual)(hpm:(X.mg "__name__").getD .none=pm)(hcode:X.env.code=.ref c)(hC:PySem.W.CodeHd X.base c Pt)(hbt:X.base.BuiltinsAt X.mg Pt)
  (hdef:defaultsOf params X.env=([],[]):=by rfl) (hcl:closureFor scope X.env=pure cl:=by rfl):QE X (.Lambda params body scope pos) (tLam Pt qual params body scope cl pm):=by
 subst hq;subst hpm
 exact⟨pe_lambda hdef hcl hcode hC hbt⟩
end
theorem Fun.okC{P:Program}{w:World}{K:PySem.W.Frag}{mg:Str->Option Value}{base:Heap}{x qual:Str}{st:Stmt}{f:Addr}{fd:FuncData}{N ps:List Str}{k:Nat}{sp:Sp}(F:Fun K x qual st f fd)(S:FnScope N ps (jk st))(len:∀vs H Q E,sp vs H Q E->vs.length=ps.length)
  (hbody:∀(A:Around)(outer:List Env)(s:Shared)(H:Hp)(vs:List V)(Q:VK)(E:XK),Room k (A.deeper (envOfC qual (jk st) s.heap.objs.size f fd.code))->sp vs H Q E ->
   ∃t,PSs (cxOf CX0 P w K mg base N qual (jk st) f fd.code A outer s H E).nox (ju st) t/\t {nx:=λ_ H'=>Q .non H',rt:=Q} (start N vs) H):FnOk P w K mg base CX0 (k+1) f fd ps sp:=by
 obtain⟨oc,od,kV,doc,pm,an,cdv,ct,osl,rfl,lk,hcd⟩:=F.ex
 refine jmt lk hcd S len λA outer s H vs Q E hr hsp=>?_
 obtain⟨t,h,q⟩:=hbody A outer s H vs Q E hr hsp
 exact⟨t,h.nox,q⟩
theorem TabOk.kp{S:List Addr}{H H':Hp}{Pt:Addr}{qual:Str}(k:Kp S H H')(n:Pt∉S)(hc:∀c o,H c=some (FZ o)->c∉S)(x:TabOk H Pt qual):TabOk H' Pt qual :=
 let⟨ps,e,t,h⟩:=x
 ⟨ps,k.old _ _ e n,t,λp v q=>let⟨c,e2,z⟩:=h p v q;⟨c,e2,z.kp k (let⟨oc,_,_,q,_⟩:=z;hc c oc q)⟩⟩
section
variable{X:Cx}{o e f:Expr}{apos cpos:Pos}{td ty tx:TE}
def jf1:TE:=λ_ H Q=>∀p,H p=none->Q (.ref p) (upd H p (.dK []))
theorem pe_disp0{pos:Pos}:PE X (.Dict [] [] pos) jf1:=by
 intro pins s σ H Q I q
 have hn:=I.hok.fresh (Ac s.heap.objs.size)
 have I1:=I.laid (a:=s.heap.objs.size) (o:=.dK []) (h':=s.heap.push {cls:=.type "dict",data:=.dict #[]}) (t':=s.toks) (λ_ _ q=>Ad _ q) (Ac _) (jl2 s.heap I.big)
 exact wpAny_Dict_empty ⟨.ref s.heap.objs.size,_,I1,rfl,q _ hn⟩
theorem qpe_disp0{pos:Pos}:QE X (.Dict [] [] pos) jf1:=⟨pe_disp0⟩
end
section
variable{prog:Program}{w:World}{J:Type}[DecidableEq J]{knd:HeapKind prog w J}{A:Around}{E:Value->Shared->Prop}{s:Shared}{d a:Addr}{k:J}{xs:List (J×Addr×Value)}{x:Value}
theorem jie{h:Heap}{o:Obj}{es:Array DictEntry}{ep:Nat}(ho:h.get? d=some o)(hc:o.ExactDict)(hd:o.data=.dict es ep)(he:es.toList=xs.map (entryOfKey knd))(his:∀x∈xs,knd.is h x.1 x.2.1)(hn:(xs.map (·.1)).Nodup)
  (hk:knd.is h k a) (no:∀(j:Nat)(p:Addr×Value),xs[j]?≠some (k,p)):(h.update d (Obj.mapDictKeys λes=>es.push ⟨knd.hash k,.ref a,x⟩)).DictOfH knd d (xs++[(k,a,x)]):=by
 have kp:∀{k' a'},knd.is h k' a'->knd.is (h.update d (Obj.mapDictKeys λes=>es.push ⟨knd.hash k,.ref a,x⟩)) k' a':=λq=>knd.keeps q ho hd (U6 ..)
 refine⟨_,_,ep+1,Uu _ ho (Obj.isFreed_of_dict (Obj.data_mapDictKeys hd _)),hc.mapDictKeys _,Obj.data_mapDictKeys hd _,?_,λy hy=>?_,?_⟩
 ·simp[he,entryOfKey]
 ·rcases A7.mp hy with q|q
  ·exact kp (his y q)
  ·cases Am.mp q;exact kp hk
 ·have q:k∉xs.map (·.1):=not_mem_keys_of_get no
  rw[Ip]
  exact O0.mpr ⟨hn,by simp,λu hu v hv e=>q (by simp at hv;rw[<-hv,<-e];exact hu)⟩
theorem jl3{Q:Value->Shared->Prop}(hu:knd.room A)(hk:knd.is s.heap k a)(hm:s.heap.DictOfH knd d xs)(hz:xs.length<=sizeLine)(h1:∀p,atKey xs k=some p->Q p.2 {s with toks:=s.toks+knd.draws k})
  (h2:atKey xs k=none->∀h',h'.DictOfH knd d (xs++[(k,a,x)])->Heap.SameBut d s.heap h'->Q x {s with heap:=h',toks:=s.toks+knd.draws k}):wpAny (model prog w) A (dictSetDefault d (.ref a) x) Q E s:=by
 obtain⟨o,es,ep,ho,hc,hd,he,his,hn⟩:=hm
 unfold dictSetDefault
 try with_reducible refine Uo ?_
 refine Ah (knd.pyHash hu hk (Ah (wpAny_dictFind_heap (s:={s with toks:=s.toks+knd.draws k}) hu hk ho hd he his hn (λno=>?_) λj p hj=>?_)))
 ·refine Ah (wpAny_rule (Ah (wpAny_updateDictKeys (hz:=by rw[size_of_entries he];exact hz) (s:={s with toks:=s.toks+knd.draws k}) ho hd (Ap (h2 (atKey_none_of_get no) _ (jie ho hc hd he his hn hk no) (U6 ..))))))
 ·refine Ah (wpAny_dictEntries (s:={s with toks:=s.toks+knd.draws k}) ho hd ?_)
  rw[entry_at he j,hj]
  exact Ah (wpAny_rule (Ap (h1 p (atKey_of_get hn hj))))
theorem jlh(hd:(d == sysModules)=false):MeetsIn prog w (Builtin.«dict.setdefault» ⟨[.ref d,.ref a,x],[]⟩) λA R s=>knd.room A.in1/\∃(k:J)(xs:List (J×Addr×Value)),knd.is s.heap k a/\s.heap.DictOfH knd d xs/\xs.length<=sizeLine /\
  (∀p,atKey xs k=some p->R (.ok (.ret p.2)) {s with toks:=s.toks+knd.draws k})/\(atKey xs k=none->∀h',h'.DictOfH knd d (xs++[(k,a,x)])->Heap.SameBut d s.heap h'->R (.ok (.ret x)) {s with heap:=h',toks:=s.toks+knd.draws k}):=by
 refine .of_wp λA R s ⟨hu,k,xs,hk,hm,hz,h1,h2⟩=>?_
 show wpAny _ _ (Builtin.Dict.keyAndDefault _ _ >>= _) _ _ s
 refine Ah ?_
 unfold Builtin.Dict.keyAndDefault
 refine Ah (wpAny_notOrdered_dict hm.typeIs (Ap ?_))
 show wpAny _ _ (if(d == sysModules)=true then _ else _) _ _ _
 rw[hd,Ae (by decide)]
 exact Ah (jl3 hu hk hm hz (λp hp=>Ap ⟨_,rfl,h1 p hp⟩) λhn h' dd hs=>Ap ⟨_,rfl,h2 hn h' dd hs⟩)
end
section
variable{X:Cx}{o e f:Expr}{apos cpos:Pos}{td ty tx:TE}
def jf0(td ty tx:TE):TE:=λσ H Q=>td σ H λx H1=>∃a,x=.ref a/\IsD H1 a/\ty σ H1 λy H2=>tx σ H2 λz H3=>∃kvs k b,H3 a=some (.dT kvs)/\y=.ref b/\H3 b=some (.tup (k.map kV))/\kvs.length<sizeLine /\
 (∀v,valV kvs k=some v->Q v H3)/\(valV kvs k=none->Q z (upd H3 a (.dT (putK kvs k z))))
theorem pe_dsetT(hu:X.A.units+1<cLine)(ho:PE X o td)(he:PE X e ty)(hf:PE X f tx)(m:M2 X o "setdefault" apos e f cpos):PE X (.Call (.Attribute o "setdefault" apos) [e,f] [] cpos) (jf0 td ty tx):=by
 intro pins s σ H Q I h
 refine wpAny_Call_method m.base m.few m.line PySem.F.plainAttrs_dict PySem.F.slot_dict_setdefault PySem.F.type_dict_setdefault (thn (ho pins s σ H _ I h) λu s1 ⟨x,H1,I1,rx,a,ex,d,q1⟩=>?_)
 subst ex
 obtain rfl:u=Value.ref a:=rx
 obtain⟨t1,t2,_⟩:=joc I1 d
 refine⟨t1,t2,?_⟩
 rw[m.trees]
 refine Oz rfl (U1 (Ov (thn (he pins s1 σ H1 _ I1 q1) λiv s2 ⟨y,H2,I2,ry,q2⟩ =>
  Ov (thn (hf pins s2 σ H2 _ I2 q2) λfv s3 ⟨z,H3,I3,rz,kvs,k,b,ea,ey,eb,hl,q3,q4⟩=>Calls.spliced_nil ?_))))
 subst ey
 cases(show iv=Value.ref b from ry)
 obtain⟨zz,hd,xs,rel,dd⟩:=jms I3.hok ea
 have hz:xs.length<=sizeLine:=by rw[<-Az rel];exact zz
 have va:RelO (valV kvs k) ((atKey xs k).map (·.2)):=rel.val k
 refine call_meetsIn PySem.F.slot_dict_setdefault dd.typeIs PySem.F.entry_dict_setdefault (PySem.F.args_dict_setdefault_3 _ _ _) (jlh (knd:=tupleKind (jcc X.prog X.w)) hd) ⟨Ub hu,k,xs,jd5 I3.hok eb,dd,hz,λp hp=>?_,λhn h' dd' hs=>?_⟩
 ·rw[hp]at va
  cases l:valV kvs k with
  |none=>rw[l]at va;cases va
  |some v' =>
   rw[l]at va
   obtain⟨w',hw,rw'⟩:=RelO.some_of va
   cases hw
   exact⟨v',H3,I3.tok _,rw',q3 v' l⟩
 ·rw[hn]at va
  have ln:valV kvs k=none:=by
   cases l:valV kvs k with
   |none=>rfl
   |some v'=>rw[l]at va;obtain⟨w',hw,_⟩:=RelO.some_of va;cases hw
  have hlp:(putK kvs k z).length<=sizeLine:=by have:=jc0 kvs k z;omega
  have rel':=rel.put k eb rz
  rw[storedH_new hn]at rel'
  obtain⟨q,es,ep,hq,g2,g3,g4,_,g5⟩:=dd'
  refine⟨z,_,jf4 (ob:=.dT (putK kvs k z)) I3 (by rw[ea];exact True.intro) hs ⟨q,hq⟩ ⟨hlp,hd,_,rel'.keeps λc ys ec=>?_,q,es,ep,hq,g2,g3,g4,g5⟩,rz,q4 ln⟩
  rw[jf (jhm ec ea λz=>nomatch z)]
  exact ec
theorem qpe_dsetT(hu:X.A.units+1<cLine)(ho:QE X o td)(he:QE X e ty)(hf:QE X f tx)(m:M2 X o "setdefault" apos e f cpos):QE X (.Call (.Attribute o "setdefault" apos) [e,f] [] cpos) (jf0 td ty tx):=⟨pe_dsetT hu ho.h he.h hf.h m⟩
theorem qpe_dnewT{pos:Pos}:QE X (.Dict [] [] pos) jfz:=⟨pe_dnewT⟩
end
section
variable{X:Cx}
def rIxD:R2:=λx y H Q=>∃a v,x=.ref a/\DGet H a y (some v)/\Q v H
theorem ix_D(hu:X.A.units+1<cLine):IxR X rIxD:=by
 intro value slice pins s σ H x y v u Q I rx ry h hs
 obtain⟨a,z,rfl,g,q⟩:=h
 cases rx
 exact tail_any (jjd I g) PySem.F.slot_dict_getitem.lookup (jk0 hu I g ry λw' s3 I3 rw'=>⟨z,H,I3,rw',q⟩) hs
theorem ix_UD(hu:X.A.units+1<cLine):IxR X (λx y H Q=>rIxU x y H Q\/rIxD x y H Q):=IxR.or ix_U (ix_D hu)
end
theorem jmc{K:PySem.W.Frag}{a:Addr}{xs:List V}{g:TG}{tb:TS}{D:Ends}{σ:L2.St}{H:Hp}(Pv:Nat->L2.St->Hp->Prop)(h0:Pv 0 σ H)(hl:∀i σ H,i<=xs.length->Pv i σ H->SqT K H a xs)
  (hs:∀i x σ H T,xs[i]?=some x->Pv i σ H->H T=none->g (.ref T) σ (upd H T (.tup [.int (i:Int),x])) λσ2 H2=>tb {D with nx:=Pv (i+1),ct:=Pv (i+1),bk:=D.nx} σ2 H2) (hd:∀σ H,Pv xs.length σ H->D.nx σ H):jcm (ItE K a) g tb D σ H:=by
 refine⟨λi m σ H=>m=xs.length-i/\i<=xs.length/\Pv i σ H,⟨xs.length,by simp,Ix _,h0⟩,?_⟩
 rintro i m σ H ⟨rfl,hi,p⟩
 have q:=hl i σ H hi p
 rcases Nat.lt_or_ge i xs.length with hlt|hge
 ·refine .inr ⟨⟨xs,xs[i],q,by simp[hlt]⟩,Pv (i+1),λσ' H' p'=>⟨xs.length-(i+1),by omega,rfl,hlt,p'⟩,λx H' y=>?_⟩
  obtain⟨T,y',hT,e1,hy,e2⟩:=y
  subst e1 e2
  exact hs i y' σ H T (hy xs q) p hT
 ·obtain rfl:i=xs.length:=by omega
  exact .inl ⟨⟨xs,q,rfl⟩,hd σ H p⟩
section
variable{X:Cx}
def Mono(t:TE):Prop:=∀σ H (Q Q':VK),(∀v H',Q v H'->Q' v H')->t σ H Q->t σ H Q'
theorem jd9(i:Nat):Mono (tVar i):=jca
end
section
variable{X:Cx}
def jnt:R2:=λx y H Q=>∃(a:Addr)(ys:List V)(ds:List PyData)(d:PyData),y=.ref a/\H a=some (.lst ys)/\Reps H ys ds/\Rep H x d/\PyData.canLayAll0 ds=true/\d.canLay0=true/\PyData.depthAll ds<=40/\Q (.bl (!ds.any λe=>PyData.eqv e d)) H
theorem op_notinL(hu:X.A.units+64<cLine):OpR X (compareOp .NotIn) jnt:=by
 intro pins s σ H x y v u Q I rx ry h
 obtain⟨a,ys,ds,d,rfl,e,hl,hp,c1,c2,c3,q⟩:=h
 have hy:Rep H (.ref a) (.list ds):=by
  simp only[Rep]
  exact⟨a,ys,rfl,e,hl⟩
 obtain⟨as,r1⟩:=hp.reads I rx
 obtain⟨bs,r2⟩:=hy.reads I ry
 exact SeqAt.notIn_list_reads r2 r1 c1 c2 (by omega) ⟨.bl _,H,I,rfl,q⟩
end
section
variable{X:Cx}{K:PySem.W.Frag}{o e value:Expr}{f:Str}{pos pos' tpos:Pos}{ta tv:TE}
theorem ya(hK:X.K=K)(he:QE X e ta)(hb:attributeBase e f X.env (eval e X.env)=eval e X.env:=by rfl):QE X (.Attribute e f pos) (tFld K ta f):=by subst hK;exact⟨pe_fld he.h hb⟩
theorem jau(hK:X.K=K)(ha:QE X o ta)(hv:QE X value tv)(hs:swapsWith value (some (.Attribute o f pos')) pos.line X.env=pure false:=by rfl):QS X (.Assign [.Attribute o f pos'] value pos) (sFld K ta tv f):=by subst hK;exact⟨ps_fld ha.h hv.h hs⟩
theorem qps_fldaug{op:Operator}{rd:V->V->Hp->VK->Prop}(hK:X.K=K)(ha:QE X o ta)(hv:QE X value tv)(hop:InOp X op rd):QS X (.AugAssign (.Attribute o f tpos) op value pos) (jgd K ta tv rd f):=by subst hK;exact⟨ps_fldaug ha.h hv.h hop⟩
end
section
variable{X:Cx}{CX:CXT}{k:Nat}{f C:Addr}{fd:FuncData}{ps:List Str}{sp:Sp}{dvs:List V}{ds:List Value}{E:XK}{x m:Str}{p pos apos:Pos}{e o:Expr}{es:List Expr}{ta:TE}{t:TA}
theorem yo{pl:Sem Bool}(he:QE X o ta)(c:Cls X.K C)(hm:Meth X.K C m f)(F:FnOk X.prog X.w X.K X.mg X.base CX k f fd ps sp)(hr:Room k X.A)(hb:Binds X.K fd ps ds)(hd:Vals dvs ds)(hx:jct CX X E)(ha:QA X (e::es) t)
  (hst:starEach (e::es) X.env=(false,eval e X.env)::starEach es X.env:=by rfl) (hpl:(backTo pos (starEach es X.env)).any (·.1)=false:=by rfl)
  (ht:eval (.Call (.Attribute o m apos) (e::es) [] pos) X.env=(do
   let ov <-eval o X.env
   standAt apos.atName
   let(f,first) <-holding [ov] (getMethod ov m pl)
   callWith pos f first (backTo pos (starEach (e::es) X.env)) (backToKw pos (keywordEach [] X.env))):=by rfl) :
  QE X (.Call (.Attribute o m apos) (e::es) [] pos) (jeq C m sp dvs E ta t):=⟨pe_meth he.h c hm F hr hb hd hx ha.h hst hpl ht⟩
end
theorem jde{K:PySem.W.Frag}{a:TE}{f:Str}(ha:Mono a):Mono (tFld K a f):=λσ H Q Q' h q=>ha σ H _ _ (λx H1 ⟨a,C,dx,fs,v,e1,e2,e3,e4,e5,q1⟩=>⟨a,C,dx,fs,v,e1,e2,e3,e4,e5,h _ _ q1⟩) q
section
variable{X:Cx}
def repC(c n:Nat):Str:=⟨(List.replicate n c).toArray⟩
theorem jic(c:Nat):∀(n:Nat)(acc:Array Nat),(List.replicate n #[c]).foldl (·++·) acc=acc++(List.replicate n c).toArray
 |0,acc=>by simp
 |n+1,acc=>by
  rw[List.replicate_succ,List.foldl_cons,jic c n,List.replicate_succ]
  apply Array.toList_inj.mp
  simp only[Array.toList_append,Ic,List.singleton_append]
def jmy:R2:=λx y H Q=>∃c n:Nat,x=.str ⟨#[c]⟩/\y=.int (n:Int)/\n<=1000/\Q (.str (repC c n)) H
theorem ja5:OpR X (binaryOp .Mult) jmy:=by
 intro pins s σ H x y v u Q I rx ry h
 obtain⟨c,n,rfl,rfl,n9,q⟩:=h
 obtain⟨t,rfl⟩:=rx
 obtain⟨t',rfl⟩:=ry
 have l1:Str.length ⟨#[c]⟩=1:=rfl
 refine PySem.P.mul_str (by simp;omega) (λh1 _=>?_) (λ_ _=>?_) ?_
 ·rw[l1]
  have:(1:Int)<=(2^63-1) / (n:Int):=(Int.le_ediv_iff_mul_le (by omega)).mpr (by omega)
  omega
 ·unfold Builtin.Str.tooLong
  have hz:1000000<=sizeLine:=by decide
  rw[l1]
  simp
  omega
 ·by_cases c0:n=0
  ·subst c0
   rw[Ag (by decide)]
   exact⟨by decide,⟨.str (repC c 0),H,I.tok _,⟨_,rfl⟩,q⟩⟩
  rw[Ae (by omega)]
  by_cases c1:n=1
  ·subst c1
   rw[Ag (by rfl)]
   exact⟨.str (repC c 1),H,I,⟨_,rfl⟩,q⟩
  rw[Ae (by simp[l1];omega)]
  have e:(⟨(List.replicate (n:Int).toNat (⟨#[c]⟩:Str).cps).foldl (·++·) #[]⟩:Str)=repC c n:=by
   unfold repC
   rw[Int.toNat_natCast,jic];simp
  rw[e]
  refine⟨?_,⟨.str (repC c n),H,I.tok _,⟨_,rfl⟩,q⟩⟩
  have hz:1000000<=sizeLine:=by decide
  have:(repC c n).length=n:=by simp[repC,Str.length]
  omega
end
section
variable{X:Cx}{CX:CXT}{k:Nat}{f C:Addr}{fd:FuncData}{ps:List Str}{sp:Sp}{dvs:List V}{ds:List Value}{E:XK}{x m:Str}{p pos apos:Pos}{e o:Expr}{es:List Expr}{ta:TE}{t:TA}
theorem jbh{pl:Sem Bool}(he:QE X o ta)(c:Cls X.K C)(hm:Meth X.K C m f)(F:FnOk X.prog X.w X.K X.mg X.base CX k f fd ps sp)(hr:Room k X.A)(hb:Binds X.K fd ps ds)(hd:Vals dvs ds)(hx:jct CX X E)
  (ht:eval (.Call (.Attribute o m apos) [] [] pos) X.env=(do
   let ov <-eval o X.env
   standAt apos.atName
   let(f,first) <-holding [ov] (getMethod ov m pl)
   callWith pos f first (backTo pos (starEach [] X.env)) (backToKw pos (keywordEach [] X.env))):=by rfl) :
  QE X (.Call (.Attribute o m apos) [] [] pos) (jeq C m sp dvs E ta tNil):=⟨pe_meth0 he.h c hm F hr hb hd hx ht⟩
theorem qpe_make(M:Mk X.K C f)(F:FnOk X.prog X.w X.K X.mg X.base CX k f fd ps sp)(hr:Room (k+1) X.A)(hg:Gl X x)(hm:X.mg x=some (.ref C))(hb:Binds X.K fd ps ds)(hd:Vals dvs ds)(hx:jct CX X E)(ha:QA X (e::es) t)
  (hdb:(x == ("__debug__":Str))=false:=by decide) (he:starEach (e::es) X.env=(false,eval e X.env)::starEach es X.env:=by rfl) (hpl:(backTo pos (starEach es X.env)).any (·.1)=false:=by rfl) :
  QE X (.Call (.Name x p) (e::es) [] pos) (jhw C sp dvs E t):=⟨pe_make M F hr hg hm hb hd hx ha.h hdb he hpl⟩
end
section
variable{X:Cx}
def FnIn(K:PySem.W.Frag)(H:Hp)(f:Addr)(o:Obj):Prop:=H f=some (FZ o)\/K.lookup f=some o
def joq(P:Program)(w:World)(K:PySem.W.Frag)(mg:Str->Option Value)(base:Heap)(k i:Nat)(t:TA):TE:=λσ H Q=>∃(f:Addr)(o:Obj)(fd:FuncData)(ps:List Str)(sp:Sp),σ[i]?=some (some (.ref f))/\o.data=.func fd /\
 FnOk P w K mg base CX0 k f fd ps sp/\Binds K fd ps []/\t σ H λvs H1=>FnIn K H1 f o/\sp vs H1 Q E0
theorem qpe_callA{P:Program}{w:World}{K:PySem.W.Frag}{mg:Str->Option Value}{base:Heap}(hP:X.prog=P)(hw:X.w=w)(hK:X.K=K)(hM:X.mg=mg)(hB:X.base=base){k:Nat}{x:Str}{p pos:Pos}{e:Expr}{es:List Expr}{t:TA}(i:Nat)(hr:Room k X.A)(ha:QA X (e::es) t)
  (hN:X.N[i]?=some x:=by rfl) (hv:Vis X.env.scope x:=by first|exact Or.inl rfl|exact Or.inr (Or.inl rfl)|exact Or.inr (Or.inr rfl))
  (hdb:(x == ("__debug__":Str))=false:=by decide) (hcd:(x == ("__classdict__":Str))=false:=by decide) (he:starEach (e::es) X.env=(false,eval e X.env)::starEach es X.env:=by rfl) :
  QE X (.Call (.Name x p) (e::es) [] pos) (joq P w K mg base k i t):=by
 subst hP;subst hw;subst hK;subst hM;subst hB
 refine⟨λpins s σ H Q I h=>?_⟩
 obtain⟨f,o,fd,ps,sp,e0,hd,F,hb,h⟩:=h
 refine Ow (thn (jb2 hN hv hdb hcd pins s σ H (λv H'=>v=.ref f/\t σ H' λvs H1=>FnIn X.K H1 f o/\sp vs H1 Q E0) I ⟨_,e0,rfl,h⟩) λu s1 ⟨v,H1,I1,r,hv1,h1⟩=>?_)
 subst hv1
 cases r
 have at_:∀{σ':St}{H':Hp}{s':Shared},Inv X pins σ' H' s'->FnIn X.K H' f o->s'.heap.get? f=some o:=λJ q=>by
  rcases q with q|q
  ·exact FZ.get J.hok q
  ·exact J.kIn _ _ q
 refine callWith_def (o:=o) (fd:=fd) hd (thn (ha.h pos pins s1 σ H1 _ I1 h1) λus s2 ⟨vs,H2,I2,r2,q1,q2⟩=>⟨at_ I2 q1,?_⟩) he
 exact jft F hr hb .nil jr I2 r2 (by rw[Im];exact q2)
def PE1(X:Cx)(e:Expr)(t:TE):Prop :=
 ∀(pins:List (Addr×Obj))(s:Shared)(σ:St)(H:Hp)(Q:VK),1<=s.toks->Inv X pins σ H s->t σ H Q->wpAny (model X.prog X.w) X.A (eval e X.env) (EP X pins σ Q) X.xe s
theorem jom{e:Expr}{t:TE}(h:PE X e t):PE1 X e t:=λpins s σ H Q _=>h pins s σ H Q
def jm3(to:TE)(y z:Str):TE:=λσ H Q=>to σ H λv H1=>∃x,v=.str x/\x.length<=1048576/\Q (.str (Txt.replace x y z)) H1
theorem jii{o:Expr}{to:TE}{y z:Str}{ja jb:Nat}{pa pb apos cpos:Pos}(hyz:(y == z)=false)(hz:z.length<=14)(ho:PE1 X o to)
  (hbase:attributeBase o "replace" X.env (eval o X.env)=eval o X.env:=by rfl)
  (hfew:((backTo cpos (starEach [.Constant (.str y) ja pa,.Constant (.str z) jb pb] X.env)).all (λx=>!x.1) && (backToKw cpos (keywordEach [] X.env)).all (λx=>x.1.isSome)
   && decide (([.Constant (.str y) ja pa,.Constant (.str z) jb pb]:List Expr).length+([]:List Keyword).length+(if([]:List Keyword).isEmpty then 0 else 1)<30))=true:=by rfl)
  (hline:(apos.endLine == cpos.line)=true:=by rfl):PE1 X (.Call (.Attribute o "replace" apos) [.Constant (.str y) ja pa,.Constant (.str z) jb pb] [] cpos) (jm3 to y z):=by
 intro pins s σ H Q h1 I h
 refine wpAny_Call_method_late hbase hfew hline rfl (wpAny_with_toks h1 (Oo (ho pins s σ H _ h1 I h) (λv s1 ⟨x,H1,I1,r1,q⟩ hs1=>?_) λe s' q _=>q))
 obtain⟨x,rfl,hx,q⟩:=q
 obtain⟨t,rfl⟩:=r1
 refine⟨"str","str.replace",PySem.F.plainAttrs_str,PySem.F.slot_str_replace,PySem.F.type_str_replace,typeIs_str _ _ _,(λ_ e=>nomatch e),?_⟩
 refine Oz (by rfl) (U1 ?_)
 refine Ov (Wb (k:=ja) (pos:=pa) (Ov (Wb (k:=jb) (pos:=pb) (Calls.spliced_nil ?_))))
 refine SC.replaceW (by show s1.toks≠0;omega) (by show s1.toks+1≠0;omega) (by show s1.toks≠s1.toks+1;omega) hyz hx hz λt' k=>?_
 exact⟨.str _,H1,(I1.tok (s1.toks+1+1)).tok k,⟨_,rfl⟩,q⟩
def PSs1(X:Cx)(b:List Stmt)(t:TS):Prop :=
 ∀(pins:List (Addr×Obj))(s:Shared)(σ:St)(H:Hp)(D:Ends),1<=s.toks->Inv X pins σ H s->t D σ H->wpAny (model X.prog X.w) X.A (execs b X.env) (SP X pins D) X.xe s
theorem jmi{i:Nat}{x:Str}{e:Expr}{te:TE}{pos pos':Pos}{rest:List Stmt}{u:TS}(hN:X.N.Nodup)(hi:X.N[i]?=some x)(hx:Loc X.env.scope x)(he:PE1 X e te)(h2:QSs X rest u)(hs:swapsWith e (some (.Name x pos')) pos.line X.env=pure false:=by rfl)(hf:X.fn x=true\/X.env.scope.names.lookup x=some .local:=by first|exact .inl rfl|exact .inr rfl) :
  PSs1 X (.Assign [.Name x pos'] e pos::rest) (tSeq (tAsg te (jck i)) u):=by
 intro pins s σ H D h1 I h
 refine Uq (wpAny_Assign_Name (thn (he pins s σ H _ h1 I h) λv s1 ⟨y,H1,I1,r1,q1⟩=>?_) hs)
 exact jfa I1 hN hi hx r1 (λs2 I2=>h2.h pins s2 _ H1 D I2 q1) hf
end
theorem jnb{M:Model}{A:Around}{E:Value->Shared->Prop}{s:Shared}{scope:Scope}{globals:Addr}{x:Str}{v:Value}{qual:Str}{func:Option Addr}{code:Value}{builtins:Addr}{Q:Env->Shared->Prop}
  (hk:scope.kind=.function) (hl:scope.names.lookup x=some .local)
  (hQ:∀env,env=newEnv scope s.heap.objs.size globals (cellsFrom (s.heap.objs.size+1) scope.names []) qual func code none builtins ->
   ∀s',1<=s'.toks->InCallC s env.locals (bindL env.kindOf [(x,v)] λ_=>none) env.cells (bindC env.kindOf [(x,v)] λ_=>none) s'->Q env s') :
  wpAny M A (newFunctionEnv scope globals [] [(x,v)] qual func code none builtins) Q E s:=by
 have e:newFunctionEnv scope globals [] [(x,v)] qual func code none builtins=(do
   let env <-newFunctionEnv scope globals [] [] qual func code none builtins
   storeName env x v
   pure env):=by
  simp[newFunctionEnv]
 rw[e]
 refine Ah (wpAny_newFunctionEnv_cells hk nofun λenv he s1 y=>Ah ?_)
 have hl':env.kindOf x=some .local:=by subst he;exact hl
 have hk':env.scope.kind=.function:=by subst he;exact hk
 refine wpAny_storeName_local hl' y.toInCall.ns (λh' n b=>Ap (hQ env he _ (Nat.le_add_left 1 _) ?_)) (by rw[hk'];rfl)
 have lt:∀a o,s.heap.get? a=some o->a≠env.locals:=λa o q=>Av (Ax (Ak q) y.toInCall.fresh)
 obtain⟨h0,t0,e0⟩:=y.toInCall.same
 constructor
 ·constructor
  ·exact⟨h',s1.toks+1,by rw[e0]⟩
  ·simp only[bindL,hl',Ag];exact n
  ·exact λa o q=>b.extBut a o (lt a o q) (y.toInCall.keep a o q)
  ·exact y.toInCall.fresh
 ·intro m c q
  have:=y.cell m c q
  have z:=y.above m c (mem_of_lookup q)
  simp only[bindC,hl',Ag]at this⊢
  exact this.sameBut b (Nat.ne_of_gt z)
 ·exact y.apart
 ·exact y.above
theorem jn9{P:Program}{w:World}{K:PySem.W.Frag}{mg:Str->Option Value}{base:Heap}{x qual x0:Str}{st:Stmt}{f:Addr}{fd:FuncData}{N:List Str}{k:Nat}{sp:Sp}(F:Fun K x qual st f fd)(S:FnScope N [x0] (jk st))(len:∀vs H Q E,sp vs H Q E->vs.length=1)
  (hl0:(jk st).names.lookup x0=some .local)
  (hbody:∀(cdv:Value)(A:Around)(outer:List Env)(s:Shared)(H:Hp)(vs:List V)(Q:VK)(E:XK),Room k (A.deeper (envOfC qual (jk st) s.heap.objs.size f cdv))->sp vs H Q E ->
   ∃t,PSs1 (cxOf CX0 P w K mg base N qual (jk st) f cdv A outer s H E) (ju st) t/\t {nx:=λ_ H'=>Q .non H',rt:=Q} (start N vs) H):FnOk P w K mg base CX0 (k+1) f fd [x0] sp:=by
 obtain⟨oc,od,kV,doc,pm,an,cdv,ct,osl,rfl,lk,hcd⟩:=F.ex
 refine⟨len,λA outer s H args us vs Q E hr e0 hb r hsp=>?_⟩
 have hl:=len _ _ _ _ hsp
 have KX:K.In s.heap:=e0.mod.kin.keeps λb o e=>(e0.bs b o e).1
 have lim:s.heap.NoLimit:=e0.mod.nolimit.keeps λb o e=>(e0.bs b o e).1
 refine codeAny_call_function hr.depth (KX _ _ lk) rfl S.co S.gen rfl (PySem.W.codeRec_of KX hcd) (hb _ _ _ _ ?_)
 obtain⟨v0,e1⟩:∃v0,vs=[v0]:=match vs,hl with|[v0],_=>⟨v0,rfl⟩
 subst e1
 obtain⟨u0,e2,r0⟩:=r.one
 subst e2
 refine jnb S.kind hl0 λenv he s1 h1 x=>?_
 subst he
 refine⟨lim.keeps x.toInCall.keep,codeAny_func ?_⟩
 obtain⟨t,ht,hq⟩:=hbody cdv A outer s H [v0] Q E (hr.deeper _) hsp
 have I:Inv (cxOf CX0 P w K mg base N qual (jk st) f cdv A outer s H E) [] (start N [v0]) H s1:=jgs S hr.hd e0 hl r x
 refine Oo (ht [] s1 (start N [v0]) H _ h1 I hq) (λfl s' hs=>?_) λe s' hs=>hs
 have fin:∀{σ':St}{H':Hp}{v:V}{u:Value},Inv (cxOf CX0 P w K mg base N qual (jk st) f cdv A outer s H E) [] σ' H' s'->RelV v u->Q v H'->CE outer P w H s Q u s' :=
  fun{σ' H' v u} J rv q=>⟨v,H',J.os,J.bare,J.base,J.hok,rv,q⟩
 cases fl with
 |ret u =>
  obtain⟨v,σ',H',J,rv,q⟩:=hs
  exact fin J rv q
 |next =>
  obtain⟨σ',H',J,q⟩:=hs
  exact fin (v:=V.non) (u:=Value.none) J rfl q
 |brk =>
  obtain⟨_,_,_,q⟩:=hs
  exact False.elim q
 |cont =>
  obtain⟨_,_,_,q⟩:=hs
  exact False.elim q
end L2
namespace My
open PySem L2 PySem.StrLaws PySem.Builtin PySem.Builtin.Str
def isC(l:List Nat)(c i:Nat):Bool:=decide (l[i]?=some c)
theorem jig(x:Str)(c:Nat):∀(k a:Nat)(st:Array Nat×Nat),a+k<=x.length+1->st.1.toList=(List.range a).filter (isC x.cps.toList c)->st.2<=a ->
  (forIn (List.range' a k) st (occBody x ⟨#[c]⟩ x.length (x.length+1))).run.1.toList=(List.range (a+k)).filter (isC x.cps.toList c)
 |0,a,st,_,h,_=>h
 |k+1,a,st,hk,h,h2=>by
  have hs:st.1.size<=a:=by
   have:=Uv (isC x.cps.toList c) (List.range a)
   rw[<-h,List.length_range,Array.length_toList]at this
   exact this
  have step:∀b,isC x.cps.toList c a=b->(List.range (a+1)).filter (isC x.cps.toList c)=(List.range a).filter (isC x.cps.toList c)++if b then[a]else[]:=λb e=>by
   rw[List.range_succ,Wd,Og,List.filter_nil,e]
  rw[List.range'_succ,List.forIn_cons]
  unfold occBody
  split
  ·rename_i hc
   have hx:isC x.cps.toList c a=true:=Op ((subAt_one x c a).mp ⟨hc.1.2,hc.2⟩)
   have:=jig x c k (a+1) (st.1.push a,a+1) (by omega) (by rw[Array.toList_push,h,step true hx];rfl) (Ac _)
   rw[show a+(k+1)=a+1+k by omega]
   exact this
  ·rename_i hc
   have hx:isC x.cps.toList c a=false:=A8 λe=>by
    have q:=(subAt_one x c a).mpr e
    exact hc ⟨⟨⟨by omega,h2⟩,q.1⟩,q.2⟩
   have:=jig x c k (a+1) st (by omega) (by rw[h,step false hx];simp) (by omega)
   rw[show a+(k+1)=a+1+k by omega]
   exact this
theorem jel(x:Str)(c:Nat):occurrences x ⟨#[c]⟩ 0 x.length (x.length+1)=(List.range' 0 x.length).filter (isC x.cps.toList c):=by
 have h:=jig x c (x.length+1) 0 (#[],0) (by omega) rfl (Ac _)
 rw[occ_eq,Nat.sub_zero,h,Nat.zero_add,List.range_succ,Wd,List.range_eq_range']
 have:isC x.cps.toList c x.length=false:=A8 λe=>by
  have:=(Aa.mp e).1
  simp[Str.length]at this
 simp[this]
def sp(c:Nat):List Nat->List (List Nat)
 |[]=>[[]]
 |x::l=>if x=c then[]::sp c l else match sp c l with
  |[]=>[[x]]
  |p::r=>(x::p)::r
theorem jd0(x:Str)(i j:Nat):(strSub x i j).cps.toList=(x.cps.toList.drop i).take (j-i):=by
 simp[strSub]
theorem jay(x:Str)(c:Nat):∀k a,a+k=x.length->(partsFrom x 1 a ((List.range' a k).filter (isC x.cps.toList c))).map (λp=>p.cps.toList)=sp c (x.cps.toList.drop a)
 |0,a,h=>by
  have e:x.cps.toList.drop a=[]:=U3.mpr (by simp[Str.length]at h⊢;omega)
  simp only[List.range'_zero,List.filter_nil,partsFrom,Al,Oj,jd0,e,sp,List.take_nil]
 |k+1,a,h=>by
  have hl:a<x.cps.toList.length:=by simp[Str.length]at h⊢;omega
  have ed:x.cps.toList.drop a=x.cps.toList[a]::x.cps.toList.drop (a+1):=O8 hl
  have ih:=jay x c k (a+1) (by omega)
  rw[List.range'_succ,Og,ed,sp]
  by_cases hc:x.cps.toList[a]=c
  ·have:isC x.cps.toList c a=true:=Op (by rw[An hl,hc])
   rw[Ag this,Ag hc]
   simp only[partsFrom,Al,jd0,Nat.sub_self,List.take_zero]
   rw[ih]
  ·have:isC x.cps.toList c a=false:=A8 (by rw[An hl];intro e;exact hc (Ar e))
   rw[this,Ae (by simp),Ae hc,<-ih]
   have hge:∀i∈(List.range' (a+1) k).filter (isC x.cps.toList c),a+1<=i:=λi hi=>(List.mem_range'_1.mp (Ol.mp hi).1).1
   generalize(List.range' (a+1) k).filter (isC x.cps.toList c)=cs at hge
   have cut:∀j,a+1<=j->(strSub x a j).cps.toList=x.cps.toList[a]::(strSub x (a+1) j).cps.toList:=λj hj=>by
    rw[jd0,jd0,ed,show j-a=(j-(a+1))+1 by omega,List.take_succ_cons]
   cases cs with
   |nil=>simp only[partsFrom,Al,Oj,cut x.length (by omega)]
   |cons d r=>simp only[partsFrom,Al,cut d (hge d (.head _))]
theorem jnz{x y:Str}(h:x.cps.toList=y.cps.toList):x=y:=by
 cases x;cases y
 simp only[Array.toList_inj]at h
 rw[h]
theorem jj3(c:Nat):∀{l:List Nat},c∉l->sp c l=[l]
 |[],_=>rfl
 |x::l,h=>by
  have hx:¬x=c:=λe=>by rw[e]at h;exact h (.head _)
  rw[sp,Ae hx,jj3 c λhm=>h (.tail _ hm)]
theorem ji4(x:Str)(c:Nat)(hc:c<256):(Txt.split x ⟨#[c]⟩).map (λp=>p.cps.toList)=sp c x.cps.toList:=by
 have hk:Str.strKind (⟨#[c]⟩:Str)=1:=by simp[Str.strKind,hc]
 have hk2:¬Str.strKind x<1:=by unfold Str.strKind;split <;> (try split) <;> omega
 have whole:occurrences x ⟨#[c]⟩ 0 x.length (x.length+1)=[]->sp c x.cps.toList=[x.cps.toList]:=λe=>by
  refine jj3 c λhm=>?_
  obtain⟨i,hi⟩:=U4 hm
  rw[jel]at e
  have hil:=(Aa.mp hi).1
  have:i∈(List.range' 0 x.length).filter (isC x.cps.toList c):=Ol.mpr ⟨List.mem_range'_1.mpr ⟨Ix _,by simp[Str.length]at hil⊢;omega⟩,Op hi⟩
  rw[e]at this
  cases this
 unfold Txt.split
 by_cases h1:x.length<1
 ·rw[Ag (by show(decide (x.length<1) || _)=true;simp[h1])]
  have:x.cps.toList=[]:=List.eq_nil_of_length_eq_zero (by simp[Str.length]at h1⊢;omega)
  simp[this,sp]
 ·rw[Ae (by rw[hk];show ¬(decide (x.length<1) || _)=true;simp[h1,hk2]),jel]
  by_cases h2:((List.range' 0 x.length).filter (isC x.cps.toList c)).isEmpty=true
  ·rw[Ag h2,whole (by rw[jel];exact List.isEmpty_iff.mp h2)]
   rfl
  ·rw[Ae h2,partsBetween_eq]
   exact jay x c x.length 0 (by omega)
theorem je4(sep:Str)(x y:Str)(r:List Str):(Str.join sep (x::y::r)).cps.toList=x.cps.toList++sep.cps.toList++(Str.join sep (y::r)).cps.toList:=by
 show(x++sep++Str.join sep (y::r)).cps.toList=_
 rw[Str.cps_append,Str.cps_append]
 simp
def subs(c:Nat)(z l:List Nat):List Nat:=l.flatMap λd=>if d=c then z else[d]
theorem jdp(c:Nat):∀l,∃p r,sp c l=p::r
 |[]=>⟨[],[],rfl⟩
 |x::l=>by
  obtain⟨p,r,e⟩:=jdp c l
  rw[sp,e]
  by_cases h:x=c
  ·exact⟨[],p::r,Ag h⟩
  ·exact⟨x::p,r,by rw[Ae h]⟩
theorem jf8(c:Nat)(z:Str):∀(l:List Nat)(ps:List Str),ps.map (λp=>p.cps.toList)=sp c l->(Str.join z ps).cps.toList=subs c z.cps.toList l
 |[],ps,h=>by
  match ps,h with
  |[p],h=>simp[sp]at h;show p.cps.toList=_;simp[h,subs]
  |[],h=>simp[sp]at h
  |_::_::_,h=>simp[sp]at h
 |x::l,ps,h=>by
  obtain⟨p,r,e⟩:=jdp c l
  rw[sp,e]at h
  by_cases hx:x=c
  ·rw[Ag hx]at h
   match ps,h with
   |[],h=>simp at h
   |[_],h=>simp at h
   |q0::q1::qs,h =>
    simp only[Al,Iw]at h
    have ih:=jf8 c z l (q1::qs) (by rw[Al,h.2.1,h.2.2,e])
    rw[je4,h.1,ih]
    simp[subs,hx]
  ·rw[Ae hx]at h
   match ps,h with
   |[],h=>simp at h
   |q0::qs,h =>
    simp only[Al,Iw]at h
    have ih:=jf8 c z l (⟨p.toArray⟩::qs) (by rw[Al,h.2,e])
    have:(Str.join z (q0::qs)).cps.toList=x::(Str.join z (⟨p.toArray⟩::qs)).cps.toList:=by
     cases qs with
     |nil=>show q0.cps.toList=x::p.toArray.toList;rw[h.1]
     |cons y ys=>rw[je4,je4,h.1];simp
    rw[this,ih]
    simp[subs,hx]
theorem jdz(x:Str)(c:Nat)(z:Str):(Txt.replace x ⟨#[c]⟩ z).cps.toList=subs c z.cps.toList x.cps.toList:=by
 unfold Txt.replace
 have e0:(((⟨#[c]⟩:Str).length == 0) && (z.length == 0))=false:=rfl
 rw[e0,Bool.or_false,jel]
 by_cases h2:((List.range' 0 x.length).filter (isC x.cps.toList c)).isEmpty=true
 ·rw[Ag h2]
  have hn:c∉x.cps.toList:=λhm=>by
   obtain⟨i,hi⟩:=U4 hm
   have hil:=(Aa.mp hi).1
   have:i∈(List.range' 0 x.length).filter (isC x.cps.toList c):=Ol.mpr ⟨List.mem_range'_1.mpr ⟨Ix _,by simp[Str.length]at hil⊢;omega⟩,Op hi⟩
   rw[List.isEmpty_iff.mp h2]at this
   cases this
  have:∀l:List Nat,c∉l->subs c z.cps.toList l=l:=λl=>by
   induction l with
   |nil=>intro _;rfl
   |cons d l ih =>
    intro h
    have hd:¬d=c:=λe=>by rw[e]at h;exact h (.head _)
    have:=ih λhm=>h (.tail _ hm)
    simp only[subs,List.flatMap_cons,Ae hd]at this⊢
    rw[this];rfl
  exact(this _ hn).symm
 ·rw[Ae h2,glued_eq_join,partsBetween_eq]
  exact jf8 c z _ _ (jay x c x.length 0 (by omega))
def fl(cur:List Nat):List (List Nat):=if cur=[]then[]else[cur]
def tok:List Nat->List Nat->List (List Nat)
 |cur,[]=>fl cur
 |cur,c::l=>if c=32 then fl cur++tok [] l else if c=40\/c=41 then fl cur++[c]::tok [] l else tok (cur++[c]) l
def neL(ps:List (List Nat)):List (List Nat):=ps.filter λp=>!p.isEmpty
theorem jhl(p:List Nat)(r:List (List Nat)):neL (p::r)=fl p++neL r:=by
 cases p <;> rfl
theorem jls:∀(l cur p:List Nat)(r:List (List Nat)),sp 32 (subs 41 [32,41,32] (subs 40 [32,40,32] l))=p::r->neL ((cur++p)::r)=tok cur l
 |[],cur,p,r,h=>by
  simp only[subs,List.flatMap_nil,sp,Iw]at h
  rw[<-h.1,<-h.2,jhl,Im]
  simp[neL,tok]
 |c::l,cur,p,r,h=>by
  obtain⟨p',r',e⟩:=jdp 32 (subs 41 [32,41,32] (subs 40 [32,40,32] l))
  have ih:=λcur=>jls l cur p' r' e
  have ih0:=ih []
  rw[List.nil_append]at ih0
  have es:subs 41 [32,41,32] (subs 40 [32,40,32] (c::l))=(if c=40 then[32,40,32]else if c=41 then[32,41,32]else[c])++subs 41 [32,41,32] (subs 40 [32,40,32] l):=by
   by_cases h40:c=40
   ·subst h40;simp[subs]
   ·by_cases h41:c=41
    ·subst h41;simp[subs]
    ·simp[subs,h40,h41]
  rw[es]at h
  rw[tok]
  by_cases h32:c=32
  ·subst h32
   rw[Ae (by decide),Ae (by decide)]at h
   rw[List.singleton_append,sp,Ag rfl,e]at h
   simp only[Iw]at h
   rw[Ag rfl,<-h.1,<-h.2,jhl,Im,ih0]
  ·rw[Ae h32]
   by_cases hb:c=40\/c=41
   ·rw[Ag hb]
    have:sp 32 (32::c::32::subs 41 [32,41,32] (subs 40 [32,40,32] l))=[]::[c]::p'::r':=by
     rw[sp,Ag rfl,sp,Ae h32,sp,Ag rfl,e]
    have e2:(if c=40 then[32,40,32]else if c=41 then[32,41,32]else[c])++subs 41 [32,41,32] (subs 40 [32,40,32] l)=32::c::32::subs 41 [32,41,32] (subs 40 [32,40,32] l):=by
     rcases hb with rfl|rfl <;> rfl
    rw[e2,this]at h
    simp only[Iw]at h
    rw[<-h.1,<-h.2,jhl,Im,jhl,ih0]
    rfl
   ·rw[Ae hb]
    have h40:¬c=40:=λz=>hb (.inl z)
    have h41:¬c=41:=λz=>hb (.inr z)
    rw[Ae h40,Ae h41,List.singleton_append,sp,Ae h32,e]at h
    simp only[Iw]at h
    rw[<-h.1,<-h.2,<-ih,Ic]
    rfl
def Cut(T:List Nat)(E:List (List Nat))(cur:List Nat):Prop:=∀m,tok [] (T++m)=E++tok cur m
theorem Cut.nil:Cut [] [] []:=λm=>rfl
theorem jgg:∀n m,tok [] (List.replicate n 32++m)=tok [] m
 |0,m=>rfl
 |n+1,m=>by
  rw[List.replicate_succ,List.cons_append,tok,Ag rfl,jgg n m]
  rfl
theorem Cut.sps{T:List Nat}{E:List (List Nat)}(h:Cut T E [])(n:Nat):Cut (T++List.replicate n 32) E []:=λm=>by
 rw[Ic,h,jgg]
theorem Cut.sp1{T:List Nat}{E:List (List Nat)}{cur:List Nat}(h:Cut T E cur){n:Nat}(hn:1<=n):Cut (T++List.replicate n 32) (E++fl cur) []:=λm=>by
 obtain⟨k,rfl⟩:∃k,n=k+1:=⟨n-1,by omega⟩
 rw[Ic,h,List.replicate_succ,List.cons_append,tok,Ag rfl,jgg,Ic]
theorem Cut.br{T:List Nat}{E:List (List Nat)}{cur:List Nat}(h:Cut T E cur){c:Nat}(hc:c=40\/c=41):Cut (T++[c]) (E++fl cur++[[c]]) []:=λm=>by
 have h32:¬c=32:=by omega
 rw[Ic,h,List.singleton_append,tok,Ae h32,Ag hc]
 simp
theorem ji7:∀(w cur m:List Nat),(∀c∈w,c≠32/\c≠40/\c≠41)->tok cur (w++m)=tok (cur++w) m
 |[],cur,m,_=>by simp
 |c::w,cur,m,h=>by
  have hc:=h c (.head _)
  rw[List.cons_append,tok,Ae hc.1,Ae (by omega),ji7 w _ m λd hd=>h d (.tail _ hd),Ic]
  rfl
theorem Cut.word{T:List Nat}{E:List (List Nat)}(h:Cut T E []){w:List Nat}(hw:∀c∈w,c≠32/\c≠40/\c≠41):Cut (T++w) E w:=λm=>by
 rw[Ic,h,ji7 w [] m hw,List.nil_append]
theorem Cut.done{T:List Nat}{E:List (List Nat)}{cur:List Nat}(h:Cut T E cur):tok [] T=E++fl cur:=by
 have:=h []
 rwa[Im]at this
end My
namespace My
open PySem
def toS(l:List Nat):Str:=⟨l.toArray⟩
theorem jn1(l:List Nat)(c:Nat):toS l++(⟨#[c]⟩:Str)=toS (l++[c]):=by
 show(⟨l.toArray++#[c]⟩:Str)=⟨(l++[c]).toArray⟩
 simp
theorem jgf(l:List Nat):(toS l).length=l.length:=by simp[toS,Str.length]
end My
namespace My
open PySem L2 PyProof.Rows
def sg(z:Str):List Nat:=z.cps.toList
theorem ji2(x y:Str):sg (x++y)=sg x++sg y:=by simp[sg,Str.cps_append]
theorem jmv:∀l:List Str,sg (Str.join ⟨#[]⟩ l)=(l.map sg).flatten
 |[]=>rfl
 |x::l=>by rw[join_nil_cons,ji2,jmv l];rfl
theorem joz(l:List Str):sg (Txt.join (Str.ofString "") l)=(l.map sg).flatten:=by
 have e0:(Str.ofString "")=(⟨#[]⟩:Str):=by decide +kernel
 have e:=eq_of_beq (join_plain_closes ⟨#[]⟩ l)
 rw[e0,e,jmv]
theorem jng{α:Type}{xs:List α}{x:α}(h:xs[xs.length-1]?=some x):xs=xs.dropLast++[x]:=by
 have hne:xs≠[]:=by rintro rfl;simp at h
 have e:=Oh hne
 have e2:xs.getLast hne=x:=by
  rw[List.getLast_eq_getElem hne]
  have:=(Aa.mp h).2
  exact this
 rw[<-e2,e]
theorem jn5{α:Type}{xs:List α}{v:α}(h:xs[xs.length-1]?=some v):atI xs (-1)=some v:=by
 rw[jng h]
 exact jdr _ _
end My
namespace My
open PySem L2
abbrev Row:=List L2.Key
def mapR(g:Nat->Nat):L2.Key->L2.Key
 |.inl i=>.inl (g i.toNat:Nat)
 |.inr s=>.inr s
def ptK:L2.Key->Option Nat
 |.inl i=>some i.toNat
 |.inr _=>none
def wpR(g:Nat->Nat)(r:Row):Row:=r.map (mapR g)
def ptR(r:Row):List Nat:=r.filterMap ptK
def RowOk(k:Nat)(r:Row):Prop:=∀i:Int,(Sum.inl i:L2.Key)∈r->0<=i/\i<k
theorem jec(g:Nat->Nat):∀r,ptR (wpR g r)=(ptR r).map g
 |[]=>rfl
 |.inl i::r=>by
  have:=jec g r
  simp only[ptR,wpR,Al,List.filterMap_cons,mapR,ptK]at this⊢
  rw[this];simp
 |.inr s::r=>by
  have:=jec g r
  simp only[ptR,wpR,Al,List.filterMap_cons,mapR,ptK]at this⊢
  rw[this]
theorem jco{k:Nat}{r:Row}(h:RowOk k r){p:Nat}(hp:p∈ptR r):p<k:=by
 obtain⟨x,hx,e⟩:=O9.mp hp
 cases x with
 |inl i=>simp[ptK]at e;have:=h i hx;omega
 |inr s=>simp[ptK]at e
theorem jga{r:Row}{i:Int}(h:(Sum.inl i:L2.Key)∈r):i.toNat∈ptR r:=O9.mpr ⟨_,h,rfl⟩
theorem jcj{g g':Nat->Nat}{r:Row}(h:∀p∈ptR r,g p=g' p):wpR g r=wpR g' r:=by
 refine I0 λx hx=>?_
 cases x with
 |inl i=>simp only[mapR];rw[h _ (jga hx)]
 |inr s=>rfl
theorem jdg(g g':Nat->Nat)(r:Row):wpR g (wpR g' r)=wpR (λx=>g (g' x)) r:=by
 unfold wpR
 rw[O2]
 refine I0 λx _=>?_
 cases x <;> simp[mapR]
theorem jot{k:Nat}{r:Row}{g:Nat->Nat}(ok:RowOk k r)(h:∀p∈ptR r,g p=p):wpR g r=r:=by
 unfold wpR
 have:∀x∈r,mapR g x=x:=λx hx=>by
  cases x with
  |inl i=>simp only[mapR];rw[h _ (jga hx)];congr 1;have:=ok i hx;omega
  |inr s=>rfl
 rw[I0 this,List.map_id']
def wkF(C:Nat->List Nat):Nat->Nat->List Nat->List Nat
 |0,v,cm=>cm++[v]
 |f+1,v,cm=>(C v).foldl (λcm p=>if p∈cm then cm else wkF C f p cm) cm++[v]
def wk(C:Nat->List Nat)(v:Nat)(cm:List Nat):List Nat:=wkF C v v cm
def Dn(C:Nat->List Nat)(n:Nat):Prop:=∀v,v<n->∀p∈C v,p<v
def stp(C:Nat->List Nat)(cm:List Nat)(p:Nat):List Nat:=if p∈cm then cm else wk C p cm
theorem jjb{C:Nat->List Nat}{n:Nat}(d:Dn C n):∀(f f' v:Nat)(cm:List Nat),v<n->v<=f->v<=f'->wkF C f v cm=wkF C f' v cm:=by
 have z:∀f cm,0<n->wkF C f 0 cm=cm++[0]:=λf cm hn=>by
  cases f with
  |zero=>rfl
  |succ f =>
   have:C 0=[]:=by
    cases h:C 0 with
    |nil=>rfl
    |cons p t=>exact absurd (d 0 hn p (by rw[h];exact .head _)) (by omega)
   simp[wkF,this]
 intro f
 induction f with
 |zero =>
  intro f' v cm h1 h2 _
  obtain rfl:v=0:=by omega
  rw[z _ _ h1,z _ _ h1]
 |succ f ih =>
  intro f' v cm h1 h2 h3
  cases f' with
  |zero =>
   obtain rfl:v=0:=by omega
   rw[z _ _ h1,z _ _ h1]
  |succ f' =>
   simp only[wkF]
   congr 1
   have go:∀ps:List Nat,(∀p∈ps,p<v)->∀cm,ps.foldl (λcm p=>if p∈cm then cm else wkF C f p cm) cm=ps.foldl (λcm p=>if p∈cm then cm else wkF C f' p cm) cm:=by
    intro ps
    induction ps with
    |nil=>intro _ _;rfl
    |cons p ps ihp =>
     intro hp cm
     have:=hp p (.head _)
     rw[List.foldl_cons,List.foldl_cons,ih f' p cm (by omega) (by omega) (by omega)]
     exact ihp (λq hq=>hp q (.tail _ hq)) _
   exact go _ (d v h1) cm
theorem jdj{C:Nat->List Nat}{n:Nat}(d:Dn C n){v:Nat}(hv:v<n)(cm:List Nat):wk C v cm=(C v).foldl (stp C) cm++[v]:=by
 have e:wk C v cm=wkF C (v+1) v cm:=jjb d _ _ _ _ hv (Ac _) (by omega)
 rw[e]
 simp only[wkF]
 congr 1
 have go:∀ps:List Nat,(∀p∈ps,p<v)->∀cm,ps.foldl (λcm p=>if p∈cm then cm else wkF C v p cm) cm=ps.foldl (stp C) cm:=by
  intro ps
  induction ps with
  |nil=>intro _ _;rfl
  |cons p ps ihp =>
   intro hp cm
   have:=hp p (.head _)
   rw[List.foldl_cons,List.foldl_cons]
   have:(if p∈cm then cm else wkF C v p cm)=stp C cm p:=by
    unfold stp wk
    rw[jjb d v p p cm (by omega) (by omega) (Ac _)]
   rw[this]
   exact ihp (λq hq=>hp q (.tail _ hq)) _
 exact go _ (d v hv) cm
theorem jda{C:Nat->List Nat}{P:List Nat->Prop}:∀{ps:List Nat}{cm:List Nat},P cm->(∀p∈ps,∀cm,P cm->p∉cm->P (wk C p cm))->P (ps.foldl (stp C) cm)
 |[],_,h,_=>h
 |p::ps,cm,h,st=>by
  rw[List.foldl_cons]
  refine jda ?_ λq hq=>st q (.tail _ hq)
  unfold stp
  split
  ·exact h
  ·exact st p (.head _) cm h (by assumption)
theorem jjc{C:Nat->List Nat}{n:Nat}(d:Dn C n):∀(v:Nat),v<n->∀cm,∃t,wk C v cm=cm++t++[v]:=by
 intro v
 induction v using Nat.strongRecOn with
 |_ v ih =>
  intro hv cm
  rw[jdj d hv]
  obtain⟨t,e⟩:∃t,(C v).foldl (stp C) cm=cm++t:=by
   refine jda (P:=λl=>∃t,l=cm++t) ⟨[],by simp⟩ λp hp l ⟨t,e⟩ _=>?_
   have:=d v hv p hp
   obtain⟨t',e'⟩:=ih p this (by omega) l
   exact⟨t++t'++[p],by rw[e',e];simp⟩
  exact⟨t,by rw[e]⟩
theorem jj8{C:Nat->List Nat}{n:Nat}(d:Dn C n){v:Nat}(hv:v<n){cm:List Nat}{x:Nat}(h:x∈cm):x∈wk C v cm:=by
 obtain⟨t,e⟩:=jjc d v hv cm
 rw[e];simp[h]
theorem jgh{C:Nat->List Nat}{n:Nat}(d:Dn C n){v:Nat}(hv:v<n)(cm:List Nat):v∈wk C v cm:=by
 obtain⟨t,e⟩:=jjc d v hv cm
 rw[e];simp
theorem jo7{C:Nat->List Nat}{n:Nat}(d:Dn C n):∀(v:Nat),v<n->∀cm,∀x∈wk C v cm,x∈cm\/x<=v:=by
 intro v
 induction v using Nat.strongRecOn with
 |_ v ih =>
  intro hv cm x hx
  rw[jdj d hv]at hx
  rcases A7.mp hx with h|h
  ·have:∀x∈(C v).foldl (stp C) cm,x∈cm\/x<=v:=by
    refine jda (P:=λl=>∀x∈l,x∈cm\/x<=v) (λx hx=>.inl hx) λp hp l hl _ x hx=>?_
    have hp':=d v hv p hp
    rcases ih p hp' (by omega) l x hx with h|h
    ·exact hl x h
    ·exact .inr (by omega)
   exact this x h
  ·exact .inr (by simp at h;omega)
theorem jib{C:Nat->List Nat}{n:Nat}(d:Dn C n):∀{ps:List Nat}(cm:List Nat),(∀p∈ps,p<n)->∀x,x∈cm\/x∈ps->x∈ps.foldl (stp C) cm
 |[],cm,_,x,h=>by simpa using h
 |p::ps,cm,hp,x,h=>by
  rw[List.foldl_cons]
  refine jib d _ (λq hq=>hp q (.tail _ hq)) x ?_
  have pn:=hp p (.head _)
  have m:∀y,y∈cm\/y=p->y∈stp C cm p:=λy hy=>by
   unfold stp
   split
   ·rcases hy with h|rfl <;> assumption
   ·rcases hy with h|rfl
    ·exact jj8 d pn h
    ·exact jgh d pn cm
  rcases h with h|h
  ·exact .inl (m x (.inl h))
  ·rcases A2.mp h with rfl|h
   ·exact .inl (m x (.inr rfl))
   ·exact .inr h
theorem jgp{C:Nat->List Nat}{n:Nat}(d:Dn C n){p:Nat}:∀{ps rest:List Nat}{cm:List Nat},(∀q∈ps,q<n)->ps.filter (λq=>!decide (q∈cm))=p::rest->ps.foldl (stp C) (wk C p cm)=ps.foldl (stp C) cm
 |[],_,_,_,h=>by simp at h
 |q::ps,rest,cm,hp,h=>by
  rw[Og]at h
  by_cases hq:q∈cm
  ·simp[hq]at h
   have pn:p<n:=hp p (.tail _ (Ol.mp (show p∈ps.filter (λq=>!decide (q∈cm))by rw[show ps.filter (λq=>!decide (q∈cm))=p::rest by simpa using h];exact .head _)).1)
   rw[List.foldl_cons,List.foldl_cons]
   have e1:stp C cm q=cm:=Ag hq
   have e2:stp C (wk C p cm) q=wk C p cm:=Ag (jj8 d pn hq)
   rw[e1,e2]
   exact jgp d (λr hr=>hp r (.tail _ hr)) (by simpa using h)
  ·simp[hq]at h
   obtain⟨rfl,_⟩:=h
   have pn:q<n:=hp q (.head _)
   rw[List.foldl_cons,List.foldl_cons]
   have e1:stp C cm q=wk C q cm:=Ae hq
   have e2:stp C (wk C q cm) q=wk C q cm:=Ag (jgh d pn cm)
   rw[e1,e2]
theorem jd4{C:Nat->List Nat}:∀{ps:List Nat}{cm:List Nat},ps.filter (λq=>!decide (q∈cm))=[]->ps.foldl (stp C) cm=cm
 |[],_,_=>rfl
 |q::ps,cm,h=>by
  rw[Og]at h
  by_cases hq:q∈cm
  ·simp[hq]at h
   rw[List.foldl_cons,show stp C cm q=cm from Ag hq]
   exact jd4 (by simpa using h)
  ·simp[hq]at h
theorem jn3{C:Nat->List Nat}{n:Nat}(d:Dn C n){v p:Nat}{rest cm:List Nat}(hv:v<n)(h:(C v).filter (λq=>!decide (q∈cm))=p::rest):wk C v (wk C p cm)=wk C v cm:=by
 rw[jdj d hv,jdj d hv,jgp d (λq hq=>by have:=d v hv q hq;omega) h]
theorem jn4{C:Nat->List Nat}{n:Nat}(d:Dn C n){v:Nat}{cm:List Nat}(hv:v<n)(h:(C v).filter (λq=>!decide (q∈cm))=[]):wk C v cm=cm++[v]:=by
 rw[jdj d hv,jd4 h]
theorem jos{C C':Nat->List Nat}{n n':Nat}(d:Dn C n)(d':Dn C' n'){g:Nat->Nat}{S:Nat->Prop}(inj:∀x y,S x->S y->g x=g y->x=y)(hS:∀x,S x->x<n/\g x<n'/\C' (g x)=(C x).map g/\∀p∈C x,S p) :
  ∀(v:Nat),S v->∀cm,(∀x∈cm,S x)->wk C' (g v) (cm.map g)=(wk C v cm).map g/\∀x∈wk C v cm,S x:=by
 intro v
 induction v using Nat.strongRecOn with
 |_ v ih =>
  intro sv cm sc
  obtain⟨vn,gn,ce,cs⟩:=hS v sv
  rw[jdj d vn,jdj d' gn,ce]
  have go:∀ps:List Nat,(∀p∈ps,p<v/\S p)->∀cm,(∀x∈cm,S x)->(ps.map g).foldl (stp C') (cm.map g)=(ps.foldl (stp C) cm).map g/\∀x∈ps.foldl (stp C) cm,S x:=by
   intro ps
   induction ps with
   |nil=>intro _ cm sc;exact⟨rfl,sc⟩
   |cons p ps ihp =>
    intro hp cm sc
    obtain⟨h1,h2⟩:=hp p (.head _)
    have st:stp C' (cm.map g) (g p)=(stp C cm p).map g/\∀x∈stp C cm p,S x:=by
     unfold stp
     by_cases hm:p∈cm
     ·rw[Ag hm,Ag (Ia.mpr ⟨p,hm,rfl⟩)]
      exact⟨rfl,sc⟩
     ·rw[Ae hm,Ae (λh=>by
       obtain⟨q,hq,e⟩:=Ia.mp h
       exact hm (inj q p (sc q hq) h2 e▸hq))]
      exact ih p h1 h2 cm sc
    rw[Al,List.foldl_cons,List.foldl_cons,st.1]
    exact ihp (λq hq=>hp q (.tail _ hq)) _ st.2
  obtain⟨e,f⟩:=go (C v) (λp hp=>⟨d v vn p hp,cs p hp⟩) cm sc
  rw[e]
  refine⟨by simp,λx hx=>?_⟩
  rcases A7.mp hx with h|h
  ·exact f x h
  ·simp at h;subst h;exact sv
theorem jbo{l:List Nat}{x:Nat}(h:x∈l):l[l.idxOf x]?=some x:=by
 rw[An (List.idxOf_lt_length_of_mem h),List.getElem_idxOf]
theorem jo0{α:Type}{l:List α}(nd:l.Nodup){i j:Nat}{x:α}(hi:l[i]?=some x)(hj:l[j]?=some x):i=j:=by
 have h1:=(Aa.mp hi).1
 exact(List.getElem?_inj h1 nd).mp (hi.trans hj.symm)
theorem ix_inj{l:List Nat}{x y:Nat}(hx:x∈l)(hy:y∈l)(e:l.idxOf x=l.idxOf y):x=y:=by
 have a:=jbo hx
 rw[e,jbo hy]at a
 exact(Ar a).symm
theorem jac{l m:List Nat}{x:Nat}(h:x∈l):(l++m).idxOf x=l.idxOf x:=by
 rw[List.idxOf_append,Ag h]
def RwA(R:List Row)(h:Nat->Nat)(i:Nat):Row:=wpR h (R.getD i [])
def OkR(R:List Row):Prop:=∀k r,R[k]?=some r->RowOk k r
theorem OkR.d{R:List Row}(ok:OkR R){i:Nat}(hi:i<R.length):RowOk i (R.getD i []):=ok i _ (by rw[Af,An hi];rfl)
structure Hd(R:List Row)(h:Nat->Nat):Prop where
 le:∀i,i<R.length->h i<=i
 same:∀i,i<R.length->RwA R h (h i)=RwA R h i
 first:∀i,i<R.length->∀j,j<h i->RwA R h j≠RwA R h i
theorem Hd.of{R:List Row}{h:Nat->Nat}(H:Hd R h){i j:Nat}(hi:i<R.length)(hj:j<R.length)(e:RwA R h i=RwA R h j):h i=h j:=by
 rcases Nat.lt_trichotomy (h i) (h j)with l|l|l
 ·exact absurd ((H.same i hi).trans e) (H.first j hj _ l)
 ·exact l
 ·exact absurd ((H.same j hj).trans e.symm) (H.first i hi _ l)
theorem Hd.idem{R:List Row}{h:Nat->Nat}(H:Hd R h){i:Nat}(hi:i<R.length):h (h i)=h i:=H.of (by have:=H.le i hi;omega) hi (H.same i hi)
def chd(R:List Row)(h:Nat->Nat)(i:Nat):List Nat:=ptR (RwA R h i)
theorem jh3(R:List Row)(h:Nat->Nat)(i:Nat):chd R h i=(ptR (R.getD i [])).map h:=jec h _
theorem jdm{R:List Row}{h:Nat->Nat}(ok:OkR R)(H:Hd R h):Dn (chd R h) R.length:=λv hv p hp=>by
 rw[jh3]at hp
 obtain⟨q,hq,rfl⟩:=Ia.mp hp
 have h1:=jco (ok.d hv) hq
 have:=H.le q (by omega)
 omega
def own(R:List Row)(i:Nat):List Nat:=ptR (R.getD i [])
def ordR(R:List Row)(h:Nat->Nat):List Nat:=wk (chd R h) (h (R.length-1)) []
def tidR(R:List Row)(h:Nat->Nat):List Row:=(ordR R h).map λv=>wpR (λx=>(ordR R h).idxOf x) (RwA R h v)
def TidP(R F:List Row):Prop:=∃h,Hd R h/\F=tidR R h
section
variable{R:List Row}{h:Nat->Nat}
theorem jgx(g:Nat->Nat)(r:Row):∀i:Int,(Sum.inl i:L2.Key)∈wpR g r->0<=i:=λi hi=>by
 obtain⟨x,_,e⟩:=Ia.mp hi
 cases x with
 |inl j=>simp only[mapR,Sum.inl.injEq]at e;omega
 |inr s=>simp[mapR]at e
end
theorem jeu{g k:Nat->Nat}:∀{r r':Row},wpR g r=wpR g r'->(∀p∈ptR r,∀q∈ptR r',g p=g q->k p=k q)->wpR k r=wpR k r'
 |[],[],_,_=>rfl
 |[],_::_,h,_=>by simp[wpR]at h
 |_::_,[],h,_=>by simp[wpR]at h
 |x::r,y::r',h,hk=>by
  simp only[wpR,Al,Iw]at h⊢
  have ih:wpR k r=wpR k r':=jeu (g:=g) h.2 λp hp q hq=>by
   refine hk p ?_ q ?_
   ·simp only[ptR,List.filterMap_cons]at hp⊢;cases ptK x <;> simp[hp]
   ·simp only[ptR,List.filterMap_cons]at hq⊢;cases ptK y <;> simp[hq]
  refine⟨?_,ih⟩
  cases x with
  |inl i =>
   cases y with
   |inl j =>
    have e:((g i.toNat:Nat):Int)=(g j.toNat:Nat):=Sum.inl.inj h.1
    have:=hk i.toNat (by simp[ptR,ptK]) j.toNat (by simp[ptR,ptK]) (by omega)
    simp only[mapR,this]
   |inr s=>cases h.1
  |inr s =>
   cases y with
   |inl j=>cases h.1
   |inr t=>cases h.1;rfl
structure Hom(R' R:List Row)(φ:Nat->Nat):Prop where
 lt:∀x,x<R'.length->φ x<R.length
 row:∀x,x<R'.length->wpR φ (R'.getD x [])=R.getD (φ x) []
section
variable{R' R:List Row}{φ h' h:Nat->Nat}
theorem Hom.rwa(m:Hom R' R φ){x:Nat}(hx:x<R'.length):RwA R h (φ x)=wpR (λy=>h (φ y)) (R'.getD x []):=by
 unfold RwA;rw[<-m.row x hx,jdg]
theorem Hom.iff(m:Hom R' R φ)(ok':OkR R')(H':Hd R' h')(H:Hd R h):∀n x y,x<n->y<n->x<R'.length->y<R'.length->(h' x=h' y↔h (φ x)=h (φ y)):=by
 intro n
 induction n with
 |zero=>intro x y hx;omega
 |succ n ih =>
  intro x y hx hy lx ly
  have px:∀p∈ptR (R'.getD x []),p<x:=λp hp=>jco (ok'.d lx) hp
  have py:∀p∈ptR (R'.getD y []),p<y:=λp hp=>jco (ok'.d ly) hp
  constructor
  ·intro e
   have e1:RwA R' h' x=RwA R' h' y:=by rw[<-H'.same x lx,<-H'.same y ly,e]
   refine H.of (m.lt x lx) (m.lt y ly) ?_
   rw[m.rwa lx,m.rwa ly]
   exact jeu (g:=h') e1 λp hp q hq e=>(ih p q (by have:=px p hp;omega) (by have:=py q hq;omega) (by have:=px p hp;omega) (by have:=py q hq;omega)).mp e
  ·intro e
   have e1:RwA R h (φ x)=RwA R h (φ y):=by rw[<-H.same _ (m.lt x lx),<-H.same _ (m.lt y ly),e]
   rw[m.rwa lx,m.rwa ly]at e1
   refine H'.of lx ly ?_
   exact jeu (g:=λy=>h (φ y)) e1 λp hp q hq e=>(ih p q (by have:=px p hp;omega) (by have:=py q hq;omega) (by have:=px p hp;omega) (by have:=py q hq;omega)).mpr e
theorem jbv{g:Nat->Nat}{S:Nat->Prop}(inj:∀x y,S x->S y->g x=g y->x=y):∀{l:List Nat}{x:Nat},(∀y∈l,S y)->S x->(l.map g).idxOf (g x)=l.idxOf x
 |[],_,_,_=>rfl
 |y::l,x,hs,sx=>by
  have ih:=jbv inj (l:=l) (λz hz=>hs z (.tail _ hz)) sx
  rw[Al,List.idxOf_cons,List.idxOf_cons,ih]
  by_cases c:y=x
  ·subst c;simp
  ·have c2:g y≠g x:=λe=>c (inj y x (hs y (.head _)) sx e)
   rw[show(y == x)=false by simpa using c,show(g y == g x)=false by simpa using c2]
theorem Hom.tid(m:Hom R' R φ)(ok':OkR R')(ok:OkR R)(H':Hd R' h')(H:Hd R h)(n1:1<=R'.length)(n2:1<=R.length)(la:φ (R'.length-1)=R.length-1):tidR R' h'=tidR R h:=by
 have I:∀x y,x<R'.length->y<R'.length->(h' x=h' y↔h (φ x)=h (φ y)):=λx y lx ly=>m.iff ok' H' H R'.length x y lx ly lx ly
 have back:∀x,x<R'.length->h (φ (h' x))=h (φ x):=λx lx=>by
  have:=H'.le x lx
  exact(I _ _ (by omega) lx).mp (H'.idem lx)
 let S:Nat->Prop:=λx=>x<R'.length/\h' x=x
 have inj:∀x y,S x->S y->h (φ x)=h (φ y)->x=y:=λx y sx sy e=>by
  rw[<-sx.2,<-sy.2];exact(I x y sx.1 sy.1).mpr e
 have row:∀x,x<R'.length->RwA R h (h (φ x))=wpR (λy=>h (φ y)) (RwA R' h' x):=λx lx=>by
  rw[H.same _ (m.lt x lx),m.rwa lx]
  unfold RwA
  rw[jdg]
  exact jcj λp hp=>(back p (by have:=jco (ok'.d lx) hp;omega)).symm
 have hS:∀x,S x->x<R'.length/\h (φ x)<R.length/\chd R h (h (φ x))=(chd R' h' x).map (λy=>h (φ y))/\∀p∈chd R' h' x,S p:=λx sx=>by
  refine⟨sx.1,?_,?_,λp hp=>?_⟩
  ·have:=m.lt x sx.1
   have:=H.le _ this
   omega
  ·unfold chd
   rw[row x sx.1,jec]
  ·rw[jh3]at hp
   obtain⟨q,hq,rfl⟩:=Ia.mp hp
   have ql:=jco (ok'.d sx.1) hq
   have q2:=sx.1
   have:=H'.le q (by omega)
   exact⟨by omega,H'.idem (by omega)⟩
 have l0:R'.length-1<R'.length:=by omega
 have sl:S (h' (R'.length-1)):=⟨by have:=H'.le _ l0;omega,H'.idem l0⟩
 have w:=jos (jdm ok' H') (jdm ok H) (g:=λy=>h (φ y)) inj hS _ sl [] (λx hx=>nomatch hx)
 have e:ordR R h=(ordR R' h').map λy=>h (φ y):=by
  unfold ordR
  rw[<-la,<-back _ l0]
  exact w.1
 unfold tidR
 rw[e,O2]
 refine I0 λx hx=>?_
 have sx:=w.2 x hx
 show _=wpR (λy=>((ordR R' h').map λy=>h (φ y)).idxOf y) (RwA R h (h (φ x)))
 rw[row x sx.1,jdg]
 refine jcj λp hp=>?_
 exact(jbv inj w.2 ((hS x sx).2.2.2 p hp)).symm
end
def layL(R:List Row)(h:Nat->Nat)(cm:List Nat):List Row:=cm.map λv=>wpR (λx=>cm.idxOf x) (RwA R h v)
structure Lay(R:List Row)(h:Nat->Nat)(cm:List Nat):Prop where
 nd:cm.Nodup
 cl:∀x∈cm,∀p∈chd R h x,p∈cm
 lt:∀x∈cm,x<R.length
 hd:∀x∈cm,h x=x
section
variable{R:List Row}{h:Nat->Nat}
theorem Lay.nil:Lay R h []:=⟨List.nodup_nil,nofun,nofun,nofun⟩
theorem Lay.snoc{cm:List Nat}{v:Nat}(L:Lay R h cm)(nv:v∉cm)(vl:v<R.length)(hv:h v=v)(ch:∀p∈chd R h v,p∈cm):Lay R h (cm++[v]):=by
 refine⟨?_,λx hx p hp=>?_,λx hx=>?_,λx hx=>?_⟩
 ·rw[O0]
  exact⟨L.nd,by simp,λx hx y hy e=>nv ((e.trans (Am.mp hy))▸hx)⟩
 ·rcases A7.mp hx with hx|hx
  ·exact A9 _ (L.cl x hx p hp)
  ·cases Am.mp hx;exact A9 _ (ch p hp)
 ·rcases A7.mp hx with hx|hx
  ·exact L.lt x hx
  ·cases Am.mp hx;exact vl
 ·rcases A7.mp hx with hx|hx
  ·exact L.hd x hx
  ·cases Am.mp hx;exact hv
theorem jlf{cm:List Nat}{v:Nat}(L:Lay R h cm)(ch:∀p∈chd R h v,p∈cm):layL R h (cm++[v])=layL R h cm++[wpR (λx=>cm.idxOf x) (RwA R h v)]:=by
 unfold layL
 rw[Ip]
 congr 1
 ·exact I0 λx hx=>jcj λp hp=>jac (L.cl x hx p hp)
 ·rw[Al,Oj]
  exact Iy (·::[]) (jcj λp hp=>jac (ch p hp))
theorem ix_injm{l:List Nat}{x y:Nat}(hx:x∈l)(hy:y∈l)(e:l.idxOf x=l.idxOf y):x=y:=ix_inj hx hy e
theorem jju{cm:List Nat}(L:Lay R h cm)(H:Hd R h){u v:Nat}(vl:v<R.length)(hv:h v=v)(ch:∀p∈chd R h v,p∈cm)(um:u∈cm)(e:wpR (λx=>cm.idxOf x) (RwA R h u)=wpR (λx=>cm.idxOf x) (RwA R h v)):u=v:=by
 have e2:RwA R h u=RwA R h v:=by
  have:=jeu (k:=λx=>x) e λp hp q hq e=>ix_injm (L.cl u um p hp) (ch q hq) e
  have id:∀{r:Row}(x:Nat),r=RwA R h x->wpR (λx=>x) r=r:=fun{r} x er=>by
   subst er
   unfold RwA
   rw[jdg]
  rw[id u rfl,id v rfl]at this
  exact this
 rw[<-L.hd u um,<-hv]
 exact H.of (L.lt u um) vl e2
theorem jni{cm:List Nat}(L:Lay R h cm)(H:Hd R h):(layL R h cm).Nodup:=by
 unfold layL
 refine List.pairwise_map.mpr (L.nd.imp_of_mem fun{x y} hx hy n e=>n ?_)
 exact jju L H (L.lt y hy) (L.hd y hy) (L.cl y hy) hx e
theorem jma{cm:List Nat}(L:Lay R h cm)(H:Hd R h){v:Nat}(vl:v<R.length)(hv:h v=v)(ch:∀p∈chd R h v,p∈cm):wpR (λx=>cm.idxOf x) (RwA R h v)∈layL R h cm↔v∈cm:=by
 refine⟨λm=>?_,λm=>Ia.mpr ⟨v,m,rfl⟩⟩
 obtain⟨u,um,e⟩:=Ia.mp m
 exact jju L H vl hv ch um e▸um
theorem jnh{cm:List Nat}{v:Nat}(m:v∈cm):(layL R h cm)[cm.idxOf v]?=some (wpR (λx=>cm.idxOf x) (RwA R h v)):=by
 unfold layL
 rw[Aq,jbo m];rfl
theorem jok(ok:OkR R)(H:Hd R h):∀(v:Nat),v<R.length->h v=v->∀cm,Lay R h cm->v∉cm->Lay R h (wk (chd R h) v cm)/\(chd R h v).foldl (stp (chd R h)) cm++[v]=wk (chd R h) v cm/\Lay R h ((chd R h v).foldl (stp (chd R h)) cm)/\v∉(chd R h v).foldl (stp (chd R h)) cm/\∀p∈chd R h v,p∈(chd R h v).foldl (stp (chd R h)) cm:=by
 have d:=jdm ok H
 intro v
 induction v using Nat.strongRecOn with
 |_ v ih =>
  intro vl hv cm L nv
  have hp:∀p∈chd R h v,p<v/\h p=p:=λp hp=>by
   refine⟨d v vl p hp,?_⟩
   rw[jh3]at hp
   obtain⟨q,hq,rfl⟩:=Ia.mp hp
   exact H.idem (by have:=jco (ok.d vl) hq;omega)
  have L1:Lay R h ((chd R h v).foldl (stp (chd R h)) cm):=jda (P:=Lay R h) L λp hp' cm L n=>(ih p (hp p hp').1 (by have:=(hp p hp').1;omega) (hp p hp').2 cm L n).1
  have n1:v∉(chd R h v).foldl (stp (chd R h)) cm:=jda (P:=λcm=>v∉cm) nv λp hp' cm n _ m=>by
   rcases jo7 d p (by have:=(hp p hp').1;omega) cm v m with m|m
   ·exact n m
   ·have:=(hp p hp').1;omega
  have c1:∀p∈chd R h v,p∈(chd R h v).foldl (stp (chd R h)) cm:=λp hp'=>jib d cm (λq hq=>by have:=(hp q hq).1;omega) p (.inr hp')
  have e:=jdj d vl cm
  exact⟨by rw[e];exact L1.snoc n1 vl hv c1,e.symm,L1,n1,c1⟩
theorem jnk(ok:OkR R)(H:Hd R h){i:Nat}(il:i<R.length){cm:List Nat}(L:Lay R h cm) :
  Lay R h (stp (chd R h) cm (h i))/\Lay R h ((chd R h (h i)).foldl (stp (chd R h)) cm)/\(∀p∈chd R h (h i),p∈(chd R h (h i)).foldl (stp (chd R h)) cm) /\
  stp (chd R h) cm (h i)=(if h i∈(chd R h (h i)).foldl (stp (chd R h)) cm then(chd R h (h i)).foldl (stp (chd R h)) cm else(chd R h (h i)).foldl (stp (chd R h)) cm++[h i]):=by
 have vl:h i<R.length:=by have:=H.le i il;omega
 have hv:=H.idem il
 by_cases c:h i∈cm
 ·have e:(chd R h (h i)).foldl (stp (chd R h)) cm=cm:=jd4 (Um.mpr λp hp=>by simp[L.cl _ c p hp])
  have es:stp (chd R h) cm (h i)=cm:=Ag c
  rw[e,es,Ag c]
  exact⟨L,L,L.cl _ c,rfl⟩
 ·obtain⟨q1,q2,q3,q4,q5⟩:=jok ok H (h i) vl hv cm L c
  have es:stp (chd R h) cm (h i)=wk (chd R h) (h i) cm:=Ae c
  rw[es,Ae q4]
  exact⟨q1,q3,q5,q2.symm⟩
theorem jlz(H:Hd R h){i:Nat}(il:i<R.length):chd R h (h i)=(own R i).map h:=by
 unfold chd own
 rw[H.same i il]
 exact jec h _
theorem jnl(ok:OkR R)(H:Hd R h)(n1:1<=R.length):layL R h (stp (chd R h) [] (h (R.length-1)))=tidR R h:=by
 rw[show stp (chd R h) [] (h (R.length-1))=ordR R h from Ae (by simp)]
 rfl
end
local macro_rules
 | `(tactic| simp!)=>`(tactic| simp only [tSeq,tIfS,jhz,tOp,tVar,tC,tAsg,jck,gSub,tRet,jhx,jhu,jhv,tAnd,tOr,tNot,jhq,tOrV,tB,tIf,jfy,jhs,rI0,rI,jed,jdi,jg4,jg5,jir,jis,jip,jiq,jio,jdx,jg1,jc5,jg2,jg0,jin,jfr,jfq,jg6,jcg,jij,jjv,jil,jik,jit,jjy,jiu,je8,jjx,jg7,jjp,jgv,jhe,jha,jhb,Option.isSome_some,tBML,jhr,tCB,jht,tNil,tLst,tTup,tSl,jhy,jer,jiw,iAny,jhj,jfj,je0,jg3,jen,jhp,jj4,jem,jc8,jcz,tUn,rU,tTru,jdf,jjz,jix,jdy,tBMS,jjq,jim,tBM0,tBM,jj6,jgy,jgz,Option.bind_some,Option.bind_none,Option.getD_some,L2.start,Al,Oj,List.length_cons,List.length_nil,List.cons_append,List.nil_append,Im,Iw,List.replicate,List.getElem?_cons_zero,List.getElem?_cons_succ,List.set_cons_zero,List.set_cons_succ,Nat.reduceSub,Nat.reduceAdd,Nat.reduceLeDiff,Option.some.injEq,V.int.injEq,V.bl.injEq,V.str.injEq,V.ref.injEq,HO.lst.injEq,HO.tup.injEq,exists_eq_left',exists_eq_left,exists_and_left,true_and,and_true,je,jc9,jkc,jkd,jmp,Bool.not_true,Bool.not_false,decide_eq_true_eq,Iq,Oe,Of,reduceIte,reduceCtorEq,tLam,jf1,jfz,jf0,tTru,jdf,jeq,jhw,rAdd])
 | `(tactic| simp! [$ls,*])=>`(tactic| simp only [tSeq,tIfS,jhz,tOp,tVar,tC,tAsg,jck,gSub,tRet,jhx,jhu,jhv,tAnd,tOr,tNot,jhq,tOrV,tB,tIf,jfy,jhs,rI0,rI,jed,jdi,jg4,jg5,jir,jis,jip,jiq,jio,jdx,jg1,jc5,jg2,jg0,jin,jfr,jfq,jg6,jcg,jij,jjv,jil,jik,jit,jjy,jiu,je8,jjx,jg7,jjp,jgv,jhe,jha,jhb,Option.isSome_some,tBML,jhr,tCB,jht,tNil,tLst,tTup,tSl,jhy,jer,jiw,iAny,jhj,jfj,je0,jg3,jen,jhp,jj4,jem,jc8,jcz,tUn,rU,tTru,jdf,jjz,jix,jdy,tBMS,jjq,jim,tBM0,tBM,jj6,jgy,jgz,Option.bind_some,Option.bind_none,Option.getD_some,L2.start,Al,Oj,List.length_cons,List.length_nil,List.cons_append,List.nil_append,Im,Iw,List.replicate,List.getElem?_cons_zero,List.getElem?_cons_succ,List.set_cons_zero,List.set_cons_succ,Nat.reduceSub,Nat.reduceAdd,Nat.reduceLeDiff,Option.some.injEq,V.int.injEq,V.bl.injEq,V.str.injEq,V.ref.injEq,HO.lst.injEq,HO.tup.injEq,exists_eq_left',exists_eq_left,exists_and_left,true_and,and_true,je,jc9,jkc,jkd,jmp,Bool.not_true,Bool.not_false,decide_eq_true_eq,Iq,Oe,Of,reduceIte,reduceCtorEq,tLam,jf1,jfz,jf0,tTru,jdf,jeq,jhw,rAdd,$ls,*])
def jdv(st:Stmt)(n:Nat):Stmt:=match st with
 |.ClassDef _ _ _ body _ _ _ _ _ _ _=>body.getD n (.Pass ⟨0,0,0,0⟩)
 |s=>s
def top(i:Nat):Stmt:=PySem.Challenge.pw_calmword_k43_sayings_read.main.body.getD i (.Pass ⟨0,0,0,0⟩)
def BoxO(o:HO):Prop:=∃c s,o=.lst [.int c,.int s]/\1<=s/\s<=2147483629
def jcw:Sp:=λvs H Q _=>∃b w o,vs=[.ref b,.int w]/\H b=some o/\BoxO o/\0<w/\w<1073741824/\∀d o,0<=d->d<w->BoxO o->Q (.int d) (upd H b o)
def jm1(K:PySem.W.Frag):Sp:=λvs H Q _=>∃(a:Addr)(k:Int)(ns:List Int),vs=[.ref a,.int k]/\SqL K H a (ns.map V.int)/\0<=k/\k<=1000/\∀b o,H b=none->BoxO o->Q (.ref b) (upd H b o)
section
variable{P:Program}{w:World}{K:PySem.W.Frag}{mg:Str->Option Value}{base:Heap}
abbrev ki:Stmt:=top 19
theorem jaj:FnScope ["_law_box_here","_law_wide","_law_digit","_law_one"] ["_law_box_here","_law_wide"] (jk ki):=⟨rfl,rfl,rfl,by decide +kernel,rfl,by decide +kernel,by decide +kernel⟩
theorem ok__law_take{f:Addr}{fd:FuncData}(F:Fun K "_law_take" "_law_take" ki f fd):FnOk P w K mg base CX0 1 f fd ["_law_box_here","_law_wide"] jcw:=by
 refine F.ok jaj (λvs H Q E h=>?_) (λcdv A outer s H vs Q E hr h=>?_)
 ·obtain⟨b,w,o,rfl,_⟩:=h
  rfl
 ·obtain⟨b,w,o,rfl,hb,⟨c,sd,rfl,s1,s2⟩,w0,w1,k⟩:=h
  refine⟨_,(QSs.h (jh (j7 (jt jbz (jq ix_U (qpv 0) jg (λ_ _=>rfl)) jg (j5 _)) (jh (jn (i:=2) jaj.nd rfl (by first|exact Or.inl rfl|exact Or.inr rfl) (jp zx (jq ix_U (qpv 0) jg (λ_ _=>rfl)) (qpv 1)))
  (jh (jbb (jp jbw (jq ix_U (qpv 0) jg (λ_ _=>rfl)) (qpv 1)) (jba (qpv 0) jg jkt))
  (ji (jy (qpv 2))))) kh)
  (jh (jn (i:=3) jaj.nd rfl (by first|exact Or.inl rfl|exact Or.inr rfl) (jp zx (jp zt (jq ix_U (qpv 0) jg (λ_ _=>rfl)) jg) jg))
  (jh (jbb (jp jz (jp zx (jp jz (jp zt (qpv 3) jg) jg) jg) jg) (jba (qpv 0) jg jkt))
  (ji (jy (jp zx (jp jbw (jp jz (jp zt (qpv 3) jg) (jq ix_U (qpv 0) jg (λ_ _=>rfl))) jg) (qpv 1)))))))),?_⟩
  have m1:∀z m:Int,0<m->0<=z%m/\z%m<m:=λz m h=>⟨Int.emod_nonneg z (by omega),We z h⟩
  simp! [hb]
  refine ite2 (λhc=>?_) (λ_=>?_)
  ·refine⟨w0,⟨w0,w1⟩,0,rfl,?_⟩
   simp! [hb]
   exact k _ _ (m1 c w w0).1 (m1 c w w0).2 ⟨_,_,rfl,s1,s2⟩
  ·have q1:=m1 (sd*69623) 2147483647 (by decide)
   refine⟨.inl ⟨by omega,by omega⟩,by decide,.inl ⟨by omega,by omega⟩,by decide,1,rfl,?_⟩
   simp! [hb]
   have q2:=m1 (sd*69623%2147483647*48271+30103) 2147483629 (by decide)
   refine⟨.inl ⟨by omega,by omega⟩,⟨by decide,by decide⟩,w0,?_⟩
   exact k _ _ (m1 _ w w0).1 (m1 _ w w0).2 ⟨_,_,rfl,by omega,by omega⟩
structure TBox(mg:Str->Option Value):Prop where
 n_len:mg "len"=none
 n_int:mg "int"=none
abbrev zg:Stmt:=top 18
theorem zy:FnScope ["_law_script","_law_k","_law_cell","_law_seed"] ["_law_script","_law_k"] (jk zg):=⟨rfl,rfl,rfl,by decide +kernel,rfl,by decide +kernel,by decide +kernel⟩
theorem ok__law_box{f:Addr}{fd:FuncData}(F:Fun K "_law_box" "_law_box" zg f fd)(T:TBox mg):FnOk P w K mg base CX0 1 f fd ["_law_script","_law_k"] (jm1 K):=by
 refine F.ok zy (λvs H Q E h=>?_) (λcdv A outer s H vs Q E hr h=>?_)
 ·obtain⟨a,k,ns,rfl,_⟩:=h
  rfl
 ·obtain⟨a,k,ns,rfl,hS,k0,k1,kk⟩:=h
  refine⟨_,(QSs.h (jh (jn (i:=2) zy.nd rfl (by first|exact Or.inl rfl|exact Or.inr rfl) (jp jz (jp zt jg (qpv 1)) jg))
  (jh (j7 (jt jaf (qpv 1) (jv zb (by rfl) T.n_len yd (jc (qpv 0) jd)) (j5 _)) (ji (jn (i:=2) zy.nd rfl (by first|exact Or.inl rfl|exact Or.inr rfl) (jq ja4 (qpv 0) (qpv 1) (λ_ _=>rfl)))) (ji (j7 (jt jbz (jv zb (by rfl) T.n_len yd (jc (qpv 0) jd)) jg (j5 _)) (ji (jn (i:=2) zy.nd rfl (by first|exact Or.inl rfl|exact Or.inr rfl) (jp jz (qpv 2) (jp zt (jp zx (jq ja4 (qpv 0) (jp zx (qpv 1) (jv zb (by rfl) T.n_len yd (jc (qpv 0) jd))) (λ_ _=>rfl)) jg) jg)))) kh)))
  (jh (jn (i:=3) zy.nd rfl (by first|exact Or.inl rfl|exact Or.inr rfl) (jp jz (jp zx (jp jz (jp zt (jp zx (qpv 2) jg) jg) (jp zt jg (qpv 1))) jg) jg))
  (ji (jy (j8 (jc (jp zt (qpv 2) (yg jbe (by rfl) T.n_int ja0 (jc (zr op_ge (qpv 2) (jp op_pow jg jg) (j5 _)) jd))) (jc (qpv 3) jd))))))))),?_⟩
  have m1:∀z m:Int,0<m->0<=z%m/\z%m<m:=λz m h=>⟨Int.emod_nonneg z (by omega),We z h⟩
  have tail:∀cell:Int,(0:Int)<2147483629/\CMul (cell%2147483629) 48271/\CMul 40692 k/\(0:Int)<2147483629/\CPow 10 18/\CMul cell (if(10:Int)^(18:Int).toNat<=cell then 1 else 0)/\2<=sizeLine /\
    ∀p,H p=none->Q (.ref p) (upd H p (.lst [.int (cell*(if(10:Int)^(18:Int).toNat<=cell then 1 else 0)),.int ((cell%2147483629*48271+40692*k)%2147483629+1)])):=by
   intro cell
   have q1:=m1 cell 2147483629 (by decide)
   have q2:=m1 (cell%2147483629*48271+40692*k) 2147483629 (by decide)
   refine⟨by decide,.inl ⟨by omega,by omega⟩,.inl ⟨by decide,by decide⟩,by decide,⟨by decide,by decide,by decide⟩,.inr ?_,by decide,λp hp=>kk p _ hp ⟨_,_,rfl,by omega,by omega⟩⟩
   split <;> constructor <;> decide
  simp!
  refine⟨.inl ⟨by decide,by decide⟩,ns.map V.int,.inl hS,?_⟩
  rw[Ab]
  refine ite2 (λh=>?_) (λh=>?_)
  ·obtain⟨z,hz⟩:∃z,ns[k.toNat]?=some z:=⟨ns[k.toNat]'(by omega),by simp⟩
   refine⟨a,_,k,.int z,rfl,rfl,hS,jb7 k0 (by rw[Aq,hz];rfl),?_⟩
   simp!
   exact tail z
  ·refine⟨ns.map V.int,.inl hS,?_⟩
   rw[Ab]
   refine ite2 (λh2=>?_) (λh2=>?_)
   ·refine⟨ns.map V.int,.inl hS,?_⟩
    rw[Ab]
    have q:=m1 k (ns.length:Int) (by omega)
    obtain⟨z,hz⟩:∃z,ns[(k%(ns.length:Int)).toNat]?=some z:=⟨ns[(k%(ns.length:Int)).toNat]'(by omega),by simp⟩
    refine⟨by omega,a,_,_,.int z,rfl,rfl,hS,jb7 q.1 (by rw[Aq,hz];rfl),?_⟩
    simp!
    have q3:=m1 z 2147483629 (by decide)
    refine⟨by decide,.inl ⟨by omega,by omega⟩,?_⟩
    exact tail _
   ·exact tail _
end
structure Letters(z:Str)(m:Nat):Prop where
 lo:1<=z.length
 hi:z.length<=m
 az:∀c∈z.cps.toList,97<=c/\c<=122
 nd:z.cps.toList.Nodup
def chV(c:Nat):V:=.str ⟨#[c]⟩
def jhd:Sp:=λvs H Q _=>∃(b:Addr)(m:Nat)(o:HO),vs=[.ref b,.int (m:Int)]/\H b=some o/\BoxO o/\1<=m/\m<=4/\∀z o' H',Letters z m->BoxO o'->H' b=some o'->Kp [b] H H'->Q (.str z) H'
theorem jff{α:Type}:∀(l:List α)(i:Nat)(x:α),l[i]?=some x->(x::l.eraseIdx i).Perm l
 |[],i,x,h=>by simp at h
 |a::l,0,x,h=>by simp at h;subst h;exact List.Perm.refl _
 |a::l,i+1,x,h=>by
  rw[List.eraseIdx_cons_succ]
  exact(List.Perm.swap _ _ _).trans ((jff l i x (by simpa using h)).cons a)
theorem jgw{α β:Type}(f:α->β):∀(l:List α)(i:Nat),(l.map f).eraseIdx i=(l.eraseIdx i).map f
 |[],_=>rfl
 |_::_,0=>rfl
 |a::l,i+1=>by rw[Al,List.eraseIdx_cons_succ,List.eraseIdx_cons_succ,Al,jgw f l i]
theorem jm5:sgn (Str.ofString "abcdefghijklmnopqrstuvwxyz")=((List.range 26).map (97+·)).map chV:=by decide +kernel
structure TLetters(mg:Str->Option Value)(ft:Addr):Prop where
 n_len:mg "len"=none
 n_list:mg "list"=none
 n_range:mg "range"=none
 m1z:mg "_law_take"=some (.ref ft)
section
variable{P:Program}{w:World}{K:PySem.W.Frag}{mg:Str->Option Value}{base:Heap}
abbrev yj:Stmt:=top 20
theorem y6:FnScope ["_law_box_here","_law_most","_law_pool","_law_found","_law_k"] ["_law_box_here","_law_most"] (jk yj):=⟨rfl,rfl,rfl,by decide +kernel,rfl,by decide +kernel,by decide +kernel⟩
theorem ok__law_letters{f ft:Addr}{fd fdt:FuncData}(F:Fun K "_law_letters" "_law_letters" yj f fd)(T:TLetters mg ft)(F1z:Fun K "_law_take" "_law_take" ki ft fdt)(b1z:Binds K fdt ["_law_box_here","_law_wide"] [])
  (G1z:FnOk P w K mg base CX0 1 ft fdt ["_law_box_here","_law_wide"] jcw):FnOk P w K mg base CX0 2 f fd ["_law_box_here","_law_most"] jhd:=by
 refine F.ok y6 (λvs H Q E h=>?_) (λcdv A outer s H vs Q E hr h=>?_)
 ·obtain⟨b,m,o,rfl,_⟩:=h
  rfl
 ·obtain⟨b,m,o,rfl,hb,ho,m1,m4,k⟩:=h
  refine⟨_,(QSs.h (jh (jn (i:=2) y6.nd rfl (by first|exact Or.inl rfl|exact Or.inr rfl) (yg (jad rfl) (by rfl) T.n_list jat (jc jm jd)))
  (jh (jn (i:=3) y6.nd rfl (by first|exact Or.inl rfl|exact Or.inr rfl) jm)
  (jh (zc Ii rfl (zf rfl T.n_range (jc (jp jz jg (jo G1z (hr.mono (by decide)) rfl T.m1z F1z.kp b1z .nil jr (jc (qpv 0) (jc (qpv 1) jd)))) jd)) (kg (i:=4) y6.nd rfl (by first|exact Or.inl rfl|exact Or.inr rfl)) (ji (jn (i:=3) y6.nd rfl (by first|exact Or.inl rfl|exact Or.inr rfl) (jp jz (qpv 3) (ky Uw Ux mt_popU (qpv 2) (jc (jo G1z (hr.mono (by decide)) rfl T.m1z F1z.kp b1z .nil jr (jc (qpv 0) (jc (jv kj (by rfl) T.n_len yd (jc (qpv 2) jd)) jd))) jd) jca)))))
  (ji (jy (qpv 3))))))),?_⟩
  simp!
  refine⟨by decide,λp hp=>?_⟩
  have npb:b≠p:=jj hb hp
  obtain⟨c0,s0,rfl,_,_⟩:=id ho
  refine⟨b,(m:Int),_,rfl,by rw[jf npb];exact hb,ho,by omega,by omega,λd o1 d0 d1 ho1=>?_⟩
  simp!
  obtain⟨n,rfl⟩:∃n:Nat,d=(n:Int):=⟨d.toNat,by omega⟩
  have en:(1+(n:Int)).toNat=n+1:=by omega
  refine⟨by omega,by omega,?_⟩
  rw[en]
  refine jcn (λi σ H'=>∃l R o' v,σ=[some (.ref b),some (.int (m:Int)),some (.ref p),some (.str (toS l)),v]/\H' b=some o'/\BoxO o'/\H' p=some (.lst (R.map chV))/\Kp [b] H H'/\l.length=i/\R.length+i=26 /\
   (l++R).Nodup/\∀c∈l++R,97<=c/\c<=122) ?_ ?_ ?_
  ·refine⟨[],(List.range 26).map (97+·),o1,none,rfl,je,ho1,?_,?_,rfl,by simp,?_,?_⟩
   ·rw[jf npb.symm,je,jm5]
   ·exact((Kp.refl [b] H).new hp).set (by rw[jf npb];exact hb) (.inl (by simp))
   ·decide
   ·decide
  ·rintro i σ H' hi ⟨l,R,o',v,rfl,hb',ho',hp',kp,hl,hR,nd,az⟩
   simp! [hp']
   obtain⟨c1,s1,rfl,_,_⟩:=id ho'
   refine⟨b,_,_,rfl,hb',ho',by rw[Ab];omega,by rw[Ab];omega,λd o2 d0 d1 ho2=>?_⟩
   rw[Ab]at d1
   have hp2:upd H' b o2 p=some (.lst (R.map chV)):=by rw[jf npb.symm];exact hp'
   simp! [hp2]
   obtain⟨c,hc⟩:∃c,R[d.toNat]?=some c:=⟨R[d.toNat]'(by omega),by simp⟩
   have hc':(R.map chV)[d.toNat]?=some (.str ⟨#[c]⟩):=by rw[Aq,hc];rfl
   refine⟨d0,_,hc',?_⟩
   simp!
   have pm:=jff R d.toNat c hc
   have e1:((l++[c])++R.eraseIdx d.toNat).Perm (l++R):=by
    rw[Ic]
    exact pm.append_left l
   have hlen:(R.eraseIdx d.toNat).length+1=R.length:=by
    have:=pm.length_eq
    simpa using this
   refine⟨?_,l++[c],R.eraseIdx d.toNat,o2,_,⟨jn1 l c,rfl⟩,by rw[jf npb,je],ho2,jgw chV R _,?_,by simp[hl],by omega,?_,?_⟩
   ·rw[jgf]
    show l.length+1<=sizeLine
    have:sizeLine=16777216:=Ao
    omega
   ·exact(kp.set hb' (.inl (.head _))).set hp2 (.inr hp)
   ·exact e1.nodup_iff.mpr nd
   ·exact λx hx=>az x (e1.mem_iff.mp hx)
  ·rintro σ H' ⟨l,R,o',v,rfl,hb',ho',hp',kp,hl,hR,nd,az⟩
   simp! [hp']
   exact k (toS l) o' H' ⟨by rw[jgf];omega,by rw[jgf];omega,λc hc=>az c (A9 _ (by simpa[toS]using hc)),by simpa[toS]using(O0.mp nd).1⟩ ho' hb' kp
end
theorem jmm{H:Hp}{a b:Addr}{x y:HO}(h:a≠b):upd (upd H a x) b y=upd (upd H b y) a x:=by
 funext c
 by_cases h1:c=a
 ·subst h1;rw[jf h,je,je]
 ·by_cases h2:c=b
  ·subst h2;rw[je,jf h1,je]
  ·rw[jf h2,jf h1,jf h1,jf h2]
theorem jl0{lo:Int}{n:Nat}{D b:Addr}{te:TE}{E:Ends}{r:L2.St}{H:Hp}{o0:HO}(P:V->Prop)(hb:H b=some o0)(ho0:BoxO o0)(hD:H D=none)(hz:n<=sizeLine)
  (he:∀x H' o Q,H' b=some o->BoxO o->(∀v o',P v->BoxO o'->Q v (upd H' b o'))->te (some x::r) H' Q)
  (hn:∀v xs o',xs.length=n->(∀x∈xs,P x)->BoxO o'->E.nx (v::r) (upd (upd H b o') D (.lst xs))):jcm (Itr lo n) (jck 0) (jeo D te) E (none::r) (upd H D (.lst [])):=by
 have nbD:b≠D:=jj hb hD
 refine jcn (λi σ H'=>∃(v:Option V)(xs:List V)(o':HO),σ=v::r/\xs.length=i/\(∀x∈xs,P x)/\BoxO o'/\H'=upd (upd H b o') D (.lst xs)) ?_ ?_ ?_
 ·refine⟨none,[],o0,rfl,rfl,(λx h=>nomatch h),ho0,?_⟩
  have:upd H b o0=H:=by
   funext c
   by_cases h:c=b
   ·subst h;rw[je,hb]
   ·rw[jf h]
  rw[this]
 ·rintro i σ H' hi ⟨v,xs,o',rfl,hl,hP,ho',rfl⟩
  refine he _ _ o' _ (by rw[jf nbD,je]) ho' λy o2 hy ho2=>?_
  have e:upd (upd (upd H b o') D (.lst xs)) b o2=upd (upd H b o2) D (.lst xs):=by rw[jmm nbD.symm,jc9]
  refine⟨xs,by rw[e,je];rfl,by omega,_,xs++[y],o2,rfl,by simp[hl],λx hx=>?_,ho2,by rw[e,jc9]⟩
  rcases A7.mp hx with h|h
  ·exact hP x h
  ·simp at h;subst h;exact hy
 ·rintro σ H' ⟨v,xs,o',rfl,hl,hP,ho',rfl⟩
  exact hn v xs o' hl hP ho'
theorem _root_.L2.Kp.seq{S:List Addr}{K:PySem.W.Frag}{H H':Hp}{a:Addr}{xs:List V}(e:Kp S H H')(n:a∉S)(h:SqL K H a xs):SqL K H' a xs:=by
 rcases h with(h|⟨o,h⟩)|h
 ·exact .inl (.inl (e.old _ _ h n))
 ·exact .inl (.inr ⟨o,e.old _ _ h n⟩)
 ·exact .inr h
theorem exQ{X:Cx}{ss:List Stmt}{t:TS}{R:TS->Prop}(q:QSs X ss t)(h:R t):∃t,PSs X ss t/\R t:=⟨t,q.h,h⟩
theorem _root_.L2.Kp.sqT{S:List Addr}{K:PySem.W.Frag}{H H':Hp}{a:Addr}{xs:List V}(e:Kp S H H')(n:a∉S)(h:SqT K H a xs):SqT K H' a xs:=by
 rcases h with(h|⟨o,h⟩)|h
 ·exact .inl (.inl (e.old _ _ h n))
 ·exact .inl (.inr ⟨o,e.old _ _ h n⟩)
 ·exact .inr h
def nV(n:Nat):V:=.int (n:Int)
def RowsT(H:Hp)(us:List V)(R:List Row):Prop:=Paired (λv r=>∃a,v=.ref a/\H a=some (.tup (r.map kV))) us R
theorem RowsT.kp{S:List Addr}{H H':Hp}{us:List V}{R:List Row}(k:Kp S H H')(h:RowsT H us R):RowsT H' us R:=Paired.mapP h λ_ _ ⟨a,e,h⟩=>⟨a,e,k.tup _ _ h⟩
theorem RowsT.get{H:Hp}{us:List V}{R:List Row}(h:RowsT H us R){i:Nat}(hi:i<R.length):∃a,us[i]?=some (.ref a)/\H a=some (.tup ((R.getD i []).map kV)):=by
 induction h generalizing i with
 |nil=>simp at hi
 |cons h _ ih =>
  cases i with
  |zero=>obtain⟨a,e,g⟩:=h;exact⟨a,by simp[e],by simpa using g⟩
  |succ i=>obtain⟨a,e,g⟩:=ih (by simpa using hi);exact⟨a,by simpa using e,by simpa using g⟩
def NN0(r:Row):Prop:=∀i:Int,(Sum.inl i:L2.Key)∈r->0<=i
theorem RowOk.nn{k:Nat}{r:Row}(h:RowOk k r):NN0 r:=λi hi=>(h i hi).1
def isI:V->Bool
 |.int _=>true
 |_=>false
theorem ja6:∀{r:Row},NN0 r->(r.map kV).filter isI=(ptR r).map nV
 |[],_=>rfl
 |.inl i::r,h=>by
  have ih:=ja6 (r:=r) λj hj=>h j (.tail _ hj)
  have h0:=h i (.head _)
  have e:kV (.inl i)=nV i.toNat:=by show V.int i=V.int _;congr 1;omega
  simp only[Al,ptR,List.filterMap_cons,ptK]at ih⊢
  rw[Og,Ag (show isI (kV (.inl i))=true from rfl),ih,e]
 |.inr s::r,h=>by
  have ih:=ja6 (r:=r) λj hj=>h j (.tail _ hj)
  simp only[Al,ptR,List.filterMap_cons,ptK]at ih⊢
  rw[Og,Ae (show ¬isI (kV (.inr s))=true from λz=>nomatch z),ih]
theorem jki{r:Row}{x:V}(h:x∈r.map kV):(∃z,x=.str z/\(Sum.inr z:L2.Key)∈r)\/∃i,x=.int i/\(Sum.inl i:L2.Key)∈r:=by
 obtain⟨k,hk,rfl⟩:=Ia.mp h
 cases k with
 |inl i=>exact .inr ⟨i,rfl,hk⟩
 |inr z=>exact .inl ⟨z,rfl,hk⟩
structure TPa(K:PySem.W.Frag)(mg:Str->Option Value):Prop where
 n_isinstance:mg "isinstance"=none
 n_int:mg "int"=none
 n_str:mg "str"=none
 n_tuple:mg "tuple"=none
 n_bool:mg "bool"=none
 ii:PySem.W.kitOne K (.type "int") (.type "int")=some true
 si:PySem.W.kitOne K (.type "str") (.type "int")=some false
 ss:PySem.W.kitOne K (.type "str") (.type "str")=some true
 is:PySem.W.kitOne K (.type "int") (.type "str")=some false
 ib:PySem.W.kitOne K (.type "int") (.type "bool")=some false
 tt:PySem.W.kitOne K (.type "tuple") (.type "tuple")=some true
def jj1:Sp:=λvs H Q _=>∃(a:Addr)(r:Row),vs=[.ref a]/\H a=some (.tup (r.map kV))/\NN0 r/\r.length<=100/\∀p,H p=none->Q (.ref p) (upd H p (.lst ((ptR r).map nV)))
def Num(H:Hp)(n:Addr)(g:Nat->Nat)(ps:List Nat):Prop:=(∃hs:List Nat,H n=some (.lst (hs.map nV))/\∀p∈ps,hs[p]?=some (g p))\/∃kvs,H n=some (.dK kvs)/\∀p∈ps,valV kvs (.inl (p:Int))=some (nV (g p))
def spWP:Sp:=λvs H Q _=>∃(a n:Addr)(r:Row)(g:Nat->Nat),vs=[.ref a,.ref n]/\H a=some (.tup (r.map kV))/\NN0 r/\r.length<=100/\Num H n g (ptR r)/\∀q H',H q=none->H' q=some (.tup ((wpR g r).map kV))->Kp [] H H'->Q (.ref q) H'
section
variable{P:Program}{w:World}{K:PySem.W.Frag}{mg:Str->Option Value}{base:Heap}
abbrev y3:Stmt:=top 4
theorem sc_parts_of:FnScope ["row"] ["row"] (jk y3):=⟨rfl,rfl,rfl,by decide +kernel,rfl,by decide +kernel,by decide +kernel⟩
theorem ok_parts_of{f:Addr}{fd:FuncData}(F:Fun K "parts_of" "parts_of" y3 f fd)(T:TPa K mg):FnOk P w K mg base CX0 1 f fd ["row"] jj1:=by
 refine F.ok sc_parts_of (λvs H Q E h=>?_) (λcdv A outer s H vs Q E hr h=>?_)
 ·obtain⟨a,r,rfl,_⟩:=h
  rfl
 ·obtain⟨a,r,rfl,ha,nn,hl,k⟩:=h
  have hu:=hr.units
  have hsz:sizeLine=16777216:=Ao
  refine exQ (ji (jy (ja2 rfl (jcv (sc:=jk y3) (N:=["row"]) (Nc:=["thing"]) (js:=[none]) (by decide +kernel)) (zk (K:=K) (qpv 0) rfl) (λ_ _ _ _=>(kg (i:=0) (show List.Nodup [("thing":Str)]from by decide +kernel) rfl (by first|exact Or.inl rfl|exact Or.inr rfl))) (λ_ _ _ _=>(z4 (jv (yv (K:=K) rfl) (by rfl) T.n_isinstance zh (jc (qpv 0) (jc (jah (v:=.ty "int") rfl T.n_int ja0 rfl) jd))))) (λ_ _ _ _=>(qpv 0))))) ?_
  simp! [ha]
  intro D hD
  refine jke isI id ha hD (by rw[Ab];omega) (λx hx l Q' q=>?_) (λx hx _ l Q' q=>?_) λv=>?_
  ·simp!
   rcases jki hx with⟨z,rfl,_⟩|⟨i,rfl,_⟩
   ·exact⟨_,.str _,_,T.si,q⟩
   ·exact⟨_,.int _,_,T.ii,q⟩
  ·simp!
   exact q
  ·rw[List.map_id,ja6 nn]
   exact k D hD
abbrev yf:Stmt:=top 5
theorem sc_with_parts:FnScope ["row","numbers"] ["row","numbers"] (jk yf):=⟨rfl,rfl,rfl,by decide +kernel,rfl,by decide +kernel,by decide +kernel⟩
theorem ok_with_parts{f:Addr}{fd:FuncData}(F:Fun K "with_parts" "with_parts" yf f fd)(T:TPa K mg):FnOk P w K mg base CX0 1 f fd ["row","numbers"] spWP:=by
 refine F.ok sc_with_parts (λvs H Q E h=>?_) (λcdv A outer s H vs Q E hr h=>?_)
 ·obtain⟨a,n,r,g,rfl,_⟩:=h
  rfl
 ·obtain⟨a,n,r,g,rfl,ha,nn,hl,num,k⟩:=h
  have hu:=hr.units
  have hsz:sizeLine=16777216:=Ao
  have hu1:(A.deeper (PyProof.Rows.envOfC (Str.ofString "with_parts") (jk yf) s.heap.objs.size f cdv)).units+1<cLine:=by omega
  refine exQ (ji (jy (yg zj (by rfl) T.n_tuple zm (jc (jaz rfl (jcv (sc:=jk yf) (N:=["row","numbers"]) (Nc:=["thing","numbers"]) (js:=[none,some 1]) (by decide +kernel)) (zk (K:=K) (qpv 0) rfl) (λ_ _ _ _=>(kg (i:=0) (show List.Nodup [("thing":Str),("numbers":Str)]from by decide +kernel) rfl (by first|exact Or.inl rfl|exact Or.inr rfl))) (λ_ _ _ _=>(qpe_ifExp (z4 (jv (yv (K:=K) rfl) (by rfl) T.n_isinstance zh (jc (qpv 0) (jc (jah (v:=.ty "int") rfl T.n_int ja0 rfl) jd)))) (jq (ix_UD hu1) (qpv 1) (qpv 0) (λ_ _=>rfl)) (qpv 0)))) jd)))) ?_
  simp! [ha]
  intro D hD
  have nnD:n≠D:=by
   rcases num with⟨hs,e,_⟩|⟨kvs,e,_⟩ <;> exact jj e hD
  let gv:V->V:=λx=>match x with
   |.int i=>nV (g i.toNat)
   |x=>x
  have em:(r.map kV).map gv=(wpR g r).map kV:=by
   unfold wpR
   rw[O2,O2]
   refine I0 λx _=>?_
   cases x <;> rfl
  refine jh6 gv ha hD (by rw[Ab];omega) (λx hx l Q' q=>?_) λv=>?_
  ·simp!
   rcases jki hx with⟨z,rfl,_⟩|⟨i,rfl,hi⟩
   ·exact⟨_,.str _,_,T.si,by rw[Ae (by decide)];exact q⟩
   ·have h0:=nn i hi
    have hp:=jga hi
    refine⟨_,.int _,_,T.ii,?_⟩
    rw[Ag rfl]
    rcases num with⟨hs,e,hg⟩|⟨kvs,e,hg⟩
    ·refine .inl ?_
     rw[jdx,jf nnD,e]
     exact⟨_,rfl,nV (g i.toNat),jb7 h0 (by rw[Aq,hg _ hp];rfl),q⟩
    ·refine .inr ⟨n,nV (g i.toNat),rfl,?_,q⟩
     have:=DGet.k (H:=upd H D (.lst l)) (a:=n) (kvs:=kvs) (k:=.inl i) (by rw[jf nnD];exact e)
     rw[show valV kvs (.inl i)=some (nV (g i.toNat))by rw[<-hg _ hp];congr 2;omega]at this
     exact this
  ·rw[em]
   refine jcp je λt ht=>?_
   refine k t _ ?_ je (((Kp.refl [] H).new hD).new ht)
   have:t≠D:=λz=>by rw[z,je]at ht;cases ht
   rwa[jf this]at ht
end
def hsF(hs:List Nat):Nat->Nat:=λi=>hs.getD i 0
structure HI(R:List Row)(hs:List Nat)(kvs:List (Row×V)):Prop where
 le:∀j,j<hs.length->hsF hs j<=j
 same:∀j,j<hs.length->RwA R (hsF hs) (hsF hs j)=RwA R (hsF hs) j
 first:∀j,j<hs.length->∀j',j'<hsF hs j->RwA R (hsF hs) j'≠RwA R (hsF hs) j
 d1:∀k v,valV kvs k=some v->∃j,j<hs.length/\v=nV j/\RwA R (hsF hs) j=k/\∀j',j'<j->RwA R (hsF hs) j'≠k
 d2:∀k,valV kvs k=none->∀j,j<hs.length->RwA R (hsF hs) j≠k
 len:kvs.length<=hs.length
theorem jei{hs:List Nat}{e j:Nat}(h:j<hs.length):hsF (hs++[e]) j=hsF hs j:=by
 unfold hsF
 rw[Af,Ih h,<-Af]
theorem jf7{hs:List Nat}{e:Nat}:hsF (hs++[e]) hs.length=e:=by
 unfold hsF
 rw[Af];simp
theorem jm4{R:List Row}(ok:OkR R){hs:List Nat}{e j:Nat}(hj:j<=hs.length)(hl:j<R.length):RwA R (hsF (hs++[e])) j=RwA R (hsF hs) j :=
 jcj λp hp=>jei (by have:=jco (ok.d hl) hp;omega)
theorem HI.step{R:List Row}(ok:OkR R){hs:List Nat}{kvs kvs':List (Row×V)}{e:Nat}(h:HI R hs kvs)(hl:hs.length<R.length)(he:e<=hs.length)(sm:RwA R (hsF hs) e=RwA R (hsF hs) hs.length)(fi:∀j,j<e->RwA R (hsF hs) j≠RwA R (hsF hs) hs.length)
  (hk:∀k,valV kvs' k=if k=RwA R (hsF hs) hs.length then some (nV e)else valV kvs k) (ln:kvs'.length<=hs.length+1):HI R (hs++[e]) kvs':=by
 have ag:∀j,j<=hs.length->RwA R (hsF (hs++[e])) j=RwA R (hsF hs) j:=λj hj=>jm4 ok hj (by omega)
 have cs:∀j,j<(hs++[e]).length->j<hs.length\/j=hs.length:=λj hj=>by simp at hj;omega
 refine⟨λj hj=>?_,λj hj=>?_,λj hj j' hj'=>?_,λk v hv=>?_,λk hv j hj=>?_,by simpa using ln⟩
 ·rcases cs j hj with h1|rfl
  ·rw[jei h1];exact h.le j h1
  ·rw[jf7];exact he
 ·rcases cs j hj with h1|rfl
  ·rw[jei h1,ag _ (by have:=h.le j h1;omega),ag _ (by omega)];exact h.same j h1
  ·rw[jf7,ag _ he,ag _ (Ac _)];exact sm
 ·rcases cs j hj with h1|rfl
  ·rw[jei h1]at hj'
   rw[ag _ (by have:=h.le j h1;omega),ag _ (by omega)];exact h.first j h1 j' hj'
  ·rw[jf7]at hj'
   rw[ag _ (by omega),ag _ (Ac _)];exact fi j' hj'
 ·rw[hk]at hv
  by_cases c:k=RwA R (hsF hs) hs.length
  ·rw[Ag c]at hv
   cases hv
   exact⟨e,by simp;omega,rfl,by rw[ag _ he,sm,c],λj' hj'=>by rw[ag _ (by omega),c];exact fi j' hj'⟩
  ·rw[Ae c]at hv
   obtain⟨j,h1,h2,h3,h4⟩:=h.d1 k v hv
   exact⟨j,by simp;omega,h2,by rw[ag _ (by omega)];exact h3,λj' hj'=>by rw[ag _ (by omega)];exact h4 j' hj'⟩
 ·rw[hk]at hv
  by_cases c:k=RwA R (hsF hs) hs.length
  ·rw[Ag c]at hv;cases hv
  ·rw[Ae c]at hv
   rcases cs j hj with h1|rfl
   ·rw[ag _ (by omega)];exact h.d2 k hv j h1
   ·rw[ag _ (Ac _)];exact λz=>c z.symm
def spHO(K:PySem.W.Frag):Sp:=λvs H Q _=>∃(a:Addr)(us:List V)(R:List Row),vs=[.ref a]/\SqT K H a us/\RowsT H us R/\OkR R/\(∀r∈R,r.length<=100)/\R.length<=20000 /\
 ∀p hs H',Hd R (hsF hs)->hs.length=R.length->H p=none->H' p=some (.lst (hs.map nV))->Kp [] H H'->Q (.ref p) H'
structure THO(mg:Str->Option Value)(fw:Addr):Prop where
 n_enumerate:mg "enumerate"=none
 m5z:mg "with_parts"=some (.ref fw)
section
variable{P:Program}{w:World}{K:PySem.W.Frag}{mg:Str->Option Value}{base:Heap}
abbrev yz:Stmt:=top 7
theorem z0:FnScope ["rows","heads","first","at","row"] ["rows"] (jk yz):=⟨rfl,rfl,rfl,by decide +kernel,rfl,by decide +kernel,by decide +kernel⟩
theorem ok_heads_of{f fw:Addr}{fd fdw:FuncData}(F:Fun K "heads_of" "heads_of" yz f fd)(T:THO mg fw)(F5z:Fun K "with_parts" "with_parts" yf fw fdw)(b5z:Binds K fdw ["row","numbers"] [])
  (G5z:FnOk P w K mg base CX0 1 fw fdw ["row","numbers"] spWP):FnOk P w K mg base CX0 2 f fd ["rows"] (spHO K):=by
 refine F.ok z0 (λvs H Q E h=>?_) (λcdv A outer s H vs Q E hr h=>?_)
 ·obtain⟨a,us,R,rfl,_⟩:=h
  rfl
 ·obtain⟨a,us,R,rfl,hS,rt,ok,r3,l2,k⟩:=h
  have hu:=hr.units
  have hsz:sizeLine=16777216:=Ao
  have hu1:(A.deeper (PyProof.Rows.envOfC (Str.ofString "heads_of") (jk yz) s.heap.objs.size f cdv)).units+1<cLine:=by omega
  have ul:us.length=R.length:=Az rt
  refine exQ (jh (jn (i:=1) z0.nd rfl (by first|exact Or.inl rfl|exact Or.inr rfl) (j8 jd))
  (jh (jn (i:=2) z0.nd rfl (by first|exact Or.inl rfl|exact Or.inr rfl) qpe_dnewT)
  (jh (zc Ii rfl (qpi_enumT (K:=K) rfl rfl T.n_enumerate (jc (qpv 0) jd)) (jbx (n:=2) rfl (jak (kg (i:=3) z0.nd rfl (by first|exact Or.inl rfl|exact Or.inr rfl)) (jak (kg (i:=4) z0.nd rfl (by first|exact Or.inl rfl|exact Or.inr rfl)) jbs)) (K:=K) rfl) (ji (ke (ky At Au j9 (qpv 1) (jc (qpe_dsetT hu1 (qpv 2) (jo G5z (hr.mono (by decide)) rfl T.m5z F5z.kp b5z .nil jr (jc (qpv 4) (jc (qpv 1) jd))) (qpv 3) ⟨rfl,rfl,rfl,rfl⟩) jd) jca))))
  (ji (jy (qpv 1)))))) ?_
  simp!
  refine⟨by omega,λp hp d hd=>?_⟩
  have npd:p≠d:=jj je hd
  have k0:Kp [] H (upd (upd H p (.lst [])) d (.dT [])):=((Kp.refl [] H).new hp).new hd
  have hd0:H d=none:=by rwa[jf npd.symm]at hd
  refine⟨⟨us,k0.sqT (by simp) hS⟩,?_⟩
  refine jmc (xs:=us) (λi σ H'=>∃(hs:List Nat)(kvs:List (Row×V))(v3 v4:Option V),σ=[some (.ref a),some (.ref p),some (.ref d),v3,v4]/\hs.length=i/\HI R hs kvs/\H' p=some (.lst (hs.map nV))/\H' d=some (.dT kvs)/\Kp [] H H') ?_ ?_ ?_ ?_
  ·exact⟨[],[],none,none,rfl,rfl,⟨λj h=>by simp at h,λj h=>by simp at h,λj h=>by simp at h,λk v h=>by simp[valV]at h,λk _ j h=>by simp at h,Ac _⟩,by rw[jf npd,je];rfl,je,k0⟩
  ·rintro i σ H' _ ⟨hs,kvs,v3,v4,rfl,_,_,_,_,kp⟩
   exact kp.sqT (by simp) hS
  ·rintro i x σ H1 t hx ⟨hs,kvs,v3,v4,rfl,hl,hi,h1,h2,kp⟩ ht
   have hil:i<R.length:=by rw[<-ul];exact(Aa.mp hx).1
   obtain⟨c,hc,hcr⟩:=(rt.kp kp).get hil
   rw[hx]at hc
   cases hc
   refine⟨t,[.int (i:Int),.ref c],rfl,SqT.of je,rfl,⟨_,_,rfl,⟨_,_,rfl,rfl,?_⟩⟩⟩
   have kT:Kp [] H1 (upd H1 t (.tup [.int (i:Int),.ref c])):=(Kp.refl [] H1).new ht
   generalize upd H1 t (.tup [.int (i:Int),.ref c])=H2 at kT⊢
   have h12:=kT.old _ _ h1 Ai
   have h22:=kT.old _ _ h2 Ai
   have rl:=r3 _ (A0 (show R[i]?=some (R.getD i [])by rw[Af,An hil];rfl))
   simp! [h12]
   refine⟨.inr ⟨kvs,.inl h22⟩,c,p,R.getD i [],hsF hs,rfl,kT.tup _ _ hcr,(ok.d hil).nn,rl,.inl ⟨hs,h12,λq hq=>?_⟩,λq H3 hq0 hq3 k3=>?_⟩
   ·have:=jco (ok.d hil) hq
    unfold hsF
    rw[Af,An (by omega)];rfl
   have h13:=k3.old _ _ h12 Ai
   have h23:=k3.old _ _ h22 Ai
   have kp3:Kp [] H H3:=kp.trans (kT.trans k3)
   have kl:=hi.len
   subst hl
   refine⟨kvs,h23,RwA R (hsF hs) hs.length,q,rfl,hq3,by omega,λv hv=>?_,λhv=>?_⟩
   ·obtain⟨j,j1,rfl,j3,j4⟩:=hi.d1 _ v hv
    rw[h13]
    refine⟨_,rfl,by rw[Ab];omega,hs++[j],kvs,_,_,⟨rfl,rfl⟩,by simp,hi.step ok hil (by omega) j3 j4 (λk=>?_) (by omega),by rw[Ip];rfl,by rw[jf npd.symm];exact h23,kp3.set h13 (.inr hp)⟩
    by_cases c:k=RwA R (hsF hs) hs.length
    ·rw[Ag c,c];exact hv
    ·rw[Ae c]
   ·rw[jf npd,h13]
    have kd:Kp [] H (upd H3 d (.dT (putK kvs (RwA R (hsF hs) hs.length) (V.int (hs.length:Int))))):=kp3.setD h23 (.inr hd0)
    refine⟨_,rfl,by rw[Ab];omega,hs++[hs.length],_,_,_,⟨rfl,rfl⟩,by simp,hi.step (kvs':=putK kvs (RwA R (hsF hs) hs.length) (V.int (hs.length:Int))) ok hil (Ac _) rfl (λj hj=>hi.d2 _ hv j hj) (λk=>jja _ _ _ _) (by have:=jc0 kvs (RwA R (hsF hs) hs.length) (V.int (hs.length:Int));omega),by rw[Ip];rfl,by rw[jf npd.symm,je],kd.set (by rw[jf npd];exact h13) (.inr hp)⟩
  ·rintro σ H1 ⟨hs,kvs,v3,v4,rfl,hl,hi,h1,h2,kp⟩
   simp!
   exact k p hs H1 ⟨λi hi'=>hi.le i (by omega),λi hi'=>hi.same i (by omega),λi hi'=>hi.first i (by omega)⟩ (by omega) hp h1 kp
end
theorem jea:∀{l zs:List Nat},l.Nodup->(∀x∈l,x∈zs)->l.length<=zs.length
 |[],_,_,_=>Ix _
 |x::l,zs,nd,h=>by
  obtain⟨hx,nd'⟩:=Ox.mp nd
  have hm:=h x (.head _)
  have:=jea (l:=l) (zs:=zs.erase x) nd' λy hy=>(List.mem_erase_of_ne (λe:y=x=>hx (e▸hy))).mpr (h y (.tail _ hy))
  rw[List.length_erase_of_mem hm]at this
  have hp:0<zs.length:=List.length_pos_of_mem hm
  rw[List.length_cons]
  omega
theorem jjt{S:List Addr}{H H1:Hp}(k:Kp S H H1){b:Addr}{kvs:List (Key×V)}{o:HO}(hb:H1 b=some (.dK kvs))(h:b∈S\/H b=none):Kp S H (upd H1 b o):=by
 have ne:∀c u,H c=some u->c∉S->c≠b:=λc u e n z=>by
  subst z
  rcases h with h|h
  ·exact n h
  ·rw[h]at e;cases e
 refine⟨λc u e n=>by rw[jf (ne c u e n)];exact k.old c u e n,λc ys e=>?_,λc u e=>?_⟩
 ·have e1:=k.tup c ys e
  have:c≠b:=λz=>by rw[z,hb]at e1;cases e1
  rw[jf this];exact e1
 ·obtain⟨o',e'⟩:=k.dom c u e
  by_cases q:c=b
  ·subst q;exact⟨o,je⟩
  ·exact⟨o',by rw[jf q];exact e'⟩
theorem jmf(l:List Nat):l=[]\/∃s v,l=s++[v]:=by
 rcases List.eq_nil_or_concat l with h|⟨s,v,h⟩
 ·exact .inl h
 ·exact .inr ⟨s,v,by simpa using h⟩
def outR(R:List Row)(h:Nat->Nat)(dn:List Nat):List Row:=dn.map λv=>wpR (λx=>dn.idxOf x) (RwA R h v)
structure LI(R:List Row)(h:Nat->Nat)(st dn:List Nat)(kvs:List (L2.Key×V)):Prop where
 fin:st.foldr (λv d=>wk (chd R h) v d) dn=ordR R h
 dec:st.Pairwise (λa b=>b<a)
 nst:∀v∈st,v∉dn/\v<R.length
 nd:dn.Nodup
 lt:∀v∈dn,v<R.length
 num:∀x:Nat,valV kvs (.inl (x:Int))=if x∈dn then some (nV (dn.idxOf x))else none
 kl:kvs.length<=dn.length
 inn:∀v∈dn,∀p∈chd R h v,p∈dn
theorem LI.bound{R:List Row}{h:Nat->Nat}{st dn:List Nat}{kvs:List (L2.Key×V)}(I:LI R h st dn kvs):st.length+dn.length<=R.length:=by
 have nd:(st++dn).Nodup:=by
  rw[O0]
  refine⟨I.dec.imp λh=>by omega,I.nd,λa ha b hb e=>(I.nst a ha).1 (e▸hb)⟩
 have:=jea (zs:=List.range R.length) nd λx hx=>U8.mpr (by
  rcases A7.mp hx with h|h
  ·exact(I.nst x h).2
  ·exact I.lt x h)
 rw[A4,List.length_range]at this
 exact this
theorem LI.push{R:List Row}{h:Nat->Nat}{st dn:List Nat}{v p:Nat}{rest:List Nat}{kvs:List (L2.Key×V)}(d:Dn (chd R h) R.length)(I:LI R h (st++[v]) dn kvs)(hf:(chd R h v).filter (λq=>!decide (q∈dn))=p::rest):LI R h (st++[v]++[p]) dn kvs:=by
 have hv:=(I.nst v (by simp)).2
 have hp:p∈(chd R h v).filter (λq=>!decide (q∈dn)):=by rw[hf];exact .head _
 obtain⟨hp1,hp2⟩:=Ol.mp hp
 have pv:=d v hv p hp1
 refine⟨?_,?_,?_,I.nd,I.lt,I.num,I.kl,I.inn⟩
 ·rw[<-I.fin,Ui,Ui,Ui]
  show List.foldr _ (wk _ v (wk _ p dn)) st=List.foldr _ (wk _ v dn) st
  rw[jn3 d hv hf]
 ·rw[O5]
  refine⟨I.dec,by simp,λa ha b hb=>?_⟩
  simp at hb
  subst hb
  rcases A7.mp ha with h1|h1
  ·have:=(O5.mp I.dec).2.2 a h1 v (by simp)
   omega
  ·simp at h1;omega
 ·intro u hu
  rcases A7.mp hu with h1|h1
  ·exact I.nst u h1
  ·simp at h1;subst h1;exact⟨by simpa using hp2,by omega⟩
theorem LI.pop{R:List Row}{h:Nat->Nat}{st dn:List Nat}{v:Nat}{kvs:List (L2.Key×V)}(d:Dn (chd R h) R.length)(I:LI R h (st++[v]) dn kvs)(hf:(chd R h v).filter (λq=>!decide (q∈dn))=[]):LI R h st (dn++[v]) (putK kvs (.inl (v:Int)) (nV dn.length)):=by
 obtain⟨hv1,hv2⟩:=I.nst v (by simp)
 have all:∀p∈chd R h v,p∈dn:=λp hp=>by
  have:=Um.mp hf p hp
  simpa using this
 have cs:∀u∈dn++[v],u∈dn\/u=v:=λu hu=>by simpa using hu
 refine⟨?_,(O5.mp I.dec).1,λu hu=>?_,?_,λu hu=>?_,λx=>?_,?_,λu hu p hp=>?_⟩
 ·rw[<-I.fin,Ui]
  show List.foldr _ (dn++[v]) st=List.foldr _ (wk _ v dn) st
  rw[jn4 d hv2 hf]
 ·obtain⟨h1,h2⟩:=I.nst u (by simp[hu])
  have:=(O5.mp I.dec).2.2 u hu v (by simp)
  exact⟨λz=>(cs u z).elim h1 (by omega),h2⟩
 ·rw[O0]
  exact⟨I.nd,by simp,λa ha b hb e=>hv1 ((e.trans (Am.mp hb))▸ha)⟩
 ·rcases cs u hu with h1|rfl
  ·exact I.lt u h1
  ·exact hv2
 ·rw[jja,I.num]
  by_cases c:x=v
  ·subst c
   rw[Ag rfl,Ag (by simp),List.idxOf_append,Ae hv1]
   simp
  ·rw[Ae (by simpa using λz:(x:Int)=v=>c (by omega))]
   by_cases hx:x∈dn
   ·rw[Ag hx,Ag (by simp[hx]),jac hx]
   ·rw[Ae hx,Ae (by simp[hx,c])]
 ·have:=jc0 kvs (.inl (v:Int)) (nV dn.length)
  have:=I.kl
  rw[A4]
  simp only[List.length_cons,List.length_nil]
  omega
 ·rcases cs u hu with h1|rfl
  ·exact A9 _ (I.inn u h1 p hp)
  ·exact A9 _ (all p hp)
theorem jnr{R:List Row}{h:Nat->Nat}{dn:List Nat}{v:Nat}(inn:∀v∈dn,∀p∈chd R h v,p∈dn)(hv:∀p∈chd R h v,p∈dn):outR R h (dn++[v])=outR R h dn++[wpR (λx=>dn.idxOf x) (RwA R h v)]:=by
 unfold outR
 rw[Ip]
 congr 1
 ·exact I0 λu hu=>jcj λp hp=>jac (inn u hu p hp)
 ·show[_]=[_]
  congr 1
  exact jcj λp hp=>jac (hv p hp)
def notI(dn:List Nat):V->Bool
 |.int i=>!decide (i.toNat∈dn)
 |_=>false
theorem jmg(dn ps:List Nat):(ps.map nV).filter (notI dn)=(ps.filter λq=>!decide (q∈dn)).map nV:=by
 rw[List.filter_map]
 congr 1
def spIO(K:PySem.W.Frag):Sp:=λvs H Q _=>∃(a:Addr)(us:List V)(R:List Row),vs=[.ref a]/\SqT K H a us/\RowsT H us R/\OkR R/\(∀r∈R,r.length<=100)/\1<=R.length/\R.length<=20000 /\
 ∀q us' F H',TidP R F->H q=none->H' q=some (.tup us')->RowsT H' us' F->Kp [] H H'->Q (.ref q) H'
structure TIO(mg:Str->Option Value)(fh fw fp:Addr):Prop where
 n_len:mg "len"=none
 n_tuple:mg "tuple"=none
 m17z:mg "heads_of"=some (.ref fh)
 m5z:mg "with_parts"=some (.ref fw)
 m20z:mg "parts_of"=some (.ref fp)
section
variable{P:Program}{w:World}{K:PySem.W.Frag}{mg:Str->Option Value}{base:Heap}
abbrev yu:Stmt:=top 6
theorem za:FnScope ["rows","heads","numbers","ordered","due","row","lacking"] ["rows"] (jk yu):=⟨rfl,rfl,rfl,by decide +kernel,rfl,by decide +kernel,by decide +kernel⟩
theorem ok_in_order{f fh fw fp:Addr}{fd fdh fdw fdp:FuncData}(F:Fun K "in_order" "in_order" yu f fd)(T:TIO mg fh fw fp)(F17z:Fun K "heads_of" "heads_of" yz fh fdh)(b17z:Binds K fdh ["rows"] [])
  (G17z:FnOk P w K mg base CX0 2 fh fdh ["rows"] (spHO K)) (F5z:Fun K "with_parts" "with_parts" yf fw fdw) (b5z:Binds K fdw ["row","numbers"] [])
  (G5z:FnOk P w K mg base CX0 1 fw fdw ["row","numbers"] spWP) (F20z:Fun K "parts_of" "parts_of" y3 fp fdp) (b20z:Binds K fdp ["row"] [])
  (G20z:FnOk P w K mg base CX0 1 fp fdp ["row"] jj1):FnOk P w K mg base CX0 3 f fd ["rows"] (spIO K):=by
 refine F.ok za (λvs H Q E h=>?_) (λcdv A outer s H vs Q E hr h=>?_)
 ·obtain⟨a,us,R,rfl,_⟩:=h
  rfl
 ·obtain⟨a,us,R,rfl,hS,rt,ok,r3,l1,l2,k⟩:=h
  have hu:=hr.units
  have hsz:sizeLine=16777216:=Ao
  have hu1:(A.deeper (PyProof.Rows.envOfC (Str.ofString "in_order") (jk yu) s.heap.objs.size f cdv)).units+1<cLine:=by omega
  have ul:us.length=R.length:=Az rt
  refine exQ (jh (jn (i:=1) za.nd rfl (by first|exact Or.inl rfl|exact Or.inr rfl) (jo G17z (hr.mono (by decide)) rfl T.m17z F17z.kp b17z .nil jr (jc (qpv 0) jd)))
  (jh (jn (i:=2) za.nd rfl (by first|exact Or.inl rfl|exact Or.inr rfl) qpe_disp0)
  (jh (jn (i:=3) za.nd rfl (by first|exact Or.inl rfl|exact Or.inr rfl) (j8 jd))
  (jh (jn (i:=4) za.nd rfl (by first|exact Or.inl rfl|exact Or.inr rfl) (j8 (jc (jq ix_U (qpv 1) (ja3 jf2 jg) (λ_ _=>rfl)) jd)))
  (jh (jal Ii (jbc (qpv 4)) (jh (jn (i:=5) za.nd rfl (by first|exact Or.inl rfl|exact Or.inr rfl) (jo G5z (hr.mono (by decide)) rfl T.m5z F5z.kp b5z .nil jr (jc (jq jb0 (qpv 0) (jq ix_U (qpv 4) (ja3 jf2 jg) (λ_ _=>rfl)) (λ_ _=>rfl)) (jc (qpv 1) jd))))
  (jh (qps_setcIf (i:=6) za.nd rfl (by first|exact Or.inl rfl|exact Or.inr rfl) rfl (jcv (sc:=jk yu) (N:=["rows","heads","numbers","ordered","due","row","lacking"]) (Nc:=["part","numbers"]) (js:=[none,some 2]) (by decide +kernel)) (zk (K:=K) (jo G20z (hr.mono (by decide)) rfl T.m20z F20z.kp b20z .nil jr (jc (qpv 5) jd)) rfl) (λ_ _ _ _=>(kg (i:=0) (show List.Nodup [("part":Str),("numbers":Str)]from by decide +kernel) rfl (by first|exact Or.inl rfl|exact Or.inr rfl))) (λ_ _ _ _=>(qpt_cmp (qpc_dnotin hu1 (qpv 0) (qpv 1)) (by with_unfolding_all rfl))) (λ_ _ _ _=>(qpv 0)))
  (yw (j7 (jbc (qpv 6)) (jh (ke (ky At Au j9 (qpv 4) (jc (jq ix_U (qpv 6) jg (λ_ _=>rfl)) jd) jca))
  (ji qps_continue)) kh)
  (jh (qps_dput hu1 (qpv 2) (jbr Uw Ux jbq (qpv 4) jca) (jv kj (by rfl) T.n_len yd (jc (qpv 3) jd)) rfl)
  (ji (ke (ky At Au j9 (qpv 3) (jc (jo G5z (hr.mono (by decide)) rfl T.m5z F5z.kp b5z .nil jr (jc (qpv 5) (jc (qpv 2) jd))) jd) jca))))))))
  (ji (jy (yg zj (by rfl) T.n_tuple zm (jc (qpv 3) jd))))))))) ?_
  simp!
  refine⟨a,us,R,rfl,hS,rt,ok,r3,l2,λph hs H1 hd hl hp0 hp1 k1=>?_⟩
  have d:=jdm ok hd
  intro pn hn
  refine⟨by omega,λpo ho=>?_⟩
  have npo:pn≠po:=jj je ho
  have nhn:ph≠pn:=jj hp1 hn
  have nho:ph≠po:=jj (by rw[jf nhn];exact hp1) ho
  have e2:upd (upd H1 pn (.dK [])) po (.lst []) ph=some (.lst (hs.map nV)):=by rw[jf nho,jf nhn];exact hp1
  rw[jdx,e2]
  refine⟨_,rfl,nV (hsF hs (R.length-1)),jn5 ?_,by omega,λpd hpd=>?_⟩
  ·rw[Ab,Aq,hl]
   unfold hsF
   rw[Af,An (by omega)];rfl
  have npd:pn≠pd:=jj (by rw[jf npo,je]) hpd
  have nod:po≠pd:=jj je hpd
  have nhd:ph≠pd:=jj e2 hpd
  have kk:Kp [] H (upd (upd (upd H1 pn (.dK [])) po (.lst [])) pd (.lst [nV (hsF hs (R.length-1))])):=((k1.new hn).new ho).new hpd
  have hn0:H pn=none:=k1.free hn
  have ho0:H po=none:=(k1.new hn).free ho
  have hd0:H pd=none:=((k1.new hn).new ho).free hpd
  refine⟨λm σ H'=>∃(st dn:List Nat)(kvs:List (L2.Key×V))(os:List V)(v5 v6:Option V),σ=[some (.ref a),some (.ref ph),some (.ref pn),some (.ref po),some (.ref pd),v5,v6]/\LI R (hsF hs) st dn kvs/\m=2*(R.length-dn.length)-st.length /\
   H' ph=some (.lst (hs.map nV))/\H' pn=some (.dK kvs)/\H' po=some (.lst os)/\RowsT H' os (outR R (hsF hs) dn)/\H' pd=some (.lst (st.map nV))/\Kp [] H H',?_,?_⟩
  ·refine⟨_,[hsF hs (R.length-1)],[],[],[],none,none,rfl,⟨rfl,by simp,λv hv=>?_,List.nodup_nil,by simp,λx=>by simp[valV],Ac _,by simp⟩,rfl,?_,?_,?_,.nil,je,kk⟩
   ·simp at hv
    subst hv
    have:=hd.le (R.length-1) (by omega)
    exact⟨by simp,by omega⟩
   ·rw[jf nhd];exact e2
   ·rw[jf npd,jf npo,je]
   ·rw[jf nod,je]
  rintro m σ H2 ⟨st,dn,kvs,os,v5,v6,rfl,I,rfl,g1,g2,g3,g4,g5,kp⟩
  simp! [g5]
  have hsq:∀q,q<R.length->hs[q]?=some (hsF hs q):=λq hq=>by
   unfold hsF
   rw[Af,An (by omega)];rfl
  rcases jmf st with rfl|⟨s0,v,rfl⟩
  ·rw[Ae (by simp)]
   refine jcp g3 λl hl3=>k l os _ _ ⟨hsF hs,hd,?_⟩ (kp.free hl3) je (g4.kp ((Kp.refl [] _).new hl3)) (kp.new hl3)
   have:dn=ordR R (hsF hs):=I.fin
   rw[this];rfl
  rw[Ag (by simp)]
  obtain⟨hv1,hv2⟩:=I.nst v (by simp)
  obtain⟨c,hc,hcr⟩:=(rt.kp kp).get hv2
  have rl:=r3 _ (A0 (show R[v]?=some (R.getD v [])by rw[Af,An hv2];rfl))
  have bd:=I.bound
  rw[A4,List.length_cons,List.length_nil]at bd
  have kl:=I.kl
  have ol:os.length=dn.length:=by rw[Az g4];simp[outR]
  refine⟨_,λ_ _ h=>h,nV v,by rw[Ip];exact jdr _ _,⟨a,us,(v:Int),.ref c,rfl,rfl,kp.sqT (by simp) hS,jdl hc,?_⟩⟩
  refine⟨c,ph,R.getD v [],hsF hs,rfl,hcr,(ok.d hv2).nn,rl,.inl ⟨hs,g1,λq hq=>hsq q (by have:=jco (ok.d hv2) hq;omega)⟩,λq H3 hq0 hq3 k3=>?_⟩
  have wl:(RwA R (hsF hs) v).length<=100:=by unfold RwA wpR;rw[Ab];exact rl
  refine⟨q,RwA R (hsF hs) v,rfl,hq3,jgx _ _,wl,λpp hpp=>?_⟩
  have k4:Kp [] H3 (upd H3 pp (.lst ((ptR (RwA R (hsF hs) v)).map nV))):=(Kp.refl [] H3).new hpp
  have e4:upd H3 pp (.lst ((ptR (RwA R (hsF hs) v)).map nV)) pp=some (.lst ((ptR (RwA R (hsF hs) v)).map nV)):=je
  generalize upd H3 pp (.lst ((ptR (RwA R (hsF hs) v)).map nV))=H4 at k4 e4⊢
  have k24:=k3.trans k4
  have g14:=k24.old _ _ g1 Ai
  have g24:=k24.old _ _ g2 Ai
  have g34:=k24.old _ _ g3 Ai
  have g44:=g4.kp k24
  have g54:=k24.old _ _ g5 Ai
  have hq4:=k4.tup _ _ hq3
  have kp4:Kp [] H H4:=kp.trans k24
  simp! [e4]
  intro D hD
  have nnD:pn≠D:=jj g24 hD
  have pl:(ptR (RwA R (hsF hs) v)).length<=100:=Ig (List.length_filterMap_le _ _) wl
  refine jev (notI dn) id e4 hD (by rw[Ab];omega) (λx hx l Q' q=>?_) (λx hx _ l Q' q=>?_) λvv=>?_
  ·obtain⟨y,hy,rfl⟩:=Ia.mp hx
   simp!
   refine⟨_,DGet.k (k:=.inl (y:Int)) (by rw[jf nnD];exact g24),?_⟩
   rw[I.num y]
   have:notI dn (nV y)=!(if y∈dn then some (nV (dn.idxOf y))else none).isSome:=by
    show(!decide (y∈dn))=_
    by_cases h:y∈dn <;> simp[h]
   rw[<-this]
   exact q
  ·simp!
   exact q
  rw[List.map_id,jmg]
  have kD:Kp [] H4 (upd H4 D (.lst (((ptR (RwA R (hsF hs) v)).filter λq=>!decide (q∈dn)).map nV))):=(Kp.refl [] H4).new hD
  have eD:upd H4 D (.lst (((ptR (RwA R (hsF hs) v)).filter λq=>!decide (q∈dn)).map nV)) D=some (.lst (((ptR (RwA R (hsF hs) v)).filter λq=>!decide (q∈dn)).map nV)):=je
  generalize upd H4 D (.lst (((ptR (RwA R (hsF hs) v)).filter λq=>!decide (q∈dn)).map nV))=H5 at kD eD⊢
  have g15:=kD.old _ _ g14 Ai
  have g25:=kD.old _ _ g24 Ai
  have g35:=kD.old _ _ g34 Ai
  have g45:=g44.kp kD
  have g55:=kD.old _ _ g54 Ai
  have hq5:=kD.tup _ _ hq4
  have kp5:Kp [] H H5:=kp4.trans kD
  clear g14 g24 g34 g44 g54 hq4 kp4 kD k4 k24 k3 hq3 g1 g2 g3 g4 g5 kp hD hpp
  cases hf:(ptR (RwA R (hsF hs) v)).filter λq=>!decide (q∈dn)with
  |cons p1 rest =>
   rw[hf]at eD
   refine⟨λ_ _=>False,?_,λ_ _ h=>h.elim⟩
   simp! [eD,g55]
   rw[Ag (show(!(nV p1::List.map nV rest).isEmpty)=true from rfl)]
   have I':=I.push d hf
   have bd':=I'.bound
   have ll:(s0++[v]++[p1]).length=(s0++[v]).length+1:=by simp
   have l0:(s0++[v]).length=s0.length+1:=by simp
   refine⟨by rw[Ab];omega,_,?_,s0++[v]++[p1],dn,kvs,os,_,_,⟨rfl,rfl⟩,I',rfl,?_,?_,?_,?_,?_,kp5.set g55 (.inr hd0)⟩
   ·omega
   ·rw[jf nhd];exact g15
   ·rw[jf npd];exact g25
   ·rw[jf nod];exact g35
   ·exact g45.kp ((Kp.refl [pd] H5).set g55 (.inl (.head _)))
   ·rw[Ip (l₁:=s0++[v])];rfl
  |nil =>
   rw[hf]at eD
   refine⟨λσ' H'=>σ'=[some (.ref a),some (.ref ph),some (.ref pn),some (.ref po),some (.ref pd),some (.ref q),some (.ref D)]/\H5=H',?_,?_⟩
   ·simp! [eD]
    rw[Ae (by simp)]
    trivial
   rintro _ _ ⟨rfl,rfl⟩
   have I':=I.pop d hf
   have all:∀p∈chd R (hsF hs) v,p∈dn:=λp hp=>by
    have:=Um.mp hf p hp
    simpa using this
   have dl:(List.map nV (s0++[v])).dropLast=s0.map nV:=by simp
   simp! [g35,g55]
   rw[ol,dl]
   refine⟨nV v,by simp,upd (upd H5 pd (.lst (s0.map nV))) pn (.dK (putK kvs (.inl (v:Int)) (nV dn.length))),DPut.k (k:=.inl (v:Int)) (v:=nV dn.length) (by rw[jf npd];exact g25) (by omega),?_⟩
   have k6:Kp [pd,pn] H5 (upd (upd H5 pd (.lst (s0.map nV))) pn (.dK (putK kvs (.inl (v:Int)) (nV dn.length)))):=jjt ((Kp.refl [pd,pn] H5).set g55 (.inl (.head _))) (by rw[jf npd];exact g25) (.inl (by simp))
   have kp6:Kp [] H (upd (upd H5 pd (.lst (s0.map nV))) pn (.dK (putK kvs (.inl (v:Int)) (nV dn.length)))):=jjt (kp5.set g55 (.inr hd0)) (by rw[jf npd];exact g25) (.inr hn0)
   have e6n:upd (upd H5 pd (.lst (s0.map nV))) pn (.dK (putK kvs (.inl (v:Int)) (nV dn.length))) pn=some (.dK (putK kvs (.inl (v:Int)) (nV dn.length))):=je
   have e6d:upd (upd H5 pd (.lst (s0.map nV))) pn (.dK (putK kvs (.inl (v:Int)) (nV dn.length))) pd=some (.lst (s0.map nV)):=by rw[jf npd.symm,je]
   generalize upd (upd H5 pd (.lst (s0.map nV))) pn (.dK (putK kvs (.inl (v:Int)) (nV dn.length)))=H6 at k6 kp6 e6n e6d⊢
   have e6o:=k6.old _ _ g35 (by simp[nod,npo.symm])
   have e6h:=k6.old _ _ g15 (by simp[nhd,nhn])
   refine⟨by rw[e6o];rfl,q,pn,RwA R (hsF hs) v,λx=>dn.idxOf x,rfl,k6.tup _ _ hq5,jgx _ _,wl,.inr ⟨_,e6n,λp hp=>?_⟩,λq2 H7 hq20 hq27 k7=>?_⟩
   ·rw[I'.num p,Ag (A9 _ (all p hp)),jac (all p hp)]
   have e7o:=k7.old _ _ e6o Ai
   have e7n:=k7.old _ _ e6n Ai
   have e7d:=k7.old _ _ e6d Ai
   have e7h:=k7.old _ _ e6h Ai
   have l0:(s0++[v]).length=s0.length+1:=by simp
   have l1':(dn++[v]).length=dn.length+1:=by simp
   have k8:Kp [po] H7 (upd H7 po (.lst (os++[.ref q2]))):=(Kp.refl [po] H7).set e7o (.inl (.head _))
   refine⟨os,by rw[e7o];rfl,by omega,_,?_,s0,dn++[v],_,os++[.ref q2],_,_,⟨rfl,rfl⟩,I',rfl,?_,?_,rfl,?_,?_,(kp6.trans k7).set e7o (.inr ho0)⟩
   ·omega
   ·rw[jf nho];exact e7h
   ·rw[jf npo];exact e7n
   ·rw[jnr I.inn all]
    exact Oc ((((g45.kp k6).kp k7)).kp k8) ⟨q2,rfl,k8.tup _ _ hq27⟩
   ·rw[jf nod.symm];exact e7d
end
def jj2:Sp:=λvs H Q _=>∃(b:Addr)(m:Int)(o:HO),vs=[.ref b,.int m]/\H b=some o/\BoxO o/\1<=m/\m<=1000/\∀d o' H',0<=d->d<m->BoxO o'->H' b=some o'->Kp [b] H H'->Q (.int d) H'
theorem BoxO.lst{o:HO}(h:BoxO o):∃xs,o=.lst xs:=by obtain⟨c,s,e,_⟩:=h;exact⟨_,e⟩
section
variable{P:Program}{w:World}{K:PySem.W.Frag}{mg:Str->Option Value}{base:Heap}
structure TRow(mg:Str->Option Value)(ft:Addr):Prop where
 m1z:mg "_law_take"=some (.ref ft)
abbrev yp:Stmt:=top 21
theorem sc__law_row_at:FnScope ["_law_box_here","_law_k"] ["_law_box_here","_law_k"] (jk yp):=⟨rfl,rfl,rfl,by decide +kernel,rfl,by decide +kernel,by decide +kernel⟩
theorem ok__law_row_at{f ft:Addr}{fd fdt:FuncData}(F:Fun K "_law_row_at" "_law_row_at" yp f fd)(T:TRow mg ft)(F1z:Fun K "_law_take" "_law_take" ki ft fdt)(b1z:Binds K fdt ["_law_box_here","_law_wide"] [])
  (G1z:FnOk P w K mg base CX0 1 ft fdt ["_law_box_here","_law_wide"] jcw):FnOk P w K mg base CX0 2 f fd ["_law_box_here","_law_k"] jj2:=by
 refine F.ok sc__law_row_at (λvs H Q E h=>?_) (λcdv A outer s H vs Q E hr h=>?_)
 ·obtain⟨b,m,o,rfl,_⟩:=h
  rfl
 ·obtain⟨b,m,o,rfl,hb,ho,m1,m2,k⟩:=h
  refine⟨_,(QSs.h (ji (jy (jq ix_U (j8 (jc (jp zq (qpv 1) jg) (jc (jo G1z (hr.mono (by decide)) rfl T.m1z F1z.kp b1z .nil jr (jc (qpv 0) (jc (qpv 1) jd))) jd))) (jo G1z (hr.mono (by decide)) rfl T.m1z F1z.kp b1z .nil jr (jc (qpv 0) (jc jg jd))) (λ_ _=>rfl))))),?_⟩
  have hsz:sizeLine=16777216:=Ao
  simp!
  refine⟨b,m,o,rfl,hb,ho,by omega,by omega,λd o1 d0 d1 ho1=>?_⟩
  refine⟨by omega,λp hp=>?_⟩
  have nbp:b≠p:=jj je hp
  obtain⟨xs0,rfl⟩:=ho.lst
  obtain⟨xs1,rfl⟩:=id ho1.lst
  refine⟨b,2,_,rfl,by rw[jf nbp,je],ho1,by omega,by omega,λe o2 e0 e1 ho2=>?_⟩
  have hp2:upd (upd (upd H b (.lst xs1)) p (.lst [V.int (m-1),V.int d])) b o2 p=some (.lst [V.int (m-1),V.int d]):=by rw[jf nbp.symm,je]
  simp! [hp2]
  have kp:Kp [b] H (upd (upd (upd H b (.lst xs1)) p (.lst [V.int (m-1),V.int d])) b o2):=((((Kp.refl [b] H).set hb (.inl (.head _))).new hp).set (by rw[jf nbp,je]) (.inl (by simp)))
  have:e=0\/e=1:=by omega
  rcases this with rfl|rfl
  ·exact⟨_,jkc _ _,k _ o2 _ (by omega) (by omega) ho2 je kp⟩
  ·exact⟨_,jkd _ _ _,k _ o2 _ d0 d1 ho2 je kp⟩
end
def lowS(z:Str):Prop:=∀c∈sg z,97<=c/\c<=122
theorem lowS.app{x y:Str}(h1:lowS x)(h2:lowS y):lowS (x++y):=λc hc=>by
 rw[ji2]at hc
 rcases A7.mp hc with h|h
 ·exact h1 c h
 ·exact h2 c h
theorem lowS.one{c:Nat}(h:97<=c/\c<=122):lowS ⟨#[c]⟩:=λd hd=>by
 have:d=c:=by simpa[sg]using hd
 rw[this];exact h
theorem lowS.join{l:List Str}(h:∀z∈l,lowS z):lowS (Txt.join (Str.ofString "") l):=λc hc=>by
 rw[joz]at hc
 obtain⟨m,hm,hc⟩:=List.mem_flatten.mp hc
 obtain⟨z,hz,rfl⟩:=Ia.mp hm
 exact h z hz c hc
theorem jih:∀{xs:List V},(∀x∈xs,∃c:Nat,x=.str ⟨#[c]⟩/\(97<=c/\c<=122))->∃ys:List Str,xs=ys.map V.str/\ys.length=xs.length/\∀y∈ys,y.length=1/\lowS y
 |[],_=>⟨[],rfl,rfl,λ_ h=>nomatch h⟩
 |x::xs,h=>by
  obtain⟨c,rfl,hc⟩:=h x (.head _)
  obtain⟨ys,rfl,hl,hy⟩:=jih λy hy=>h y (.tail _ hy)
  refine⟨⟨#[c]⟩::ys,rfl,by simp,λy hy'=>?_⟩
  rcases A2.mp hy' with rfl|h
  ·exact⟨rfl,lowS.one hc⟩
  ·exact hy y h
abbrev NW:List V:=[V.str (Str.ofString "yes"),V.str (Str.ofString "is"),V.str (Str.ofString "not"),V.str (Str.ofString "and"),V.str (Str.ofString "or")]
def NmOk(z:Str):Prop:=z.length<=3/\lowS z/\1<=z.length/\inV (.str z) NW=false
theorem jon(c:Nat):inV (.str (Str.ofString "qq"++⟨#[c]⟩)) NW=false:=by
 have q:sg (Str.ofString "qq")=[113,113]:=by decide +kernel
 have ne:∀x:Str,(sg x).head?≠some 113->¬x=(Str.ofString "qq"++(⟨#[c]⟩:Str)):=λx h e=>h (by rw[e,ji2,q];rfl)
 have h1:=ne (Str.ofString "yes") (by decide +kernel)
 have h2:=ne (Str.ofString "is") (by decide +kernel)
 have h3:=ne (Str.ofString "not") (by decide +kernel)
 have h4:=ne (Str.ofString "and") (by decide +kernel)
 have h5:=ne (Str.ofString "or") (by decide +kernel)
 simp[inV,eqV,NW,h1,h2,h3,h4,h5]
def spPN:Sp:=λvs H Q _=>∃(b:Addr)(m:Nat)(o:HO),vs=[.ref b,.int (m:Int)]/\H b=some o/\BoxO o/\1<=m/\m<=26 /\
 ∀(p:Addr)(zs:List Str)(o':HO)(H':Hp),zs.length=m->(∀z∈zs,NmOk z)->H p=none->H' p=some (.lst (zs.map V.str))->BoxO o'->H' b=some o'->Kp [b] H H'->Q (.ref p) H'
theorem jcl(x y:Str):(x++y).length=x.length+y.length:=by simp[Str.length,Str.cps_append]
theorem jfn(l:List Str)(h:∀a∈l,a.length=1):(Txt.join (Str.ofString "") l).length=l.length:=PySem.W.KT.join_ones l h
theorem jgo(ys:List Str)(lo hi:Option Int):cutV (ys.map V.str) lo hi=((ys.drop (HT.sIx ys.length 0 lo)).take (HT.sIx ys.length ys.length hi-HT.sIx ys.length 0 lo)).map V.str:=by
 simp only[cutV,Ab,List.map_take,List.map_drop]
def JN(H:Hp)(b D c:Addr)(m n:Nat)(sp fi:Int)(i ch:Nat)(v4:Option V)(ys zs:List Str):L2.St->Hp->Prop:=λσ H5=>∃(nm:Str)(o':HO),
 σ=[some (.ref b),some (.int (m:Int)),some (.str "abcdefghijklmnopqrstuvwxyz"),some (.int (1+(n:Int))),some (.ref D),some (.int sp),some (.int fi),some (.ref c),some (.int (0+(i:Int))),some (.str ⟨#[ch]⟩),some (.str nm),v4] /\
 (nm.length<=3/\lowS nm/\1<=nm.length)/\BoxO o'/\H5 b=some o'/\H5 c=some (.lst (zs.map V.str))/\H5 D=some (.lst (ys.map V.str))/\Kp [b] H H5
def JM(H:Hp)(b D c:Addr)(m n:Nat)(sp fi:Int)(i ch:Nat)(v4:Option V)(ys zs:List Str):L2.St->Hp->Prop:=λσ H5=>∃(nm:Str)(o':HO),
 σ=[some (.ref b),some (.int (m:Int)),some (.str "abcdefghijklmnopqrstuvwxyz"),some (.int (1+(n:Int))),some (.ref D),some (.int sp),some (.int fi),some (.ref c),some (.int (0+(i:Int))),some (.str ⟨#[ch]⟩),some (.str nm),v4] /\
 NmOk nm/\BoxO o'/\H5 b=some o'/\H5 c=some (.lst (zs.map V.str))/\H5 D=some (.lst (ys.map V.str))/\Kp [b] H H5
structure TPN(mg:Str->Option Value)(ft:Addr):Prop where
 n_range:mg "range"=none
 m1z:mg "_law_take"=some (.ref ft)
section
variable{P:Program}{w:World}{K:PySem.W.Frag}{mg:Str->Option Value}{base:Heap}
abbrev km:Stmt:=top 22
theorem jw:FnScope ["_law_box_here","_law_many","_law_letters_here","_law_size","_law_signs","_law_spot","_law_first","_law_found","_law_k","_law_one","_law_name","_law_odd"] ["_law_box_here","_law_many"] (jk km):=⟨rfl,rfl,rfl,by decide +kernel,rfl,by decide +kernel,by decide +kernel⟩
theorem ok__law_place_names{f ft:Addr}{fd fdt:FuncData}(F:Fun K "_law_place_names" "_law_place_names" km f fd)(T:TPN mg ft)(F1z:Fun K "_law_take" "_law_take" ki ft fdt)(b1z:Binds K fdt ["_law_box_here","_law_wide"] [])
  (G1z:FnOk P w K mg base CX0 1 ft fdt ["_law_box_here","_law_wide"] jcw):FnOk P w K mg base CX0 2 f fd ["_law_box_here","_law_many"] spPN:=by
 refine F.ok jw (λvs H Q E h=>?_) (λcdv A outer s H vs Q E hr h=>?_)
 ·obtain⟨b,m,o,rfl,_⟩:=h
  rfl
 ·obtain⟨b,m,o,rfl,hb,ho,m1,m2,k⟩:=h
  have hu:=hr.units
  refine⟨_,(QSs.h (jh (jn (i:=2) jw.nd rfl (by first|exact Or.inl rfl|exact Or.inr rfl) jm)
  (jh (jn (i:=3) jw.nd rfl (by first|exact Or.inl rfl|exact Or.inr rfl) (jp jz jg (jo G1z (hr.mono (by decide)) rfl T.m1z F1z.kp b1z .nil jr (jc (qpv 0) (jc jg jd)))))
  (jh (qps_setc (i:=4) jw.nd rfl (by first|exact Or.inl rfl|exact Or.inr rfl) rfl (jcv (sc:=jk km) (N:=["_law_box_here","_law_many","_law_letters_here","_law_size","_law_signs","_law_spot","_law_first","_law_found","_law_k","_law_one","_law_name","_law_odd"]) (Nc:=["_law_k","_law_letters_here","_law_box_here"]) (js:=[none,some 2,some 0]) (by decide +kernel)) (zf rfl T.n_range (jc (qpv 3) jd)) (λ_ _ _ _=>(kg (i:=0) (show List.Nodup [("_law_k":Str),("_law_letters_here":Str),("_law_box_here":Str)]from by decide +kernel) rfl (by first|exact Or.inl rfl|exact Or.inr rfl))) (λ_ _ _ _=>(jq ix_U (qpv 1) (jo G1z (hr.mono (by decide)) rfl T.m1z F1z.kp b1z .nil jr (jc (qpv 2) (jc jg jd))) (λ_ _=>rfl))))
  (jh (jn (i:=5) jw.nd rfl (by first|exact Or.inl rfl|exact Or.inr rfl) (jo G1z (hr.mono (by decide)) rfl T.m1z F1z.kp b1z .nil jr (jc (qpv 0) (jc (qpv 3) jd))))
  (jh (jn (i:=6) jw.nd rfl (by first|exact Or.inl rfl|exact Or.inr rfl) (jo G1z (hr.mono (by decide)) rfl T.m1z F1z.kp b1z .nil jr (jc (qpv 0) (jc jg jd))))
  (jh (jn (i:=7) jw.nd rfl (by first|exact Or.inl rfl|exact Or.inr rfl) (j8 jd))
  (jh (zc Ii rfl (zf rfl T.n_range (jc (qpv 1) jd)) (kg (i:=8) jw.nd rfl (by first|exact Or.inl rfl|exact Or.inr rfl)) (jh (jn (i:=9) jw.nd rfl (by first|exact Or.inl rfl|exact Or.inr rfl) (jq ix_U (qpv 2) (jp zx (jp jz (qpv 6) (jp zt jg (qpv 8))) jg) (λ_ _=>rfl)))
  (jh (jn (i:=10) jw.nd rfl (by first|exact Or.inl rfl|exact Or.inr rfl) (jp jz (jp jz (ja7 PySem.F.slot_str_join PySem.F.type_str_join jbp jm (jc (jbi (jb6 (K:=K) rfl) (qpv 4) jbt (jbu (qpv 5))) jd) jli) (qpv 9)) (ja7 PySem.F.slot_str_join PySem.F.type_str_join jbp jm (jc (jbi (jb6 (K:=K) rfl) (qpv 4) (jbu (jp jz (qpv 5) jg)) jbt) jd) jli)))
  (yw (j7 (QW.pt (jby (jt (kx hu) (jp zx (qpv 8) jg) jg (j5 _)) (jby (jt jaf (qpv 3) jg (j5 _)) (qpw_and1 (jt (kx hu) (jo G1z (hr.mono (by decide)) rfl T.m1z F1z.kp b1z .nil jr (jc (qpv 0) (jc jg jd))) jg (j5 _)))))) (ji (jn (i:=10) jw.nd rfl (by first|exact Or.inl rfl|exact Or.inr rfl) (jp jz (qpv 10) jm))) kh)
  (yw (j7 (jt (zw (K:=K) rfl) (qpv 10) (j6 (jc jm (jc jm (jc jm (jc jm (jc jm jd)))))) (by with_unfolding_all rfl)) (ji (jn (i:=10) jw.nd rfl (by first|exact Or.inl rfl|exact Or.inr rfl) (jp jz jm (qpv 9)))) kh)
  (ji (ke (ky At Au j9 (qpv 7) (jc (qpv 10) jd) jca))))))))
  (yw (j7 (jt (kx hu) (jo G1z (hr.mono (by decide)) rfl T.m1z F1z.kp b1z .nil jr (jc (qpv 0) (jc jg jd))) jg (j5 _)) (jh (jn (i:=11) jw.nd rfl (by first|exact Or.inl rfl|exact Or.inr rfl) (jq ix_U (j8 (jc jm (jc jm (jc jm (jc jm (jc jm (jc jm (jc jm (jc jm jd))))))))) (jo G1z (hr.mono (by decide)) rfl T.m1z F1z.kp b1z .nil jr (jc (qpv 0) (jc jg jd))) (λ_ _=>rfl)))
  (ji (j7 (jt (op_notinU (K:=K) rfl) (qpv 11) (qpv 7) (by with_unfolding_all rfl)) (ji (jbb (qpv 11) (jba (qpv 7) (jo G1z (hr.mono (by decide)) rfl T.m1z F1z.kp b1z .nil jr (jc (qpv 0) (jc (qpv 1) jd))) jkt))) kh))) kh)
  (ji (jy (qpv 7)))))))))))),?_⟩
  have hsz:sizeLine=16777216:=Ao
  have la:(Str.ofString "abcdefghijklmnopqrstuvwxyz").length=26:=by decide +kernel
  have l26:(Str.ofString "abcdefghijklmnopqrstuvwxyz").cps.toList.length=26:=by simpa[Str.length]using la
  have lq:(Str.ofString "q").length=1:=by decide +kernel
  have hlq:lowS (Str.ofString "q"):=by unfold lowS;decide +kernel
  have hlqq:lowS (Str.ofString "qq"):=by unfold lowS;decide +kernel
  have hab:∀c∈(Str.ofString "abcdefghijklmnopqrstuvwxyz").cps.toList,97<=c/\c<=122:=by decide +kernel
  have lqq:(Str.ofString "qq").length=2:=by decide +kernel
  simp!
  refine⟨b,3,o,rfl,hb,ho,by omega,by omega,λd o1 d0 d1 ho1=>?_⟩
  obtain⟨n,rfl⟩:∃n:Nat,d=(n:Int):=⟨d.toNat,by omega⟩
  have en:(1+(n:Int)).toNat=n+1:=by omega
  obtain⟨xs0,rfl⟩:=ho.lst
  obtain⟨xs1,rfl⟩:=id ho1.lst
  refine⟨_,rfl,by omega,by omega,λD hD=>?_⟩
  rw[en]
  have nbD:b≠D:=jj je hD
  have hD0:H D=none:=by rw[jf nbD.symm]at hD;exact hD
  refine jl0 (λx=>∃c:Nat,x=.str ⟨#[c]⟩/\(97<=c/\c<=122)) je ho1 hD (by omega) (λx H' o' Q' hb' ho' hq=>?_) λv xs o2 hl hP ho2=>?_
  ·simp!
   refine⟨b,26,_,rfl,hb',ho',by omega,by omega,λe o5 e0 e1 ho5=>?_⟩
   simp!
   refine⟨by omega,(Str.ofString "abcdefghijklmnopqrstuvwxyz").cps.toList[e.toNat]'(by omega),jb7 e0 (by simp),hq _ _ ⟨_,rfl,hab _ (Us _)⟩ ho5⟩
  obtain⟨ys,rfl,hy1,hy2'⟩:=jih hP
  have hy2:∀y∈ys,y.length=1:=λy hy=>(hy2' y hy).1
  rw[Ab]at hl
  obtain⟨xs2,rfl⟩:=id ho2.lst
  have f1:upd (upd (upd H b (.lst xs1)) b (.lst xs2)) D (.lst (ys.map V.str)) b=some (.lst xs2):=by rw[jf nbD,je]
  have f2:upd (upd (upd H b (.lst xs1)) b (.lst xs2)) D (.lst (ys.map V.str)) D=some (.lst (ys.map V.str)):=je
  have f3:Kp [b] H (upd (upd (upd H b (.lst xs1)) b (.lst xs2)) D (.lst (ys.map V.str))):=(((Kp.refl [b] H).set hb (.inl (.head _))).set je (.inl (.head _))).new (by rw[jf nbD.symm];exact hD)
  revert f1 f2 f3
  generalize upd (upd (upd H b (.lst xs1)) b (.lst xs2)) D (.lst (ys.map V.str))=H2
  intro f1 f2 f3
  refine⟨b,_,_,rfl,f1,ho2,by omega,by omega,λsp o3 sp0 sp1 ho3=>?_⟩
  obtain⟨xs3,rfl⟩:=id ho3.lst
  refine⟨b,_,_,rfl,je,ho3,by omega,by omega,λfi o4 fi0 fi1 ho4=>?_⟩
  obtain⟨xs4,rfl⟩:=id ho4.lst
  refine⟨by omega,λc hc=>?_⟩
  rw[jc9]at hc⊢
  have g1:upd H2 b (.lst xs4) D=some (.lst (ys.map V.str)):=by rw[jf nbD.symm];exact f2
  have g3:Kp [b] H (upd H2 b (.lst xs4)):=f3.set f1 (.inl (.head _))
  have nbc:b≠c:=jj je hc
  have nDc:D≠c:=jj g1 hc
  have hc0:H c=none:=g3.free hc
  refine⟨by omega,by omega,?_⟩
  rw[Int.toNat_natCast]
  refine jcn (λi σ H'=>∃(zs:List Str)(o':HO)(v1 v2 v3 v4:Option V),σ=[some (.ref b),some (.int (m:Int)),some (.str "abcdefghijklmnopqrstuvwxyz"),some (.int (1+(n:Int))),some (.ref D),some (.int sp),some (.int fi),some (.ref c),v1,v2,v3,v4] /\
   zs.length=i/\(∀z∈zs,NmOk z)/\H' c=some (.lst (zs.map V.str))/\BoxO o'/\H' b=some o'/\H' D=some (.lst (ys.map V.str))/\Kp [b] H H') ?_ ?_ ?_
  ·exact⟨[],_,none,none,none,none,rfl,rfl,(λ_ h=>nomatch h),je,ho4,by rw[jf nbc,je],by rw[jf nDc];exact g1,g3.new hc⟩
  ·rintro i σ H' hi ⟨zs,o',v1,v2,v3,v4,rfl,hz1,hz2,hc',ho',hb',hD',kp⟩
   simp!
   have q0:=Int.emod_nonneg (fi+5*(0+(i:Int))) (show(26:Int)≠0 by decide)
   have q1:=We (fi+5*(0+(i:Int))) (show(0:Int)<26 by decide)
   refine⟨.inl ⟨by omega,by omega⟩,by decide,by omega,(Str.ofString "abcdefghijklmnopqrstuvwxyz").cps.toList[((fi+5*(0+(i:Int)))%26).toNat]'(by omega),jb7 q0 (by simp),?_⟩
   have hch:97<=(Str.ofString "abcdefghijklmnopqrstuvwxyz").cps.toList[((fi+5*(0+(i:Int)))%26).toNat]'(by omega)/\(Str.ofString "abcdefghijklmnopqrstuvwxyz").cps.toList[((fi+5*(0+(i:Int)))%26).toNat]'(by omega)<=122:=hab _ (Us _)
   generalize(Str.ofString "abcdefghijklmnopqrstuvwxyz").cps.toList[((fi+5*(0+(i:Int)))%26).toNat]'(by omega)=ch at hch
   have lch:(⟨#[ch]⟩:Str).length=1:=rfl
   refine rSlU.lst hD' λs1 hs1=>?_
   rw[jgo]
   have a1:HT.sIx ys.length 0 none=0:=rfl
   have a2:HT.sIx ys.length ys.length (some sp)=sp.toNat:=by simp only[HT.sIx];split <;> omega
   have a3:HT.sIx ys.length 0 (some (sp+1))=sp.toNat+1:=by simp only[HT.sIx];split <;> omega
   have a4:HT.sIx ys.length ys.length none=ys.length:=rfl
   generalize hL1:(ys.drop (HT.sIx ys.length 0 none)).take (HT.sIx ys.length ys.length (some sp)-HT.sIx ys.length 0 none)=La
   have l1:La.length=sp.toNat:=by rw[<-hL1,a1,a2,Ir,Ur];omega
   have o1:∀z∈La,z.length=1:=λz hz=>by rw[<-hL1]at hz;exact hy2 z (O6 (O7 hz))
   have sm:∀L:List Str,(∀z∈L,z.length=1)->(L.map (·.length)).sum=L.length:=by
    intro L
    induction L with
    |nil=>intro _;rfl
    |cons y L ih=>intro h;simp[h y (.head _),ih λz hz=>h z (.tail _ hz)];omega
   refine⟨La,je,by rw[sm La o1];show La.length+La.length*0<=_;omega,?_⟩
   have j1:=jfn La o1
   have w1:lowS (Txt.join (Str.ofString "") La):=lowS.join λz hz=>by rw[<-hL1]at hz;exact(hy2' z (O6 (O7 hz))).2
   generalize Txt.join (Str.ofString "") La=t1 at j1 w1⊢
   simp!
   refine⟨by omega,?_⟩
   have nDs:D≠s1:=jj hD' hs1
   have hD2:∀o,upd H' s1 o D=some (.lst (ys.map V.str)):=λo=>by rw[jf nDs];exact hD'
   refine rSlU.lst (hD2 _) λs2 hs2=>?_
   rw[jgo]
   generalize hL2:(ys.drop (HT.sIx ys.length 0 (some (sp+1)))).take (HT.sIx ys.length ys.length none-HT.sIx ys.length 0 (some (sp+1)))=Lb
   have l2:Lb.length=n-sp.toNat:=by rw[<-hL2,a3,a4,Ir,Ur];omega
   have o2:∀z∈Lb,z.length=1:=λz hz=>by rw[<-hL2]at hz;exact hy2 z (O6 (O7 hz))
   refine⟨Lb,je,by rw[sm Lb o2];show Lb.length+Lb.length*0<=_;omega,?_⟩
   have j2:=jfn Lb o2
   have w2:lowS (Txt.join (Str.ofString "") Lb):=lowS.join λz hz=>by rw[<-hL2]at hz;exact(hy2' z (O6 (O7 hz))).2
   generalize Txt.join (Str.ofString "") Lb=t2 at j2 w2⊢
   simp!
   refine⟨by rw[jcl];omega,?_⟩
   have lnm:(t1++(⟨#[ch]⟩:Str)++t2).length=n+1:=by rw[jcl,jcl];omega
   have wnm:lowS (t1++(⟨#[ch]⟩:Str)++t2):=(w1.app (lowS.one hch)).app w2
   generalize t1++(⟨#[ch]⟩:Str)++t2=nm at lnm wnm⊢
   have nbs1:b≠s1:=jj hb' hs1
   have ncs1:c≠s1:=jj hc' hs1
   have e1:upd (upd H' s1 (.lst (La.map V.str))) s2 (.lst (Lb.map V.str)) b=some o':=by rw[jf (jj (by rw[jf nbs1];exact hb') hs2),jf nbs1];exact hb'
   have e2:upd (upd H' s1 (.lst (La.map V.str))) s2 (.lst (Lb.map V.str)) c=some (.lst (zs.map V.str)):=by rw[jf (jj (by rw[jf ncs1];exact hc') hs2),jf ncs1];exact hc'
   have e3:upd (upd H' s1 (.lst (La.map V.str))) s2 (.lst (Lb.map V.str)) D=some (.lst (ys.map V.str)):=by rw[jf (jj (hD2 _) hs2)];exact hD2 _
   have e4:Kp [b] H (upd (upd H' s1 (.lst (La.map V.str))) s2 (.lst (Lb.map V.str))):=(kp.new hs1).new hs2
   revert e1 e2 e3 e4
   generalize upd (upd H' s1 (.lst (La.map V.str))) s2 (.lst (Lb.map V.str))=H5
   intro e1 e2 e3 e4
   refine⟨JN H b D c m n sp fi i ch v4 ys zs,?_,?_⟩
   ·simp!
    refine⟨by decide,ite2 (λh1=>ite2 (λh2=>?_) (λh2=>?_)) (λh1=>?_)⟩
    ·refine⟨b,_,_,rfl,e1,ho',by omega,by omega,λd9 o9 d90 d91 ho9=>?_⟩
     obtain⟨xs9,rfl⟩:=id ho9.lst
     obtain⟨xs8,rfl⟩:=id ho'.lst
     simp!
     have k9:=e4.set (o:=.lst xs9) e1 (.inl (by simp))
     have c9:upd H5 b (.lst xs9) c=some (.lst (zs.map V.str)):=by rw[jf nbc.symm];exact e2
     have D9:upd H5 b (.lst xs9) D=some (.lst (ys.map V.str)):=by rw[jf nbD.symm];exact e3
     refine ite2 (λh3=>?_) (λh3=>?_)
     ·exact⟨by omega,_,_,rfl,⟨by rw[jcl];omega,wnm.app hlq,by rw[jcl];omega⟩,ho9,je,c9,D9,k9⟩
     ·exact⟨_,_,rfl,⟨by omega,wnm,by omega⟩,ho9,je,c9,D9,k9⟩
    ·exact⟨_,_,rfl,⟨by omega,wnm,by omega⟩,ho',e1,e2,e3,e4⟩
    ·exact⟨_,_,rfl,⟨by omega,wnm,by omega⟩,ho',e1,e2,e3,e4⟩
   ·rintro σ6 H6 ⟨nm,o6,rfl,hn6,ho6,hb6,hc6,hD6,kp6⟩
    refine⟨JM H b D c m n sp fi i ch v4 ys zs,?_,?_⟩
    ·simp!
     refine⟨by omega,λp9 hp9=>rInU.tupS (SqT.of je) rfl (by decide) ⟨_,rfl,?_⟩⟩
     have k9:=kp6.new (o:=.tup [V.str (Str.ofString "yes"),V.str (Str.ofString "is"),V.str (Str.ofString "not"),V.str (Str.ofString "and"),V.str (Str.ofString "or")]) hp9
     have b9:=jf (H:=H6) (o:=.tup [V.str (Str.ofString "yes"),V.str (Str.ofString "is"),V.str (Str.ofString "not"),V.str (Str.ofString "and"),V.str (Str.ofString "or")]) (jj hb6 hp9)
     have c9:=jf (H:=H6) (o:=.tup [V.str (Str.ofString "yes"),V.str (Str.ofString "is"),V.str (Str.ofString "not"),V.str (Str.ofString "and"),V.str (Str.ofString "or")]) (jj hc6 hp9)
     have D9:=jf (H:=H6) (o:=.tup [V.str (Str.ofString "yes"),V.str (Str.ofString "is"),V.str (Str.ofString "not"),V.str (Str.ofString "and"),V.str (Str.ofString "or")]) (jj hD6 hp9)
     refine ite2 (λh3=>?_) (λh3=>?_)
     ·exact⟨by omega,_,_,rfl,⟨by rw[jcl];omega,hlqq.app (lowS.one hch),by rw[jcl];omega,jon ch⟩,ho6,b9.trans hb6,c9.trans hc6,D9.trans hD6,k9⟩
     ·exact⟨_,_,rfl,⟨hn6.1,hn6.2.1,hn6.2.2,by simpa using h3⟩,ho6,b9.trans hb6,c9.trans hc6,D9.trans hD6,k9⟩
    ·rintro σ7 H7 ⟨nm,o7,rfl,hn7,ho7,hb7,hc7,hD7,kp7⟩
     simp! [hc7]
     refine⟨by rw[Ab];omega,zs++[nm],o7,_,_,_,_,⟨rfl,rfl,rfl,rfl⟩,by simp[hz1],λz hz=>?_,by simp,ho7,by rw[jf nbc];exact hb7,by rw[jf nDc];exact hD7,kp7.set hc7 (.inr hc0)⟩
     rcases A7.mp hz with h|h
     ·exact hz2 z h
     ·rw[Am.mp h];exact hn7
  ·rintro σ H' ⟨zs,o',v1,v2,v3,v4,rfl,hz1,hz2,hc',ho',hb',hD',kp⟩
   simp!
   refine⟨λσ H9=>σ[7]?=some (some (.ref c))/\∃(zs:List Str)(o':HO),zs.length=m/\(∀z∈zs,NmOk z)/\H9 c=some (.lst (zs.map V.str))/\BoxO o'/\H9 b=some o'/\Kp [b] H H9,?_,?_⟩
   ·simp!
    refine⟨b,_,_,rfl,hb',ho',by omega,by omega,λd9 o9 d90 d91 ho9=>?_⟩
    obtain⟨xs9,rfl⟩:=id ho9.lst
    obtain⟨xs8,rfl⟩:=id ho'.lst
    simp!
    have k9:=kp.set (o:=.lst xs9) hb' (.inl (by simp))
    have c9:upd H' b (.lst xs9) c=some (.lst (zs.map V.str)):=by rw[jf nbc.symm];exact hc'
    refine ite2 (λh3=>?_) (λh3=>?_)
    ·refine⟨by omega,λp2 hp2=>?_⟩
     have nb2:b≠p2:=jj je hp2
     have nc2:c≠p2:=jj c9 hp2
     refine⟨b,_,_,rfl,by rw[jf nb2,je],ho9,by omega,by omega,λd8 o8 d80 d81 ho8=>?_⟩
     obtain⟨xs7,rfl⟩:=id ho8.lst
     have odd:∃od:Str,([V.str (Str.ofString "som"),V.str (Str.ofString "eac"),V.str (Str.ofString "no"),V.str (Str.ofString "an"),V.str (Str.ofString "ors"),V.str (Str.ofString "iss"),V.str (Str.ofString "so"),V.str (Str.ofString "ye")]:List V)[d8.toNat]?=some (.str od)/\NmOk od:=by
      have hn:d8.toNat<8:=by omega
      generalize d8.toNat=e at hn
      have:e=0\/e=1\/e=2\/e=3\/e=4\/e=5\/e=6\/e=7:=by omega
      rcases this with rfl|rfl|rfl|rfl|rfl|rfl|rfl|rfl <;> exact⟨_,rfl,by unfold NmOk lowS;decide +kernel⟩
     obtain⟨od,hod,lod⟩:=odd
     have p8:∀o,upd (upd (upd H' b (.lst xs9)) p2 o) b (.lst xs7) p2=some o:=λo=>by rw[jf nb2.symm,je]
     simp! [p8]
     refine⟨_,jb7 d80 hod,?_⟩
     have c8:∀o,upd (upd (upd H' b (.lst xs9)) p2 o) b (.lst xs7) c=some (.lst (zs.map V.str)):=λo=>by rw[jf nbc.symm,jf nc2];exact c9
     have k8:∀o,Kp [b] H (upd (upd (upd H' b (.lst xs9)) p2 o) b (.lst xs7)):=λo=>(k9.new hp2).set (by rw[jf nb2,je]) (.inl (by simp))
     refine rInU.lst (c8 _) rfl (by simp[List.all_map];intro z _;rfl) ⟨_,rfl,?_⟩
     refine ite2 (λh4=>?_) (λh4=>?_)
     ·refine⟨b,_,_,rfl,je,ho8,by omega,by omega,λd7 o7 d70 d71 ho7=>?_⟩
      obtain⟨xs6,rfl⟩:=id ho7.lst
      have c7:∀o,upd (upd (upd (upd H' b (.lst xs9)) p2 o) b (.lst xs7)) b (.lst xs6) c=some (.lst (zs.map V.str)):=λo=>by rw[jf nbc.symm];exact c8 o
      simp! [c7]
      have c6:∀o,upd (upd (upd H' b (.lst xs9)) p2 o) b (.lst xs6) c=some (.lst (zs.map V.str)):=λo=>by rw[jf nbc.symm,jf nc2];exact c9
      have k6:∀o,Kp [b] H (upd (upd (upd H' b (.lst xs9)) p2 o) b (.lst xs6)):=λo=>(k9.new hp2).set (by rw[jf nb2,je]) (.inl (by simp))
      refine⟨_,by rw[c6];rfl,d7.toNat,by unfold ixN;rw[Ag d70,Ag (by rw[Ab];omega)],zs.set d7.toNat od,by simp[hz1],λz hz=>?_,by rw[List.map_set],_,ho7,by rw[jf nbc,je],(k6 _).set (c6 _) (.inr hc0)⟩
      rcases List.mem_or_eq_of_mem_set hz with h|h
      ·exact hz2 z h
      ·rw[h];exact lod
     ·exact⟨zs,hz1,hz2,c8 _,_,ho8,je,k8 _⟩
    ·exact⟨zs,hz1,hz2,c9,_,ho9,rfl,k9⟩
   ·rintro σ H9 ⟨e,zs,o',hz1,hz2,hc9,ho9,hb9,kp9⟩
    simp!
    exact⟨_,e,k c zs o' H9 hz1 hz2 hc0 hc9 ho9 hb9 kp9⟩
end
inductive RS where
 |yes|is (x a:Str)|ahead (x y:Str)|no (i:Nat)|bin (b:Bool) (i j:Nat)|qn (b:Bool) (x:Str) (i:Nat)
def bw(b:Bool):Str:=if b then"and"else"or"
def qw(b:Bool):Str:=if b then"some"else"each"
def rowV:RS->List V
 |.yes=>[.str "yes"]
 |.is x a=>[.str "is",.str x,.str a]
 |.ahead x y=>[.str "ahead",.str x,.str y]
 |.no i=>[.str "not",.int (i:Int)]
 |.bin b i j=>[.str (bw b),.int (i:Int),.int (j:Int)]
 |.qn b x i=>[.str (qw b),.str x,.int (i:Int)]
theorem w3:(Str.ofString "ahead"=Str.ofString "is")=False:=Il (by decide +kernel)
theorem w5:(Str.ofString "not"=Str.ofString "is")=False:=Il (by decide +kernel)
theorem w6:(Str.ofString "not"=Str.ofString "ahead")=False:=Il (by decide +kernel)
theorem wb2(b:Bool):(bw b=Str.ofString "is")=False:=Il (by cases b <;> decide +kernel)
theorem wb3(b:Bool):(bw b=Str.ofString "ahead")=False:=Il (by cases b <;> decide +kernel)
theorem wb4(b:Bool):(bw b=Str.ofString "not")=False:=Il (by cases b <;> decide +kernel)
theorem wq1(b:Bool):(qw b=Str.ofString "yes")=False:=Il (by cases b <;> decide +kernel)
theorem wq2(b:Bool):(qw b=Str.ofString "is")=False:=Il (by cases b <;> decide +kernel)
theorem wq3(b:Bool):(qw b=Str.ofString "ahead")=False:=Il (by cases b <;> decide +kernel)
theorem wq4(b:Bool):(qw b=Str.ofString "not")=False:=Il (by cases b <;> decide +kernel)
theorem wy1:(Str.ofString "yes"=Str.ofString "is")=False:=Il (by decide +kernel)
theorem wy2:(Str.ofString "yes"=Str.ofString "ahead")=False:=Il (by decide +kernel)
theorem wy3:(Str.ofString "yes"=Str.ofString "not")=False:=Il (by decide +kernel)
theorem wy4:(Str.ofString "yes"=Str.ofString "and")=False:=Il (by decide +kernel)
theorem wy5:(Str.ofString "yes"=Str.ofString "or")=False:=Il (by decide +kernel)
theorem wq5(b:Bool):(qw b=Str.ofString "and")=False:=Il (by cases b <;> decide +kernel)
theorem wq6(b:Bool):(qw b=Str.ofString "or")=False:=Il (by cases b <;> decide +kernel)
def RS.ok(zs:List Str)(k:Nat):RS->Prop
 |.yes=>True
 |.is x _=>x∈zs
 |.ahead x y=>x∈zs/\y∈zs
 |.no i=>i<k
 |.bin _ i j=>i<k/\j<k
 |.qn _ x i=>x∈zs/\i<k
def okR(zs:List Str)(rs:List RS):Prop:=∀(k:Nat)(r:RS),rs[k]?=some r->r.ok zs k
theorem okR.snoc{zs:List Str}{rs:List RS}{r:RS}(h:okR zs rs)(hr:r.ok zs rs.length):okR zs (rs++[r]):=λk x e=>by
 by_cases hk:k<rs.length
 ·exact h k x (by rwa[Ih hk]at e)
 ·rw[A6 (by omega)]at e
  have:k-rs.length=0:=by
   cases hq:k-rs.length with
   |zero=>rfl
   |succ n=>rw[hq]at e;simp at e
  rw[this]at e
  simp at e
  subst e
  rw[show k=rs.length by omega]
  exact hr
def RS.lt(z:Str):RS->Prop
 |.is _ a=>∃c,c∈z.cps.toList/\a=⟨#[c]⟩
 |_=>True
def okL(z:Str)(rs:List RS):Prop:=∀r∈rs,r.lt z
theorem okL.snoc{z:Str}{rs:List RS}{r:RS}(h:okL z rs)(hr:r.lt z):okL z (rs++[r]):=λx hx=>by
 rcases A7.mp hx with h1|h1
 ·exact h x h1
 ·rw[Am.mp h1];exact hr
def RowsAt(H:Hp)(vs:List V)(rs:List RS):Prop:=Paired (λv r=>∃a,v=.ref a/\H a=some (.tup (rowV r))) vs rs
theorem RowsAt.kp{S:List Addr}{H H':Hp}{vs:List V}{rs:List RS}(k:Kp S H H')(h:RowsAt H vs rs):RowsAt H' vs rs:=Paired.mapP h λ_ _ ⟨a,e,h⟩=>⟨a,e,k.tup _ _ h⟩
theorem RowsAt.get:∀{H:Hp}{vs:List V}{rs:List RS}{k:Nat}{v:V},RowsAt H vs rs->vs[k]?=some v->∃r a,rs[k]?=some r/\v=.ref a/\H a=some (.tup (rowV r))
 |H,_,_,k,v,.nil,e=>by simp at e
 |H,_,_,0,v,.cons (b:=b) ⟨a,q1,q2⟩ _,e=>by simp at e;subst e;exact⟨b,a,rfl,q1,q2⟩
 |H,_,_,k+1,v,.cons _ t,e=>by simp at e;obtain⟨r,a,h⟩:=RowsAt.get (rs:=_) t e;exact⟨r,a,by simpa using h.1,h.2⟩
theorem jfm{c1 c2 A B:Prop}[Decidable c1][Decidable c2](h1:c1\/c2->A)(h2:¬c1->¬c2->B):if c1 then A else if c2 then A else B:=by
 by_cases a:c1
 ·rw[Ag a];exact h1 (.inl a)
 ·rw[Ae a]
  by_cases b:c2
  ·rw[Ag b];exact h1 (.inr b)
  ·rw[Ae b];exact h2 a b
def IR(H:Hp)(b p q:Addr)(z:Str)(zn:List Str)(m:Nat)(i:Nat):L2.St->Hp->Prop:=λσ H'=>∃(vs:List V)(rs:List RS)(o:HO)(v5 v6 v7 v8 v9:Option V),σ=[some (.ref b),some (.str z),some (.ref p),some (.int (m:Int)),some (.ref q),v5,v6,v7,v8,v9] /\
 rs.length=i/\RowsAt H' vs rs/\okR zn rs/\okL z rs/\H' q=some (.lst vs)/\BoxO o/\H' b=some o/\Kp [b] H H'
theorem IR.step{H H9:Hp}{b p q:Addr}{z:Str}{zn:List Str}{m i:Nat}{vs:List V}{rs:List RS}{o:HO}{v5 v6 v7 v8 v9:Option V}(r:RS)(t:Addr)(hr:r.ok zn i)(ht:H9 t=some (.tup (rowV r)))(hl:rs.length=i)(ra:RowsAt H9 vs rs)(ok:okR zn rs)
  (hq:H9 q=some (.lst vs)) (hq0:H q=none) (ho:BoxO o) (hb:H9 b=some o) (nbq:b≠q) (kp:Kp [b] H H9) (hL:r.lt z) (okl:okL z rs):IR H b p q z zn m (i+1) [some (.ref b),some (.str z),some (.ref p),some (.int (m:Int)),some (.ref q),v5,v6,v7,v8,v9] (upd H9 q (.lst (vs++[.ref t]))):=by
 have kq:Kp [q] H9 (upd H9 q (.lst (vs++[.ref t]))):=(Kp.refl [q] H9).set hq (.inl (.head _))
 exact⟨vs++[.ref t],rs++[r],o,v5,v6,v7,v8,v9,rfl,by simp[hl],Oc (ra.kp kq) ⟨t,rfl,kq.tup _ _ ht⟩,ok.snoc (by rw[hl];exact hr),okl.snoc hL,je,ho,by rw[jf nbq];exact hb,kp.set hq (.inr hq0)⟩
structure Fc(H:Hp)(b q:Addr)(us:List V)(rs:List RS)(o:HO)(H1:Hp):Prop where
 hb:H1 b=some o
 ho:BoxO o
 hq:H1 q=some (.lst us)
 ra:RowsAt H1 us rs
 kp:Kp [b] H H1
theorem Fc.new{H H1:Hp}{b q:Addr}{us:List V}{rs:List RS}{o x:HO}{t:Addr}(F:Fc H b q us rs o H1)(ht:H1 t=none):Fc H b q us rs o (upd H1 t x) :=
 ⟨by rw[jf (jj F.hb ht)];exact F.hb,F.ho,by rw[jf (jj F.hq ht)];exact F.hq,F.ra.kp ((Kp.refl [b] H1).new ht),F.kp.new ht⟩
theorem Fc.step{H H1 H2:Hp}{b q:Addr}{us:List V}{rs:List RS}{o o':HO}(F:Fc H b q us rs o H1)(nbq:b≠q)(k:Kp [b] H1 H2)(ho:BoxO o')(hb:H2 b=some o'):Fc H b q us rs o' H2 :=
 ⟨hb,ho,k.old _ _ F.hq (by simpa using nbq.symm),F.ra.kp k,F.kp.trans k⟩
theorem Fc.box{H H1:Hp}{b q:Addr}{us:List V}{rs:List RS}{o o':HO}(F:Fc H b q us rs o H1)(nbq:b≠q)(ho:BoxO o'):Fc H b q us rs o' (upd H1 b o'):=by
 obtain⟨xs,rfl⟩:=F.ho.lst
 exact F.step nbq ((Kp.refl [b] H1).set F.hb (.inl (by simp))) ho je
def spSR:Sp:=λvs H Q _=>∃(b p:Addr)(z:Str)(zs:List Str)(m:Nat)(o:HO),vs=[.ref b,.str z,.ref p,.int (m:Int)]/\H b=some o/\BoxO o/\Letters z 4/\H p=some (.lst (zs.map V.str))/\1<=zs.length/\zs.length<=26/\1<=m/\m<=60/\b≠p /\
 ∀(q:Addr)(us:List V)(rs:List RS)(o':HO)(H':Hp),1<=rs.length->rs.length<=m->RowsAt H' us rs->okR zs rs->okL z rs->H q=none->H' q=some (.lst us)->BoxO o'->H' b=some o'->Kp [b] H H'->Q (.ref q) H'
structure TSR(mg:Str->Option Value)(ft fr:Addr):Prop where
 n_range:mg "range"=none
 n_len:mg "len"=none
 m1z:mg "_law_take"=some (.ref ft)
 m6z:mg "_law_row_at"=some (.ref fr)
theorem jfb{zs:List Str}{d:Int}(h0:0<=d)(h:d<(zs.length:Int)):∃y,y∈zs/\atI (zs.map V.str) d=some (.str y) :=
 ⟨zs[d.toNat]'(by omega),Us _,jb7 h0 (by rw[Aq];simp)⟩
section
variable{P:Program}{w:World}{K:PySem.W.Frag}{mg:Str->Option Value}{base:Heap}
abbrev kz:Stmt:=top 23
theorem kr:FnScope ["_law_box_here","_law_letters_here","_law_names","_law_most","_law_rows","_law_k","_law_kind","_law_x","_law_y","_law_base"] ["_law_box_here","_law_letters_here","_law_names","_law_most"] (jk kz):=⟨rfl,rfl,rfl,by decide +kernel,rfl,by decide +kernel,by decide +kernel⟩
theorem ok__law_saying_rows{f ft fr:Addr}{fd fdt fdr:FuncData}(F:Fun K "_law_saying_rows" "_law_saying_rows" kz f fd)(T:TSR mg ft fr)(F1z:Fun K "_law_take" "_law_take" ki ft fdt)(b1z:Binds K fdt ["_law_box_here","_law_wide"] [])
  (G1z:FnOk P w K mg base CX0 1 ft fdt ["_law_box_here","_law_wide"] jcw) (F6z:Fun K "_law_row_at" "_law_row_at" yp fr fdr) (b6z:Binds K fdr ["_law_box_here","_law_k"] [])
  (G6z:FnOk P w K mg base CX0 2 fr fdr ["_law_box_here","_law_k"] jj2):FnOk P w K mg base CX0 3 f fd ["_law_box_here","_law_letters_here","_law_names","_law_most"] spSR:=by
 refine F.ok kr (λvs H Q E h=>?_) (λcdv A outer s H vs Q E hr h=>?_)
 ·obtain⟨b,p,z,zs,m,o,rfl,_⟩:=h
  rfl
 ·obtain⟨b,p,z,zs,m,o,rfl,hb,ho,hz,hp,z1,z2,m1,m2,nbp,k⟩:=h
  have hu:=hr.units
  refine⟨_,(QSs.h (jh (jn (i:=4) kr.nd rfl (by first|exact Or.inl rfl|exact Or.inr rfl) (j8 jd))
  (jh (zc Ii rfl (zf rfl T.n_range (jc (jp jz jg (jo G1z (hr.mono (by decide)) rfl T.m1z F1z.kp b1z .nil jr (jc (qpv 0) (jc (qpv 3) jd)))) jd)) (kg (i:=5) kr.nd rfl (by first|exact Or.inl rfl|exact Or.inr rfl)) (jh (jn (i:=6) kr.nd rfl (by first|exact Or.inl rfl|exact Or.inr rfl) (jo G1z (hr.mono (by decide)) rfl T.m1z F1z.kp b1z .nil jr (jc (qpv 0) (jc jg jd))))
  (jh (jn (i:=7) kr.nd rfl (by first|exact Or.inl rfl|exact Or.inr rfl) (jq ix_U (qpv 2) (jo G1z (hr.mono (by decide)) rfl T.m1z F1z.kp b1z .nil jr (jc (qpv 0) (jc (jv kj (by rfl) T.n_len yd (jc (qpv 2) jd)) jd))) (λ_ _=>rfl)))
  (ji (j7 (QW.pt (jaa (jt (kx hu) (qpv 5) jg (j5 _)) (z5 (jt jaf (qpv 6) jg (j5 _))))) (jh (jn (i:=8) kr.nd rfl (by first|exact Or.inl rfl|exact Or.inr rfl) (jq ix_U (qpv 2) (jo G1z (hr.mono (by decide)) rfl T.m1z F1z.kp b1z .nil jr (jc (qpv 0) (jc (jv kj (by rfl) T.n_len yd (jc (qpv 2) jd)) jd))) (λ_ _=>rfl)))
  (jh (jn (i:=9) kr.nd rfl (by first|exact Or.inl rfl|exact Or.inr rfl) (j8 (jc (j6 (jc jm (jc (qpv 7) (jc (jq ix_U (qpv 1) (jo G1z (hr.mono (by decide)) rfl T.m1z F1z.kp b1z .nil jr (jc (qpv 0) (jc (jv kj (by rfl) T.n_len yd (jc (qpv 1) jd)) jd))) (λ_ _=>rfl)) jd)))) (jc (j6 (jc jm (jc (qpv 7) (jc (qpv 8) jd)))) (jc (j6 (jc jm jd)) jd)))))
  (ji (ke (ky At Au j9 (qpv 4) (jc (jq ix_U (qpv 9) (jq ix_U (j8 (jc jg (jc jg (jc jg (jc jg (jc jg (jc jg (jc jg jd)))))))) (jo G1z (hr.mono (by decide)) rfl T.m1z F1z.kp b1z .nil jr (jc (qpv 0) (jc jg jd))) (λ_ _=>rfl)) (λ_ _=>rfl)) jd) jca))))) (ji (j7 (jt jaf (qpv 6) jg (j5 _)) (ji (ke (ky At Au j9 (qpv 4) (jc (j6 (jc jm (jc (jo G6z (hr.mono (by decide)) rfl T.m6z F6z.kp b6z .nil jr (jc (qpv 0) (jc (qpv 5) jd))) jd))) jd) jca))) (ji (j7 (jt jaf (qpv 6) jg (j5 _)) (ji (ke (ky At Au j9 (qpv 4) (jc (j6 (jc (jq ix_U (j8 (jc jm (jc jm (jc jm jd)))) (jp zq (qpv 6) jg) (λ_ _=>rfl)) (jc (jo G6z (hr.mono (by decide)) rfl T.m6z F6z.kp b6z .nil jr (jc (qpv 0) (jc (qpv 5) jd))) (jc (jo G1z (hr.mono (by decide)) rfl T.m1z F1z.kp b1z .nil jr (jc (qpv 0) (jc (qpv 5) jd))) jd)))) jd) jca))) (ji (ke (ky At Au j9 (qpv 4) (jc (j6 (jc (jq ix_U (j8 (jc jm (jc jm (jc jm jd)))) (jp zq (qpv 6) jg) (λ_ _=>rfl)) (jc (qpv 7) (jc (jo G6z (hr.mono (by decide)) rfl T.m6z F6z.kp b6z .nil jr (jc (qpv 0) (jc (qpv 5) jd))) jd)))) jd) jca))))))))))))
  (ji (jy (qpv 4)))))),?_⟩
  have hsz:sizeLine=16777216:=Ao
  simp!
  refine⟨by omega,λq hq=>?_⟩
  have nbq:b≠q:=jj hb hq
  have npq:p≠q:=jj hp hq
  refine⟨b,(m:Int),o,rfl,by rw[jf nbq];exact hb,ho,by omega,by omega,λd o1 d0 d1 ho1=>?_⟩
  obtain⟨n,rfl⟩:∃n:Nat,d=(n:Int):=⟨d.toNat,by omega⟩
  have en:(1+(n:Int)).toNat=n+1:=by omega
  obtain⟨xs0,rfl⟩:=ho.lst
  obtain⟨xs1,rfl⟩:=id ho1.lst
  simp!
  refine⟨by omega,by omega,?_⟩
  rw[en]
  refine jcn (IR H b p q z zs m) ?_ ?_ ?_
  ·exact⟨[],[],_,none,none,none,none,none,rfl,rfl,.nil,(λk r e=>by simp at e),(λr h=>by simp at h),by rw[jf nbq.symm,je],ho1,je,((Kp.refl [b] H).new hq).set (by rw[jf nbq];exact hb) (.inl (by simp))⟩
  ·rintro i σ H1 hi ⟨us,rs,o2,v5,v6,v7,v8,v9,rfl,hl,ra,ok,okl,hq1,ho2,hb1,kp⟩
   have hp1:H1 p=some (.lst (zs.map V.str)):=kp.old _ _ hp (by simpa using nbp.symm)
   obtain⟨xs2,rfl⟩:=id ho2.lst
   simp!
   refine⟨b,12,_,rfl,hb1,ho2,by omega,by omega,λkd o3 kd0 kd1 ho3=>?_⟩
   obtain⟨xs3,rfl⟩:=id ho3.lst
   have pA:∀o,upd H1 b o p=some (.lst (zs.map V.str)):=λo=>by rw[jf nbp.symm];exact hp1
   have qA:∀o,upd H1 b o q=some (.lst us):=λo=>by rw[jf nbq.symm];exact hq1
   have kA:∀o,Kp [b] H (upd H1 b o):=λo=>kp.set hb1 (.inl (.head _))
   simp! [pA]
   refine⟨b,_,_,rfl,je,ho3,by rw[Ab];omega,by rw[Ab];omega,λdx o4 dx0 dx1 ho4=>?_⟩
   obtain⟨xs4,rfl⟩:=id ho4.lst
   rw[Ab]at dx1
   simp! [pA]
   obtain⟨x,hx,ax⟩:=jfb dx0 dx1
   refine⟨_,ax,jfm (λh1=>?_) (λh1 h2=>ite2 (λh3=>?_) (λh3=>ite2 (λh4=>?_) (λh4=>?_)))⟩
   ·have F0:Fc H b q us rs (.lst xs4) (upd H1 b (.lst xs4)):=⟨je,ho4,qA _,ra.kp ((Kp.refl [b] H1).set hb1 (.inl (.head _))),kA _⟩
    refine⟨b,_,_,rfl,je,ho4,by rw[Ab];omega,by rw[Ab];omega,λdy o5 dy0 dy1 ho5=>?_⟩
    rw[Ab]at dy1
    obtain⟨xs5,rfl⟩:=id ho5.lst
    simp! [pA]
    obtain⟨y,hy,ay⟩:=jfb dy0 dy1
    have:=hz.lo
    have:=hz.hi
    refine⟨_,ay,by omega,b,_,_,rfl,je,ho5,by omega,by omega,λdz o6 dz0 dz1 ho6=>?_⟩
    obtain⟨xs6,rfl⟩:=id ho6.lst
    simp!
    have hzl:z.cps.toList.length=z.length:=by simp[Str.length]
    refine⟨by omega,z.cps.toList[dz.toNat]'(by omega),jb7 dz0 (by simp),by omega,λt1 ht1=>⟨by omega,λt2 ht2=>⟨by omega,λt3 ht3=>⟨by omega,λt4 ht4=>?_⟩⟩⟩⟩
    have F1:Fc H b q us rs (.lst xs6) (upd H1 b (.lst xs6)):=⟨je,ho6,qA _,ra.kp ((Kp.refl [b] H1).set hb1 (.inl (.head _))),kA _⟩
    have hch:z.cps.toList[dz.toNat]'(by omega)∈z.cps.toList:=Us _
    generalize z.cps.toList[dz.toNat]'(by omega)=ch at ht2 ht3 ht4 hch⊢
    have F4:=(((F1.new (x:=.tup [V.str (Str.ofString "is"),V.str x,V.str ⟨#[ch]⟩]) ht1).new (x:=.tup [V.str (Str.ofString "ahead"),V.str x,V.str y]) ht2).new (x:=.tup [V.str (Str.ofString "yes")]) ht3).new (x:=.lst [V.ref t1,V.ref t2,V.ref t3]) ht4
    have n12:t1≠t2:=jj je ht2
    have n23:t2≠t3:=jj je ht3
    have n34:t3≠t4:=jj je ht4
    have n13:t1≠t3:=jj (by rw[jf n12,je]) ht3
    have n24:t2≠t4:=jj (by rw[jf n23,je]) ht4
    have n14:t1≠t4:=jj (by rw[jf n13,jf n12,je]) ht4
    have g1:upd (upd (upd (upd (upd H1 b (.lst xs6)) t1 (.tup [V.str (Str.ofString "is"),V.str x,V.str ⟨#[ch]⟩])) t2 (.tup [V.str (Str.ofString "ahead"),V.str x,V.str y])) t3 (.tup [V.str (Str.ofString "yes")])) t4 (.lst [V.ref t1,V.ref t2,V.ref t3]) t1=some (.tup (rowV (.is x ⟨#[ch]⟩))):=by rw[jf n14,jf n13,jf n12,je];rfl
    have g2:upd (upd (upd (upd (upd H1 b (.lst xs6)) t1 (.tup [V.str (Str.ofString "is"),V.str x,V.str ⟨#[ch]⟩])) t2 (.tup [V.str (Str.ofString "ahead"),V.str x,V.str y])) t3 (.tup [V.str (Str.ofString "yes")])) t4 (.lst [V.ref t1,V.ref t2,V.ref t3]) t2=some (.tup (rowV (.ahead x y))):=by rw[jf n24,jf n23,je];rfl
    have g3:upd (upd (upd (upd (upd H1 b (.lst xs6)) t1 (.tup [V.str (Str.ofString "is"),V.str x,V.str ⟨#[ch]⟩])) t2 (.tup [V.str (Str.ofString "ahead"),V.str x,V.str y])) t3 (.tup [V.str (Str.ofString "yes")])) t4 (.lst [V.ref t1,V.ref t2,V.ref t3]) t3=some (.tup (rowV .yes)):=by rw[jf n34,je];rfl
    have g4:upd (upd (upd (upd (upd H1 b (.lst xs6)) t1 (.tup [V.str (Str.ofString "is"),V.str x,V.str ⟨#[ch]⟩])) t2 (.tup [V.str (Str.ofString "ahead"),V.str x,V.str y])) t3 (.tup [V.str (Str.ofString "yes")])) t4 (.lst [V.ref t1,V.ref t2,V.ref t3]) t4=some (.lst [V.ref t1,V.ref t2,V.ref t3]):=je
    revert F4 g1 g2 g3 g4
    generalize upd (upd (upd (upd (upd H1 b (.lst xs6)) t1 (.tup [V.str (Str.ofString "is"),V.str x,V.str ⟨#[ch]⟩])) t2 (.tup [V.str (Str.ofString "ahead"),V.str x,V.str y])) t3 (.tup [V.str (Str.ofString "yes")])) t4 (.lst [V.ref t1,V.ref t2,V.ref t3])=H5
    intro F4 g1 g2 g3 g4
    refine⟨by rw[F4.hq];rfl,by omega,λt5 ht5=>?_⟩
    have F5:=F4.new (x:=.lst [V.int 0,V.int 0,V.int 0,V.int 1,V.int 1,V.int 1,V.int 2]) ht5
    refine⟨b,_,_,rfl,F5.hb,F5.ho,by omega,by omega,λe o7 e0 e1 ho7=>?_⟩
    have F6:=F5.box nbq ho7
    have nb5:b≠t5:=jj F4.hb ht5
    have nb4:b≠t4:=λz=>by subst z;have:=F4.hb;rw[g4]at this;obtain⟨c,sd,q1,_⟩:=F4.ho;rw[q1]at this;cases this
    have n45:t4≠t5:=jj g4 ht5
    have i5:∀o,upd (upd H5 t5 o) b o7 t5=some o:=λo=>by rw[jf nb5.symm,je]
    have i4:∀o,upd (upd H5 t5 o) b o7 t4=some (.lst [V.ref t1,V.ref t2,V.ref t3]):=λo=>by rw[jf nb4.symm,jf n45];exact g4
    simp! [i5,i4]
    have k6:Kp [b] H5 (upd (upd H5 t5 (.lst [V.int 0,V.int 0,V.int 0,V.int 1,V.int 1,V.int 1,V.int 2])) b o7):=by
     obtain⟨xs9,e9⟩:=F4.ho.lst
     have hb5:=F5.hb
     rw[e9]at hb5
     exact((Kp.refl [b] H5).new ht5).set hb5 (.inl (.head _))
    have pick:∀(r:RS)(t:Addr),r.ok zs i->r.lt z->H5 t=some (.tup (rowV r))->∃xs_1,jcb (upd (upd H5 t5 (.lst [V.int 0,V.int 0,V.int 0,V.int 1,V.int 1,V.int 1,V.int 2])) b o7 q)=some xs_1/\xs_1.length<sizeLine /\
      IR H b p q z zs m (i+1) [some (V.ref b),some (V.str z),some (V.ref p),some (V.int (m:Int)),some (V.ref q),some (V.int (0+(i:Int))),some (V.int kd),some (V.str x),some (V.str y),some (V.ref t4)] (upd (upd (upd H5 t5 (.lst [V.int 0,V.int 0,V.int 0,V.int 1,V.int 1,V.int 1,V.int 2])) b o7) q (.lst (xs_1++[V.ref t]))) :=
     λr t hr hlt ht=>⟨us,by rw[F6.hq];rfl,by have:us.length=rs.length:=Az ra;omega,IR.step r t hr (k6.tup _ _ ht) hl F6.ra ok F6.hq hq F6.ho F6.hb nbq F6.kp hlt okl⟩
    have:e=0\/e=1\/e=2\/e=3\/e=4\/e=5\/e=6:=by omega
    rcases this with rfl|rfl|rfl|rfl|rfl|rfl|rfl
    ·exact⟨_,jb7 (by decide) rfl,_,by rw[i4];rfl,_,jb7 (by decide) rfl,pick (.is x ⟨#[ch]⟩) t1 hx ⟨ch,hch,rfl⟩ g1⟩
    ·exact⟨_,jb7 (by decide) rfl,_,by rw[i4];rfl,_,jb7 (by decide) rfl,pick (.is x ⟨#[ch]⟩) t1 hx ⟨ch,hch,rfl⟩ g1⟩
    ·exact⟨_,jb7 (by decide) rfl,_,by rw[i4];rfl,_,jb7 (by decide) rfl,pick (.is x ⟨#[ch]⟩) t1 hx ⟨ch,hch,rfl⟩ g1⟩
    ·exact⟨_,jb7 (by decide) rfl,_,by rw[i4];rfl,_,jb7 (by decide) rfl,pick (.ahead x y) t2 ⟨hx,hy⟩ trivial g2⟩
    ·exact⟨_,jb7 (by decide) rfl,_,by rw[i4];rfl,_,jb7 (by decide) rfl,pick (.ahead x y) t2 ⟨hx,hy⟩ trivial g2⟩
    ·exact⟨_,jb7 (by decide) rfl,_,by rw[i4];rfl,_,jb7 (by decide) rfl,pick (.ahead x y) t2 ⟨hx,hy⟩ trivial g2⟩
    ·exact⟨_,jb7 (by decide) rfl,_,by rw[i4];rfl,_,jb7 (by decide) rfl,pick .yes t3 trivial trivial g3⟩
   ·have F0:Fc H b q us rs (.lst xs4) (upd H1 b (.lst xs4)):=⟨je,ho4,qA _,ra.kp ((Kp.refl [b] H1).set hb1 (.inl (.head _))),kA _⟩
    refine⟨by rw[F0.hq];rfl,b,_,_,rfl,F0.hb,F0.ho,by omega,by omega,λe o7 H5 e0 e1 ho7 hb7 k7=>⟨by omega,λt ht=>?_⟩⟩
    obtain⟨j,rfl⟩:∃j:Nat,e=(j:Int):=⟨e.toNat,by omega⟩
    have F6:=(F0.step nbq k7 ho7 hb7).new (x:=.tup [V.str (Str.ofString "not"),V.int (j:Int)]) ht
    exact⟨us,by rw[F6.hq];rfl,by have:us.length=rs.length:=Az ra;omega,IR.step (.no j) t (show j<i by omega) je hl F6.ra ok F6.hq hq F6.ho F6.hb nbq F6.kp trivial okl⟩
   ·have F0:Fc H b q us rs (.lst xs4) (upd H1 b (.lst xs4)):=⟨je,ho4,qA _,ra.kp ((Kp.refl [b] H1).set hb1 (.inl (.head _))),kA _⟩
    obtain⟨bb,hbb⟩:∃bb:Bool,atI [V.str (Str.ofString "and"),V.str (Str.ofString "and"),V.str (Str.ofString "or")] (kd-6)=some (.str (bw bb)):=by
     have:kd=6\/kd=7\/kd=8:=by omega
     rcases this with rfl|rfl|rfl
     ·exact⟨true,jb7 (by decide) rfl⟩
     ·exact⟨true,jb7 (by decide) rfl⟩
     ·exact⟨false,jb7 (by decide) rfl⟩
    refine⟨by rw[F0.hq];rfl,by omega,λt0 ht0=>⟨_,hbb,?_⟩⟩
    have Fa:=F0.new (x:=.lst [V.str (Str.ofString "and"),V.str (Str.ofString "and"),V.str (Str.ofString "or")]) ht0
    refine⟨b,_,_,rfl,Fa.hb,Fa.ho,by omega,by omega,λe o7 H5 e0 e1 ho7 hb7 k7=>?_⟩
    have Fb:=Fa.step nbq k7 ho7 hb7
    refine⟨b,_,_,rfl,hb7,ho7,by omega,by omega,λe2 o8 e20 e21 ho8=>⟨by omega,λt ht=>?_⟩⟩
    obtain⟨j,rfl⟩:∃j:Nat,e=(j:Int):=⟨e.toNat,by omega⟩
    obtain⟨l,rfl⟩:∃l:Nat,e2=(l:Int):=⟨e2.toNat,by omega⟩
    have F6:=(Fb.box nbq ho8).new (x:=.tup [V.str (bw bb),V.int (j:Int),V.int (l:Int)]) ht
    exact⟨us,by rw[F6.hq];rfl,by have:us.length=rs.length:=Az ra;omega,IR.step (.bin bb j l) t (show j<i/\l<i by omega) je hl F6.ra ok F6.hq hq F6.ho F6.hb nbq F6.kp trivial okl⟩
   ·have F0:Fc H b q us rs (.lst xs4) (upd H1 b (.lst xs4)):=⟨je,ho4,qA _,ra.kp ((Kp.refl [b] H1).set hb1 (.inl (.head _))),kA _⟩
    obtain⟨bb,hbb⟩:∃bb:Bool,atI [V.str (Str.ofString "some"),V.str (Str.ofString "some"),V.str (Str.ofString "each")] (kd-9)=some (.str (qw bb)):=by
     have:kd=9\/kd=10\/kd=11:=by omega
     rcases this with rfl|rfl|rfl
     ·exact⟨true,jb7 (by decide) rfl⟩
     ·exact⟨true,jb7 (by decide) rfl⟩
     ·exact⟨false,jb7 (by decide) rfl⟩
    refine⟨by rw[F0.hq];rfl,by omega,λt0 ht0=>⟨_,hbb,?_⟩⟩
    have Fa:=F0.new (x:=.lst [V.str (Str.ofString "some"),V.str (Str.ofString "some"),V.str (Str.ofString "each")]) ht0
    refine⟨b,_,_,rfl,Fa.hb,Fa.ho,by omega,by omega,λe o7 H5 e0 e1 ho7 hb7 k7=>⟨by omega,λt ht=>?_⟩⟩
    obtain⟨j,rfl⟩:∃j:Nat,e=(j:Int):=⟨e.toNat,by omega⟩
    have F6:=(Fa.step nbq k7 ho7 hb7).new (x:=.tup [V.str (qw bb),V.str x,V.int (j:Int)]) ht
    exact⟨us,by rw[F6.hq];rfl,by have:us.length=rs.length:=Az ra;omega,IR.step (.qn bb x j) t ⟨hx,show j<i by omega⟩ je hl F6.ra ok F6.hq hq F6.ho F6.hb nbq F6.kp trivial okl⟩
  ·rintro σ H1 ⟨us,rs,o2,v5,v6,v7,v8,v9,rfl,hl,ra,ok,okl,hq1,ho2,hb1,kp⟩
   simp!
   exact k q us rs o2 H1 (by omega) (by omega) ra ok okl hq hq1 ho2 hb1 kp
end
def NN:List Str:=["yes","is","not","and","or"]
def azB(c:Nat):Bool:=decide (97<=c) && decide (c<=122)
def isNm(z:Str):Bool:=!(decide ((z.length:Int)<1) || decide (3<(z.length:Int)) || inV (.str z) (NN.map V.str)) && z.cps.toList.all azB
def spNm:Sp:=λvs H Q _=>∃z:Str,vs=[.str z]/\z.length<=sizeLine/\∀H',Kp [] H H'->Q (.bl (isNm z)) H'
structure TNm(K:PySem.W.Frag)(mg:Str->Option Value)(an:Addr):Prop where
 n_len:mg "len"=none
 n_all:mg "all"=none
 m_NO_NAMES:mg "NO_NAMES"=some (.ref an)
 k_NO_NAMES:∀H,SqT K H an (NN.map V.str)
section
variable{P:Program}{w:World}{K:PySem.W.Frag}{mg:Str->Option Value}{base:Heap}
abbrev yn:Stmt:=top 10
theorem sc_is_name:FnScope ["text"] ["text"] (jk yn):=⟨rfl,rfl,rfl,by decide +kernel,rfl,by decide +kernel,by decide +kernel⟩
theorem ok_is_name{f an:Addr}{fd:FuncData}(F:Fun K "is_name" "is_name" yn f fd)(T:TNm K mg an):FnOk P w K mg base CX0 1 f fd ["text"] spNm:=by
 refine F.ok sc_is_name (λvs H Q E h=>?_) (λcdv A outer s H vs Q E hr h=>?_)
 ·obtain⟨z,rfl,_⟩:=h
  rfl
 ·obtain⟨z,rfl,hz,k⟩:=h
  refine⟨_,(QSs.h (jh (j7 (QW.pt (jaa (jt jaf (jv kj (by rfl) T.n_len yd (jc (qpv 0) jd)) jg (j5 _)) (jaa (jt jbz (jv kj (by rfl) T.n_len yd (jc (qpv 0) jd)) jg (j5 _)) (z5 (jt (zw (K:=K) rfl) (qpv 0) (jai (v:=.ref _) rfl T.m_NO_NAMES rfl) (by with_unfolding_all rfl)))))) (ji (jy jag)) kh)
  (ji (jy (jv (call_allU rfl) (by rfl) T.n_all bt_all (jc (jaz rfl (jcv (sc:=jk yn) (N:=["text"]) (Nc:=["sign"]) (js:=[none]) (by decide +kernel)) (zk (K:=K) (qpv 0) rfl) (λ_ _ _ _=>(kg (i:=0) (show List.Nodup [("sign":Str)]from by decide +kernel) rfl (by first|exact Or.inl rfl|exact Or.inr rfl))) (λ_ _ _ _=>(jbg ja1 ja1 jm (qpv 0) jm))) jd)))))),?_⟩
  simp!
  refine⟨hz,ite2 (λh1=>?_) (λh1=>⟨hz,ite2 (λh2=>?_) (λh2=>rInU.tupS (T.k_NO_NAMES H) rfl (by decide) ⟨_,rfl,?_⟩)⟩)⟩
  ·have e:isNm z=false:=by simp[isNm,h1]
   rw[<-e];exact k H (Kp.refl [] H)
  ·have e:isNm z=false:=by simp[isNm,h2]
   rw[<-e];exact k H (Kp.refl [] H)
  simp only[Iq,Oe]
  refine ite2 (λh3=>?_) (λh3=>?_)
  ·have e:isNm z=false:=by simp[isNm,h3]
   rw[<-e];exact k H (Kp.refl [] H)
  have e:isNm z=z.cps.toList.all azB:=by simp[isNm,h1,h2,h3]
  intro D hD
  have ea:(Str.ofString "a").cps.toList=[97]:=by decide +kernel
  have ez:(Str.ofString "z").cps.toList=[122]:=by decide +kernel
  refine jl1 (λc=>.bl (azB c)) hz (λc _ l Q' hq=>?_) λv=>?_
  ·simp! [ea,ez,lt1]
   refine ite2 (λg=>?_) (λg=>?_)
   ·refine(Iy (λb=>Q' (.bl b) _) (?_:_=azB c)).mpr hq
    simp at g
    rw[Iz]
    simp[azB]
    omega
   ·refine(Iy (λb=>Q' (.bl b) _) (?_:_=azB c)).mpr hq
    simp at g
    rw[Iz]
    simp[azB]
    omega
  ·refine⟨z.cps.toList.map azB,by rw[je,O2];rfl,?_⟩
   rw[List.all_map]
   exact e▸k _ ((Kp.refl [] H).new hD)
structure TBs(mg:Str->Option Value)(fn:Addr):Prop where
 m2z:mg "is_name"=some (.ref fn)
def bgS:List Str:=["yes","not","(","some","each"]
def bgB(z:Str):Bool:=inV (.str z) (bgS.map V.str) || isNm z
def spBs:Sp:=λvs H Q _=>∃z:Str,vs=[.str z]/\z.length<=sizeLine/\∀H',Kp [] H H'->Q (.bl (bgB z)) H'
abbrev yc:Stmt:=top 16
theorem sc_begins_saying:FnScope ["word"] ["word"] (jk yc):=⟨rfl,rfl,rfl,by decide +kernel,rfl,by decide +kernel,by decide +kernel⟩
theorem ok_begins_saying{f fn:Addr}{fd fdn:FuncData}(F:Fun K "begins_saying" "begins_saying" yc f fd)(T:TBs mg fn)(F2z:Fun K "is_name" "is_name" yn fn fdn)(b2z:Binds K fdn ["text"] [])
  (G2z:FnOk P w K mg base CX0 1 fn fdn ["text"] spNm):FnOk P w K mg base CX0 2 f fd ["word"] spBs:=by
 refine F.ok sc_begins_saying (λvs H Q E h=>?_) (λcdv A outer s H vs Q E hr h=>?_)
 ·obtain⟨z,rfl,_⟩:=h
  rfl
 ·obtain⟨z,rfl,hz,k⟩:=h
  have hu:=hr.units
  refine exQ (ji (jy (jb3 (zr (zw (K:=K) rfl) (qpv 0) (j6 (jc jm (jc jm (jc jm (jc jm (jc jm jd)))))) (by with_unfolding_all rfl)) (ja9 (jo G2z (hr.mono (by decide)) rfl T.m2z F2z.kp b2z .nil jr (jc (qpv 0) jd)))))) ?_
  simp!
  have hsz:sizeLine=16777216:=Ao
  refine⟨by omega,λp hp=>rInU.tupS (SqT.of je) rfl rfl ⟨_,rfl,ite2 (λh=>?_) (λh=>⟨z,rfl,hz,λH' kp=>?_⟩)⟩⟩
  ·have e:bgB z=true:=by
    unfold bgB
    rw[show inV (.str z) (bgS.map V.str)=true from h]
    rfl
   rw[<-e]
   exact k _ ((Kp.refl [] H).new hp)
  ·have e:bgB z=isNm z:=by
    unfold bgB
    rw[show inV (.str z) (bgS.map V.str)=false from Bool.eq_false_iff.mpr h]
    rfl
   rw[<-e]
   exact k _ (((Kp.refl [] H).new hp).trans kp)
structure TSl(mg:Str->Option Value):Prop where
 n_len:mg "len"=none
def smB(z:Str):Bool:=decide (z.length=1) && z.cps.toList.all azB
def spSl:Sp:=λvs H Q _=>∃z:Str,vs=[.str z]/\z.length<=sizeLine/\∀H',Kp [] H H'->Q (.bl (smB z)) H'
abbrev ko:Stmt:=top 14
theorem sc_is_small_letter:FnScope ["word"] ["word"] (jk ko):=⟨rfl,rfl,rfl,by decide +kernel,rfl,by decide +kernel,by decide +kernel⟩
theorem ok_is_small_letter{f:Addr}{fd:FuncData}(F:Fun K "is_small_letter" "is_small_letter" ko f fd)(T:TSl mg):FnOk P w K mg base CX0 1 f fd ["word"] spSl:=by
 refine F.ok sc_is_small_letter (λvs H Q E h=>?_) (λcdv A outer s H vs Q E hr h=>?_)
 ·obtain⟨z,rfl,_⟩:=h
  rfl
 ·obtain⟨z,rfl,hz,k⟩:=h
  have hu:=hr.units
  refine exQ (ji (jy (qpe_and (zr (kx hu) (jv kj (by rfl) T.n_len yd (jc (qpv 0) jd)) jg (j5 _)) (ja9 (jbg ja1 ja1 jm (qpv 0) jm))))) ?_
  simp!
  have ea:(Str.ofString "a").cps.toList=[97]:=by decide +kernel
  have ez:(Str.ofString "z").cps.toList=[122]:=by decide +kernel
  refine⟨hz,ite2 (λh=>?_) (λh=>?_)⟩
  ·obtain⟨c,hc⟩:∃c,z.cps.toList=[c]:=by
    have:z.cps.toList.length=1:=by simp[Str.length]at h⊢;omega
    match z.cps.toList,this with
    |[c],_=>exact⟨c,rfl⟩
   have e:smB z=azB c:=by
    have:z.length=1:=by omega
    simp[smB,this,hc]
   rw[e]at k
   rw[hc,ea,ez]
   simp only[lt1]
   refine ite2 (λg=>?_) (λg=>?_)
   ·refine(Iy (λb=>Q (.bl b) _) (?_:_=azB c)).mpr (k H (Kp.refl [] H))
    simp at g
    rw[Iz]
    simp[azB]
    omega
   ·refine(Iy (λb=>Q (.bl b) _) (?_:_=azB c)).mpr (k H (Kp.refl [] H))
    simp at g
    rw[Iz]
    simp[azB]
    omega
  ·have e:smB z=false:=by
    have:¬z.length=1:=by omega
    simp[smB,this]
   rw[<-e]
   exact k H (Kp.refl [] H)
end
def wdL(f:Nat->List Str):RS->List Str
 |.yes=>["yes"]
 |.is x a=>[x,"is",a]
 |.ahead x y=>[x,"<",y]
 |.no i=>"not"::f i
 |.bin b i j=>"("::(f i++(bw b::(f j++[Str.ofString ")"])))
 |.qn b x i=>qw b::x::f i
def jo6(acc:List (List Str))(r:RS):List (List Str):=acc++[wdL (λi=>acc.getD i []) r]
def wds(rs:List RS):List (List Str):=rs.foldl jo6 []
def wAt(rs:List RS)(i:Nat):List Str:=(wds rs).getD i []
theorem jd3(rs:List RS)(r:RS):wds (rs++[r])=wds rs++[wdL (wAt rs) r]:=by
 unfold wds
 rw[List.foldl_append]
 rfl
theorem jj7(a:List RS):∀b:List RS,∃t,wds (a++b)=wds a++t/\t.length=b.length:=by
 intro b
 induction b generalizing a with
 |nil=>exact⟨[],by simp,rfl⟩
 |cons r b ih =>
  obtain⟨t,e,l⟩:=ih (a++[r])
  rw[Ic,List.singleton_append]at e
  exact⟨wdL (wAt a) r::t,by rw[e,jd3,Ic,List.singleton_append],by simp[l]⟩
theorem jcq(rs:List RS):(wds rs).length=rs.length:=by
 obtain⟨t,e,l⟩:=jj7 [] rs
 rw[List.nil_append]at e
 rw[e]
 show([]++t).length=_
 simpa using l
theorem jet(a b:List RS){i:Nat}(h:i<a.length):wAt (a++b) i=wAt a i:=by
 obtain⟨t,e,l⟩:=jj7 a b
 unfold wAt
 rw[e,Af,Af,Ih (by rw[jcq];exact h)]
theorem jly{f g:Nat->List Str}{r:RS}{zs:List Str}{k:Nat}(ok:r.ok zs k)(h:∀i,i<k->f i=g i):wdL f r=wdL g r:=by
 cases r with
 |no i=>simp only[wdL];rw[h i ok]
 |bin b i j=>simp only[wdL];rw[h i ok.1,h j ok.2]
 |qn b x i=>simp only[wdL];rw[h i ok.2]
 |_=>rfl
theorem jlx{zs:List Str}{rs:List RS}(ok:okR zs rs){i:Nat}{r:RS}(e:rs[i]?=some r):wAt rs i=wdL (wAt rs) r:=by
 have hi:=(Aa.mp e).1
 have er:rs=rs.take i++([r]++rs.drop (i+1)):=by
  have:=(Aa.mp e).2
  rw[List.singleton_append,<-this,<-O8 hi,List.take_append_drop]
 have lt:(rs.take i).length=i:=by rw[Ir];omega
 have e1:wAt rs i=wAt (rs.take i++[r]) i:=by
  conv=>lhs;rw[er,<-Ic]
  exact jet _ _ (by simp[lt])
 have e2:wAt (rs.take i++[r]) i=wdL (wAt (rs.take i)) r:=by
  unfold wAt
  rw[jd3,Af,A6 (by rw[jcq,lt];exact Ac _),jcq,lt]
  simp
  rfl
 rw[e1,e2]
 refine jly (ok i r e) λj hj=>?_
 conv=>rhs;rw[er]
 exact(jet _ _ (by omega)).symm
def BdW(rs:List RS)(B:Nat):Prop:=∀j,(wAt rs j).length<=B
theorem BdW.snoc{rs:List RS}{r:RS}{B B':Nat}(h:BdW rs B)(hB:B<=B')(hr:(wdL (wAt rs) r).length<=B'):BdW (rs++[r]) B':=λj=>by
 by_cases hj:j<rs.length
 ·rw[jet _ _ hj];exact Ig (h j) hB
 ·by_cases e:j=rs.length
  ·subst e
   have:wAt (rs++[r]) rs.length=wdL (wAt rs) r:=by
    unfold wAt
    rw[jd3,Af,A6 (by rw[jcq];exact Ac _),jcq]
    simp
    rfl
   rw[this];exact hr
  ·unfold wAt
   rw[Af,List.getElem?_eq_none (by rw[jcq];simp;omega)]
   simp
theorem jn2{f:Nat->List Str}{B:Nat}(h:∀i,(f i).length<=B)(r:RS):(wdL f r).length<=2*B+3:=by
 cases r with
 |no i=>have:=h i;simp only[wdL,List.length_cons];omega
 |bin b i j=>have:=h i;have:=h j;simp only[wdL,List.length_cons,A4,List.length_nil];omega
 |qn b x i=>have:=h i;simp only[wdL,List.length_cons];omega
 |_=>simp[wdL]
theorem BdW.all:∀(n:Nat)(rs:List RS),rs.length=n->BdW rs (3*2^n-3)
 |0,rs,h=>by
  rw[List.eq_nil_of_length_eq_zero h]
  intro j
  simp[wAt,wds]
 |n+1,rs,h=>by
  obtain⟨a,r,rfl⟩:∃a r,rs=a++[r]:=⟨rs.dropLast,rs.getLast (λz=>by rw[z]at h;simp at h),(Oh _).symm⟩
  have ih:=BdW.all n a (by simpa using h)
  have p:1<=2^n:=Nat.one_le_two_pow
  have e:2^(n+1)=2*2^n:=by rw[Nat.pow_succ];omega
  refine ih.snoc (by omega) ?_
  have:=jn2 (f:=wAt a) ih r
  omega
theorem jan{α β:Type}{F:α->β->Prop}:∀{l:List α}{m:List β}{k:Nat}{v:α},Paired F l m->l[k]?=some v->∃r,m[k]?=some r/\F v r
 |_,_,k,v,.nil,e=>by simp at e
 |_,_,0,v,.cons (b:=b) h _,e=>by simp at e;subst e;exact⟨b,rfl,h⟩
 |_,_,k+1,v,.cons _ t,e=>by simp at e;obtain⟨r,h⟩:=jan t e;exact⟨r,by simpa using h.1,h.2⟩
theorem ixL{H:Hp}{q:Addr}{fs:List V}{j:Nat}{v:V}{Q:VK}(e:H q=some (.lst fs))(a:fs[j]?=some v)(k:Q v H):rIxU (.ref q) (.int (j:Int)) H Q:=⟨fs,by rw[e];rfl,v,jb7 (by omega) (by simpa using a),k⟩
def LsAt(H0:Hp)(q:Addr)(H:Hp)(vs:List V)(ls:List (List Str)):Prop:=Paired (λv ws=>∃p,v=.ref p/\p≠q/\H0 p=none/\H p=some (.lst (ws.map V.str))) vs ls
theorem LsAt.kp{H0 H H':Hp}{q:Addr}{vs:List V}{ls:List (List Str)}(h:LsAt H0 q H vs ls)(k:Kp [q] H H'):LsAt H0 q H' vs ls:=Paired.mapP h λ_ _ ⟨a,e,n,z,h⟩=>⟨a,e,n,z,k.old _ _ h (by simpa using n)⟩
theorem LsAt.get{H0 H:Hp}{q:Addr}{vs:List V}{rs:List RS}(h:LsAt H0 q H vs (wds rs)){i:Nat}(hi:i<rs.length):∃p,vs[i]?=some (.ref p)/\p≠q/\H0 p=none/\H p=some (.lst ((wAt rs i).map V.str)):=by
 obtain⟨v,e⟩:∃v,vs[i]?=some v:=⟨_,An (by rw[Az h,jcq];exact hi)⟩
 obtain⟨l,e2,p,rfl,n,z,hp⟩:=jan h e
 refine⟨p,e,n,z,?_⟩
 unfold wAt
 rw[Af,e2]
 exact hp
structure WS(H:Hp)(q c:Addr)(fs:List V)(rs:List RS)(r:RS)(H':Hp):Prop where
 hq:H' q=some (.lst fs)
 la:LsAt H q H' fs (wds rs)
 hc:H' c=some (.tup (rowV r))
 kp:Kp [] H H'
theorem WS.new{H H1:Hp}{q c p:Addr}{fs:List V}{rs:List RS}{r:RS}{o:HO}(S:WS H q c fs rs r H1)(hp:H1 p=none):WS H q c fs rs r (upd H1 p o) :=
 ⟨by rw[jf (jj S.hq hp)];exact S.hq,S.la.kp ((Kp.refl [q] H1).new hp),by rw[jf (jj S.hc hp)];exact S.hc,S.kp.new hp⟩
def spWd:Sp:=λvs H Q _=>∃(a:Addr)(us:List V)(rs:List RS)(zs:List Str),vs=[.ref a]/\H a=some (.tup us)/\RowsAt H us rs/\okR zs rs/\1<=rs.length/\rs.length<=1000/\BdW rs 100000 /\
 ∀q H',H q=none->H' q=some (.lst ((wAt rs (rs.length-1)).map V.str))->Kp [] H H'->Q (.ref q) H'
section
variable{P:Program}{w:World}{K:PySem.W.Frag}{mg:Str->Option Value}{base:Heap}
abbrev yx:Stmt:=top 26
theorem yh:FnScope ["_law_saying","_law_found","_law_row","_law_words_here"] ["_law_saying"] (jk yx):=⟨rfl,rfl,rfl,by decide +kernel,rfl,by decide +kernel,by decide +kernel⟩
theorem ok__law_words{f:Addr}{fd:FuncData}(F:Fun K "_law_words" "_law_words" yx f fd):FnOk P w K mg base CX0 1 f fd ["_law_saying"] spWd:=by
 refine F.ok yh (λvs H Q E h=>?_) (λcdv A outer s H vs Q E hr h=>?_)
 ·obtain⟨a,us,rs,zs,rfl,_⟩:=h
  rfl
 ·obtain⟨a,us,rs,zs,rfl,ha,ra,ok,n1,n9,hbw,k⟩:=h
  have hu:=hr.units
  have hsz:sizeLine=16777216:=Ao
  have ul:us.length=rs.length:=Az ra
  refine exQ (jh (jn (i:=1) yh.nd rfl (by first|exact Or.inl rfl|exact Or.inr rfl) (j8 jd))
  (jh (zc Ii rfl (zk (K:=K) (qpv 0) rfl) (kg (i:=2) yh.nd rfl (by first|exact Or.inl rfl|exact Or.inr rfl)) (yw (j7 (jt (kx hu) (jq ix_U (qpv 2) jg (λ_ _=>rfl)) jm (j5 _)) (ji (jn (i:=3) yh.nd rfl (by first|exact Or.inl rfl|exact Or.inr rfl) (j8 (jc (jq ix_U (qpv 2) jg (λ_ _=>rfl)) (jc jm (jc (jq ix_U (qpv 2) jg (λ_ _=>rfl)) jd)))))) (ji (j7 (jt (kx hu) (jq ix_U (qpv 2) jg (λ_ _=>rfl)) jm (j5 _)) (ji (jn (i:=3) yh.nd rfl (by first|exact Or.inl rfl|exact Or.inr rfl) (j8 (jc (jq ix_U (qpv 2) jg (λ_ _=>rfl)) (jc jm (jc (jq ix_U (qpv 2) jg (λ_ _=>rfl)) jd)))))) (ji (j7 (jt (kx hu) (jq ix_U (qpv 2) jg (λ_ _=>rfl)) jm (j5 _)) (ji (jn (i:=3) yh.nd rfl (by first|exact Or.inl rfl|exact Or.inr rfl) (jp jz (j8 (jc jm jd)) (jq ix_U (qpv 1) (jq ix_U (qpv 2) jg (λ_ _=>rfl)) (λ_ _=>rfl))))) (ji (j7 (QW.pt (jaa (jt (kx hu) (jq ix_U (qpv 2) jg (λ_ _=>rfl)) jm (j5 _)) (z5 (jt (kx hu) (jq ix_U (qpv 2) jg (λ_ _=>rfl)) jm (j5 _))))) (ji (jn (i:=3) yh.nd rfl (by first|exact Or.inl rfl|exact Or.inr rfl) (jp jz (jp jz (jp jz (jp jz (j8 (jc jm jd)) (jq ix_U (qpv 1) (jq ix_U (qpv 2) jg (λ_ _=>rfl)) (λ_ _=>rfl))) (j8 (jc (jq ix_U (qpv 2) jg (λ_ _=>rfl)) jd))) (jq ix_U (qpv 1) (jq ix_U (qpv 2) jg (λ_ _=>rfl)) (λ_ _=>rfl))) (j8 (jc jm jd))))) (ji (j7 (jt (kx hu) (jq ix_U (qpv 2) jg (λ_ _=>rfl)) jm (j5 _)) (ji (jn (i:=3) yh.nd rfl (by first|exact Or.inl rfl|exact Or.inr rfl) (j8 (jc jm jd)))) (ji (jn (i:=3) yh.nd rfl (by first|exact Or.inl rfl|exact Or.inr rfl) (jp jz (j8 (jc (jq ix_U (qpv 2) jg (λ_ _=>rfl)) (jc (jq ix_U (qpv 2) jg (λ_ _=>rfl)) jd))) (jq ix_U (qpv 1) (jq ix_U (qpv 2) jg (λ_ _=>rfl)) (λ_ _=>rfl))))))))))))))
  (ji (ke (ky At Au j9 (qpv 1) (jc (qpv 3) jd) jca)))))
  (ji (jy (jq ix_U (qpv 1) (ja3 jf2 jg) (λ_ _=>rfl)))))) ?_
  simp!
  refine⟨by omega,λq hq=>?_⟩
  obtain⟨W,hW⟩:∃W:Nat->L2.St->Hp->Prop,W=λi σ H'=>∃(fs:List V)(v2 v3:Option V),σ=[some (.ref a),some (.ref q),v2,v3]/\H' q=some (.lst fs)/\LsAt H q H' fs (wds (rs.take i))/\Kp [] H H':=⟨_,rfl⟩
  have haq:∀o,upd H q o a=some (.tup us):=λo=>by rw[jf (jj ha hq)];exact ha
  simp only[haq]
  refine jdu (xs:=us) W ?_ ?_ ?_ ?_
  ·rw[hW];exact⟨[],none,none,rfl,je,.nil,(Kp.refl [] H).new hq⟩
  ·intro i σ H1 _ hw
   rw[hW]at hw
   obtain⟨fs,v2,v3,rfl,hq1,la,kp⟩:=hw
   exact kp.tup _ _ ha
  ·intro i v σ H1 ei hw
   rw[hW]at hw
   obtain⟨fs,v2,v3,rfl,hq1,la,kp⟩:=hw
   obtain⟨r,c,er,rfl,hc⟩:=RowsAt.get (ra.kp kp) ei
   simp! [hc]
   refine⟨λσ H'=>∃p,σ=[some (.ref a),some (.ref q),some (.ref c),some (.ref p)]/\H' q=some (.lst fs)/\LsAt H q H' fs (wds (rs.take i))/\(p≠q/\H p=none/\H' p=some (.lst ((wdL (wAt (rs.take i)) r).map V.str)))/\Kp [] H H',?_,?_⟩
   ·have okr:=ok i r er
    have il:i<rs.length:=(Aa.mp er).1
    have tl:(rs.take i).length=i:=by rw[Ir];omega
    have S:WS H q c fs (rs.take i) r H1:=⟨hq1,la,hc,kp⟩
    have bd:∀j,((wAt (rs.take i) j).map V.str).length<=100000:=λj=>by
     rw[Ab]
     by_cases hj:j<i
     ·have e:=jet (rs.take i) (rs.drop i) (i:=j) (by omega)
      rw[List.take_append_drop]at e
      rw[<-e];exact hbw j
     ·unfold wAt
      rw[Af,List.getElem?_eq_none (by rw[jcq];omega)]
      simp
    have at1:∀{j:Nat}{H2:Hp},j<i->LsAt H q H2 fs (wds (rs.take i))->∃p2,fs[j]?=some (.ref p2)/\p2≠q/\H p2=none/\H2 p2=some (.lst ((wAt (rs.take i) j).map V.str)):=λhj l=>l.get (by omega)
    have last0:∀{p:Addr}{H2:Hp}{ls:List Str},WS H q c fs (rs.take i) r H2->H2 p=none->ls=wdL (wAt (rs.take i)) r->upd H2 p (.lst (ls.map V.str)) q=some (.lst fs)/\LsAt H q (upd H2 p (.lst (ls.map V.str))) fs (wds (rs.take i)) /\
      (p≠q/\H p=none/\ls.map V.str=(wdL (wAt (rs.take i)) r).map V.str)/\Kp [] H (upd H2 p (.lst (ls.map V.str))):=fun{p H2 ls} S2 hp e=>by
     have S3:=S2.new (o:=.lst (ls.map V.str)) hp
     exact⟨S3.hq,S3.la,⟨(λz=>by rw[z,S2.hq]at hp;cases hp),S2.kp.free hp,by rw[e]⟩,S3.kp⟩
    have last:∀{p:Addr}{H2:Hp}{ls:List Str},WS H q c fs (rs.take i) r H2->H2 p=none->ls=wdL (wAt (rs.take i)) r->∃p',V.ref p=V.ref p'/\upd H2 p (.lst (ls.map V.str)) q=some (.lst fs)/\LsAt H q (upd H2 p (.lst (ls.map V.str))) fs (wds (rs.take i)) /\
      (p'≠q/\H p'=none/\upd H2 p (.lst (ls.map V.str)) p'=some (.lst ((wdL (wAt (rs.take i)) r).map V.str)))/\Kp [] H (upd H2 p (.lst (ls.map V.str))):=fun{p H2 ls} S2 hp e=>by
     obtain⟨h1,h2,⟨h3,h4,h5⟩,h6⟩:=last0 S2 hp e
     exact⟨p,rfl,h1,h2,⟨h3,h4,by rw[je,h5]⟩,h6⟩
    clear la hc kp hq1
    cases r with
    |yes =>
     simp! [S.hc,rowV,wy1,wy2,wy3,wy4,wy5]
     refine⟨by omega,λp hp=>?_⟩
     exact last0 (ls:=["yes"]) S hp rfl
    |no j =>
     simp! [S.hc,rowV,w5,w6]
     refine⟨by omega,λp hp=>?_⟩
     have S1:=S.new (o:=.lst [V.str (Str.ofString "not")]) hp
     refine⟨_,by rw[S1.hc];rfl,_,jb7 (by decide) rfl,?_⟩
     obtain⟨p2,e2,n2,z2,h2⟩:=at1 okr S1.la
     refine ixL S1.hq e2 (rAddW.lst je h2 (by have:=bd j;simp only[List.length_cons,List.length_nil];omega) λp3 hp3=>?_)
     exact last (ls:="not"::wAt (rs.take i) j) S1 hp3 rfl
    |bin b j l =>
     simp! [S.hc,rowV,wb2,wb3,wb4]
     refine jfm (λ_=>?_) (λh1 h2=>by cases b <;> first|exact absurd rfl h1|exact absurd rfl h2)
     refine⟨by omega,λp hp=>?_⟩
     have S1:=S.new (o:=.lst [V.str (Str.ofString "(")]) hp
     have u1:upd H1 p (.lst [V.str (Str.ofString "(")]) p=some (.lst [V.str (Str.ofString "(")]):=je
     refine⟨_,by rw[S1.hc];rfl,_,jb7 (by decide) rfl,?_⟩
     generalize upd H1 p (.lst [V.str (Str.ofString "(")])=H2 at S1 u1⊢
     obtain⟨p2,e2,n2,z2,h2⟩:=at1 okr.1 S1.la
     have bj:=bd j
     have bl:=bd l
     refine ixL S1.hq e2 (rAddW.lst u1 h2 (by simp only[List.length_cons,List.length_nil];omega) λp3 hp3=>?_)
     have S2:=S1.new (o:=.lst ([V.str (Str.ofString "(")]++(wAt (rs.take i) j).map V.str)) hp3
     have u2:upd H2 p3 (.lst ([V.str (Str.ofString "(")]++(wAt (rs.take i) j).map V.str)) p3=_:=je
     generalize upd H2 p3 (.lst ([V.str (Str.ofString "(")]++(wAt (rs.take i) j).map V.str))=H3 at S2 u2⊢
     refine⟨_,by rw[S2.hc];rfl,_,jb7 (by decide) rfl,by omega,λp4 hp4=>?_⟩
     have S3:=S2.new (o:=.lst [V.str (bw b)]) hp4
     have u3:upd H3 p4 (.lst [V.str (bw b)]) p3=_:=(jf (jj u2 hp4)).trans u2
     have u4:upd H3 p4 (.lst [V.str (bw b)]) p4=some (.lst [V.str (bw b)]):=je
     show rAddW (.ref p3) (.ref p4) (upd H3 p4 (.lst [V.str (bw b)])) _
     generalize upd H3 p4 (.lst [V.str (bw b)])=H4 at S3 u3 u4⊢
     refine rAddW.lst u3 u4 (by simp only[A4,List.length_cons,List.length_nil];omega) λp5 hp5=>?_
     have S4:=S3.new (o:=.lst ([V.str (Str.ofString "(")]++(wAt (rs.take i) j).map V.str++[V.str (bw b)])) hp5
     have u5:upd H4 p5 (.lst ([V.str (Str.ofString "(")]++(wAt (rs.take i) j).map V.str++[V.str (bw b)])) p5=_:=je
     generalize upd H4 p5 (.lst ([V.str (Str.ofString "(")]++(wAt (rs.take i) j).map V.str++[V.str (bw b)]))=H5 at S4 u5⊢
     refine⟨_,by rw[S4.hc];rfl,_,jb7 (by decide) rfl,?_⟩
     obtain⟨p6,e6,n6,z6,h6⟩:=at1 okr.2 S4.la
     refine ixL S4.hq e6 (rAddW.lst u5 h6 (by simp only[A4,List.length_cons,List.length_nil];omega) λp7 hp7=>?_)
     have S5:=S4.new (o:=.lst ([V.str (Str.ofString "(")]++(wAt (rs.take i) j).map V.str++[V.str (bw b)]++(wAt (rs.take i) l).map V.str)) hp7
     have u7:upd H5 p7 (.lst ([V.str (Str.ofString "(")]++(wAt (rs.take i) j).map V.str++[V.str (bw b)]++(wAt (rs.take i) l).map V.str)) p7=_:=je
     generalize upd H5 p7 (.lst ([V.str (Str.ofString "(")]++(wAt (rs.take i) j).map V.str++[V.str (bw b)]++(wAt (rs.take i) l).map V.str))=H6 at S5 u7⊢
     refine⟨by omega,λp8 hp8=>?_⟩
     have S6:=S5.new (o:=.lst [V.str (Str.ofString ")")]) hp8
     refine rAddW.lst ((jf (jj u7 hp8)).trans u7) je (by simp only[A4,List.length_cons,List.length_nil];omega) λp9 hp9=>?_
     have e9:[V.str (Str.ofString "(")]++(wAt (rs.take i) j).map V.str++[V.str (bw b)]++(wAt (rs.take i) l).map V.str++[V.str (Str.ofString ")")]=(wdL (wAt (rs.take i)) (.bin b j l)).map V.str:=by simp[wdL]
     rw[e9]
     exact last S6 hp9 rfl
    |is x y =>
     simp! [S.hc,rowV]
     refine⟨by omega,λp hp=>?_⟩
     exact last0 (ls:=[x,"is",y]) S hp rfl
    |ahead x y =>
     simp! [S.hc,rowV,w3]
     refine⟨by omega,λp hp=>?_⟩
     exact last0 (ls:=[x,"<",y]) S hp rfl
    |qn b x j =>
     simp! [S.hc,rowV,wq1,wq2,wq3,wq4,wq5,wq6]
     refine⟨by omega,λp hp=>?_⟩
     have S1:=S.new (o:=.lst [V.str (qw b),V.str x]) hp
     refine⟨_,by rw[S1.hc];rfl,_,jb7 (by decide) rfl,?_⟩
     obtain⟨p2,e2,n2,z2,h2⟩:=at1 okr.2 S1.la
     refine ixL S1.hq e2 (rAddW.lst je h2 (by have:=bd j;simp only[List.length_cons,List.length_nil];omega) λp3 hp3=>?_)
     exact last (ls:=qw b::x::wAt (rs.take i) j) S1 hp3 rfl
   ·rintro σ H2 ⟨p,rfl,hq2,la2,⟨np,zp,hp2⟩,kp2⟩
    have fl:fs.length=(rs.take i).length:=by rw[Az la2,jcq]
    have il:i<rs.length:=(Aa.mp er).1
    simp! [hq2]
    have kq:Kp [q] H2 (upd H2 q (.lst (fs++[.ref p]))):=(Kp.refl [q] H2).set hq2 (.inl (.head _))
    refine⟨by rw[fl,Ir];omega,?_⟩
    rw[hW]
    refine⟨_,_,_,rfl,je,?_,kp2.set hq2 (.inr hq)⟩
    have et:rs.take (i+1)=rs.take i++[r]:=by rw[Ue,er];rfl
    rw[et,jd3]
    exact Oc (la2.kp kq) ⟨p,rfl,np,zp,by rw[jf np];exact hp2⟩
  ·intro σ H1 hw
   rw[hW]at hw
   obtain⟨fs,v2,v3,rfl,hq1,la,kp⟩:=hw
   simp! [hq1]
   rw[ul,List.take_length]at la
   have fl:fs.length=rs.length:=by rw[Az la,jcq]
   obtain⟨p,e,n,z,hp⟩:=la.get (i:=rs.length-1) (by omega)
   have ef:fs=fs.dropLast++[V.ref p]:=by
    have h0:fs≠[]:=λz=>by rw[z]at fl;simp at fl;omega
    have h1:fs.getLast h0=V.ref p:=by
     rw[List.getLast_eq_getElem]
     have:=(Aa.mp e).2
     simpa[fl]using this
    rw[<-h1,Oh]
   exact⟨_,by rw[ef];exact jdr _ _,k p H1 z hp kp⟩
end
theorem jbf{α β:Type}{F:α->β->Prop}:∀{l:List α}{m:List β},Paired F l m->Paired F l.dropLast m.dropLast
 |_,_,.nil=>.nil
 |_,_,.cons _ .nil=>.nil
 |_,_,.cons h (.cons h' t)=>.cons h (jbf (.cons h' t))
inductive Fr where
 |nt|op|qn (b:Bool) (x:Str)|bi (b:Bool) (n:Nat)
def frV:Fr->List V
 |.nt=>[.str "not"]
 |.op=>[.str "("]
 |.qn b x=>[.str (qw b),.str x]
 |.bi b n=>[.str (bw b),.int (n:Int)]
def FrsAt(H:Hp)(us:List V)(W:List Fr):Prop:=Paired (λv f=>∃a,v=.ref a/\H a=some (.tup (frV f))) us W
theorem FrsAt.kp{S:List Addr}{H H':Hp}{us:List V}{W:List Fr}(k:Kp S H H')(h:FrsAt H us W):FrsAt H' us W:=Paired.mapP h λ_ _ ⟨a,e,h⟩=>⟨a,e,k.tup _ _ h⟩
abbrev LQ1:Str:="SayingReading.row_of_name"++".<locals>."++"<lambda>"
abbrev LQ2:Str:="SayingReading.close"++".<locals>."++"<lambda>"
def SF(pw:Addr)(p:Int)(pr pq:Addr):List (Str×V):=[("words",.ref pw),("place",.int p),("rows",.ref pr),("waiting",.ref pq)]
structure SK(K:PySem.W.Frag)(C:Addr):Prop where
 cls:Cls K C
 words:NoAttr K C "words"
 place:NoAttr K C "place"
 rows:NoAttr K C "rows"
 waiting:NoAttr K C "waiting"
structure SR(P1 P2:Addr)(H:Hp)(x C dx pw pr pq:Addr)(ws:List Str)(p:Nat)(R:List RS)(W:List Fr):Prop where
 hx:H x=some (.ins C dx (SF pw (p:Int) pr pq))
 hw:H pw=some (.lst (ws.map V.str))
 hr:∃us,H pr=some (.lst us)/\RowsAt H us R
 hq:∃us,H pq=some (.lst us)/\FrsAt H us W.reverse
 n1:pr≠pq
 n2:pw≠pr
 n3:pw≠pq
 t1:TabOk H P1 LQ1
 t2:TabOk H P2 LQ2
section
variable{K:PySem.W.Frag}{P1 P2:Addr}{H H':Hp}{x C dx pw pr pq:Addr}{ws:List Str}{p p':Nat}{R R':List RS}{W W':List Fr}{σ:L2.St}{i:Nat}{Q:VK}
theorem fld0{fs:List (Str×V)}{f:Str}{v:V}(e:σ[i]?=some (some (.ref x)))(hx:H x=some (.ins C dx fs))(c:Cls K C)(n:NoAttr K C f)(l:fs.lookup f=some v)(q:Q v H):tFld K (tVar i) f σ H Q:=⟨.ref x,e,x,C,dx,fs,v,rfl,hx,c,n,l,q⟩
theorem SR.words(I:SR P1 P2 H x C dx pw pr pq ws p R W)(c:SK K C)(e:σ[i]?=some (some (.ref x)))(q:Q (.ref pw) H):tFld K (tVar i) "words" σ H Q:=fld0 e I.hx c.cls c.words rfl q
theorem SR.place(I:SR P1 P2 H x C dx pw pr pq ws p R W)(c:SK K C)(e:σ[i]?=some (some (.ref x)))(q:Q (.int (p:Int)) H):tFld K (tVar i) "place" σ H Q:=fld0 e I.hx c.cls c.place rfl q
theorem SR.rows(I:SR P1 P2 H x C dx pw pr pq ws p R W)(c:SK K C)(e:σ[i]?=some (some (.ref x)))(q:Q (.ref pr) H):tFld K (tVar i) "rows" σ H Q:=fld0 e I.hx c.cls c.rows rfl q
theorem SR.waiting(I:SR P1 P2 H x C dx pw pr pq ws p R W)(c:SK K C)(e:σ[i]?=some (some (.ref x)))(q:Q (.ref pq) H):tFld K (tVar i) "waiting" σ H Q:=fld0 e I.hx c.cls c.waiting rfl q
theorem SR.no(I:SR P1 P2 H x C dx pw pr pq ws p R W){b:Addr}{o:HO}(e:H b=some o)(n1:∀C dx fs,o≠.ins C dx fs)(n2:∀xs,o≠.lst xs):b∉[x,pr,pq]:=λm=>by
 obtain⟨u1,h1,_⟩:=I.hr
 obtain⟨u2,h2,_⟩:=I.hq
 simp only[A2,Ai,U9]at m
 rcases m with rfl|rfl|rfl
 ·rw[I.hx]at e;exact n1 _ _ _ (Ar e).symm
 ·rw[h1]at e;exact n2 _ (Ar e).symm
 ·rw[h2]at e;exact n2 _ (Ar e).symm
theorem SR.ntab(I:SR P1 P2 H x C dx pw pr pq ws p R W){T:Addr}{qq:Str}(t:TabOk H T qq):T∉[x,pr,pq]:=by
 obtain⟨ps,e,_⟩:=t
 exact I.no e (λ_ _ _ z=>by cases z) (λ_ z=>by cases z)
theorem SR.nx{b:Addr}{xs:List V}(I:SR P1 P2 H x C dx pw pr pq ws p R W)(hp:H b=some (.lst xs)):x≠b:=λz=>by rw[<-z,I.hx]at hp;cases hp
theorem SR.to(I:SR P1 P2 H x C dx pw pr pq ws p R W)(k:Kp [x,pr,pq] H H')(hx':H' x=some (.ins C dx (SF pw (p':Int) pr pq)))(hr':∃us,H' pr=some (.lst us)/\RowsAt H' us R')(hq':∃us,H' pq=some (.lst us)/\FrsAt H' us W'.reverse) :
  SR P1 P2 H' x C dx pw pr pq ws p' R' W':=by
 have tb:∀{T:Addr}{qq:Str},TabOk H T qq->TabOk H' T qq:=λt=>t.kp k (I.ntab t) λc o e=>I.no e (λ_ _ _ z=>by cases z) (λ_ z=>by cases z)
 refine⟨hx',k.old _ _ I.hw ?_,hr',hq',I.n1,I.n2,I.n3,tb I.t1,tb I.t2⟩
 simp only[A2,Ai,U9]
 rintro(z|z|z)
 ·exact I.nx I.hw z.symm
 ·exact I.n2 z
 ·exact I.n3 z
theorem SR.keep(I:SR P1 P2 H x C dx pw pr pq ws p R W)(k:Kp [] H H'):SR P1 P2 H' x C dx pw pr pq ws p R W:=by
 obtain⟨u1,h1,g1⟩:=I.hr
 obtain⟨u2,h2,g2⟩:=I.hq
 exact I.to (k.mono (by simp)) (k.old _ _ I.hx (by simp)) ⟨u1,k.old _ _ h1 Ai,g1.kp k⟩ ⟨u2,k.old _ _ h2 Ai,g2.kp k⟩
theorem jlr{T b:Addr}{o:HO}{qq:Str}(t:TabOk H T qq)(e:H b=some o)(n:∀ps,o≠.tbl ps):b∉[T]:=λm=>by
 obtain⟨ps,h,_⟩:=t
 rw[Am.mp m,h]at e
 exact n _ (Ar e).symm
theorem SR.lam1(I:SR P1 P2 H x C dx pw pr pq ws p R W)(ne:P1≠P2)(k:Kp [P1] H H')(t:TabOk H' P1 LQ1):SR P1 P2 H' x C dx pw pr pq ws p R W:=by
 obtain⟨u1,h1,g1⟩:=I.hr
 obtain⟨u2,h2,g2⟩:=I.hq
 have nn:=fun{b:Addr}{o:HO} (e:H b=some o) (n:∀ps,o≠.tbl ps)=>jlr I.t1 e n
 exact⟨k.old _ _ I.hx (nn I.hx λ_ z=>by cases z),k.old _ _ I.hw (nn I.hw λ_ z=>by cases z),⟨u1,k.old _ _ h1 (nn h1 λ_ z=>by cases z),g1.kp k⟩,⟨u2,k.old _ _ h2 (nn h2 λ_ z=>by cases z),g2.kp k⟩,I.n1,I.n2,I.n3,t,
  I.t2.kp k (by simpa using ne.symm) λc o e=>nn e λ_ z=>by cases z⟩
theorem SR.lam2(I:SR P1 P2 H x C dx pw pr pq ws p R W)(ne:P1≠P2)(k:Kp [P2] H H')(t:TabOk H' P2 LQ2):SR P1 P2 H' x C dx pw pr pq ws p R W:=by
 obtain⟨u1,h1,g1⟩:=I.hr
 obtain⟨u2,h2,g2⟩:=I.hq
 have nn:=fun{b:Addr}{o:HO} (e:H b=some o) (n:∀ps,o≠.tbl ps)=>jlr I.t2 e n
 exact⟨k.old _ _ I.hx (nn I.hx λ_ z=>by cases z),k.old _ _ I.hw (nn I.hw λ_ z=>by cases z),⟨u1,k.old _ _ h1 (nn h1 λ_ z=>by cases z),g1.kp k⟩,⟨u2,k.old _ _ h2 (nn h2 λ_ z=>by cases z),g2.kp k⟩,I.n1,I.n2,I.n3,
  I.t1.kp k (by simpa using ne) (λc o e=>nn e λ_ z=>by cases z),t⟩
theorem SR.step(I:SR P1 P2 H x C dx pw pr pq ws p R W)(p':Nat):SR P1 P2 (upd H x (.ins C dx (SF pw (p':Int) pr pq))) x C dx pw pr pq ws p' R W/\Kp [x,pr,pq] H (upd H x (.ins C dx (SF pw (p':Int) pr pq))):=by
 obtain⟨u1,h1,g1⟩:=I.hr
 obtain⟨u2,h2,g2⟩:=I.hq
 have k:Kp [x,pr,pq] H (upd H x (.ins C dx (SF pw (p':Int) pr pq))):=by
  refine⟨λb v e n=>?_,λb xs e=>?_,λb v e=>?_⟩
  ·rw[jf λz=>n (by rw[z];simp)];exact e
  ·rw[jf λz=>by rw[z,I.hx]at e;cases e];exact e
  ·by_cases z:b=x
   ·rw[z,je];exact⟨_,rfl⟩
   ·rw[jf z];exact⟨v,e⟩
 exact⟨I.to k je ⟨u1,by rw[jf (I.nx h1).symm];exact h1,g1.kp k⟩ ⟨u2,by rw[jf (I.nx h2).symm];exact h2,g2.kp k⟩,k⟩
theorem SR.addP(I:SR P1 P2 H x C dx pw pr pq ws p R W)(c:SK K C){D:Ends}{z:Int}(e:σ[i]?=some (some (.ref x)))(q:D.nx σ (upd H x (.ins C dx (SF pw ((p:Int)+z) pr pq)))):jgd K (tVar i) (tC (.int z)) rAdd "place" D σ H:=⟨.ref x,e,x,C,dx,_,.int (p:Int),rfl,I.hx,c.cls,c.place,rfl,p,z,rfl,rfl,dx,_,I.hx,by simp[SF],q⟩
theorem SR.push(I:SR P1 P2 H x C dx pw pr pq ws p R W){us:List V}(h2:H pq=some (.lst us))(g2:FrsAt H us W.reverse){a:Addr}{f:Fr}(ha:H a=some (.tup (frV f))):SR P1 P2 (upd H pq (.lst (us++[.ref a]))) x C dx pw pr pq ws p R (f::W)/\Kp [x,pr,pq] H (upd H pq (.lst (us++[.ref a]))):=by
 obtain⟨u1,h1,g1⟩:=I.hr
 have k:Kp [x,pr,pq] H (upd H pq (.lst (us++[.ref a]))):=(Kp.refl _ H).set h2 (.inl (.tail _ (.tail _ (.head _))))
 refine⟨I.to k (by rw[jf (I.nx h2)];exact I.hx) ⟨u1,by rw[jf I.n1];exact h1,g1.kp k⟩ ⟨_,je,?_⟩,k⟩
 rw[List.reverse_cons]
 exact Oc (g2.kp k) ⟨a,rfl,k.tup _ _ ha⟩
theorem SR.pop(I:SR P1 P2 H x C dx pw pr pq ws p R W){us:List V}(h2:H pq=some (.lst us))(g2:FrsAt H us W.reverse){f:Fr}{W':List Fr}(e:W=f::W'):∃a,us[us.length-1]?=some (.ref a)/\H a=some (.tup (frV f))/\SR P1 P2 (upd H pq (.lst us.dropLast)) x C dx pw pr pq ws p R W'/\Kp [x,pr,pq] H (upd H pq (.lst us.dropLast)):=by
 obtain⟨u1,h1,g1⟩:=I.hr
 subst e
 have k:Kp [x,pr,pq] H (upd H pq (.lst us.dropLast)):=(Kp.refl _ H).set h2 (.inl (.tail _ (.tail _ (.head _))))
 rw[List.reverse_cons]at g2
 have ul:us.length=W'.length+1:=by rw[Az g2];simp
 obtain⟨v,ev⟩:∃v,us[us.length-1]?=some v:=⟨_,An (by omega)⟩
 obtain⟨r,er,a,rfl,ha⟩:=jan g2 ev
 rw[A6 (by simp;omega)]at er
 have:us.length-1-W'.reverse.length=0:=by simp;omega
 rw[this]at er
 cases er
 refine⟨a,ev,ha,I.to k (by rw[jf (I.nx h2)];exact I.hx) ⟨u1,by rw[jf I.n1];exact h1,g1.kp k⟩ ⟨_,je,?_⟩,k⟩
 have:=jbf g2
 rw[List.dropLast_concat]at this
 exact FrsAt.kp k this
end
section
variable{K:PySem.W.Frag}{H:Hp}{x C dx:Addr}{fs fs':List (Str×V)}{f:Str}{σ:L2.St}{i:Nat}{D:Ends}
theorem jj0(e:σ[i]?=some (some (.ref x)))(hx:H x=some (.ins C dx fs))(c:Cls K C)(n:NoAttr K C f)(l:fs.length<1000)(q:∀p,H p=none->D.nx σ (upd (upd H p (.lst [])) x (.ins C dx (putF f (.ref p) fs)))):sFld K (tVar i) (tLst tNil) f D σ H :=
 ⟨Ix _,λp hp=>⟨.ref x,e,x,C,dx,fs,rfl,by rw[jf (jj hx hp)];exact hx,c,n,l,q p hp⟩⟩
theorem jnw{v:V}(e:σ[i]?=some (some (.ref x)))(hx:H x=some (.ins C dx fs))(c:Cls K C)(n:NoAttr K C f)(l:fs.length<1000)(q:D.nx σ (upd H x (.ins C dx (putF f v fs)))):sFld K (tVar i) (tC v) f D σ H:=⟨.ref x,e,x,C,dx,fs,rfl,hx,c,n,l,q⟩
theorem jnx{v:V}{j:Nat}(ev:σ[j]?=some (some v))(e:σ[i]?=some (some (.ref x)))(hx:H x=some (.ins C dx fs))(c:Cls K C)(n:NoAttr K C f)(l:fs.length<1000)(q:D.nx σ (upd H x (.ins C dx (putF f v fs)))):sFld K (tVar i) (tVar j) f D σ H:=⟨v,ev,.ref x,e,x,C,dx,fs,rfl,hx,c,n,l,q⟩
theorem ji1{S:List Addr}(e:H x=some (.ins C dx fs))(m:x∈S):Kp S H (upd H x (.ins C dx fs')):=by
 refine⟨λb v e' n=>?_,λb xs e'=>?_,λb v e'=>?_⟩
 ·rw[jf λz=>n (by rw[z];exact m)];exact e'
 ·rw[jf λz=>by rw[z,e]at e';cases e'];exact e'
 ·by_cases z:b=x
  ·rw[z,je];exact⟨_,rfl⟩
  ·rw[jf z];exact⟨v,e'⟩
theorem jhc{S:List Addr}{p:Addr}(hx:H x=some (.ins C dx fs))(hp:H p=none)(m:x∈S):upd (upd H p (.lst [])) x (.ins C dx fs') x=some (.ins C dx fs')/\upd (upd H p (.lst [])) x (.ins C dx fs') p=some (.lst [])/\Kp S H (upd (upd H p (.lst [])) x (.ins C dx fs')):=by
 have ne:=jj hx hp
 have h1:upd H p (.lst []) x=some (.ins C dx fs):=by rw[jf ne];exact hx
 exact⟨je,by rw[jf ne.symm,je],((Kp.refl S H).new hp).trans (ji1 h1 m)⟩
end
def Fit(P:Program)(w:World)(K:PySem.W.Frag)(mg:Str->Option Value)(base:Heap)(H:Hp)(g:Addr)(z:Str):Prop:=∃(o:Obj)(fd:FuncData)(ps:List Str)(sp:Sp),o.data=.func fd/\FnOk P w K mg base CX0 3 g fd ps sp/\Binds K fd ps []/\FnIn K H g o/\∀Q:VK,(∀H',Kp [] H H'->Q (.bl true) H')->sp [.str z] H Q E0
def spTk(P:Program)(w:World)(K:PySem.W.Frag)(mg:Str->Option Value)(base:Heap)(P1 P2 C:Addr):Sp:=λvs H Q _=>∃(x dx pw pr pq g:Addr)(ws:List Str)(p:Nat)(R:List RS)(W:List Fr)(z:Str),vs=[.ref x,.ref g]/\SR P1 P2 H x C dx pw pr pq ws p R W/\ws[p]?=some z/\ws.length<=100000/\Fit P w K mg base H g z /\
 ∀H',SR P1 P2 H' x C dx pw pr pq ws (p+1) R W->Kp [x,pr,pq] H H'->Q (.str z) H'
structure TTk(K:PySem.W.Frag)(mg:Str->Option Value)(C:Addr):Prop where
 n_len:mg "len"=none
 rc:SK K C
section
variable{P:Program}{w:World}{K:PySem.W.Frag}{mg:Str->Option Value}{base:Heap}
abbrev z8:Stmt:=jdv (top 15) 1
theorem sc_Rd_take:FnScope ["self","fits"] ["self","fits"] (jk z8):=⟨rfl,rfl,rfl,by decide +kernel,rfl,by decide +kernel,by decide +kernel⟩
theorem ok_take{f C P1 P2:Addr}{fd:FuncData}(F:Fun K "take" "SayingReading.take" z8 f fd)(T:TTk K mg C):FnOk P w K mg base CX0 4 f fd ["self","fits"] (spTk P w K mg base P1 P2 C):=by
 refine F.ok sc_Rd_take (λvs H Q E h=>?_) (λcdv A outer s H vs Q E hr h=>?_)
 ·obtain⟨x,dx,pw,pr,pq,g,ws,p,R,W,z,rfl,_⟩:=h
  rfl
 ·obtain⟨x,dx,pw,pr,pq,g,ws,p,R,W,z,rfl,I,ez,w9,ft,k⟩:=h
  have hu:=hr.units
  have hsz:sizeLine=16777216:=Ao
  refine exQ (jh (j7 (QW.pt (jaa (jt (kx hu) (ya (K:=K) rfl (qpv 0)) (jv kj (by rfl) T.n_len yd (jc (ya (K:=K) rfl (qpv 0)) jd)) (j5 _)) (z5 (jav (z4 (qpe_callA (P:=P) (w:=w) (K:=K) (mg:=mg) (base:=base) (k:=3) rfl rfl rfl rfl rfl 1 (hr.mono (by decide)) (jc (jq ix_U (ya (K:=K) rfl (qpv 0)) (ya (K:=K) rfl (qpv 0)) (λ_ _=>rfl)) jd))))))) (ji jbj) kh)
  (jh (qps_fldaug (K:=K) rfl (qpv 0) jg job)
  (ji (jy (jq ix_U (ya (K:=K) rfl (qpv 0)) (jp zq (ya (K:=K) rfl (qpv 0)) jg) (λ_ _=>rfl)))))) ?_
  simp!
  refine I.place T.rc rfl (I.words T.rc rfl ?_)
  rw[jc5,I.hw]
  have pl:p<ws.length:=(Aa.mp ez).1
  refine⟨_,rfl,?_⟩
  rw[Ab]
  simp!
  refine ite2 (λh=>absurd h (by omega)) (λ_=>?_)
  obtain⟨o,fd',ps,sp,hd,Fo,hb,hin,hy⟩:=ft
  refine⟨g,o,fd',ps,sp,rfl,hd,Fo,hb,?_⟩
  simp!
  refine I.words T.rc rfl (I.place T.rc rfl (ixL I.hw (by rw[Aq,ez];rfl) ⟨hin,hy _ λH1 k1=>⟨true,rfl,?_⟩⟩))
  have I1:=I.keep k1
  refine ite2 (λh=>absurd h (by decide)) (λ_=>?_)
  refine I1.addP T.rc rfl ?_
  obtain⟨I2,k2⟩:=I1.step (p+1)
  have e2:((p:Int)+1)=((p+1:Nat):Int):=by omega
  rw[e2]
  simp!
  have e3:(((p+1:Nat):Int)-1)=(p:Int):=by omega
  refine I2.words T.rc rfl (I2.place T.rc rfl ?_)
  simp! [e3]
  exact ixL I2.hw (by rw[Aq,ez];rfl) (k _ I2 ((k1.mono (by simp)).trans k2))
def spPR(P1 P2 C:Addr):Sp:=λvs H Q _=>∃(x dx pw pr pq a:Addr)(ws:List Str)(p:Nat)(R:List RS)(W:List Fr)(r:RS),vs=[.ref x,.ref a]/\SR P1 P2 H x C dx pw pr pq ws p R W/\H a=some (.tup (rowV r))/\R.length<=100000 /\
 ∀H',SR P1 P2 H' x C dx pw pr pq ws p (R++[r]) W->Kp [x,pr,pq] H H'->Q (.int (R.length:Int)) H'
abbrev zd:Stmt:=jdv (top 15) 6
theorem sc_Rd_put_row:FnScope ["self","row"] ["self","row"] (jk zd):=⟨rfl,rfl,rfl,by decide +kernel,rfl,by decide +kernel,by decide +kernel⟩
theorem ok_put_row{f C P1 P2:Addr}{fd:FuncData}(F:Fun K "put_row" "SayingReading.put_row" zd f fd)(T:TTk K mg C):FnOk P w K mg base CX0 1 f fd ["self","row"] (spPR P1 P2 C):=by
 refine F.ok sc_Rd_put_row (λvs H Q E h=>?_) (λcdv A outer s H vs Q E hr h=>?_)
 ·obtain⟨x,dx,pw,pr,pq,a,ws,p,R,W,r,rfl,_⟩:=h
  rfl
 ·obtain⟨x,dx,pw,pr,pq,a,ws,p,R,W,r,rfl,I,ha,r9,k⟩:=h
  have hu:=hr.units
  have hsz:sizeLine=16777216:=Ao
  obtain⟨us,er,rr⟩:=I.hr
  obtain⟨u2,h2,g2⟩:=I.hq
  have ul:us.length=R.length:=Az rr
  refine exQ (jh (ke (ky At Au j9 (ya (K:=K) rfl (qpv 0)) (jc (qpv 1) jd) (jde (jd9 _))))
  (ji (jy (jp zq (jv kj (by rfl) T.n_len yd (jc (ya (K:=K) rfl (qpv 0)) jd)) jg)))) ?_
  simp!
  refine I.rows T.rc rfl ⟨by show(jcb (H pr)).isSome=true;rw[er];rfl,?_⟩
  rw[jcg,er]
  refine⟨_,rfl,by omega,?_⟩
  have k1:Kp [x,pr,pq] H (upd H pr (.lst (us++[.ref a]))):=(Kp.refl _ H).set er (.inl (.tail _ (.head _)))
  have e1:upd H pr (.lst (us++[.ref a])) pr=some (.lst (us++[.ref a])):=je
  have I1:SR P1 P2 (upd H pr (.lst (us++[.ref a]))) x C dx pw pr pq ws p (R++[r]) W:=I.to k1 (by rw[jf (I.nx er)];exact I.hx) ⟨_,je,Oc (rr.kp k1) ⟨a,rfl,k1.tup _ _ ha⟩⟩ ⟨u2,by rw[jf I.n1.symm];exact h2,g2.kp k1⟩
  generalize upd H pr (.lst (us++[.ref a]))=H1 at k1 I1 e1⊢
  refine I1.rows T.rc rfl ?_
  rw[jc5,e1]
  refine⟨_,rfl,?_⟩
  have e3:(((us++[V.ref a]).length:Int)-1)=(R.length:Int):=by rw[A4,List.length_singleton];omega
  simp! [e3]
  exact k _ I1 k1
def spEd(P1 P2 C:Addr):Sp:=λvs H Q _=>∃(x dx pw pr pq:Addr)(ws:List Str)(p:Nat)(R:List RS)(W:List Fr),vs=[.ref x]/\SR P1 P2 H x C dx pw pr pq ws p R W/\ws.length<=p/\Q .non H
abbrev jab:Stmt:=jdv (top 15) 5
theorem sc_Rd_end:FnScope ["self"] ["self"] (jk jab):=⟨rfl,rfl,rfl,by decide +kernel,rfl,by decide +kernel,by decide +kernel⟩
theorem ok_end{f C P1 P2:Addr}{fd:FuncData}(F:Fun K "end" "SayingReading.end" jab f fd)(T:TTk K mg C):FnOk P w K mg base CX0 1 f fd ["self"] (spEd P1 P2 C):=by
 refine F.ok sc_Rd_end (λvs H Q E h=>?_) (λcdv A outer s H vs Q E hr h=>?_)
 ·obtain⟨x,dx,pw,pr,pq,ws,p,R,W,rfl,_⟩:=h
  rfl
 ·obtain⟨x,dx,pw,pr,pq,ws,p,R,W,rfl,I,l,k⟩:=h
  have hu:=hr.units
  refine exQ (ji (j7 (jt jaf (ya (K:=K) rfl (qpv 0)) (jv kj (by rfl) T.n_len yd (jc (ya (K:=K) rfl (qpv 0)) jd)) (j5 _)) (ji jbj) kh)) ?_
  simp!
  refine I.place T.rc rfl (I.words T.rc rfl ?_)
  rw[jc5,I.hw]
  refine⟨_,rfl,?_⟩
  rw[Ab]
  simp!
  refine ite2 (λh=>absurd h (by omega)) (λ_=>k)
def spIn(P1 P2 C:Addr):Sp:=λvs H Q _=>∃(x dx pw:Addr)(ws:List Str),vs=[.ref x,.ref pw]/\H x=some (.ins C dx [])/\H pw=some (.lst (ws.map V.str))/\TabOk H P1 LQ1/\TabOk H P2 LQ2 /\
 ∀H' pr pq,SR P1 P2 H' x C dx pw pr pq ws 0 [] []->H pr=none->H pq=none->Kp [x] H H'->Q .non H'
abbrev z7:Stmt:=jdv (top 15) 0
theorem sc_Rd_init:FnScope ["self","words"] ["self","words"] (jk z7):=⟨rfl,rfl,rfl,by decide +kernel,rfl,by decide +kernel,by decide +kernel⟩
theorem ok_init{f C P1 P2:Addr}{fd:FuncData}(F:Fun K "__init__" "SayingReading.__init__" z7 f fd)(rc:SK K C):FnOk P w K mg base CX0 1 f fd ["self","words"] (spIn P1 P2 C):=by
 refine F.ok sc_Rd_init (λvs H Q E h=>?_) (λcdv A outer s H vs Q E hr h=>?_)
 ·obtain⟨x,dx,pw,ws,rfl,_⟩:=h
  rfl
 ·obtain⟨x,dx,pw,ws,rfl,hx,hw,t1,t2,k⟩:=h
  have hu:=hr.units
  have hsz:sizeLine=16777216:=Ao
  refine exQ (jh (jau (K:=K) rfl (qpv 0) (qpv 1))
  (jh (jau (K:=K) rfl (qpv 0) jg)
  (jh (jau (K:=K) rfl (qpv 0) (j8 jd))
  (ji (jau (K:=K) rfl (qpv 0) (j8 jd)))))) ?_
  simp!
  have nt:∀{H1:Hp}{fs:List (Str×V)}{T:Addr}{qq:Str},H1 x=some (.ins C dx fs)->TabOk H1 T qq->T∉[x]:=λe t m=>by
   obtain⟨ps,h,_⟩:=t
   rw[Am.mp m,e]at h
   cases h
  have nf:∀{H1:Hp}{fs:List (Str×V)},H1 x=some (.ins C dx fs)->∀c o,H1 c=some (FZ o)->c∉[x]:=λe c o h m=>by rw[Am.mp m,e]at h;cases h
  have nl:∀{H1:Hp}{fs:List (Str×V)}{b:Addr}{xs:List V},H1 x=some (.ins C dx fs)->H1 b=some (.lst xs)->b∉[x]:=λe h m=>by rw[Am.mp m,e]at h;cases h
  refine jnx rfl rfl hx rc.cls rc.words (by simp) ?_
  have k1:=ji1 (S:=[x]) (fs':=putF "words" (.ref pw) []) hx (.head _)
  have x1:upd H x (.ins C dx (putF "words" (.ref pw) [])) x=_:=je
  have w1:=k1.old _ _ hw (nl hx hw)
  have a1:=t1.kp k1 (nt hx t1) (nf hx)
  have b1:=t2.kp k1 (nt hx t2) (nf hx)
  generalize upd H x (.ins C dx (putF "words" (.ref pw) []))=H1 at k1 x1 w1 a1 b1⊢
  simp!
  refine jnw rfl x1 rc.cls rc.place (Ua (Uz (rfl:List.length _=1)) (by decide)) ?_
  have k2:=ji1 (S:=[x]) (fs':=putF "place" (.int 0) (putF "words" (.ref pw) [])) x1 (.head _)
  have x2:upd H1 x (.ins C dx (putF "place" (.int 0) (putF "words" (.ref pw) []))) x=_:=je
  have w2:=k2.old _ _ w1 (nl x1 w1)
  have a2:=a1.kp k2 (nt x1 a1) (nf x1)
  have b2:=b1.kp k2 (nt x1 b1) (nf x1)
  generalize upd H1 x (.ins C dx (putF "place" (.int 0) (putF "words" (.ref pw) [])))=H2 at k2 x2 w2 a2 b2⊢
  simp!
  refine jj0 rfl x2 rc.cls rc.rows (Ua (Uz (rfl:List.length _=2)) (by decide)) λpr hpr=>?_
  obtain⟨x3,p3,k3⟩:=jhc (S:=[x]) x2 hpr (fs':=putF "rows" (.ref pr) (putF "place" (.int 0) (putF "words" (.ref pw) []))) (.head _)
  have w3:=k3.old _ _ w2 (nl x2 w2)
  have a3:=a2.kp k3 (nt x2 a2) (nf x2)
  have b3:=b2.kp k3 (nt x2 b2) (nf x2)
  have hpr0:=(k1.trans k2).free hpr
  have n2:pw≠pr:=jj w2 hpr
  generalize upd (upd H2 pr (.lst [])) x (.ins C dx (putF "rows" (.ref pr) (putF "place" (.int 0) (putF "words" (.ref pw) []))))=H3 at k3 x3 p3 w3 a3 b3⊢
  simp!
  refine jj0 rfl x3 rc.cls rc.waiting (Ua (Uz (rfl:List.length _=3)) (by decide)) λpq hpq=>?_
  obtain⟨x4,p4,k4⟩:=jhc (S:=[x]) x3 hpq (fs':=SF pw 0 pr pq) (.head _)
  have w4:=k4.old _ _ w3 (nl x3 w3)
  have q4:=k4.old _ _ p3 (nl x3 p3)
  have a4:=a3.kp k4 (nt x3 a3) (nf x3)
  have b4:=b3.kp k4 (nt x3 b3) (nf x3)
  have hpq0:=((k1.trans k2).trans k3).free hpq
  exact k _ pr pq ⟨x4,w4,⟨[],q4,.nil⟩,⟨[],p4,.nil⟩,jj p3 hpq,n2,jj w3 hpq,a4,b4⟩ hpr0 hpq0 (((k1.trans k2).trans k3).trans k4)
end
theorem jgr(H:Hp):hideC H []=H:=funext λb=>by simp[hideC]
theorem jky(H H':Hp):backC H H' []=H':=funext λb=>by simp[backC]
theorem Caps.none(H:Hp):Caps H [] [] []:=⟨rfl,(λi x v e=>by simp at e),(λx hx=>nomatch hx),(λp hp=>nomatch hp),(λx y c e=>by cases e)⟩
theorem us1{C:List Value->Prop}(h:∀v0:Value,C [v0])(us:List Value)(e:us.length=1):C us:=by
 cases us with
 |nil=>exact absurd e.symm (Ij _)
 |cons v0 us =>
  cases us with
  |nil=>exact h v0
  |cons _ _=>exact absurd (Ib (e)) (Ij _)
section
variable{P:Program}{w:World}{K:PySem.W.Frag}{mg:Str->Option Value}{base:Heap}
theorem jf5{nm qual:Str}{st:Stmt}{f:Addr}{fd:FuncData}{ps:List Str}{sp:Sp}{j:Nat}{H:Hp}{z:Str}(F:Fun K nm qual st f fd)(G:FnOk P w K mg base CX0 j f fd ps sp)(hj:j<=3)(b:Binds K fd ps [])(hy:∀Q:VK,(∀H',Kp [] H H'->Q (.bl true) H')->sp [.str z] H Q E0):Fit P w K mg base H f z:=by
 obtain⟨oc,od,kV,doc,pm,an,cdv,ct,osl,rfl,lk,hcd⟩:=F.ex
 exact⟨_,_,ps,sp,rfl,G.mono hj,b,.inr lk,hy⟩
theorem jia{f:Addr}{fd:FuncData}{H:Hp}{z:Str}(F:Fun K "is_name" "is_name" yn f fd)(b:Binds K fd ["text"] [])(G:FnOk P w K mg base CX0 1 f fd ["text"] spNm)(hz:isNm z=true)(l:z.length<=sizeLine):Fit P w K mg base H f z :=
 jf5 F G (by decide) b λQ q=>⟨z,rfl,l,λH' k=>by rw[hz];exact q H' k⟩
theorem jk7{f:Addr}{fd:FuncData}{H:Hp}{z:Str}(F:Fun K "is_small_letter" "is_small_letter" ko f fd)(b:Binds K fd ["word"] [])(G:FnOk P w K mg base CX0 1 f fd ["word"] spSl)(hz:smB z=true)(l:z.length<=sizeLine):Fit P w K mg base H f z :=
 jf5 F G (by decide) b λQ q=>⟨z,rfl,l,λH' k=>by rw[hz];exact q H' k⟩
theorem jk6{f:Addr}{fd:FuncData}{H:Hp}{z:Str}(F:Fun K "begins_saying" "begins_saying" yc f fd)(b:Binds K fd ["word"] [])(G:FnOk P w K mg base CX0 2 f fd ["word"] spBs)(hz:bgB z=true)(l:z.length<=sizeLine):Fit P w K mg base H f z :=
 jf5 F G (by decide) b λQ q=>⟨z,rfl,l,λH' k=>by rw[hz];exact q H' k⟩
theorem jf6{qual:Str}{params:Arguments}{body:Expr}{scope:Scope}{pm:Value}{f c:Addr}{ct:Value}{H:Hp}{z:Str}(S:LamScope ["word"] [] scope)(hb:Binds K (PySem.W.kla_fn "<lambda>" qual params body scope [] pm (.ref c) ct) ["word"] [])
  (e:H f=some (FZ (PySem.W.kla_obj "<lambda>" qual params body scope [] pm c ct))) (cz:CodeZ H c qual)
  (hq:∀(H:Hp)(Q:VK),(∀H',Kp [] H H'->Q (.bl true) H')->∀(A:Around)(outer:List Env)(s:Shared),Room 2 (A.deeper (PySem.W.envX qual scope s.heap.objs.size f (.ref c) []))->∃t,PE (jfc P w K mg base ["word"] qual scope f (.ref c) [] A outer s H) body t/\t [some (.str z)] H Q):Fit P w K mg base H f z:=by
 refine⟨PySem.W.kla_obj "<lambda>" qual params body scope [] pm c ct,PySem.W.kla_fn "<lambda>" qual params body scope [] pm (.ref c) ct,["word"],λvs H Q _=>vs=[.str z]/\H f=some (FZ (PySem.W.kla_obj "<lambda>" qual params body scope [] pm c ct))/\CodeZ H c qual/\∀H',Kp [] H H'->Q (.bl true) H',rfl,?_,hb,.inl e,λQ q=>⟨rfl,e,cz,q⟩⟩
 refine jn8 (fs:=[]) S (λvs H Q E h=>by rw[h.1];rfl) (λvs H Q E h=>?_)
 obtain⟨rfl,e1,c1,q⟩:=h
 refine⟨e1,c1,[],Caps.none H,λA outer s hr=>?_⟩
 obtain⟨t,ht,h⟩:=hq H (λv H'=>(∀c∈([]:List (Str×Addr)).map Prod.snd,H' c=none)->Q v (backC H H' (([]:List (Str×Addr)).map Prod.snd))) (λH' k _=>by show Q _ (backC H H' []);rw[jky];exact q H' k) A outer s hr
 refine⟨t,?_,?_⟩
 ·show PE (jfc P w K mg base ["word"] qual scope f (.ref c) [] A outer s (hideC H [])) body t
  rw[jgr]
  exact ht
 ·show t [some (.str z)] (hideC H []) _
  rw[jgr]
  exact h
abbrev yi:Stmt:=jdv (top 15) 3
theorem sc_Rd_row_of_name:FnScope ["self","name"] ["self","name"] (jk yi):=⟨rfl,rfl,rfl,by decide +kernel,rfl,by decide +kernel,by decide +kernel⟩
def lam1:Expr:=match ju yi with
 |.If (.Compare (.Call _ [l] _ _) _ _ _) _ _ _::_=>l
 |_=>.Name "" ⟨0,0,0,0⟩
def lamA(l:Expr):Arguments:=match l with
 |.Lambda a _ _ _=>a
 |_=>jx (.Pass ⟨0,0,0,0⟩)
def lamB(l:Expr):Expr:=match l with
 |.Lambda _ b _ _=>b
 |_=>.Name "" ⟨0,0,0,0⟩
def lamS(l:Expr):Scope:=match l with
 |.Lambda _ _ c _=>c
 |_=>jk (.Pass ⟨0,0,0,0⟩)
theorem joh:LamScope ["word"] [] (lamS lam1):=⟨rfl,rfl,rfl,by decide +kernel,by decide +kernel,by decide +kernel,(λx hx=>nomatch hx),λx h=>by
 have hn:(lamS lam1).names=[(Str.ofString "word",.local)]:=rfl
 rw[hn,List.lookup_cons]at h
 split at h
 ·cases h
 ·cases h⟩
def isA:List Str:=["is","<"]
theorem jh9{pm:Value}{f c:Addr}{ct:Value}{H:Hp}{z:Str}(e:H f=some (FZ (PySem.W.kla_obj "<lambda>" LQ1 (lamA lam1) (lamB lam1) (lamS lam1) [] pm c ct)))(cz:CodeZ H c LQ1)(hz:z∈isA):Fit P w K mg base H f z:=by
 refine jf6 joh (.all (us1 λ_=>rfl)) e cz λH Q q A outer s hr=>?_
 refine⟨_,QE.h (show QE _ (lamB lam1) _ from zr (zw (K:=K) rfl) (qpv 0) (j6 (jc jm (jc jm jd))) (by with_unfolding_all rfl)),?_⟩
 have hsz:sizeLine=16777216:=Ao
 simp!
 refine⟨by omega,λp hp=>rInU.tupS (SqT.of je) rfl rfl ?_⟩
 have:inV (.str z) [V.str (Str.ofString "is"),V.str (Str.ofString "<")]=true:=by
  simp only[isA,A2,Ai,U9]at hz
  rcases hz with rfl|rfl <;> rfl
 show Q (.bl (inV (.str z) [V.str (Str.ofString "is"),V.str (Str.ofString "<")])) _
 rw[this]
 exact q _ ((Kp.refl [] H).new hp)
structure TRN(P:Program)(w:World)(K:PySem.W.Frag)(mg:Str->Option Value)(base:Heap)(C ft fn fs c Pt:Addr)(pm:Value):Prop where
 cls:Cls K C
 d_take:Meth K C "take" ft
 m2z:mg "is_name"=some (.ref fn)
 m19z:mg "is_small_letter"=some (.ref fs)
 pm:(mg "__name__").getD .none=pm
 hd:PySem.W.CodeHd base c Pt
 bl:base.BuiltinsAt mg Pt
def NR(ws:List Str)(p:Nat)(nm:Str)(r:RS):Prop:=(∃a,r=.is nm a/\ws[p]?=some "is"/\ws[p+1]?=some a/\smB a=true/\a.length<=1000)\/∃y,r=.ahead nm y/\ws[p]?=some "<"/\ws[p+1]?=some y/\isNm y=true/\y.length<=1000
def spRN(P1 P2 C:Addr):Sp:=λvs H Q _=>∃(x dx pw pr pq:Addr)(nm:Str)(ws:List Str)(p:Nat)(R:List RS)(W:List Fr)(r:RS),vs=[.ref x,.str nm]/\SR P1 P2 H x C dx pw pr pq ws p R W/\ws.length<=100000/\NR ws p nm r /\
 ∀t H',H' t=some (.tup (rowV r))->SR P1 P2 H' x C dx pw pr pq ws (p+2) R W->Kp [x,pr,pq,P1,P2] H H'->Q (.ref t) H'
theorem ok_row_of_name{f C Pt P2 ft fn fs c:Addr}{fd fdt fdn fds:FuncData}{pm:Value}(ne:Pt≠P2)(F:Fun K "row_of_name" "SayingReading.row_of_name" yi f fd)(T:TRN P w K mg base C ft fn fs c Pt pm)(hcd:fd.code=.ref c)
  (b0z:Binds K fdt ["self","fits"] []) (G0z:FnOk P w K mg base CX0 4 ft fdt ["self","fits"] (spTk P w K mg base Pt P2 C))
  (F2z:Fun K "is_name" "is_name" yn fn fdn) (b2z:Binds K fdn ["text"] []) (G2z:FnOk P w K mg base CX0 1 fn fdn ["text"] spNm)
  (F19z:Fun K "is_small_letter" "is_small_letter" ko fs fds) (b19z:Binds K fds ["word"] []) (G19z:FnOk P w K mg base CX0 1 fs fds ["word"] spSl):FnOk P w K mg base CX0 5 f fd ["self","name"] (spRN Pt P2 C):=by
 refine F.okC sc_Rd_row_of_name (λvs H Q E h=>?_) (λA outer s H vs Q E hr h=>?_)
 ·obtain⟨x,dx,pw,pr,pq,nm,ws,p,R,W,r,rfl,_⟩:=h
  rfl
 ·obtain⟨x,dx,pw,pr,pq,nm,ws,p,R,W,r,rfl,I,w9,nr,k⟩:=h
  have hu:=hr.units
  have hsz:sizeLine=16777216:=Ao
  refine⟨_,(QSs.h (jh (j7 (jt (kx hu) (yo (qpv 0) T.cls T.d_take G0z (hr.mono (by decide)) b0z .nil jr (jc (jao (Pt:=Pt) rfl T.pm hcd T.hd T.bl) jd)) jm (j5 _)) (ji (jy (j6 (jc jm (jc (qpv 1) (jc (yo (qpv 0) T.cls T.d_take G0z (hr.mono (by decide)) b0z .nil jr (jc (jai (v:=.ref _) rfl T.m19z rfl) jd)) jd)))))) kh)
  (ji (jy (j6 (jc jm (jc (qpv 1) (jc (yo (qpv 0) T.cls T.d_take G0z (hr.mono (by decide)) b0z .nil jr (jc (jai (v:=.ref _) rfl T.m2z rfl) jd)) jd)))))))),?_⟩
  simp!
  refine⟨dx,_,I.hx,rfl,I.t1,λg c' ct H1 hg k1 e1 cz tb=>?_⟩
  have I1:=I.lam1 ne k1 tb
  have kk:∀{H2 H3:Hp},Kp [x,pr,pq] H1 H2->Kp [x,pr,pq] H2 H3->Kp [x,pr,pq,Pt,P2] H H3:=λa b=>((k1.mono (by simp)).trans (a.mono (λz hz=>A9 [Pt,P2] hz))).trans (b.mono (λz hz=>A9 [Pt,P2] hz))
  rcases nr with⟨a,rfl,w1,w2,sa,la⟩|⟨y,rfl,w1,w2,ny,ly⟩
  ·refine⟨x,dx,pw,pr,pq,g,ws,p,R,W,"is",rfl,I1,w1,w9,jh9 e1 cz (.head _),λH2 I2 k2=>?_⟩
   simp!
   refine⟨dx,_,I2.hx,rfl,x,dx,pw,pr,pq,fs,ws,p+1,R,W,a,rfl,I2,w2,w9,jk7 F19z b19z G19z sa (by omega),λH3 I3 k3=>⟨by omega,λt ht=>?_⟩⟩
   exact k t _ je (I3.keep ((Kp.refl [] H3).new ht)) ((kk k2 k3).new ht)
  ·refine⟨x,dx,pw,pr,pq,g,ws,p,R,W,"<",rfl,I1,w1,w9,jh9 e1 cz (.tail _ (.head _)),λH2 I2 k2=>?_⟩
   have e:(Str.ofString "<"=Str.ofString "is")=False:=Il (by decide +kernel)
   simp! [e]
   refine⟨dx,_,I2.hx,rfl,x,dx,pw,pr,pq,fn,ws,p+1,R,W,y,rfl,I2,w2,w9,jia F2z b2z G2z ny (by omega),λH3 I3 k3=>⟨by omega,λt ht=>?_⟩⟩
   exact k t _ je (I3.keep ((Kp.refl [] H3).new ht)) ((kk k2 k3).new ht)
end
def RS.ren(φ:Nat->Nat):RS->RS
 |.no i=>.no (φ i)
 |.bin b i j=>.bin b (φ i) (φ j)
 |.qn b x i=>.qn b x (φ i)
 |r=>r
def RS.lo(k:Nat):RS->Prop
 |.no i=>i<k
 |.bin _ i j=>i<k/\j<k
 |.qn _ _ i=>i<k
 |_=>True
theorem jg8{f g:Nat->Nat}{k:Nat}{r:RS}(h:r.lo k)(e:∀i,i<k->f i=g i):r.ren f=r.ren g:=by
 cases r with
 |no i=>simp only[RS.ren];rw[e i h]
 |bin b i j=>simp only[RS.ren];rw[e i h.1,e j h.2]
 |qn b x i=>simp only[RS.ren];rw[e i h]
 |_=>rfl
structure Ph(rs R:List RS)(ph:List Nat):Prop where
 len:ph.length=R.length
 row:∀x r',R[x]?=some r'->r'.lo x/\rs[ph.getD x 0]?=some (r'.ren λn=>ph.getD n 0)
theorem Ph.nil(rs:List RS):Ph rs [] []:=⟨rfl,λx r e=>by simp at e⟩
theorem Ph.snoc{rs R:List RS}{ph:List Nat}{i:Nat}{r:RS}(h:Ph rs R ph)(lo:r.lo R.length)(e:rs[i]?=some (r.ren λn=>ph.getD n 0)):Ph rs (R++[r]) (ph++[i]):=by
 have gd:∀n,n<R.length->(ph++[i]).getD n 0=ph.getD n 0:=λn hn=>by
  rw[Af,Af,Ih (by rw[h.len];exact hn)]
 refine⟨by simp[h.len],λx r' ex=>?_⟩
 by_cases hx:x<R.length
 ·rw[Ih hx]at ex
  obtain⟨l,q⟩:=h.row x r' ex
  refine⟨l,?_⟩
  rw[gd x hx,q,jg8 l λn hn=>(gd n (by omega)).symm]
 ·rw[A6 (by omega)]at ex
  have x0:x-R.length=0:=by
   have:=(Aa.mp ex).1
   simp at this
   omega
  rw[x0]at ex
  cases ex
  have xe:x=R.length:=by omega
  subst xe
  refine⟨lo,?_⟩
  have g0:(ph++[i]).getD R.length 0=i:=by
   rw[Af,A6 (by rw[h.len];exact Ac _),h.len]
   simp
  rw[g0,e,jg8 lo λn hn=>(gd n hn).symm]
inductive Zip (rs:List RS) (ph:List Nat):List Fr->Nat->List Str->Prop
 |nil:Zip rs ph [] (rs.length-1) []
 |nt {W:List Fr}{i j:Nat}{t:List Str}:rs[j]?=some (.no i)->Zip rs ph W j t->Zip rs ph (.nt::W) i t
 |qn {W:List Fr}{b:Bool}{x:Str}{i j:Nat}{t:List Str}:rs[j]?=some (.qn b x i)->Zip rs ph W j t->Zip rs ph (.qn b x::W) i t
 |op {W:List Fr}{b:Bool}{i j c:Nat}{t:List Str}:rs[j]?=some (.bin b i c)->Zip rs ph W j t->Zip rs ph (.op::W) i (bw b::(wAt rs c++(Str.ofString ")"::t)))
 |bi {W:List Fr}{b:Bool}{n i j a:Nat}{t:List Str}:rs[j]?=some (.bin b a i)->ph[n]?=some a->Zip rs ph W j t->Zip rs ph (.bi b n::W) i (Str.ofString ")"::t)
theorem Zip.mono{rs:List RS}{ph:List Nat}{W:List Fr}{i:Nat}{t:List Str}(h:Zip rs ph W i t)(m:Nat):Zip rs (ph++[m]) W i t:=by
 induction h with
 |nil=>exact .nil
 |nt e _ ih=>exact .nt e ih
 |qn e _ ih=>exact .qn e ih
 |op e _ ih=>exact .op e ih
 |bi e g _ ih=>exact .bi e (by rw[Ih (Aa.mp g).1];exact g) ih
theorem Zip.lt{rs:List RS}{zs:List Str}{ph:List Nat}{W:List Fr}{i:Nat}{t:List Str}(ok:okR zs rs)(n1:1<=rs.length)(h:Zip rs ph W i t):i<rs.length:=by
 have lj:∀{j:Nat}{r:RS},rs[j]?=some r->j<rs.length:=λe=>(Aa.mp e).1
 cases h with
 |nil=>omega
 |nt e _=>exact O1 (ok _ _ e) (lj e)
 |qn e _=>exact O1 (ok _ _ e).2 (lj e)
 |op e _=>exact O1 (ok _ _ e).1 (lj e)
 |bi e _ _=>exact O1 (ok _ _ e).2 (lj e)
def RS.gd:RS->Prop
 |.is x a=>(isNm x=true/\x.length<=1000)/\smB a=true/\a.length<=1000
 |.ahead x y=>(isNm x=true/\x.length<=1000)/\isNm y=true/\y.length<=1000
 |.qn _ x _=>isNm x=true/\x.length<=1000
 |_=>True
theorem jcr{ws:List Str}{p:Nat}{z:Str}{r:List Str}(h:ws.drop p=z::r):ws[p]?=some z/\ws.drop (p+1)=r:=by
 have hp:p<ws.length:=by
  apply Classical.byContradiction
  intro c
  rw[U3.mpr (by omega)]at h
  cases h
 rw[O8 hp]at h
 simp only[Iw]at h
 exact⟨by rw[An hp,h.1],h.2⟩
structure DS(rs:List RS)(zs ws:List Str):Prop where
 ok:okR zs rs
 gd:∀r∈rs,r.gd
 n1:1<=rs.length
 w9:ws.length<=20000
structure ZB(rs:List RS)(ws:List Str)(ph:List Nat)(p:Nat)(R:List RS)(W:List Fr):Prop where
 pr0:Ph rs R ph
 pl:p<=ws.length
 z:∃i t,Zip rs ph W i t/\ws.drop p=wAt rs i++t
 le:R.length+W.length<=p
structure ZC(rs:List RS)(ws:List Str)(ph:List Nat)(p:Nat)(R:List RS)(W:List Fr):Prop where
 pr0:Ph rs R ph
 pl:p<=ws.length
 z:∃i t,Zip rs ph W i t/\ph[R.length-1]?=some i/\ws.drop p=t
 le:R.length+W.length<=p
 n1:1<=R.length
theorem jmw{z y:Str}(h:isNm z=true)(hy:isNm y=false):¬z=y:=λe=>by rw[e,hy]at h;cases h
theorem in2{K:PySem.W.Frag}{H:Hp}{z a b:Str}{Q:VK}(q:∀p,H p=none->Q (.bl (decide (z=a\/z=b))) (upd H p (.tup [.str a,.str b]))):2<=sizeLine/\∀p,H p=none->rInU K false (.str z) (.ref p) (upd H p (.tup [.str a,.str b])) Q:=by
 refine⟨by rw[Ao];decide,λp hp=>rInU.tupS (SqT.of je) rfl rfl ?_⟩
 have:inV (.str z) [V.str a,V.str b]=decide (z=a\/z=b):=by
  rw[Iz]
  simp[inV,eqV]
  constructor
  ·rintro(h|h)
   ·exact .inl h.symm
   ·exact .inr h.symm
  ·rintro(h|h)
   ·exact .inl h.symm
   ·exact .inr h.symm
 show Q (.bl (inV (.str z) [V.str a,V.str b])) _
 rw[this]
 exact q p hp
def spBg(P1 P2 C:Addr):Sp:=λvs H Q _=>∃(x dx pw pr pq:Addr)(ws:List Str)(p:Nat)(R:List RS)(W:List Fr)(rs:List RS)(zs:List Str)(ph:List Nat),vs=[.ref x]/\SR P1 P2 H x C dx pw pr pq ws p R W/\DS rs zs ws/\ZB rs ws ph p R W /\
 ∀H' p' R' W' ph',SR P1 P2 H' x C dx pw pr pq ws p' R' W'->ZC rs ws ph' p' R' W'->p<p'->Kp [x,pr,pq,P1,P2] H H'->Q (.int ((R'.length-1:Nat):Int)) H'
structure TBg(K:PySem.W.Frag)(mg:Str->Option Value)(C ft fp fr fn fb:Addr):Prop where
 rc:SK K C
 cls:Cls K C
 d_take:Meth K C "take" ft
 d_put_row:Meth K C "put_row" fp
 d_row_of_name:Meth K C "row_of_name" fr
 m2z:mg "is_name"=some (.ref fn)
 m16z:mg "begins_saying"=some (.ref fb)
section
variable{P:Program}{w:World}{K:PySem.W.Frag}{mg:Str->Option Value}{base:Heap}
abbrev zu:Stmt:=jdv (top 15) 2
theorem jaw:FnScope ["self","word"] ["self"] (jk zu):=⟨rfl,rfl,rfl,by decide +kernel,rfl,by decide +kernel,by decide +kernel⟩
theorem ok_begin{f C P1 P2 ft fp fr fn fb:Addr}{fd fdt fdp fdr fdn fdb:FuncData}(F:Fun K "begin" "SayingReading.begin" zu f fd)(T:TBg K mg C ft fp fr fn fb)
  (b0z:Binds K fdt ["self","fits"] []) (G0z:FnOk P w K mg base CX0 4 ft fdt ["self","fits"] (spTk P w K mg base P1 P2 C)) (b7z:Binds K fdp ["self","row"] []) (G7z:FnOk P w K mg base CX0 1 fp fdp ["self","row"] (spPR P1 P2 C))
  (b26z:Binds K fdr ["self","name"] []) (G26z:FnOk P w K mg base CX0 5 fr fdr ["self","name"] (spRN P1 P2 C))
  (F2z:Fun K "is_name" "is_name" yn fn fdn) (b2z:Binds K fdn ["text"] []) (G2z:FnOk P w K mg base CX0 1 fn fdn ["text"] spNm)
  (F16z:Fun K "begins_saying" "begins_saying" yc fb fdb) (b16z:Binds K fdb ["word"] []) (G16z:FnOk P w K mg base CX0 2 fb fdb ["word"] spBs):FnOk P w K mg base CX0 6 f fd ["self"] (spBg P1 P2 C):=by
 refine F.ok jaw (λvs H Q E h=>?_) (λcdv A outer s H vs Q E hr h=>?_)
 ·obtain⟨x,dx,pw,pr,pq,ws,p,R,W,rs,zs,ph,rfl,_⟩:=h
  rfl
 ·obtain⟨x,dx,pw,pr,pq,ws,p,R,W,rs,zs,ph,rfl,I,D,Z,k⟩:=h
  have hu:=hr.units
  have hsz:sizeLine=16777216:=Ao
  refine exQ (ji (jal Ii (z4 jag) (jh (jn (i:=1) jaw.nd rfl (by first|exact Or.inl rfl|exact Or.inr rfl) (yo (qpv 0) T.cls T.d_take G0z (hr.mono (by decide)) b0z .nil jr (jc (jai (v:=.ref _) rfl T.m16z rfl) jd)))
  (ji (j7 (jt (zw (K:=K) rfl) (qpv 1) (j6 (jc jm (jc jm jd))) (by with_unfolding_all rfl)) (ji (ke (ky At Au j9 (ya (K:=K) rfl (qpv 0)) (jc (j6 (jc (qpv 1) (jc (yo (qpv 0) T.cls T.d_take G0z (hr.mono (by decide)) b0z .nil jr (jc (jai (v:=.ref _) rfl T.m2z rfl) jd)) jd))) jd) (jde (jd9 _))))) (ji (j7 (jt (zw (K:=K) rfl) (qpv 1) (j6 (jc jm (jc jm jd))) (by with_unfolding_all rfl)) (ji (ke (ky At Au j9 (ya (K:=K) rfl (qpv 0)) (jc (j6 (jc (qpv 1) jd)) jd) (jde (jd9 _))))) (ji (j7 (jt (kx hu) (qpv 1) jm (j5 _)) (ji (jy (yo (qpv 0) T.cls T.d_put_row G7z (hr.mono (by decide)) b7z .nil jr (jc (j6 (jc (qpv 1) jd)) jd)))) (ji (jy (yo (qpv 0) T.cls T.d_put_row G7z (hr.mono (by decide)) b7z .nil jr (jc (yo (qpv 0) T.cls T.d_row_of_name G26z (hr.mono (by decide)) b26z .nil jr (jc (qpv 1) jd)) jd))))))))))))) ?_
  simp!
  obtain⟨V0,hV⟩:∃V0:Nat->L2.St->Hp->Prop,V0=λμ σ H'=>∃(p1:Nat)(W1:List Fr)(v1:Option V),σ=[some (.ref x),v1]/\SR P1 P2 H' x C dx pw pr pq ws p1 R W1/\ZB rs ws ph p1 R W1/\p<=p1/\Kp [x,pr,pq,P1,P2] H H'/\μ=ws.length-p1:=⟨_,rfl⟩
  refine⟨V0,?_,?_⟩
  ·rw[hV]
   exact⟨_,p,W,none,rfl,I,Z,Ac _,Kp.refl _ _,rfl⟩
  intro μ σ H1 hw
  rw[hV]at hw
  obtain⟨p1,W1,v1,rfl,I1,Z1,pp,kp,rfl⟩:=hw
  obtain⟨i,t,zp,ed⟩:=Z1.z
  have il:=zp.lt D.ok D.n1
  obtain⟨r,er⟩:∃r,rs[i]?=some r:=⟨_,An il⟩
  rw[jlx D.ok er]at ed
  have gr:=D.gd r (A0 er)
  have okr:=D.ok i r er
  have w9:=D.w9
  have pl:=Z1.pl
  have le:=Z1.le
  simp!
  refine⟨λσ' H'=>∃m',m'<ws.length-p1/\V0 m' σ' H',λ_ _ h=>h,?_⟩
  have sub:∀y,y∈[x,pr,pq]->y∈[x,pr,pq,P1,P2]:=λy hy=>A9 [P1,P2] hy
  refine⟨dx,_,I1.hx,rfl,?_⟩
  have tk:∀{z:Str}{l:List Str}{Q':VK},ws.drop p1=z::l->bgB z=true->z.length<=1000->(∀H2,SR P1 P2 H2 x C dx pw pr pq ws (p1+1) R W1->Kp [x,pr,pq] H1 H2->Q' (.str z) H2)->spTk P w K mg base P1 P2 C [.ref x,.ref fb] H1 Q' E0:=λed hb lz q =>
   ⟨x,dx,pw,pr,pq,fb,ws,p1,R,W1,_,rfl,I1,(jcr ed).1,by omega,jk6 F16z b16z G16z hb (by omega),q⟩
  have k2':∀{H2:Hp},Kp [x,pr,pq] H1 H2->Kp [x,pr,pq,P1,P2] H H2:=λk2=>kp.trans (k2.mono sub)
  have fin:∀{H3:Hp}{a:Addr}{r':RS}{p':Nat},SR P1 P2 H3 x C dx pw pr pq ws p' R W1->Kp [x,pr,pq,P1,P2] H H3->H3 a=some (.tup (rowV r'))->(∀f,r'.ren f=r')->r'.lo R.length->rs[i]?=some r'->p1<p'->p'<=ws.length->ws.drop p'=t->spPR P1 P2 C [.ref x,.ref a] H3 Q E0:=by
   intro H3 a r' p' I3 k3 ha hren lo e hp hl hd
   refine⟨x,dx,pw,pr,pq,a,ws,p',R,W1,r',rfl,I3,ha,by omega,λH4 I4 k4=>?_⟩
   have el:(R++[r']).length-1=R.length:=by simp
   have:=k H4 p' (R++[r']) W1 (ph++[i]) I4 ⟨Z1.pr0.snoc lo (by rw[hren];exact e),hl,⟨i,t,zp.mono i,?_,hd⟩,by simp;omega,by simp⟩ (by omega) (k3.trans (k4.mono sub))
   ·rw[el]at this;exact this
   ·rw[el,A6 (by rw[Z1.pr0.len];exact Ac _),Z1.pr0.len]
    simp
  have push:∀{H3:Hp}{f:Fr}{p' j:Nat}{t':List Str}{v:V}{us:List V}{a:Addr},SR P1 P2 H3 x C dx pw pr pq ws p' R W1->Kp [x,pr,pq,P1,P2] H H3->H3 pq=some (.lst us)->FrsAt H3 us W1.reverse->H3 a=some (.tup (frV f))->p1<p'->p'<=ws.length->Zip rs ph (f::W1) j t'->ws.drop p'=wAt rs j++t'->∃m',m'<ws.length-p1/\V0 m' [some (.ref x),some v] (upd H3 pq (.lst (us++[.ref a]))):=by
   intro H3 f p' j t' v us a I3 k3 hq g ha hp hl z' hd
   obtain⟨I4,k4⟩:=I3.push hq g ha
   refine⟨ws.length-p',by omega,?_⟩
   rw[hV]
   exact⟨p',f::W1,some v,rfl,I4,⟨Z1.pr0,hl,⟨j,t',z',hd⟩,by simp;omega⟩,by omega,k3.trans (k4.mono sub),rfl⟩
  cases r with
  |yes =>
   have ed:ws.drop p1=Str.ofString "yes"::t:=ed
   obtain⟨e1,d1⟩:=jcr ed
   have l1:=(Aa.mp e1).1
   refine tk ed (by decide +kernel) (by decide +kernel) λH2 I2 k2=>in2 λt1 ht1=>⟨_,rfl,?_⟩
   rw[Ae (by decide +kernel)]
   refine in2 λt2 ht2=>⟨_,rfl,?_⟩
   rw[Ae (by decide +kernel)]
   have k3:=((Kp.refl [] H2).new (o:=.tup [V.str (Str.ofString "some"),V.str (Str.ofString "each")]) ht1).new (o:=.tup [V.str (Str.ofString "not"),V.str (Str.ofString "(")]) ht2
   generalize upd (upd H2 t1 (.tup [V.str (Str.ofString "some"),V.str (Str.ofString "each")])) t2 (.tup [V.str (Str.ofString "not"),V.str (Str.ofString "(")])=H3 at k3⊢
   have I3:=I2.keep k3
   simp!
   refine⟨dx,_,I3.hx,rfl,by omega,λa ha=>?_⟩
   exact fin (I3.keep ((Kp.refl [] H3).new ha)) (((k2' k2).trans (k3.mono (by simp))).new ha) (r':=.yes) je (λ_=>rfl) trivial er (by omega) (by omega) d1
  |no j =>
   have ed:ws.drop p1=Str.ofString "not"::(wAt rs j++t):=ed
   obtain⟨e1,d1⟩:=jcr ed
   have l1:=(Aa.mp e1).1
   refine tk ed (by decide +kernel) (by decide +kernel) λH2 I2 k2=>in2 λt1 ht1=>⟨_,rfl,?_⟩
   rw[Ae (by decide +kernel)]
   refine in2 λt2 ht2=>⟨_,rfl,?_⟩
   rw[Ag (by decide +kernel)]
   have k3:=((Kp.refl [] H2).new (o:=.tup [V.str (Str.ofString "some"),V.str (Str.ofString "each")]) ht1).new (o:=.tup [V.str (Str.ofString "not"),V.str (Str.ofString "(")]) ht2
   generalize upd (upd H2 t1 (.tup [V.str (Str.ofString "some"),V.str (Str.ofString "each")])) t2 (.tup [V.str (Str.ofString "not"),V.str (Str.ofString "(")])=H3 at k3⊢
   have I3:=I2.keep k3
   obtain⟨us,hq,g⟩:=I3.hq
   refine I3.waiting T.rc rfl ⟨by show(jcb (H3 pq)).isSome=true;rw[hq];rfl,by omega,λa ha=>?_⟩
   have ka:=(Kp.refl [] H3).new (o:=.tup [V.str (Str.ofString "not")]) ha
   have hq':=ka.old _ _ hq Ai
   rw[jcg,hq']
   have ul:us.length=W1.length:=by rw[Az g];simp
   exact⟨_,rfl,by omega,push (f:=.nt) (I3.keep ka) (((k2' k2).trans (k3.mono (by simp))).new ha) hq' (g.kp ka) je (by omega) (by omega) (.nt er zp) d1⟩
  |bin b j l =>
   have ed:ws.drop p1=Str.ofString "("::(wAt rs j++(bw b::(wAt rs l++(Str.ofString ")"::t)))):=by rw[ed];simp[wdL]
   obtain⟨e1,d1⟩:=jcr ed
   have l1:=(Aa.mp e1).1
   refine tk ed (by decide +kernel) (by decide +kernel) λH2 I2 k2=>in2 λt1 ht1=>⟨_,rfl,?_⟩
   rw[Ae (by decide +kernel)]
   refine in2 λt2 ht2=>⟨_,rfl,?_⟩
   rw[Ag (by decide +kernel)]
   have k3:=((Kp.refl [] H2).new (o:=.tup [V.str (Str.ofString "some"),V.str (Str.ofString "each")]) ht1).new (o:=.tup [V.str (Str.ofString "not"),V.str (Str.ofString "(")]) ht2
   generalize upd (upd H2 t1 (.tup [V.str (Str.ofString "some"),V.str (Str.ofString "each")])) t2 (.tup [V.str (Str.ofString "not"),V.str (Str.ofString "(")])=H3 at k3⊢
   have I3:=I2.keep k3
   obtain⟨us,hq,g⟩:=I3.hq
   refine I3.waiting T.rc rfl ⟨by show(jcb (H3 pq)).isSome=true;rw[hq];rfl,by omega,λa ha=>?_⟩
   have ka:=(Kp.refl [] H3).new (o:=.tup [V.str (Str.ofString "(")]) ha
   have hq':=ka.old _ _ hq Ai
   rw[jcg,hq']
   have ul:us.length=W1.length:=by rw[Az g];simp
   exact⟨_,rfl,by omega,push (f:=.op) (I3.keep ka) (((k2' k2).trans (k3.mono (by simp))).new ha) hq' (g.kp ka) je (by omega) (by omega) (.op er zp) d1⟩
  |qn b y j =>
   have ed:ws.drop p1=qw b::(y::(wAt rs j++t)):=ed
   obtain⟨e1,d1⟩:=jcr ed
   obtain⟨e2,d2⟩:=jcr d1
   have l1:=(Aa.mp e2).1
   refine tk ed (by cases b <;> decide +kernel) (by cases b <;> decide +kernel) λH2 I2 k2=>in2 λt1 ht1=>⟨_,rfl,?_⟩
   rw[Ag (by cases b <;> decide +kernel)]
   have k3:=(Kp.refl [] H2).new (o:=.tup [V.str (Str.ofString "some"),V.str (Str.ofString "each")]) ht1
   generalize upd H2 t1 (.tup [V.str (Str.ofString "some"),V.str (Str.ofString "each")])=H3 at k3⊢
   have I3:=I2.keep k3
   obtain⟨us,hq,g⟩:=I3.hq
   refine I3.waiting T.rc rfl ⟨by show(jcb (H3 pq)).isSome=true;rw[hq];rfl,?_⟩
   refine⟨dx,_,I3.hx,rfl,x,dx,pw,pr,pq,fn,ws,p1+1,R,W1,y,rfl,I3,e2,by omega,jia F2z b2z G2z gr.1 (by have:=gr.2;omega),λH4 I4 k4=>⟨by omega,λa ha=>?_⟩⟩
   obtain⟨us4,hq4,g4⟩:=I4.hq
   have ka:=(Kp.refl [] H4).new (o:=.tup [V.str (qw b),V.str y]) ha
   have hq':=ka.old _ _ hq4 Ai
   rw[jcg,hq']
   have ul:us4.length=W1.length:=by rw[Az g4];simp
   exact⟨_,rfl,by omega,push (f:=.qn b y) (I4.keep ka) ((((k2' k2).trans (k3.mono (by simp))).trans (k4.mono sub)).new ha) hq' (g4.kp ka) je (by omega) (by omega) (.qn er zp) d2⟩
  |is y a =>
   have ed:ws.drop p1=y::(Str.ofString "is"::(a::t)):=ed
   obtain⟨e1,d1⟩:=jcr ed
   obtain⟨e2,d2⟩:=jcr d1
   obtain⟨e3,d3⟩:=jcr d2
   have l1:=(Aa.mp e3).1
   have ne:=fun{u:Str} (h:isNm u=false)=>jmw gr.1.1 h
   refine tk ed (by unfold bgB;rw[gr.1.1,Bool.or_true]) gr.1.2 λH2 I2 k2=>in2 λt1 ht1=>⟨_,rfl,?_⟩
   rw[Ae (by simp[ne (u:=Str.ofString "some") (by decide +kernel),ne (u:=Str.ofString "each") (by decide +kernel)])]
   refine in2 λt2 ht2=>⟨_,rfl,?_⟩
   rw[Ae (by simp[ne (u:=Str.ofString "not") (by decide +kernel),ne (u:=Str.ofString "(") (by decide +kernel)])]
   have k3:=((Kp.refl [] H2).new (o:=.tup [V.str (Str.ofString "some"),V.str (Str.ofString "each")]) ht1).new (o:=.tup [V.str (Str.ofString "not"),V.str (Str.ofString "(")]) ht2
   generalize upd (upd H2 t1 (.tup [V.str (Str.ofString "some"),V.str (Str.ofString "each")])) t2 (.tup [V.str (Str.ofString "not"),V.str (Str.ofString "(")])=H3 at k3⊢
   have I3:=I2.keep k3
   have e0:(y=Str.ofString "yes")=False:=Il (ne (by decide +kernel))
   simp! [e0]
   refine⟨dx,_,I3.hx,rfl,dx,_,I3.hx,rfl,x,dx,pw,pr,pq,y,ws,p1+1,R,W1,.is y a,rfl,I3,by omega,.inl ⟨a,rfl,e2,e3,gr.2.1,gr.2.2⟩,λt4 H4 h4 I4 k4=>?_⟩
   exact fin I4 (((k2' k2).trans (k3.mono (by simp))).trans k4) h4 (λ_=>rfl) trivial er (by omega) (by omega) d3
  |ahead y y2 =>
   have ed:ws.drop p1=y::(Str.ofString "<"::(y2::t)):=ed
   obtain⟨e1,d1⟩:=jcr ed
   obtain⟨e2,d2⟩:=jcr d1
   obtain⟨e3,d3⟩:=jcr d2
   have l1:=(Aa.mp e3).1
   have ne:=fun{u:Str} (h:isNm u=false)=>jmw gr.1.1 h
   refine tk ed (by unfold bgB;rw[gr.1.1,Bool.or_true]) gr.1.2 λH2 I2 k2=>in2 λt1 ht1=>⟨_,rfl,?_⟩
   rw[Ae (by simp[ne (u:=Str.ofString "some") (by decide +kernel),ne (u:=Str.ofString "each") (by decide +kernel)])]
   refine in2 λt2 ht2=>⟨_,rfl,?_⟩
   rw[Ae (by simp[ne (u:=Str.ofString "not") (by decide +kernel),ne (u:=Str.ofString "(") (by decide +kernel)])]
   have k3:=((Kp.refl [] H2).new (o:=.tup [V.str (Str.ofString "some"),V.str (Str.ofString "each")]) ht1).new (o:=.tup [V.str (Str.ofString "not"),V.str (Str.ofString "(")]) ht2
   generalize upd (upd H2 t1 (.tup [V.str (Str.ofString "some"),V.str (Str.ofString "each")])) t2 (.tup [V.str (Str.ofString "not"),V.str (Str.ofString "(")])=H3 at k3⊢
   have I3:=I2.keep k3
   have e0:(y=Str.ofString "yes")=False:=Il (ne (by decide +kernel))
   simp! [e0]
   refine⟨dx,_,I3.hx,rfl,dx,_,I3.hx,rfl,x,dx,pw,pr,pq,y,ws,p1+1,R,W1,.ahead y y2,rfl,I3,by omega,.inr ⟨y2,rfl,e2,e3,gr.2.1,gr.2.2⟩,λt4 H4 h4 I4 k4=>?_⟩
   exact fin I4 (((k2' k2).trans (k3.mono (by simp))).trans k4) h4 (λ_=>rfl) trivial er (by omega) (by omega) d3
end
def Sg(r:Row):Prop:=∀z:Str,(Sum.inr z:L2.Key)∈r->PyData.strOk z=true
def keyD:L2.Key->PyData
 |.inl i=>.int i
 |.inr z=>.str z
def rowD(r:Row):PyData:=.tuple (r.map keyD)
theorem jg9(H:Hp):∀r:Row,Reps H (r.map kV) (r.map keyD)
 |[]=>by simp[Reps]
 |k::r=>by
  refine⟨?_,jg9 H r⟩
  cases k <;> rfl
theorem jdo{H:Hp}{a:Addr}{r:Row}(h:H a=some (.tup (r.map kV))):Rep H (.ref a) (rowD r):=by
 unfold rowD
 simp only[Rep]
 exact⟨a,_,rfl,h,jg9 H r⟩
theorem jef{H:Hp}{us:List V}{R:List Row}(h:RowsT H us R):Reps H us (R.map rowD):=by
 induction h with
 |nil=>simp[Reps]
 |cons h _ ih=>obtain⟨a,rfl,g⟩:=h;exact⟨jdo g,ih⟩
theorem je5:∀{r:Row},Sg r->PyData.canLayAll0 (r.map keyD)=true/\PyData.depthAll (r.map keyD)<=1
 |[],_=>by simp[PyData.canLayAll0,PyData.depthAll]
 |.inl i::r,h=>by
  have ih:=je5 (r:=r) λz hz=>h z (.tail _ hz)
  simp[keyD,PyData.canLayAll0,PyData.canLay0,PyData.depthAll,PyData.depth,ih.1]
  exact ih.2
 |.inr z::r,h=>by
  have ih:=je5 (r:=r) λz hz=>h z (.tail _ hz)
  simp[keyD,PyData.canLayAll0,PyData.canLay0,PyData.depthAll,PyData.depth,ih.1,h z (.head _)]
  exact ih.2
theorem jds{r:Row}(h:Sg r):(rowD r).canLay0=true/\(rowD r).depth<=2:=by
 have:=je5 h
 simp[rowD,PyData.canLay0,PyData.depth,this.1]
 omega
theorem jdt:∀{R:List Row},(∀r∈R,Sg r)->PyData.canLayAll0 (R.map rowD)=true/\PyData.depthAll (R.map rowD)<=2
 |[],_=>by simp[PyData.canLayAll0,PyData.depthAll]
 |r::R,h=>by
  have ih:=jdt (R:=R) λx hx=>h x (.tail _ hx)
  have:=jds (h r (.head _))
  simp[PyData.canLayAll0,PyData.depthAll,this.1,ih.1]
  omega
theorem jh7:∀r r':Row,PyData.eqvAll (r.map keyD) (r'.map keyD)=decide (r=r')
 |[],[]=>by simp[PyData.eqvAll]
 |[],_::_=>by simp[PyData.eqvAll]
 |_::_,[]=>by simp[PyData.eqvAll]
 |k::r,k'::r'=>by
  have ih:=jh7 r r'
  simp only[Al,PyData.eqvAll,ih]
  cases k with
  |inl i =>
   cases k' with
   |inl j=>by_cases h:i=j <;> simp[keyD,PyData.eqv,h]
   |inr j=>simp[keyD,PyData.eqv]
  |inr i =>
   cases k' with
   |inl j=>simp[keyD,PyData.eqv]
   |inr j=>by_cases h:i=j <;> simp[keyD,PyData.eqv,h]
theorem jdn(r r':Row):PyData.eqv (rowD r) (rowD r')=decide (r=r'):=by
 unfold rowD
 rw[<-jh7]
 simp[PyData.eqv]
theorem jh8:∀R R':List Row,PyData.eqvAll (R.map rowD) (R'.map rowD)=decide (R=R')
 |[],[]=>by simp[PyData.eqvAll]
 |[],_::_=>by simp[PyData.eqvAll]
 |_::_,[]=>by simp[PyData.eqvAll]
 |r::R,r'::R'=>by
  have ih:=jh8 R R'
  simp only[Al,PyData.eqvAll,ih,jdn]
  simp
theorem jm6(R:List Row)(r:Row):((R.map rowD).any λe=>PyData.eqv e (rowD r))=R.any λx=>decide (x=r):=by
 induction R with
 |nil=>rfl
 |cons x R ih=>rw[Al,List.any_cons,ih,jdn];rfl
theorem Sg.wp{r:Row}(h:Sg r)(g:Nat->Nat):Sg (wpR g r):=λz hz=>by
 obtain⟨y,hy,e⟩:=Ia.mp hz
 cases y with
 |inl i=>simp[mapR]at e
 |inr s=>simp[mapR]at e;subst e;exact h s hy
theorem jmq{z:Str}(h:z.cps.toList.all azB=true):PyData.strOk z=true:=by
 unfold PyData.strOk
 rw[Array.all_eq_true_iff_forall_mem]
 intro c hc
 have:=Os.mp h c (by simpa using hc)
 simp[azB]at this
 simp;omega
theorem jfo{z:Str}(h:isNm z=true):PyData.strOk z=true:=jmq (by unfold isNm at h;exact(Bool.and_eq_true_iff.mp h).2)
theorem jo5{z:Str}(h:smB z=true):PyData.strOk z=true:=jmq (by unfold smB at h;exact(Bool.and_eq_true_iff.mp h).2)
theorem jjo{H:Hp}{a b:Addr}{r r':Row}{Q:VK}(ha:H a=some (.tup (r.map kV)))(hb:H b=some (.tup (r'.map kV)))(s:Sg r)(s':Sg r')(q:Q (.bl (decide (r=r'))) H):rEqD (.ref a) (.ref b) H Q:=by
 have sh:∀{r:Row},Sg r->SeqAt.shaped (rowD r)=true:=λs=>by
  have:=jds s
  unfold SeqAt.shaped
  rw[this.1]
  simp
  omega
 exact⟨_,_,jdo ha,jdo hb,sh s,sh s',by rw[jdn];exact q⟩
def frK:Fr->Row
 |.nt=>[.inr "not"]
 |.op=>[.inr "("]
 |.qn b x=>[.inr (qw b),.inr x]
 |.bi b n=>[.inr (bw b),.inl (n:Int)]
theorem jov(f:Fr):(frK f).map kV=frV f:=by cases f <;> rfl
theorem joa{f:Fr}(h:f≠.op):¬frK f=[.inr (Str.ofString "(")]:=λe=>by
 cases f with
 |op=>exact h rfl
 |nt =>
  have e:([Sum.inr (Str.ofString "not")]:Row)=[.inr (Str.ofString "(")]:=e
  simp at e
  exact absurd e (by decide +kernel)
 |qn b x=>simp[frK]at e
 |bi b n=>simp[frK]at e
theorem jmr(b:Bool):PyData.strOk (bw b)=true:=by cases b <;> decide +kernel
theorem jmx(b:Bool):PyData.strOk (qw b)=true:=by cases b <;> decide +kernel
def spCl(P1 P2 C:Addr):Sp:=λvs H Q _=>∃(x dx pw pr pq:Addr)(ws:List Str)(p:Nat)(R:List RS)(W:List Fr)(rs:List RS)(zs:List Str)(ph:List Nat),vs=[.ref x,.int ((R.length-1:Nat):Int)]/\SR P1 P2 H x C dx pw pr pq ws p R W/\DS rs zs ws/\ZC rs ws ph p R W /\
 (∀H' p' R' W' ph',SR P1 P2 H' x C dx pw pr pq ws p' R' W'->ZB rs ws ph' p' R' W'->p<p'->Kp [x,pr,pq,P1,P2] H H'->Q .non H') /\
 (∀H' p' R' ph',SR P1 P2 H' x C dx pw pr pq ws p' R' []->ws.length<=p'->Ph rs R' ph'->ph'[R'.length-1]?=some (rs.length-1)->1<=R'.length->R'.length<=ws.length->Kp [x,pr,pq,P1,P2] H H'->Q (.int ((R'.length-1:Nat):Int)) H')
structure TCl(P:Program)(w:World)(K:PySem.W.Frag)(mg:Str->Option Value)(base:Heap)(C ft fp c Pt:Addr)(pm:Value):Prop where
 rc:SK K C
 cls:Cls K C
 d_take:Meth K C "take" ft
 d_put_row:Meth K C "put_row" fp
 pm:(mg "__name__").getD .none=pm
 hd:PySem.W.CodeHd base c Pt
 bl:base.BuiltinsAt mg Pt
section
variable{P:Program}{w:World}{K:PySem.W.Frag}{mg:Str->Option Value}{base:Heap}
abbrev yy:Stmt:=jdv (top 15) 4
theorem jam:FnScope ["self","number","begun"] ["self","number"] (jk yy):=⟨rfl,rfl,rfl,by decide +kernel,rfl,by decide +kernel,by decide +kernel⟩
def lam2:Expr:=match ju yy with
 |.While _ (_::.If _ (.Expr (.Call _ [.Tuple [.Call _ [l] _ _,_] _ _] _ _) _::_) _ _::_) _ _::_=>l
 |_=>.Name "" ⟨0,0,0,0⟩
def lam3:Expr:=match ju yy with
 |.While _ (_::_::.If _ [.Expr (.Call _ [l] _ _) _] _ _::_) _ _::_=>l
 |_=>.Name "" ⟨0,0,0,0⟩
theorem joi:LamScope ["word"] [] (lamS lam2):=⟨rfl,rfl,rfl,by decide +kernel,by decide +kernel,by decide +kernel,(λx hx=>nomatch hx),λx h=>by
 have hn:(lamS lam2).names=[(Str.ofString "word",.local)]:=rfl
 rw[hn,List.lookup_cons]at h
 split at h
 ·cases h
 ·cases h⟩
theorem joj:LamScope ["word"] [] (lamS lam3):=⟨rfl,rfl,rfl,by decide +kernel,by decide +kernel,by decide +kernel,(λx hx=>nomatch hx),λx h=>by
 have hn:(lamS lam3).names=[(Str.ofString "word",.local)]:=rfl
 rw[hn,List.lookup_cons]at h
 split at h
 ·cases h
 ·cases h⟩
theorem jl5{pm:Value}{f c:Addr}{ct:Value}{H:Hp}{b:Bool}(e:H f=some (FZ (PySem.W.kla_obj "<lambda>" LQ2 (lamA lam2) (lamB lam2) (lamS lam2) [] pm c ct)))(cz:CodeZ H c LQ2):Fit P w K mg base H f (bw b):=by
 refine jf6 joi (.all (us1 λ_=>rfl)) e cz λH Q q A outer s hr=>?_
 refine⟨_,QE.h (show QE _ (lamB lam2) _ from zr (zw (K:=K) rfl) (qpv 0) (j6 (jc jm (jc jm jd))) (by with_unfolding_all rfl)),?_⟩
 simp!
 refine in2 λp hp=>?_
 have:decide (bw b=Str.ofString "and"\/bw b=Str.ofString "or")=true:=by cases b <;> decide +kernel
 rw[this]
 exact q _ ((Kp.refl [] H).new hp)
theorem jl6{pm:Value}{f c:Addr}{ct:Value}{H:Hp}(e:H f=some (FZ (PySem.W.kla_obj "<lambda>" LQ2 (lamA lam3) (lamB lam3) (lamS lam3) [] pm c ct)))(cz:CodeZ H c LQ2):Fit P w K mg base H f (Str.ofString ")"):=by
 refine jf6 joj (.all (us1 λ_=>rfl)) e cz λH Q q A outer s hr=>?_
 have hu:=hr.units
 refine⟨_,QE.h (show QE _ (lamB lam3) _ from zr (kx hu) (qpv 0) jm (j5 _)),?_⟩
 simp!
 exact q _ (Kp.refl [] H)
theorem ok_close{f C P1 Pt ft fp c:Addr}{fd fdt fdp:FuncData}{pm:Value}(ne:P1≠Pt)(F:Fun K "close" "SayingReading.close" yy f fd)(T:TCl P w K mg base C ft fp c Pt pm)(hcd:fd.code=.ref c)
  (b0z:Binds K fdt ["self","fits"] []) (G0z:FnOk P w K mg base CX0 4 ft fdt ["self","fits"] (spTk P w K mg base P1 Pt C)) (b7z:Binds K fdp ["self","row"] []) (G7z:FnOk P w K mg base CX0 1 fp fdp ["self","row"] (spPR P1 Pt C)) :
  FnOk P w K mg base CX0 5 f fd ["self","number"] (spCl P1 Pt C):=by
 refine F.okC jam (λvs H Q E h=>?_) (λA outer s H vs Q E hr h=>?_)
 ·obtain⟨x,dx,pw,pr,pq,ws,p,R,W,rs,zs,ph,rfl,_⟩:=h
  rfl
 ·obtain⟨x,dx,pw,pr,pq,ws,p,R,W,rs,zs,ph,rfl,I,D,Z,kN,kI⟩:=h
  have hu:=hr.units
  have hsz:sizeLine=16777216:=Ao
  refine⟨_,(QSs.h (jh (jal Ii (jbc (ya (K:=K) rfl (qpv 0))) (jh (jn (i:=2) jam.nd rfl (by first|exact Or.inl rfl|exact Or.inr rfl) (jbr Uw Ux jbq (ya (K:=K) rfl (qpv 0)) (jde (jd9 _))))
  (yw (j7 (jt (kx hu) (qpv 2) (j6 (jc jm jd)) (j5 _)) (jh (ke (ky At Au j9 (ya (K:=K) rfl (qpv 0)) (jc (j6 (jc (yo (qpv 0) T.cls T.d_take G0z (hr.mono (by decide)) b0z .nil jr (jc (jao (Pt:=Pt) rfl T.pm hcd T.hd T.bl) jd)) (jc (qpv 1) jd))) jd) (jde (jd9 _))))
  (ji (jy ja8))) kh)
  (yw (j7 (jt (zw (K:=K) rfl) (jq ix_U (qpv 2) jg (λ_ _=>rfl)) (j6 (jc jm (jc jm jd))) (by with_unfolding_all rfl)) (ji (ke (yo (qpv 0) T.cls T.d_take G0z (hr.mono (by decide)) b0z .nil jr (jc (jao (Pt:=Pt) rfl T.pm hcd T.hd T.bl) jd)))) kh)
  (ji (jn (i:=1) jam.nd rfl (by first|exact Or.inl rfl|exact Or.inr rfl) (yo (qpv 0) T.cls T.d_put_row G7z (hr.mono (by decide)) b7z .nil jr (jc (jp jz (qpv 2) (j6 (jc (qpv 1) jd))) jd))))))))
  (ji (jy (qpv 1))))),?_⟩
  simp!
  obtain⟨V0,hV⟩:∃V0:Nat->L2.St->Hp->Prop,V0=λμ σ H'=>∃(p1:Nat)(R1:List RS)(W1:List Fr)(ph1:List Nat)(v1:Option V),σ=[some (.ref x),some (.int ((R1.length-1:Nat):Int)),v1]/\SR P1 Pt H' x C dx pw pr pq ws p1 R1 W1/\ZC rs ws ph1 p1 R1 W1/\p<=p1/\Kp [x,pr,pq,P1,Pt] H H'/\μ=W1.length:=⟨_,rfl⟩
  refine⟨V0,?_,?_⟩
  ·rw[hV]
   exact⟨_,p,R,W,ph,none,rfl,I,Z,Ac _,Kp.refl _ _,rfl⟩
  intro μ σ H1 hw
  rw[hV]at hw
  obtain⟨p1,R1,W1,ph1,v1,rfl,I1,Z1,pp,kp,rfl⟩:=hw
  obtain⟨us,hq,g⟩:=I1.hq
  simp!
  refine I1.waiting T.rc rfl ?_
  rw[jdf,hq]
  refine⟨us,rfl,?_⟩
  have w9:=D.w9
  have pl:=Z1.pl
  have le:=Z1.le
  have n1:=Z1.n1
  obtain⟨i,t,zp,gi,ed⟩:=Z1.z
  have sub:∀y,y∈[x,pr,pq]->y∈[x,pr,pq,P1,Pt]:=λy hy=>A9 [P1,Pt] hy
  cases W1 with
  |nil =>
   have eu:us=[]:=by cases g;rfl
   subst eu
   rw[Ae (by simp)]
   cases zp
   have pe:ws.length<=p1:=U3.mp ed
   have:R1.length+0<=p1:=le
   exact kI _ p1 R1 ph1 I1 pe Z1.pr0 gi n1 (by omega) kp
  |cons fr W2 =>
   have ul:us.length=W2.length+1:=by rw[Az g];simp
   rw[Ag (by cases us with|nil=>simp at ul|cons a b=>rfl)]
   refine⟨λσ' H'=>∃m',m'<(fr::W2).length/\V0 m' σ' H',λ_ _ h=>h,?_⟩
   obtain⟨a,ea,ha,I2,k2⟩:=I1.pop hq g rfl
   simp!
   refine I1.waiting T.rc rfl ⟨by show(jcb (H1 pq)).isSome=true;rw[hq];rfl,?_⟩
   rw[jdy,hq]
   refine⟨us,rfl,_,ea,?_⟩
   have ha2:=k2.tup _ _ ha
   have k2':=kp.trans (k2.mono sub)
   generalize upd H1 pq (.lst us.dropLast)=H2 at I2 k2 ha2 k2'⊢
   have le:R1.length+(W2.length+1)<=p1:=le
   obtain⟨n,hn⟩:∃n,n=R1.length-1:=⟨_,rfl⟩
   rw[<-hn]
   have gn:ph1.getD n 0=i:=by rw[hn,Af,gi];rfl
   have gi':ph1[n]?=some i:=by rw[hn];exact gi
   have nl:n<R1.length:=by omega
   have first:∀{D0:Ends}{A1 B1:Hp->Prop},fr≠.op->Sg (frK fr)->(∀H3,SR P1 Pt H3 x C dx pw pr pq ws p1 R1 W2->H3 a=some (.tup (frV fr))->Kp [x,pr,pq,P1,Pt] H H3->B1 H3) ->
     1<=sizeLine/\∀p,H2 p=none->rEqD (V.ref a) (V.ref p) (upd H2 p (HO.tup [V.str (Str.ofString "(")])) λv H'=>∃k,v=V.bl k/\if k=true then A1 H' else B1 H':=by
    intro D0 A1 B1 no sg q
    refine⟨by omega,λt1 ht1=>?_⟩
    have ka:=(Kp.refl [] H2).new (o:=.tup [V.str (Str.ofString "(")]) ht1
    refine jjo (r:=frK fr) (r':=[.inr (Str.ofString "(")]) (by rw[jov];exact ka.tup _ _ ha2) je sg (λz hz=>by simp at hz;subst hz;decide +kernel) ⟨_,rfl,?_⟩
    rw[Ae (by simpa using joa no)]
    exact q _ (I2.keep ka) (ka.tup _ _ ha2) (k2'.trans (ka.mono (by simp)))
   have put:∀{H3:Hp}{r':RS}{p' j:Nat}{t':List Str},SR P1 Pt H3 x C dx pw pr pq ws p' R1 W2->H3 a=some (.tup (frV fr))->Kp [x,pr,pq,P1,Pt] H H3->frV fr++[.int (n:Int)]=rowV r'->r'.lo R1.length->rs[j]?=some (r'.ren λm=>ph1.getD m 0)->Zip rs ph1 W2 j t'->ws.drop p'=t'->p1<=p'->p'<=ws.length ->
     ∀t3,H3 t3=none->rAddW (.ref a) (.ref t3) (upd H3 t3 (.tup [.int (n:Int)])) λv H4=>spPR P1 Pt C [.ref x,v] H4 (λv H5=>∃m',m'<(fr::W2).length/\V0 m' [some (.ref x),some v,some (.ref a)] H5) E0:=by
    intro H3 r' p' j t' I3 ha3 k3 er lo ej z' hd hp hl t3 ht3
    have kt:=(Kp.refl [] H3).new (o:=.tup [.int (n:Int)]) ht3
    have lf:(frV fr).length<=2:=by cases fr <;> simp[frV]
    refine rAddW.tup (kt.tup _ _ ha3) je (by cases fr <;> simp[frV]) (by simp) (by simp;omega) λt4 ht4=>?_
    have ku:=kt.new (o:=.tup (frV fr++[.int (n:Int)])) ht4
    refine⟨x,dx,pw,pr,pq,t4,ws,p',R1,W2,r',rfl,I3.keep ku,by rw[je,er],by omega,λH5 I5 k5=>⟨W2.length,by simp,?_⟩⟩
    rw[hV]
    have el:(R1++[r']).length-1=R1.length:=by simp
    refine⟨p',R1++[r'],W2,ph1++[j],some (.ref a),by rw[el],I5,⟨Z1.pr0.snoc lo ej,hl,⟨j,t',z'.mono j,?_,hd⟩,by simp;omega,by simp⟩,by omega,(k3.trans (ku.mono (by simp))).trans (k5.mono sub),rfl⟩
    rw[el,A6 (by rw[Z1.pr0.len];exact Ac _),Z1.pr0.len]
    simp
   cases zp with
   |op er zp =>
    refine⟨λ_ _=>False,?_,λ_ _ h=>h.elim⟩
    simp!
    refine⟨by omega,λt1 ht1=>?_⟩
    have ka:=(Kp.refl [] H2).new (o:=.tup [V.str (Str.ofString "(")]) ht1
    refine jjo (r:=frK .op) (r':=[.inr (Str.ofString "(")]) (ka.tup _ _ ha2) je (λz hz=>by simp[frK]at hz;subst hz;decide +kernel) (λz hz=>by simp at hz;subst hz;decide +kernel) ⟨_,rfl,?_⟩
    rw[Ag (by simp[frK])]
    have I3:=I2.keep ka
    generalize upd H2 t1 (.tup [V.str (Str.ofString "(")])=H3 at ka I3⊢
    obtain⟨us3,hq3,g3⟩:=I3.hq
    refine I3.waiting T.rc rfl ⟨by show(jcb (H3 pq)).isSome=true;rw[hq3];rfl,dx,_,I3.hx,rfl,I3.t2,λgg c' ct H4 hg k4 e4 cz tb=>?_⟩
    have I4:=I3.lam2 ne k4 tb
    obtain⟨w1,d1⟩:=jcr ed
    have l1:=(Aa.mp w1).1
    refine⟨x,dx,pw,pr,pq,gg,ws,p1,R1,W2,_,rfl,I4,w1,by omega,jl5 e4 cz,λH5 I5 k5=>⟨by omega,λt5 ht5=>?_⟩⟩
    obtain⟨us5,hq5,g5⟩:=I5.hq
    rename_i b j0 c0 t0
    have k6:=(Kp.refl [] H5).new (o:=.tup [.str (bw b),.int (n:Int)]) ht5
    have hq6:=k6.old _ _ hq5 Ai
    have ul5:us5.length=W2.length:=by rw[Az g5];simp
    rw[jcg,hq6]
    refine⟨_,rfl,by omega,?_⟩
    obtain⟨I7,k7⟩:=(I5.keep k6).push (f:=.bi b n) hq6 (g5.kp k6) je
    exact kN _ (p1+1) R1 (.bi b n::W2) ph1 I7 ⟨Z1.pr0,by omega,⟨c0,_,.bi er gi' zp,d1⟩,by simp;omega⟩ (by omega) (((((k2'.trans (ka.mono (by simp))).trans (k4.mono (by simp))).trans (k5.mono sub)).trans (k6.mono (by simp))).trans (k7.mono sub))
   |nt er zp =>
    refine⟨λσ' H'=>σ'=[some (.ref x),some (.int (n:Int)),some (.ref a)]/\SR P1 Pt H' x C dx pw pr pq ws p1 R1 W2/\H' a=some (.tup (frV .nt))/\Kp [x,pr,pq,P1,Pt] H H',?_,?_⟩
    ·simp!
     exact first (D0:=⟨λ_ _=>True,λ_ _=>True,λ_ _=>True,λ_ _=>True⟩) (by nofun) (λz hz=>by simp[frK]at hz;subst hz;decide +kernel) λH3 I3 h3 k3=>⟨I3,h3,k3⟩
    rintro σ' H3 ⟨rfl,I3,ha3,k3⟩
    refine⟨λσ' H'=>σ'=[some (.ref x),some (.int (n:Int)),some (.ref a)]/\SR P1 Pt H' x C dx pw pr pq ws p1 R1 W2/\H' a=some (.tup (frV .nt))/\Kp [x,pr,pq,P1,Pt] H H',?_,?_⟩
    ·simp! [ha3,frV]
     refine in2 λt1 ht1=>⟨_,rfl,?_⟩
     rw[Ae (by decide +kernel)]
     have ka:=(Kp.refl [] H3).new (o:=.tup [V.str (Str.ofString "and"),V.str (Str.ofString "or")]) ht1
     exact⟨I3.keep ka,ka.tup _ _ ha3,k3.trans (ka.mono (by simp))⟩
    rintro σ' H4 ⟨rfl,I4,ha4,k4⟩
    simp!
    exact⟨dx,_,I4.hx,rfl,by omega,put (r':=.no n) I4 ha4 k4 rfl nl (by rw[er];simp only[RS.ren,gn]) zp ed (Ac _) pl⟩
   |qn er zp =>
    rename_i b y j0
    have gr:=D.gd _ (A0 er)
    refine⟨λσ' H'=>σ'=[some (.ref x),some (.int (n:Int)),some (.ref a)]/\SR P1 Pt H' x C dx pw pr pq ws p1 R1 W2/\H' a=some (.tup (frV (.qn b y)))/\Kp [x,pr,pq,P1,Pt] H H',?_,?_⟩
    ·simp!
     exact first (D0:=⟨λ_ _=>True,λ_ _=>True,λ_ _=>True,λ_ _=>True⟩) (by nofun) (λz hz=>by
      simp[frK]at hz
      rcases hz with rfl|rfl
      ·exact jmx b
      ·exact jfo gr.1) λH3 I3 h3 k3=>⟨I3,h3,k3⟩
    rintro σ' H3 ⟨rfl,I3,ha3,k3⟩
    refine⟨λσ' H'=>σ'=[some (.ref x),some (.int (n:Int)),some (.ref a)]/\SR P1 Pt H' x C dx pw pr pq ws p1 R1 W2/\H' a=some (.tup (frV (.qn b y)))/\Kp [x,pr,pq,P1,Pt] H H',?_,?_⟩
    ·simp! [ha3,frV]
     refine in2 λt1 ht1=>⟨_,rfl,?_⟩
     rw[Ae (by cases b <;> decide +kernel)]
     have ka:=(Kp.refl [] H3).new (o:=.tup [V.str (Str.ofString "and"),V.str (Str.ofString "or")]) ht1
     exact⟨I3.keep ka,ka.tup _ _ ha3,k3.trans (ka.mono (by simp))⟩
    rintro σ' H4 ⟨rfl,I4,ha4,k4⟩
    simp!
    exact⟨dx,_,I4.hx,rfl,by omega,put (r':=.qn b y n) I4 ha4 k4 rfl nl (by rw[er];simp only[RS.ren,gn]) zp ed (Ac _) pl⟩
   |bi er ga zp =>
    rename_i b m j0 a0 t0
    refine⟨λσ' H'=>σ'=[some (.ref x),some (.int (n:Int)),some (.ref a)]/\SR P1 Pt H' x C dx pw pr pq ws p1 R1 W2/\H' a=some (.tup (frV (.bi b m)))/\Kp [x,pr,pq,P1,Pt] H H',?_,?_⟩
    ·simp!
     exact first (D0:=⟨λ_ _=>True,λ_ _=>True,λ_ _=>True,λ_ _=>True⟩) (by nofun) (λz hz=>by
      simp[frK]at hz
      rw[hz];exact jmr b) λH3 I3 h3 k3=>⟨I3,h3,k3⟩
    rintro σ' H3 ⟨rfl,I3,ha3,k3⟩
    obtain⟨w1,d1⟩:=jcr ed
    have l1:=(Aa.mp w1).1
    have gm:ph1.getD m 0=a0:=by rw[Af,ga];rfl
    have ml:m<R1.length:=by rw[<-Z1.pr0.len];exact(Aa.mp ga).1
    refine⟨λσ' H'=>σ'=[some (.ref x),some (.int (n:Int)),some (.ref a)]/\SR P1 Pt H' x C dx pw pr pq ws (p1+1) R1 W2/\H' a=some (.tup (frV (.bi b m)))/\Kp [x,pr,pq,P1,Pt] H H',?_,?_⟩
    ·simp! [ha3,frV]
     refine in2 λt1 ht1=>⟨_,rfl,?_⟩
     rw[Ag (by cases b <;> decide +kernel)]
     have ka:=(Kp.refl [] H3).new (o:=.tup [V.str (Str.ofString "and"),V.str (Str.ofString "or")]) ht1
     have I4:=I3.keep ka
     have ha4:=ka.tup _ _ ha3
     generalize upd H3 t1 (.tup [V.str (Str.ofString "and"),V.str (Str.ofString "or")])=H4 at ka I4 ha4⊢
     refine⟨dx,_,I4.hx,rfl,I4.t2,λgg c' ct H5 hg k5 e5 cz tb=>?_⟩
     have I5:=I4.lam2 ne k5 tb
     refine⟨x,dx,pw,pr,pq,gg,ws,p1,R1,W2,_,rfl,I5,w1,by omega,jl6 e5 cz,λH6 I6 k6=>?_⟩
     exact⟨I6,k6.tup _ _ (k5.tup _ _ ha4),((k3.trans (ka.mono (by simp))).trans (k5.mono (by simp))).trans (k6.mono sub)⟩
    rintro σ' H4 ⟨rfl,I4,ha4,k4⟩
    simp!
    exact⟨dx,_,I4.hx,rfl,by omega,put (r':=.bin b m n) I4 ha4 k4 rfl ⟨ml,nl⟩ (by rw[er];simp only[RS.ren,gn,gm]) zp d1 (by omega) (by omega)⟩
end
def toks(T:Str):List Str:=(tok [] T.cps.toList).map toS
def spWo:Sp:=λvs H Q _=>∃T:Str,vs=[.str T]/\T.length<=100000/\∀p H',H p=none->H' p=some (.lst ((toks T).map V.str))->Kp [] H H'->Q (.ref p) H'
theorem jj5(z:Str):toS z.cps.toList=z:=by cases z;simp[toS]
theorem ji6(c:Nat)(z l:List Nat):(subs c z l).length<=(z.length+1)*l.length:=by
 induction l with
 |nil=>simp[subs]
 |cons d l ih =>
  simp only[subs,List.flatMap_cons,A4,List.length_cons]at ih⊢
  have:(if d=c then z else[d]).length<=z.length+1:=by split <;> simp
  rw[Nat.mul_succ]
  omega
theorem jlo(c:Nat):∀l,(sp c l).length<=l.length+1
 |[]=>by simp[sp]
 |x::l=>by
  have ih:=jlo c l
  obtain⟨p,r,e⟩:=jdp c l
  rw[sp,e]
  rw[e]at ih
  by_cases h:x=c
  ·rw[Ag h];simp at ih⊢;omega
  ·rw[Ae h];simp at ih⊢;omega
def neV:V->Bool
 |.str z=>!decide (z=Str.ofString "")
 |_=>true
theorem jmo(T:Str):(((Txt.split (Txt.replace (Txt.replace T (Str.ofString "(") (Str.ofString " ( ")) (Str.ofString ")") (Str.ofString " ) ")) (Str.ofString " ")).map V.str).filter neV).map (λv=>v)=(toks T).map V.str:=by
 have e1:Str.ofString "("=⟨#[40]⟩:=by decide +kernel
 have e2:Str.ofString ")"=⟨#[41]⟩:=by decide +kernel
 have e3:Str.ofString " "=⟨#[32]⟩:=by decide +kernel
 have z1:(Str.ofString " ( ").cps.toList=[32,40,32]:=by decide +kernel
 have z2:(Str.ofString " ) ").cps.toList=[32,41,32]:=by decide +kernel
 have h:=ji4 (Txt.replace (Txt.replace T (Str.ofString "(") (Str.ofString " ( ")) (Str.ofString ")") (Str.ofString " ) ")) 32 (by decide)
 rw[<-e3,e1,e2,jdz,jdz,z1,z2]at h
 obtain⟨p,r,e⟩:=jdp 32 (subs 41 [32,41,32] (subs 40 [32,40,32] T.cps.toList))
 have ht:=jls T.cps.toList [] p r e
 rw[List.nil_append,<-e,<-h]at ht
 rw[e1,e2]
 generalize Txt.split (Txt.replace (Txt.replace T ⟨#[40]⟩ (Str.ofString " ( ")) ⟨#[41]⟩ (Str.ofString " ) ")) (Str.ofString " ")=ps at ht⊢
 unfold toks
 rw[<-ht]
 have e0:(Str.ofString "").cps.toList=[]:=by decide +kernel
 clear ht h e
 induction ps with
 |nil=>rfl
 |cons q ps ih =>
  have eq:neV (V.str q)=!q.cps.toList.isEmpty:=by
   unfold neV
   by_cases c:q=Str.ofString ""
   ·rw[c,e0];simp
   ·have:¬q.cps.toList=[]:=λz=>c (jnz (by rw[z,e0]))
    cases hq:q.cps.toList with
    |nil=>exact absurd hq this
    |cons a b=>simp[c]
  simp only[Al,Og,neL,eq]at ih⊢
  by_cases c:(!q.cps.toList.isEmpty)=true
  ·rw[Ag c,Ag c]
   simp only[Al]
   rw[ih,jj5]
  ·rw[Ae c,Ae c]
   exact ih
section
variable{P:Program}{w:World}{K:PySem.W.Frag}{mg:Str->Option Value}{base:Heap}
abbrev y4:Stmt:=top 13
theorem jax:FnScope ["text","parted"] ["text"] (jk y4):=⟨rfl,rfl,rfl,by decide +kernel,rfl,by decide +kernel,by decide +kernel⟩
theorem ok_words_of{f:Addr}{fd:FuncData}(F:Fun K "words_of" "words_of" y4 f fd):FnOk P w K mg base CX0 1 f fd ["text"] spWo:=by
 refine jn9 F jax (λvs H Q E h=>?_) (by rfl) (λcdv A outer s H vs Q E hr h=>?_)
 ·obtain⟨T,rfl,_⟩:=h
  rfl
 ·obtain⟨T,rfl,t9,k⟩:=h
  have hu:=hr.units
  have hsz:sizeLine=16777216:=Ao
  refine⟨_,jmi (i:=1) jax.nd rfl (by first|exact Or.inl rfl|exact Or.inr rfl) (jii (by decide +kernel) (by decide +kernel) (jii (by decide +kernel) (by decide +kernel) (jom (pv 0)))) (ji (jy (ja2 rfl (jcv (sc:=jk y4) (N:=["text","parted"]) (Nc:=["word"]) (js:=[none]) (by decide +kernel)) (zk (K:=K) (ja7 PySem.F.slot_str_split PySem.F.type_str_split mt_splitU (qpv 1) (jc jm jd) jca) rfl) (λ_ _ _ _=>(kg (i:=0) (show List.Nodup [("word":Str)]from by decide +kernel) rfl (by first|exact Or.inl rfl|exact Or.inr rfl))) (λ_ _ _ _=>(jt (jb1 hu) (qpv 0) jm (j5 _))) (λ_ _ _ _=>(qpv 0))))),?_⟩
  simp! [jm3]
  have e1:Str.ofString "("=⟨#[40]⟩:=by decide +kernel
  have e2:Str.ofString ")"=⟨#[41]⟩:=by decide +kernel
  have e3:Str.ofString " "=⟨#[32]⟩:=by decide +kernel
  have z1:(Str.ofString " ( ").cps.toList=[32,40,32]:=by decide +kernel
  have z2:(Str.ofString " ) ").cps.toList=[32,41,32]:=by decide +kernel
  have sl:∀z:Str,z.length=z.cps.toList.length:=λz=>by simp[Str.length]
  have h1:(Txt.replace T (Str.ofString "(") (Str.ofString " ( ")).length<=400000:=by
   rw[sl,e1,jdz,z1]
   have:=ji6 40 [32,40,32] T.cps.toList
   have:=sl T
   simp at *
   omega
  have h2:(Txt.replace (Txt.replace T (Str.ofString "(") (Str.ofString " ( ")) (Str.ofString ")") (Str.ofString " ) ")).length<=1600000:=by
   rw[sl,e2,jdz,z2]
   have:=ji6 41 [32,41,32] (Txt.replace T (Str.ofString "(") (Str.ofString " ( ")).cps.toList
   have:=sl (Txt.replace T (Str.ofString "(") (Str.ofString " ( "))
   simp at *
   omega
  have we:=jmo T
  have h3:(Txt.split (Txt.replace (Txt.replace T (Str.ofString "(") (Str.ofString " ( ")) (Str.ofString ")") (Str.ofString " ) ")) (Str.ofString " ")).length<=1600001:=by
   have h:=ji4 (Txt.replace (Txt.replace T (Str.ofString "(") (Str.ofString " ( ")) (Str.ofString ")") (Str.ofString " ) ")) 32 (by decide)
   have:=jlo 32 (Txt.replace (Txt.replace T (Str.ofString "(") (Str.ofString " ( ")) (Str.ofString ")") (Str.ofString " ) ")).cps.toList
   rw[<-h,Ab,<-sl,<-e3]at this
   omega
  refine⟨by omega,by omega,by decide +kernel,by omega,by omega,λp hp D hD=>?_⟩
  generalize Txt.split (Txt.replace (Txt.replace T (Str.ofString "(") (Str.ofString " ( ")) (Str.ofString ")") (Str.ofString " ) ")) (Str.ofString " ")=ps at we h3 hD⊢
  refine jev neV (λv=>v) je hD (by rw[Ab];omega) (λx hx l Q' q=>?_) (λx hx _ l Q' q=>by simp!;exact q) λv=>?_
  ·obtain⟨z,hz,rfl⟩:=Ia.mp hx
   simp!
   exact q
  ·rw[we]
   exact k _ _ ((Kp.refl [] H).new hp |>.free hD) je (((Kp.refl [] H).new hp).new hD)
end
def rowK:RS->Row
 |.yes=>[.inr "yes"]
 |.is x a=>[.inr "is",.inr x,.inr a]
 |.ahead x y=>[.inr "ahead",.inr x,.inr y]
 |.no i=>[.inr "not",.inl (i:Int)]
 |.bin b i j=>[.inr (bw b),.inl (i:Int),.inl (j:Int)]
 |.qn b x i=>[.inr (qw b),.inr x,.inl (i:Int)]
theorem jeg(r:RS):(rowK r).map kV=rowV r:=by cases r <;> rfl
theorem jiz(r:RS):(rowK r).length<=3:=by cases r <;> simp[rowK]
theorem jo4{H:Hp}{us:List V}{R:List RS}(h:RowsAt H us R):RowsT H us (R.map rowK):=by
 induction h with
 |nil=>exact .nil
 |cons h _ ih=>obtain⟨a,e,g⟩:=h;exact .cons ⟨a,e,by rw[jeg];exact g⟩ ih
theorem ji0(φ:Nat->Nat)(r:RS):wpR φ (rowK r)=rowK (r.ren φ):=by cases r <;> simp[rowK,RS.ren,wpR,mapR]
theorem jnu{k:Nat}{r:RS}(h:r.lo k):RowOk k (rowK r):=by
 intro i hi
 cases r with
 |no j=>simp[rowK]at hi;subst hi;exact⟨by omega,by have:j<k:=h;omega⟩
 |bin b j l=>simp[rowK]at hi;have:=h.1;have:=h.2;rcases hi with rfl|rfl <;> omega
 |qn b x j=>simp[rowK]at hi;subst hi;have:j<k:=h;omega
 |yes=>simp[rowK]at hi
 |is x a=>simp[rowK]at hi
 |ahead x y=>simp[rowK]at hi
theorem jc4{R:List RS}(h:∀(x:Nat) (r:RS),R[x]?=some r->r.lo x):OkR (R.map rowK):=λk r e=>by
 rw[Aq]at e
 cases er:R[k]? with
 |none=>rw[er]at e;cases e
 |some r0=>rw[er]at e;cases e;exact jnu (h k r0 er)
theorem jbk{zs:List Str}{k:Nat}{r:RS}(h:r.ok zs k):r.lo k:=by
 cases r with
 |no j=>exact h
 |bin b j l=>exact h
 |qn b x j=>exact h.2
 |_=>trivial
theorem Ph.hom{rs R:List RS}{ph:List Nat}(h:Ph rs R ph):Hom (R.map rowK) (rs.map rowK) λx=>ph.getD x 0:=by
 have at_:∀x,x<R.length->∃r',R[x]?=some r'/\rs[ph.getD x 0]?=some (r'.ren λn=>ph.getD n 0):=λx hx=>⟨_,An hx,(h.row x _ (An hx)).2⟩
 refine⟨λx hx=>?_,λx hx=>?_⟩
 ·obtain⟨r',e,q⟩:=at_ x (by simpa using hx)
  rw[Ab]
  exact(Aa.mp q).1
 ·obtain⟨r',e,q⟩:=at_ x (by simpa using hx)
  rw[Af,Aq,e,Af,Aq,q]
  exact ji0 _ r'
def TidA(R F:List Row):Prop:=∀h,Hd R h->F=tidR R h
def spRS(P1 P2:Addr):Sp:=λvs H Q _=>∃(T:Str)(rs:List RS)(zs:List Str),vs=[.str T]/\T.length<=100000/\toks T=wAt rs (rs.length-1)/\DS rs zs (toks T)/\TabOk H P1 LQ1/\TabOk H P2 LQ2 /\
 ∀q us' F H',TidA (rs.map rowK) F->H' q=some (.tup us')->RowsT H' us' F->TabOk H' P1 LQ1->TabOk H' P2 LQ2->Kp [P1,P2] H H'->Q (.ref q) H'
structure TRS(K:PySem.W.Frag)(mg:Str->Option Value)(C fi fb fc fe fw fo:Addr):Prop where
 rc:SK K C
 cls:Cls K C
 mkR:Mk K C fi
 m_SayingReading:mg "SayingReading"=some (.ref C)
 n_tuple:mg "tuple"=none
 d_begin:Meth K C "begin" fb
 d_close:Meth K C "close" fc
 d_end:Meth K C "end" fe
 m22z:mg "words_of"=some (.ref fw)
 m18z:mg "in_order"=some (.ref fo)
section
variable{P:Program}{w:World}{K:PySem.W.Frag}{mg:Str->Option Value}{base:Heap}
abbrev yr:Stmt:=top 12
theorem zv:FnScope ["text","reading","number"] ["text"] (jk yr):=⟨rfl,rfl,rfl,by decide +kernel,rfl,by decide +kernel,by decide +kernel⟩
theorem ok_read_saying{f C P1 P2 fi fb fc fe fw fo:Addr}{fd fdi fdb fdc fde fdw fdo:FuncData}(ne:P1≠P2)(F:Fun K "read_saying" "read_saying" yr f fd)(T:TRS K mg C fi fb fc fe fw fo)
  (b25z:Binds K fdi ["self","words"] []) (G25z:FnOk P w K mg base CX0 1 fi fdi ["self","words"] (spIn P1 P2 C)) (b23z:Binds K fdb ["self"] []) (G23z:FnOk P w K mg base CX0 6 fb fdb ["self"] (spBg P1 P2 C))
  (b24z:Binds K fdc ["self","number"] []) (G24z:FnOk P w K mg base CX0 5 fc fdc ["self","number"] (spCl P1 P2 C)) (b_end:Binds K fde ["self"] []) (G_end:FnOk P w K mg base CX0 1 fe fde ["self"] (spEd P1 P2 C))
  (F22z:Fun K "words_of" "words_of" y4 fw fdw) (b22z:Binds K fdw ["text"] []) (G22z:FnOk P w K mg base CX0 1 fw fdw ["text"] spWo)
  (F18z:Fun K "in_order" "in_order" yu fo fdo) (b18z:Binds K fdo ["rows"] []) (G18z:FnOk P w K mg base CX0 3 fo fdo ["rows"] (spIO K)):FnOk P w K mg base CX0 7 f fd ["text"] (spRS P1 P2):=by
 refine F.ok zv (λvs H Q E h=>?_) (λcdv A outer s H vs Q E hr h=>?_)
 ·obtain⟨T,rs,zs,rfl,_⟩:=h
  rfl
 ·obtain⟨Tx,rs,zs,rfl,t9,et,D,t1,t2,k⟩:=h
  have hu:=hr.units
  have hsz:sizeLine=16777216:=Ao
  refine exQ (jh (jn (i:=1) zv.nd rfl (by first|exact Or.inl rfl|exact Or.inr rfl) (qpe_make T.mkR G25z (hr.mono (by decide)) rfl T.m_SayingReading b25z .nil jr (jc (jo G22z (hr.mono (by decide)) rfl T.m22z F22z.kp b22z .nil jr (jc (qpv 0) jd)) jd)))
  (jh (jn (i:=2) zv.nd rfl (by first|exact Or.inl rfl|exact Or.inr rfl) ja8)
  (jh (jal Ii (jt op_isN (qpv 2) ja8 (j5 _)) (ji (jn (i:=2) zv.nd rfl (by first|exact Or.inl rfl|exact Or.inr rfl) (yo (qpv 1) T.cls T.d_close G24z (hr.mono (by decide)) b24z .nil jr (jc (jbh (qpv 1) T.cls T.d_begin G23z (hr.mono (by decide)) b23z .nil jr) jd)))))
  (jh (ke (jbh (qpv 1) T.cls T.d_end G_end (hr.mono (by decide)) b_end .nil jr))
  (ji (jy (jo G18z (hr.mono (by decide)) rfl T.m18z F18z.kp b18z .nil jr (jc (yg zj (by rfl) T.n_tuple zm (jc (ya (K:=K) rfl (qpv 1)) jd)) jd)))))))) ?_
  simp!
  obtain⟨ws,hws⟩:∃ws,ws=toks Tx:=⟨_,rfl⟩
  rw[<-hws]at et D
  have w9:=D.w9
  refine⟨Tx,rfl,t9,λpw H1 hpw hw k1 x dx hx hdx nd=>?_⟩
  rw[<-hws]at hw
  have hx1:upd H1 dx (.own x) x=none:=by rw[jf nd.symm];exact hx
  have k1':Kp [] H1 (upd (upd H1 dx (.own x)) x (.ins C dx [])):=((Kp.refl [] H1).new hdx).new hx1
  have kH:=k1.trans k1'
  have hx0:=k1.free hx
  have tb:∀{H':Hp}{T0:Addr}{qq:Str},Kp [] H H'->TabOk H T0 qq->TabOk H' T0 qq:=λk t=>t.kp k (by simp) (by simp)
  refine⟨x,dx,pw,ws,rfl,je,k1'.old _ _ hw Ai,tb kH t1,tb kH t2,λH2 pr pq I2 hpr hpq k2=>⟨rfl,?_⟩⟩
  have hpr0:=kH.free hpr
  have hpq0:=kH.free hpq
  clear t1 t2
  have kH2:Kp [P1,P2] H H2:=(kH.mono (by simp)).trans' k2 λy hy=>.inr (by rw[Am.mp hy];exact hx0)
  obtain⟨V0,hV⟩:∃V0:Nat->L2.St->Hp->Prop,V0=λμ σ H'=>Kp [P1,P2] H H'/\((σ=[some (.str Tx),some (.ref x),some .non]/\∃p R W ph,SR P1 P2 H' x C dx pw pr pq ws p R W/\ZB rs ws ph p R W/\μ=ws.length-p+1) \/
   ∃(p:Nat)(R:List RS)(ph:List Nat),σ=[some (.str Tx),some (.ref x),some (.int ((R.length-1:Nat):Int))]/\SR P1 P2 H' x C dx pw pr pq ws p R []/\ws.length<=p/\Ph rs R ph/\ph[R.length-1]?=some (rs.length-1)/\1<=R.length/\R.length<=ws.length):=⟨_,rfl⟩
  refine⟨V0,?_,?_⟩
  ·rw[hV]
   exact⟨_,kH2,.inl ⟨rfl,0,[],[],[],I2,⟨Ph.nil rs,Ix _,⟨_,[],.nil,by rw[List.drop_zero,Im];exact et⟩,by simp⟩,rfl⟩⟩
  intro μ σ H3 hw3
  rw[hV]at hw3
  obtain⟨k3,hw3⟩:=hw3
  have kk:∀{H4:Hp},Kp [x,pr,pq,P1,P2] H3 H4->Kp [P1,P2] H H4:=λk4=>k3.trans' k4 λy hy=>by
   simp only[A2,Ai,U9]at hy
   rcases hy with rfl|rfl|rfl|rfl|rfl
   ·exact .inr hx0
   ·exact .inr hpr0
   ·exact .inr hpq0
   ·exact .inl (by simp)
   ·exact .inl (by simp)
  rcases hw3 with⟨rfl,p,R,W,ph,I,Z,rfl⟩|⟨p,R,ph,rfl,I,lp,hp,gl,n1,nw⟩
  ·simp!
   refine⟨λσ' H'=>∃m',m'<ws.length-p+1/\V0 m' σ' H',λ_ _ h=>h,?_⟩
   have pl:=Z.pl
   refine⟨dx,_,I.hx,rfl,dx,_,I.hx,rfl,x,dx,pw,pr,pq,ws,p,R,W,rs,zs,ph,rfl,I,D,Z,λH4 p4 R4 W4 ph4 I4 Z4 h4 k4=>?_⟩
   refine⟨x,dx,pw,pr,pq,ws,p4,R4,W4,rs,zs,ph4,rfl,I4,D,Z4,λH5 p5 R5 W5 ph5 I5 Z5 h5 k5=>?_,λH5 p5 R5 ph5 I5 l5 q5 g5 n5 m5 k5=>?_⟩
   ·have:=Z5.pl
    refine⟨ws.length-p5+1,by omega,?_⟩
    rw[hV]
    exact⟨kk (k4.trans k5),.inl ⟨rfl,p5,R5,W5,ph5,I5,Z5,rfl⟩⟩
   ·refine⟨0,by omega,?_⟩
    rw[hV]
    exact⟨kk (k4.trans k5),.inr ⟨p5,R5,ph5,rfl,I5,l5,q5,g5,n5,m5⟩⟩
  ·simp!
   obtain⟨us,hu3,ra⟩:=I.hr
   refine⟨dx,_,I.hx,rfl,x,dx,pw,pr,pq,ws,p,R,[],rfl,I,lp,?_⟩
   simp!
   refine I.rows T.rc rfl (jcp hu3 λt ht=>?_)
   have kt:=(Kp.refl [] H3).new (o:=.tup us) ht
   have It:=I.keep kt
   refine⟨t,us,R.map rowK,rfl,SqT.of je,jo4 (ra.kp kt),jc4 λy r e=>(hp.row y r e).1,λr hr'=>?_,by simpa using n1,by rw[Ab];omega,λq us' F1 H5 tid hq0 hq' rt kq=>?_⟩
   ·obtain⟨r0,_,rfl⟩:=Ia.mp hr'
    have:=jiz r0
    omega
   ·have I5:=It.keep kq
    refine k q us' F1 H5 (λh hd=>?_) hq' rt I5.t1 I5.t2 (kk ((kt.trans kq).mono (by simp)))
    obtain⟨h',hd',rfl⟩:=tid
    have la:(λy=>ph.getD y 0) ((R.map rowK).length-1)=(rs.map rowK).length-1:=by
     show ph.getD ((R.map rowK).length-1) 0=_
     rw[Ab,Ab,Af,gl]
     rfl
    exact Hom.tid hp.hom (jc4 λy r e=>(hp.row y r e).1) (jc4 λy r e=>jbk (D.ok y r e)) hd' hd (by simpa using n1) (by simpa using D.n1) la
end
theorem jge{R:List Row}{h:Nat->Nat}(ok:OkR R)(H:Hd R h){v:Nat}(vl:v<R.length)(cm:List Nat):(∃t,stp (chd R h) cm v=cm++t)/\v∈stp (chd R h) cm v:=by
 unfold stp
 split
 ·exact⟨⟨[],by simp⟩,by assumption⟩
 ·obtain⟨t,e⟩:=jjc (jdm ok H) v vl cm
  exact⟨⟨t++[v],by rw[e,Ic]⟩,jgh (jdm ok H) vl cm⟩
def cmj(R:List Row)(h:Nat->Nat)(cm ps:List Nat):List Nat:=(ps.map h).foldl (stp (chd R h)) cm
theorem jnm{n:Nat}{S:List Nat}(nd:S.Nodup)(h:∀r∈S,r<n):S.length<=n:=by
 have q:=jea (zs:=List.range n) nd λx hx=>U8.mpr (h x hx)
 simpa using q
structure LdI(H:Hp)(l:Addr)(R:List Row)(h:Nat->Nat)(cm:List Nat):Prop where
 vs:∃vs,H l=some (.lst vs)/\RowsT H vs (layL R h cm)
 lay:Lay R h cm
theorem LdI.kp{H H':Hp}{l:Addr}{R:List Row}{h:Nat->Nat}{cm:List Nat}(I:LdI H l R h cm){S:List Addr}(k:Kp S H H')(n:l∉S):LdI H' l R h cm :=
 let⟨vs,e,r⟩:=I.vs
 ⟨⟨vs,k.old _ _ e n,r.kp k⟩,I.lay⟩
theorem jol{rs:List RS}{i:Nat}{r:RS}(e:rs[i]?=some r):own (rs.map rowK) i=ptR (rowK r):=by
 unfold own
 rw[Af,Aq,e];rfl
theorem RS.mpR{rs:List RS}{h g:Nat->Nat}{i:Nat}{r:RS}(e:rs[i]?=some r):wpR g (RwA (rs.map rowK) h i)=rowK (r.ren λy=>g (h y)):=by
 unfold RwA
 rw[jdg,Af,Aq,e]
 exact ji0 _ _
theorem jln{r:RS}(h:r.gd):Sg (rowK r):=λz hz=>by
 cases r with
 |yes=>simp[rowK]at hz;subst hz;decide +kernel
 |is x a =>
  simp[rowK]at hz
  rcases hz with rfl|rfl|rfl
  ·decide +kernel
  ·exact jfo h.1.1
  ·exact jo5 h.2.1
 |ahead x y =>
  simp[rowK]at hz
  rcases hz with rfl|rfl|rfl
  ·decide +kernel
  ·exact jfo h.1.1
  ·exact jfo h.2.1
 |no j=>simp[rowK]at hz;subst hz;decide +kernel
 |bin b j l=>simp[rowK]at hz;subst hz;exact jmr b
 |qn b x j =>
  simp[rowK]at hz
  rcases hz with rfl|rfl
  ·exact jmx b
  ·exact jfo h.1
theorem jid{rs:List RS}(D:∀r∈rs,r.gd){h:Nat->Nat}{cm:List Nat}(L:Lay (rs.map rowK) h cm):∀r∈layL (rs.map rowK) h cm,Sg r:=λr hr=>by
 obtain⟨v,hv,rfl⟩:=Ia.mp hr
 have vl:=L.lt v hv
 rw[Ab]at vl
 have e:rs[v]?=some rs[v]:=An vl
 have:RwA (rs.map rowK) h v=wpR h (rowK rs[v]):=by
  unfold RwA
  rw[Af,Aq,e];rfl
 rw[this]
 exact((jln (D _ (A0 e))).wp h).wp _
def spCo(n:Nat):Sp:=λvs H Q _=>∃(a l:Addr)(us:List V)(rs:List RS)(zs:List Str)(i:Nat)(h:Nat->Nat)(cm:List Nat),vs=[.ref a,.int (i:Int),.ref l]/\H a=some (.tup us)/\RowsAt H us rs/\okR zs rs/\(∀r∈rs,r.gd)/\rs.length<=1000/\Hd (rs.map rowK) h/\LdI H l (rs.map rowK) h cm/\i<rs.length/\i<=n /\
 ∀H',LdI H' l (rs.map rowK) h (stp (chd (rs.map rowK) h) cm (h i))->Kp [l] H H'->Q (nV ((stp (chd (rs.map rowK) h) cm (h i)).idxOf (h i))) H'
structure TCo(mg:Str->Option Value)(f:Addr):Prop where
 m3z:mg "_law_come"=some (.ref f)
section
variable{P:Program}{w:World}{K:PySem.W.Frag}{mg:Str->Option Value}{base:Heap}
abbrev y9:Stmt:=top 28
theorem ze:FnScope ["_law_saying","_law_at","_law_rows","_law_row","_law_first"] ["_law_saying","_law_at","_law_rows"] (jk y9):=⟨rfl,rfl,rfl,by decide +kernel,rfl,by decide +kernel,by decide +kernel⟩
theorem ok__law_come{f:Addr}{fd:FuncData}(F:Fun K "_law_come" "_law_come" y9 f fd)(T:TCo mg f)(b3z:Binds K fd ["_law_saying","_law_at","_law_rows"] []):∀n,FnOk P w K mg base CX0 (n+1) f fd ["_law_saying","_law_at","_law_rows"] (spCo n):=by
 intro n
 induction n using Nat.strongRecOn with
 |ind n ih =>
 refine F.ok ze (λvs H Q E h=>?_) (λcdv A outer s H vs Q E hr h=>?_)
 ·obtain⟨a,l,us,rs,zs,i,h,cm,rfl,_⟩:=h
  rfl
 ·obtain⟨a,l,us,rs,zs,i,h,cm,rfl,ha,ra,ok,D,r9,hh,I,hi,hin,k⟩:=h
  have hu:=hr.units
  have hu1:=joy hr
  have hsz:sizeLine=16777216:=Ao
  have F3z:=F
  have G3z:FnOk P w K mg base CX0 n f fd ["_law_saying","_law_at","_law_rows"] (λvs H Q E=>∃m,m<n/\spCo m vs H Q E):=⟨λvs H Q E ⟨m,hm,h⟩=>(ih m hm).len _ _ _ _ h,λA outer s H args us vs Q E hr he hb hv ⟨m,hm,h⟩=>((ih m hm).mono (by omega:m+1<=n)).run A outer s H args us vs Q E hr he hb hv h⟩
  refine exQ (jh (jn (i:=3) ze.nd rfl (by first|exact Or.inl rfl|exact Or.inr rfl) (jq ix_U (qpv 0) (qpv 1) (λ_ _=>rfl)))
  (yw (j7 (jt (kx hu) (jq ix_U (qpv 3) jg (λ_ _=>rfl)) jm (j5 _)) (ji (jn (i:=3) ze.nd rfl (by first|exact Or.inl rfl|exact Or.inr rfl) (j6 (jc jm (jc (jo G3z hr rfl T.m3z F3z.kp b3z .nil jr (jc (qpv 0) (jc (jq ix_U (qpv 3) jg (λ_ _=>rfl)) (jc (qpv 2) jd)))) jd))))) (ji (j7 (QW.pt (jaa (jt (kx hu) (jq ix_U (qpv 3) jg (λ_ _=>rfl)) jm (j5 _)) (z5 (jt (kx hu) (jq ix_U (qpv 3) jg (λ_ _=>rfl)) jm (j5 _))))) (ji (jn (i:=3) ze.nd rfl (by first|exact Or.inl rfl|exact Or.inr rfl) (j6 (jc (jq ix_U (qpv 3) jg (λ_ _=>rfl)) (jc (jq ix_U (qpv 3) jg (λ_ _=>rfl)) (jc (jo G3z hr rfl T.m3z F3z.kp b3z .nil jr (jc (qpv 0) (jc (jq ix_U (qpv 3) jg (λ_ _=>rfl)) (jc (qpv 2) jd)))) jd)))))) (ji (j7 (QW.pt (jaa (jt (kx hu) (jq ix_U (qpv 3) jg (λ_ _=>rfl)) jm (j5 _)) (z5 (jt (kx hu) (jq ix_U (qpv 3) jg (λ_ _=>rfl)) jm (j5 _))))) (jh (jn (i:=4) ze.nd rfl (by first|exact Or.inl rfl|exact Or.inr rfl) (jo G3z hr rfl T.m3z F3z.kp b3z .nil jr (jc (qpv 0) (jc (jq ix_U (qpv 3) jg (λ_ _=>rfl)) (jc (qpv 2) jd)))))
  (ji (jn (i:=3) ze.nd rfl (by first|exact Or.inl rfl|exact Or.inr rfl) (j6 (jc (jq ix_U (qpv 3) jg (λ_ _=>rfl)) (jc (qpv 4) (jc (jo G3z hr rfl T.m3z F3z.kp b3z .nil jr (jc (qpv 0) (jc (jq ix_U (qpv 3) jg (λ_ _=>rfl)) (jc (qpv 2) jd)))) jd))))))) kh)))))
  (yw (j7 (jt (op_notinL hu) (qpv 3) (qpv 2) (by with_unfolding_all rfl)) (ji (ke (ky At Au j9 (qpv 2) (jc (qpv 3) jd) jca))) kh)
  (ji (jy (ky PySem.F.slot_list_index PySem.F.type_list_index (mt_indexD hu) (qpv 2) (jc (qpv 3) jd) jca)))))) ?_
  obtain⟨r,er⟩:∃r,rs[i]?=some r:=⟨_,An hi⟩
  have ul:us.length=rs.length:=Az ra
  obtain⟨v,ev⟩:∃v,us[i]?=some v:=⟨_,An (by omega)⟩
  obtain⟨r1,c,er1,rfl,hc⟩:=RowsAt.get ra ev
  rw[er]at er1
  cases er1
  have okr:=ok i r er
  have gr:=D r (A0 er)
  have okR:OkR (rs.map rowK):=jc4 λy r e=>jbk (ok y r e)
  have il:i<(rs.map rowK).length:=by rw[Ab];exact hi
  have ch:=jlz hh il
  have ow':=jol er
  obtain⟨L1,L2',cin,es⟩:=jnk okR hh il I.lay
  rw[ch]at L2' cin es
  simp!
  refine⟨us,by rw[ha];rfl,_,jb7 (by omega) (by simpa using ev),?_⟩
  obtain⟨J1,hJ1⟩:∃J:L2.St->Hp->Prop,J=λσ H'=>∃(c':Addr)(v4:Option V),σ=[some (.ref a),some (.int (i:Int)),some (.ref l),some (.ref c'),v4]/\H' c'=some (.tup ((wpR (λx=>(cmj (rs.map rowK) h cm (own (rs.map rowK) i)).idxOf x) (RwA (rs.map rowK) h i)).map kV))/\LdI H' l (rs.map rowK) h (cmj (rs.map rowK) h cm (own (rs.map rowK) i))/\Kp [l] H H':=⟨_,rfl⟩
  have rowE:∀g:Nat->Nat,wpR (λx=>g x) (RwA (rs.map rowK) h i)=rowK (r.ren λy=>g (h y)):=λg=>RS.mpR er
  refine⟨J1,?_,?_⟩
  ·have call:∀{j:Nat}{cm1:List Nat}{H1:Hp}{Q1:VK},j<i->Kp [l] H H1->LdI H1 l (rs.map rowK) h cm1->(∀H2,LdI H2 l (rs.map rowK) h (stp (chd (rs.map rowK) h) cm1 (h j))->Kp [l] H H2->Kp [l] H1 H2->Q1 (nV ((stp (chd (rs.map rowK) h) cm1 (h j)).idxOf (h j))) H2)->∃m,m<n/\spCo m [.ref a,.int (j:Int),.ref l] H1 Q1 E0 :=
    fun{j cm1 H1 Q1} hj k1 I1 q=>⟨j,by omega,a,l,us,rs,zs,j,h,cm1,rfl,k1.tup _ _ ha,ra.kp k1,ok,D,r9,hh,I1,by omega,Ac _,λH2 I2 k2=>q H2 I2 (k1.trans k2) k2⟩
   have base0:own (rs.map rowK) i=[]->(∀f,r.ren f=r)->J1 [some (.ref a),some (.int (i:Int)),some (.ref l),some (.ref c),none] H:=λo0 hr0=>by
    rw[hJ1]
    refine⟨c,none,rfl,?_,?_,Kp.refl _ _⟩
    ·rw[rowE,hr0,jeg];exact hc
    ·rw[o0];exact I
   have en:∀(s1 s2:String),decide (Str.ofString s1=Str.ofString s2)=false->(Str.ofString s1=Str.ofString s2)=False:=λs1 s2 h=>Il (of_decide_eq_false h)
   cases r with
   |yes =>
    simp! [hc,rowV,wy1,wy2,wy3,wy4,wy5,en "yes" "some" (by decide +kernel),en "yes" "each" (by decide +kernel)]
    exact base0 ow' λ_=>rfl
   |is y z =>
    simp! [hc,rowV,en "is" "not" (by decide +kernel),en "is" "some" (by decide +kernel),en "is" "each" (by decide +kernel),en "is" "and" (by decide +kernel),en "is" "or" (by decide +kernel)]
    exact base0 ow' λ_=>rfl
   |ahead y z =>
    simp! [hc,rowV,en "ahead" "not" (by decide +kernel),en "ahead" "some" (by decide +kernel),en "ahead" "each" (by decide +kernel),en "ahead" "and" (by decide +kernel),en "ahead" "or" (by decide +kernel)]
    exact base0 ow' λ_=>rfl
   |no j =>
    simp! [hc,rowV]
    refine call okr (Kp.refl _ _) I λH2 I2 k2 _=>⟨by omega,λp hp=>?_⟩
    rw[hJ1]
    refine⟨p,none,rfl,?_,?_,k2.new hp⟩
    ·rw[je,rowE,jeg,ow'];rfl
    ·rw[ow'];exact I2.kp ((Kp.refl [] H2).new hp) (by simp)
   |qn b y j =>
    simp! [hc,rowV,wq4]
    refine jfm (λ_=>?_) (λh1 h2=>by cases b <;> first|exact absurd rfl h1|exact absurd rfl h2)
    refine call okr.2 (Kp.refl _ _) I λH2 I2 k2 _=>⟨by omega,λp hp=>?_⟩
    rw[hJ1]
    refine⟨p,none,rfl,?_,?_,k2.new hp⟩
    ·rw[je,rowE,jeg,ow'];rfl
    ·rw[ow'];exact I2.kp ((Kp.refl [] H2).new hp) (by simp)
   |bin b j l2 =>
    have e1:(bw b=Str.ofString "some")=False:=Il (by cases b <;> decide +kernel)
    have e2:(bw b=Str.ofString "each")=False:=Il (by cases b <;> decide +kernel)
    simp! [hc,rowV,wb4,e1,e2]
    refine jfm (λ_=>?_) (λh1 h2=>by cases b <;> first|exact absurd rfl h1|exact absurd rfl h2)
    refine call okr.1 (Kp.refl _ _) I λH2 I2 k2 _=>?_
    have hc2:=k2.tup _ _ hc
    refine⟨_,by rw[hc2];rfl,_,jb7 (by decide) rfl,_,by rw[hc2];rfl,_,jb7 (by decide) rfl,call okr.2 k2 I2 λH3 I3 k3 _=>⟨by omega,λp hp=>?_⟩⟩
    rw[hJ1]
    refine⟨p,_,rfl,?_,?_,k3.new hp⟩
    ·have jl:h j<(rs.map rowK).length:=by have:=hh.le j (by have:=okr.1;omega);have:=okr.1;omega
     have ll:h l2<(rs.map rowK).length:=by have:=hh.le l2 (by have:=okr.2;omega);have:=okr.2;omega
     obtain⟨⟨t2,et2⟩,_⟩:=jge okR hh ll (stp (chd (rs.map rowK) h) cm (h j))
     have mj:=(jge okR hh jl cm).2
     have ej:(stp (chd (rs.map rowK) h) (stp (chd (rs.map rowK) h) cm (h j)) (h l2)).idxOf (h j)=(stp (chd (rs.map rowK) h) cm (h j)).idxOf (h j):=by rw[et2];exact jac mj
     rw[je,rowE,jeg,ow']
     rw[<-ej];rfl
    ·rw[ow'];exact I3.kp ((Kp.refl [] H3).new hp) (by simp)
  intro σ H1 hj
  rw[hJ1]at hj
  obtain⟨c',v4,rfl,hc',I1,k1⟩:=hj
  obtain⟨vs1,e1,rt1⟩:=I1.vs
  obtain⟨J2,hJ2⟩:∃J:L2.St->Hp->Prop,J=λσ H'=>σ=[some (.ref a),some (.int (i:Int)),some (.ref l),some (.ref c'),v4]/\H' c'=some (.tup ((wpR (λx=>(cmj (rs.map rowK) h cm (own (rs.map rowK) i)).idxOf x) (RwA (rs.map rowK) h i)).map kV))/\LdI H' l (rs.map rowK) h (stp (chd (rs.map rowK) h) cm (h i))/\Kp [l] H H':=⟨_,rfl⟩
  refine⟨J2,?_,?_⟩
  ·simp!
   have shp:=jid D I1.lay
   have rsh:Sg (wpR (λx=>(cmj (rs.map rowK) h cm (own (rs.map rowK) i)).idxOf x) (RwA (rs.map rowK) h i)):=by
    unfold RwA
    rw[Af,Aq,er]
    exact((jln gr).wp h).wp _
   have lr:=jdt shp
   have l1:=jds rsh
   refine⟨l,vs1,_,_,rfl,e1,jef rt1,jdo hc',lr.1,l1.1,by omega,_,rfl,?_⟩
   rw[jm6]
   have row_h:wpR (λx=>(cmj (rs.map rowK) h cm (own (rs.map rowK) i)).idxOf x) (RwA (rs.map rowK) h i)=wpR (λx=>(cmj (rs.map rowK) h cm (own (rs.map rowK) i)).idxOf x) (RwA (rs.map rowK) h (h i)):=by rw[hh.same i il]
   have vl:h i<(rs.map rowK).length:=by have:=hh.le i il;omega
   have mm:=jma I1.lay hh vl (hh.idem il) (by rw[ch];exact cin)
   rw[<-row_h]at mm
   have es':stp (chd (rs.map rowK) h) cm (h i)=if h i∈cmj (rs.map rowK) h cm (own (rs.map rowK) i)then cmj (rs.map rowK) h cm (own (rs.map rowK) i)else cmj (rs.map rowK) h cm (own (rs.map rowK) i)++[h i]:=es
   by_cases c0:h i∈cmj (rs.map rowK) h cm (own (rs.map rowK) i)
   ·rw[Ag c0]at es'
    have:((layL (rs.map rowK) h (cmj (rs.map rowK) h cm (own (rs.map rowK) i))).any λx=>decide (x=wpR (λx=>(cmj (rs.map rowK) h cm (own (rs.map rowK) i)).idxOf x) (RwA (rs.map rowK) h i)))=true:=List.any_eq_true.mpr ⟨_,mm.mpr c0,by simp⟩
    rw[this,Ae (by simp),hJ2,es']
    exact⟨rfl,hc',I1,k1⟩
   ·rw[Ae c0]at es'
    have:((layL (rs.map rowK) h (cmj (rs.map rowK) h cm (own (rs.map rowK) i))).any λx=>decide (x=wpR (λx=>(cmj (rs.map rowK) h cm (own (rs.map rowK) i)).idxOf x) (RwA (rs.map rowK) h i)))=false:=by
     rw[List.any_eq_false]
     intro x hx z
     exact c0 (mm.mp (by rw[<-Uj z];exact hx))
    rw[this,Ag (by simp),e1]
    have cl:(cmj (rs.map rowK) h cm (own (rs.map rowK) i)).length<=rs.length:=by
     have:=jnm I1.lay.nd I1.lay.lt
     rwa[Ab]at this
    have vl1:vs1.length=(cmj (rs.map rowK) h cm (own (rs.map rowK) i)).length:=by have:=Az rt1;rwa[layL,Ab]at this
    have ks:Kp [l] H1 (upd H1 l (.lst (vs1++[V.ref c']))):=(Kp.refl _ H1).set e1 (.inl (.head _))
    refine⟨rfl,vs1,rfl,by omega,?_⟩
    rw[hJ2,es']
    refine⟨rfl,ks.tup _ _ hc',⟨⟨_,je,?_⟩,by rw[<-es'];exact L1⟩,k1.trans ks⟩
    rw[jlf I1.lay (by rw[ch];exact cin),<-row_h]
    exact Oc (rt1.kp ks) ⟨c',rfl,ks.tup _ _ hc'⟩
  intro σ H2 hj
  rw[hJ2]at hj
  obtain⟨rfl,hc2',I2,k2⟩:=hj
  obtain⟨vs2,e2,rt2⟩:=I2.vs
  simp!
  refine⟨by rw[e2];rfl,?_⟩
  have shp:=jid D I2.lay
  have lr:=jdt shp
  have vl:h i<(rs.map rowK).length:=by have:=hh.le i il;omega
  have es':stp (chd (rs.map rowK) h) cm (h i)=if h i∈cmj (rs.map rowK) h cm (own (rs.map rowK) i)then cmj (rs.map rowK) h cm (own (rs.map rowK) i)else cmj (rs.map rowK) h cm (own (rs.map rowK) i)++[h i]:=es
  obtain⟨t2,et2⟩:∃t,stp (chd (rs.map rowK) h) cm (h i)=cmj (rs.map rowK) h cm (own (rs.map rowK) i)++t:=by
   rw[es']
   split
   ·exact⟨[],by simp⟩
   ·exact⟨_,rfl⟩
  have hm:=(jge okR hh vl cm).2
  have rowq:wpR (λx=>(cmj (rs.map rowK) h cm (own (rs.map rowK) i)).idxOf x) (RwA (rs.map rowK) h i)=wpR (λx=>(stp (chd (rs.map rowK) h) cm (h i)).idxOf x) (RwA (rs.map rowK) h (h i)):=by
   rw[hh.same i il,et2]
   refine jcj λp hp=>(jac (cin p ?_)).symm
   rw[<-ch]
   unfold chd
   rw[hh.same i il];exact hp
  rw[rowq]at hc2'
  have at2:=jnh (R:=rs.map rowK) (h:=h) hm
  have rsh:=shp _ (A0 at2)
  have l1:=jds rsh
  refine⟨vs2,_,_,_,e2,jef rt2,jdo hc2',lr.1,l1.1,by omega,⟨_,by rw[Aq,at2];rfl,by rw[jdn];simp⟩,λm d hm' hd=>?_,k _ I2 k2⟩
  rw[Aq]at hd
  obtain⟨x,hx,rfl⟩:=Uk.mp hd
  rw[jdn]
  refine A8 λz=>?_
  subst z
  have:=jo0 (jni I2.lay hh) hx at2
  omega
end
structure SB(H:Hp)(b:Addr)(H':Hp):Prop where
 kp:Kp [b] H H'
 bx:∃o,H' b=some o/\BoxO o
theorem SB.take{H H':Hp}{b:Addr}{o1:HO}(h:SB H b H')(ho1:BoxO o1):SB H b (upd H' b o1):=by
 obtain⟨kp,o,hb,ho⟩:=h
 obtain⟨xs,rfl⟩:=ho.lst
 exact⟨kp.set hb (.inl (.head _)),o1,je,ho1⟩
theorem SB.new{H H':Hp}{b p:Addr}{x:HO}(h:SB H b H')(hp:H' p=none):SB H b (upd H' p x):=by
 obtain⟨kp,o,hb,ho⟩:=h
 exact⟨kp.new hp,o,by rw[jf (jj hb hp)];exact hb,ho⟩
theorem SB.keep{H H' H2:Hp}{b:Addr}(h:SB H b H')(k:Kp [] H' H2):SB H b H2:=by
 obtain⟨kp,o,hb,ho⟩:=h
 exact⟨kp.trans (k.mono (by simp)),o,k.old _ _ hb Ai,ho⟩
theorem SB.tq{H H':Hp}{b:Addr}(h:SB H b H'){w:Int}(w0:0<w)(w1:w<1073741824){Q:VK}{E:XK}(q:∀d H2,0<=d->d<w->SB H b H2->Kp [b] H' H2->Q (.int d) H2):jcw [.ref b,.int w] H' Q E:=by
 obtain⟨o,hb,ho⟩:=h.bx
 refine⟨b,w,o,rfl,hb,ho,w0,w1,λd o' d0 d1 ho'=>q d _ d0 d1 (h.take ho') ?_⟩
 obtain⟨xs,rfl⟩:=ho.lst
 exact(Kp.refl [b] H').set hb (.inl (.head _))
theorem SB.ne{H H':Hp}{b p:Addr}(h:SB H b H')(hp:H' p=none):p≠b:=by
 obtain⟨o,hb,_⟩:=h.bx
 exact(jj hb hp).symm
structure GR(zs:List Str)(z:Str)(rs:List RS)(B:Nat):Prop where
 ok:okR zs rs
 lt:okL z rs
 bw:BdW rs B
theorem GR.snoc{zs:List Str}{z:Str}{rs:List RS}{B B':Nat}{x:RS}(g:GR zs z rs B)(hr:x.ok zs rs.length)(hl:x.lt z)(hB:B<=B')(hx:(wdL (wAt rs) x).length<=B'):GR zs z (rs++[x]) B':=⟨g.ok.snoc hr,g.lt.snoc hl,g.bw.snoc hB hx⟩
def IC(H:Hp)(b p r q:Addr)(zs:List Str)(z:Str)(B n0 m:Nat)(i:Nat):L2.St->Hp->Prop:=λσ H'=>∃(us:List V)(rs:List RS)(o:HO)(v5 v6 v7:Option V),σ=[some (.ref b),some (.ref p),some (.ref r),some (.int (m:Int)),some (.ref q),v5,v6,v7] /\
 1<=rs.length/\rs.length=n0+i/\GR zs z rs (B+2*i)/\Fc H b q us rs o H'
theorem IC.step{H H9:Hp}{b p r q:Addr}{zs:List Str}{z:Str}{B n0 m i:Nat}{us:List V}{rs:List RS}{o:HO}{v5 v6 v7:Option V}(x:RS)(t:Addr)(hr:x.ok zs rs.length)(hlt:x.lt z)(ht:H9 t=some (.tup (rowV x)))(hl:rs.length=n0+i)(g:GR zs z rs (B+2*i))(hx:(wdL (wAt rs) x).length<=B+2*(i+1))
  (F:Fc H b q us rs o H9) (hq0:H q=none) (nbq:b≠q):IC H b p r q zs z B n0 m (i+1) [some (.ref b),some (.ref p),some (.ref r),some (.int (m:Int)),some (.ref q),v5,v6,v7] (upd H9 q (.lst (us++[.ref t]))):=by
 have kq:Kp [q] H9 (upd H9 q (.lst (us++[.ref t]))):=(Kp.refl [q] H9).set F.hq (.inl (by simp))
 exact⟨us++[.ref t],rs++[x],o,v5,v6,v7,rfl,by simp,by simp[hl];omega,g.snoc hr hlt (by omega) hx,⟨by rw[jf nbq];exact F.hb,F.ho,je,Oc (F.ra.kp kq) ⟨t,rfl,kq.tup _ _ ht⟩,F.kp.set F.hq (.inr hq0)⟩⟩
def spCh:Sp:=λvs H Q _=>∃(b p r:Addr)(m B:Nat)(zs:List Str)(z:Str)(us:List V)(rs:List RS)(o:HO),vs=[.ref b,.ref p,.ref r,.int (m:Int)]/\H b=some o/\BoxO o/\H p=some (.lst (zs.map V.str))/\1<=zs.length/\zs.length<=26/\b≠p/\m<=60 /\
 H r=some (.lst us)/\RowsAt H us rs/\GR zs z rs B/\1<=rs.length/\rs.length<=100 /\
 ∀(t:Addr)(us':List V)(rs':List RS)(o':HO)(H':Hp),H' t=some (.tup us')->RowsAt H' us' rs'->GR zs z rs' (B+2*m)->rs'.length=rs.length+m->BoxO o'->H' b=some o'->Kp [b] H H'->Q (.ref t) H'
structure TCh(mg:Str->Option Value)(ft:Addr):Prop where
 n_range:mg "range"=none
 n_len:mg "len"=none
 n_list:mg "list"=none
 n_tuple:mg "tuple"=none
 m1z:mg "_law_take"=some (.ref ft)
section
variable{P:Program}{w:World}{K:PySem.W.Frag}{mg:Str->Option Value}{base:Heap}
abbrev yl:Stmt:=top 24
theorem zi:FnScope ["_law_box_here","_law_names","_law_rows","_law_many","_law_found","_law_k","_law_name","_law_word"] ["_law_box_here","_law_names","_law_rows","_law_many"] (jk yl):=⟨rfl,rfl,rfl,by decide +kernel,rfl,by decide +kernel,by decide +kernel⟩
theorem ok__law_chain{f ft:Addr}{fd fdt:FuncData}(F:Fun K "_law_chain" "_law_chain" yl f fd)(T:TCh mg ft)(F1z:Fun K "_law_take" "_law_take" ki ft fdt)(b1z:Binds K fdt ["_law_box_here","_law_wide"] [])
  (G1z:FnOk P w K mg base CX0 1 ft fdt ["_law_box_here","_law_wide"] jcw):FnOk P w K mg base CX0 2 f fd ["_law_box_here","_law_names","_law_rows","_law_many"] spCh:=by
 refine F.ok zi (λvs H Q E h=>?_) (λcdv A outer s H vs Q E hr h=>?_)
 ·obtain⟨b,p,r,m,B,zs,z,us,rs,o,rfl,_⟩:=h
  rfl
 ·obtain⟨b,p,r,m,B,zs,z,us,rs,o,rfl,hb,ho,hp,z1,z2,nbp,m20,hr0,ra,g0,l1,l9,k⟩:=h
  have hu:=hr.units
  have hsz:sizeLine=16777216:=Ao
  have ul0:us.length=rs.length:=Az ra
  refine exQ (jh (jn (i:=4) zi.nd rfl (by first|exact Or.inl rfl|exact Or.inr rfl) (yg (jad rfl) (by rfl) T.n_list jat (jc (qpv 2) jd)))
  (jh (zc Ii rfl (zf rfl T.n_range (jc (qpv 3) jd)) (kg (i:=5) zi.nd rfl (by first|exact Or.inl rfl|exact Or.inr rfl)) (jh (jn (i:=6) zi.nd rfl (by first|exact Or.inl rfl|exact Or.inr rfl) (jq ix_U (qpv 1) (jo G1z (hr.mono (by decide)) rfl T.m1z F1z.kp b1z .nil jr (jc (qpv 0) (jc (jv kj (by rfl) T.n_len yd (jc (qpv 1) jd)) jd))) (λ_ _=>rfl)))
  (jh (jn (i:=7) zi.nd rfl (by first|exact Or.inl rfl|exact Or.inr rfl) (jq ix_U (j8 (jc jm (jc jm (jc jm jd)))) (jo G1z (hr.mono (by decide)) rfl T.m1z F1z.kp b1z .nil jr (jc (qpv 0) (jc jg jd))) (λ_ _=>rfl)))
  (ji (j7 (jt (kx hu) (qpv 7) jm (j5 _)) (ji (ke (ky At Au j9 (qpv 4) (jc (j6 (jc jm (jc (jp zq (jv kj (by rfl) T.n_len yd (jc (qpv 4) jd)) jg) jd))) jd) jca))) (ji (ke (ky At Au j9 (qpv 4) (jc (j6 (jc (qpv 7) (jc (qpv 6) (jc (jp zq (jv kj (by rfl) T.n_len yd (jc (qpv 4) jd)) jg) jd)))) jd) jca))))))))
  (ji (jy (yg zj (by rfl) T.n_tuple zm (jc (qpv 4) jd)))))) ?_
  simp! [hr0]
  intro q hq
  have nbq:b≠q:=jj hb hq
  refine⟨by omega,by omega,?_⟩
  rw[Int.toNat_natCast]
  refine jcn (IC H b p r q zs z B rs.length m) ?_ ?_ ?_
  ·exact⟨us,rs,o,none,none,none,rfl,l1,rfl,g0,by rw[jf nbq];exact hb,ho,je,ra.kp ((Kp.refl [] H).new hq),(Kp.refl [b] H).new hq⟩
  ·rintro i σ H1 hi ⟨us1,rs1,o1,v5,v6,v7,rfl,l1',hl,g1,F1⟩
   have hp1:H1 p=some (.lst (zs.map V.str)):=F1.kp.old _ _ hp (by simpa using nbp.symm)
   obtain⟨xs1,e1⟩:=F1.ho.lst
   subst e1
   simp! [hp1]
   refine⟨b,_,_,rfl,F1.hb,F1.ho,by rw[Ab];omega,by rw[Ab];omega,λdx o4 dx0 dx1 ho4=>?_⟩
   rw[Ab]at dx1
   have F2:=F1.box nbq ho4
   have pA:upd H1 b o4 p=some (.lst (zs.map V.str)):=by rw[jf nbp.symm];exact hp1
   simp! [pA]
   obtain⟨x,hx,ax⟩:=jfb dx0 dx1
   refine⟨_,ax,by omega,λt0 ht0=>?_⟩
   have F3:=F2.new (x:=.lst [V.str (Str.ofString "not"),V.str (Str.ofString "some"),V.str (Str.ofString "each")]) ht0
   have nb0:b≠t0:=jj F2.hb ht0
   refine⟨b,_,_,rfl,F3.hb,F3.ho,by omega,by omega,λd o5 d0 d1 ho5=>?_⟩
   have F4:=F3.box nbq ho5
   have h0:∀o,upd (upd (upd H1 b o4) t0 o) b o5 t0=some o:=λo=>by rw[jf nb0.symm,je]
   simp! [h0]
   have lus:us1.length=rs1.length:=Az F4.ra
   have ei:((us1.length:Int)-1)=((rs1.length-1:Nat):Int):=by omega
   have w7:(Str.ofString "some"=Str.ofString "not")=False:=wq4 true
   have w8:(Str.ofString "each"=Str.ofString "not")=False:=wq4 false
   have bd:=g1.bw (rs1.length-1)
   have:d=0\/d=1\/d=2:=by omega
   rcases this with rfl|rfl|rfl
   ·refine⟨_,jb7 (by decide) rfl,?_⟩
    simp! [F4.hq,ei]
    refine⟨by omega,λt ht=>?_⟩
    have F5:=F4.new (x:=.tup [V.str (Str.ofString "not"),V.int ((rs1.length-1:Nat):Int)]) ht
    exact⟨us1,by rw[F5.hq];rfl,by omega,IC.step (.no (rs1.length-1)) t (show rs1.length-1<rs1.length by omega) trivial je hl g1 (by simp only[wdL,List.length_cons];omega) F5 hq nbq⟩
   ·refine⟨_,jb7 (by decide) rfl,?_⟩
    simp! [F4.hq,ei,w7]
    refine⟨by omega,λt ht=>?_⟩
    have F5:=F4.new (x:=.tup [V.str (Str.ofString "some"),V.str x,V.int ((rs1.length-1:Nat):Int)]) ht
    exact⟨us1,by rw[F5.hq];rfl,by omega,IC.step (.qn true x (rs1.length-1)) t ⟨hx,by omega⟩ trivial je hl g1 (by simp only[wdL,List.length_cons];omega) F5 hq nbq⟩
   ·refine⟨_,jb7 (by decide) rfl,?_⟩
    simp! [F4.hq,ei,w8]
    refine⟨by omega,λt ht=>?_⟩
    have F5:=F4.new (x:=.tup [V.str (Str.ofString "each"),V.str x,V.int ((rs1.length-1:Nat):Int)]) ht
    exact⟨us1,by rw[F5.hq];rfl,by omega,IC.step (.qn false x (rs1.length-1)) t ⟨hx,by omega⟩ trivial je hl g1 (by simp only[wdL,List.length_cons];omega) F5 hq nbq⟩
  ·rintro σ H1 ⟨us1,rs1,o1,v5,v6,v7,rfl,l1',hl,g1,F1⟩
   simp!
   refine jcp F1.hq λt ht=>?_
   exact k t us1 rs1 o1 _ je (F1.ra.kp ((Kp.refl [] H1).new ht)) g1 hl F1.ho (by rw[jf (jj F1.hb ht)];exact F1.hb) (F1.kp.new ht)
def spTC:Sp:=λvs H Q _=>∃(b p r:Addr)(B:Nat)(zs:List Str)(z:Str)(us:List V)(rs:List RS)(o:HO),vs=[.ref b,.ref p,.ref r]/\H b=some o/\BoxO o/\H p=some (.lst (zs.map V.str))/\1<=zs.length/\zs.length<=26/\b≠p/\b≠r /\
 H r=some (.lst us)/\RowsAt H us rs/\GR zs z rs B/\1<=rs.length/\rs.length<=7/\B<=400 /\
 ∀(t:Addr)(us':List V)(rs':List RS)(o':HO)(H':Hp),H' t=some (.tup us')->RowsAt H' us' rs'->GR zs z rs' 2000->1<=rs'.length->rs'.length<=100->BoxO o'->H' b=some o'->Kp [b] H H'->Q (.ref t) H'
structure TTC(mg:Str->Option Value)(ft fc:Addr):Prop where
 n_len:mg "len"=none
 n_list:mg "list"=none
 n_tuple:mg "tuple"=none
 m1z:mg "_law_take"=some (.ref ft)
 m4z:mg "_law_chain"=some (.ref fc)
abbrev yb:Stmt:=top 25
theorem y8:FnScope ["_law_box_here","_law_names","_law_rows","_law_found","_law_first"] ["_law_box_here","_law_names","_law_rows"] (jk yb):=⟨rfl,rfl,rfl,by decide +kernel,rfl,by decide +kernel,by decide +kernel⟩
theorem ok__law_two_chains{f ft fc:Addr}{fd fdt fdc:FuncData}(F:Fun K "_law_two_chains" "_law_two_chains" yb f fd)(T:TTC mg ft fc)(F1z:Fun K "_law_take" "_law_take" ki ft fdt)(b1z:Binds K fdt ["_law_box_here","_law_wide"] [])
  (G1z:FnOk P w K mg base CX0 1 ft fdt ["_law_box_here","_law_wide"] jcw) (F4z:Fun K "_law_chain" "_law_chain" yl fc fdc) (b4z:Binds K fdc ["_law_box_here","_law_names","_law_rows","_law_many"] []) (G4z:FnOk P w K mg base CX0 2 fc fdc ["_law_box_here","_law_names","_law_rows","_law_many"] spCh):FnOk P w K mg base CX0 3 f fd ["_law_box_here","_law_names","_law_rows"] spTC:=by
 refine F.ok y8 (λvs H Q E h=>?_) (λcdv A outer s H vs Q E hr h=>?_)
 ·obtain⟨b,p,r,B,zs,z,us,rs,o,rfl,_⟩:=h
  rfl
 ·obtain⟨b,p,r,B,zs,z,us,rs,o,rfl,hb,ho,hp,z1,z2,nbp,nbr,hr0,ra,g0,l1,l7,B4,k⟩:=h
  have hu:=hr.units
  have hsz:sizeLine=16777216:=Ao
  refine exQ (jh (jn (i:=3) y8.nd rfl (by first|exact Or.inl rfl|exact Or.inr rfl) (yg (jad rfl) (by rfl) T.n_list jat (jc (jo G4z (hr.mono (by decide)) rfl T.m4z F4z.kp b4z .nil jr (jc (qpv 0) (jc (qpv 1) (jc (qpv 2) (jc (jp jz jg (jo G1z (hr.mono (by decide)) rfl T.m1z F1z.kp b1z .nil jr (jc (qpv 0) (jc jg jd)))) jd))))) jd)))
  (jh (jn (i:=4) y8.nd rfl (by first|exact Or.inl rfl|exact Or.inr rfl) (jp zq (jv kj (by rfl) T.n_len yd (jc (qpv 3) jd)) jg))
  (jh (ke (ky At Au j9 (qpv 3) (jc (j6 (jc jm (jc (jq ix_U (qpv 1) jg (λ_ _=>rfl)) (jc (jq ix_U (qpv 1) (ja3 jf2 jg) (λ_ _=>rfl)) jd)))) jd) jca))
  (jh (jn (i:=3) y8.nd rfl (by first|exact Or.inl rfl|exact Or.inr rfl) (yg (jad rfl) (by rfl) T.n_list jat (jc (jo G4z (hr.mono (by decide)) rfl T.m4z F4z.kp b4z .nil jr (jc (qpv 0) (jc (qpv 1) (jc (qpv 3) (jc (jp jz jg (jo G1z (hr.mono (by decide)) rfl T.m1z F1z.kp b1z .nil jr (jc (qpv 0) (jc jg jd)))) jd))))) jd)))
  (ji (jy (yg zj (by rfl) T.n_tuple zm (jc (jp jz (qpv 3) (j8 (jc (j6 (jc (jq ix_U (j8 (jc jm (jc jm jd))) (jo G1z (hr.mono (by decide)) rfl T.m1z F1z.kp b1z .nil jr (jc (qpv 0) (jc jg jd))) (λ_ _=>rfl)) (jc (qpv 4) (jc (jp zq (jv kj (by rfl) T.n_len yd (jc (qpv 3) jd)) jg) jd)))) jd))) jd)))))))) ?_
  simp!
  have S0:SB H b H:=⟨Kp.refl _ _,o,hb,ho⟩
  have at_l:∃y,y∈zs/\atI (zs.map V.str) (-1)=some (.str y):=by
   have h0:zs≠[]:=λe=>by rw[e]at z1;simp at z1
   refine⟨zs.getLast h0,List.getLast_mem h0,?_⟩
   have:zs.map V.str=zs.dropLast.map V.str++[.str (zs.getLast h0)]:=by
    rw[<-List.map_singleton (f:=V.str),<-Ip,Oh]
   rw[this];exact jdr _ _
  obtain⟨y0,hy0,a0⟩:=jfb (zs:=zs) (d:=0) (by decide) (by omega)
  obtain⟨y1,hy1,a1⟩:=at_l
  refine S0.tq (by decide) (by decide) λd H1 d0 d1 S1 k1=>?_
  obtain⟨m,em⟩:∃m:Nat,(30+d:Int)=(m:Int):=⟨(30+d).toNat,by omega⟩
  simp! [em]
  obtain⟨o1,hb1,ho1⟩:=S1.bx
  refine⟨b,p,r,m,B,zs,z,us,rs,o1,rfl,hb1,ho1,k1.old _ _ hp (by simpa using nbp.symm),z1,z2,nbp,by omega,k1.old _ _ hr0 (by simpa using nbr.symm),ra.kp k1,g0,l1,by omega,λt us1 rs1 o2 H2 ht ra2 g2 e2 ho2 hb2 k2=>?_⟩
  have S2:SB H b H2:=⟨k1.trans k2,o2,hb2,ho2⟩
  have ul1:us1.length=rs1.length:=Az ra2
  refine⟨us1,by rw[ht];rfl,λl hl=>?_⟩
  have S3:=S2.new (x:=.lst us1) hl
  have nbl:b≠l:=(S2.ne hl).symm
  have ra3:=ra2.kp ((Kp.refl [] H2).new (o:=.lst us1) hl)
  have hl0:H l=none:=S2.kp.free hl
  have hl3:upd H2 l (.lst us1) l=some (.lst us1):=je
  generalize upd H2 l (.lst us1)=H3 at S3 ra3 hl3⊢
  have hp3:=S3.kp.old _ _ hp (by simpa using nbp.symm)
  simp! [hl3,hp3]
  refine⟨_,a0,_,a1,by omega,λt1 ht1=>?_⟩
  have S4:=S3.new (x:=.tup [V.str (Str.ofString "ahead"),V.str y0,V.str y1]) ht1
  have k4:=(Kp.refl [] H3).new (o:=.tup [V.str (Str.ofString "ahead"),V.str y0,V.str y1]) ht1
  have et1:upd H3 t1 (.tup [V.str (Str.ofString "ahead"),V.str y0,V.str y1]) t1=some (.tup (rowV (.ahead y0 y1))):=je
  have hl4:=k4.old _ _ hl3 Ai
  have ra4:=ra3.kp k4
  generalize upd H3 t1 (.tup [V.str (Str.ofString "ahead"),V.str y0,V.str y1])=H4 at S4 k4 et1 hl4 ra4⊢
  rw[hl4]
  refine⟨_,rfl,by omega,?_⟩
  have k5:Kp [l] H4 (upd H4 l (.lst (us1++[.ref t1]))):=(Kp.refl _ H4).set hl4 (.inl (.head _))
  have S5:SB H b (upd H4 l (.lst (us1++[.ref t1]))):=by
   obtain⟨o4,hb4,ho4⟩:=S4.bx
   exact⟨S4.kp.set hl4 (.inr hl0),o4,by rw[jf nbl];exact hb4,ho4⟩
  have ra5:RowsAt (upd H4 l (.lst (us1++[.ref t1]))) (us1++[.ref t1]) (rs1++[.ahead y0 y1]):=Oc (ra4.kp k5) ⟨t1,rfl,k5.tup _ _ et1⟩
  have hl5:upd H4 l (.lst (us1++[.ref t1])) l=some (.lst (us1++[.ref t1])):=je
  generalize upd H4 l (.lst (us1++[.ref t1]))=H5 at S5 ra5 hl5⊢
  have g5:GR zs z (rs1++[.ahead y0 y1]) (B+2*m+3):=g2.snoc ⟨hy0,hy1⟩ trivial (by omega) (by simp[wdL])
  refine S5.tq (by decide) (by decide) λd' H6 d0' d1' S6 k6=>?_
  obtain⟨m',em'⟩:∃m':Nat,(30+d':Int)=(m':Int):=⟨(30+d').toNat,by omega⟩
  simp! [em']
  obtain⟨o6,hb6,ho6⟩:=S6.bx
  refine⟨b,p,l,m',B+2*m+3,zs,z,_,_,o6,rfl,hb6,ho6,S6.kp.old _ _ hp (by simpa using nbp.symm),z1,z2,nbp,by omega,k6.old _ _ hl5 (by simpa using nbl.symm),ra5.kp k6,g5,by simp,by simp;omega,λt7 us7 rs7 o7 H7 ht7 ra7 g7 e7 ho7 hb7 k7=>?_⟩
  have S7:SB H b H7:=⟨S6.kp.trans k7,o7,hb7,ho7⟩
  have ul7:us7.length=rs7.length:=Az ra7
  simp at e7
  refine⟨us7,by rw[ht7];rfl,λl8 hl8=>?_⟩
  have S8:=S7.new (x:=.lst us7) hl8
  have ra8:=ra7.kp ((Kp.refl [] H7).new (o:=.lst us7) hl8)
  have nb8:b≠l8:=(S7.ne hl8).symm
  have e8:upd H7 l8 (.lst us7) l8=some (.lst us7):=je
  generalize upd H7 l8 (.lst us7)=H8 at S8 ra8 e8⊢
  refine⟨by omega,λt9 ht9=>?_⟩
  have S9:=S8.new (x:=.lst [V.str (Str.ofString "and"),V.str (Str.ofString "or")]) ht9
  have k9:=(Kp.refl [] H8).new (o:=.lst [V.str (Str.ofString "and"),V.str (Str.ofString "or")]) ht9
  have e9:upd H8 t9 (.lst [V.str (Str.ofString "and"),V.str (Str.ofString "or")]) t9=some (.lst [V.str (Str.ofString "and"),V.str (Str.ofString "or")]):=je
  have nb9:b≠t9:=(S8.ne ht9).symm
  have e89:=k9.old _ _ e8 Ai
  have ra9:=ra8.kp k9
  generalize upd H8 t9 (.lst [V.str (Str.ofString "and"),V.str (Str.ofString "or")])=H9 at S9 e9 e89 ra9⊢
  refine S9.tq (by decide) (by decide) λe H10 f0 f1 S10 k10=>?_
  obtain⟨bb,eb⟩:∃bb,atI [V.str (Str.ofString "and"),V.str (Str.ofString "or")] e=some (.str (bw bb)):=by
   have:e=0\/e=1:=by omega
   rcases this with rfl|rfl
   ·exact⟨true,jb7 (by decide) rfl⟩
   ·exact⟨false,jb7 (by decide) rfl⟩
  have e10:=k10.old _ _ e9 (by simpa using nb9.symm)
  have e8':=k10.old _ _ e89 (by simpa using nb8.symm)
  have ei:((us7.length:Int)-1)=((rs7.length-1:Nat):Int):=by omega
  have ej:((us1.length:Int)-1)=((rs1.length-1:Nat):Int):=by omega
  simp! [e10,e8',ei,ej]
  refine⟨_,eb,?_⟩
  refine⟨by omega,λta hta=>⟨by omega,λtb htb=>?_⟩⟩
  have ka:=(Kp.refl [] H10).new (o:=.tup [V.str (bw bb),V.int ((rs1.length-1:Nat):Int),V.int ((rs7.length-1:Nat):Int)]) hta
  have ea:upd H10 ta (.tup [V.str (bw bb),V.int ((rs1.length-1:Nat):Int),V.int ((rs7.length-1:Nat):Int)]) ta=some (.tup (rowV (.bin bb (rs1.length-1) (rs7.length-1)))):=je
  generalize upd H10 ta (.tup [V.str (bw bb),V.int ((rs1.length-1:Nat):Int),V.int ((rs7.length-1:Nat):Int)])=H11 at ka ea htb⊢
  have kb:=(Kp.refl [] H11).new (o:=.lst [V.ref ta]) htb
  refine rAddW.lst (kb.old _ _ (ka.old _ _ e8' Ai) (by simp)) je (by simp;omega) λtc htc=>?_
  have kc:=kb.new (o:=.lst (us7++[V.ref ta])) htc
  refine jcp je λtd htd=>?_
  have kd:=kc.new (o:=.tup (us7++[V.ref ta])) htd
  have kf:=ka.trans kd
  have Sf:=S10.keep kf
  obtain⟨of,hbf,hof⟩:=Sf.bx
  have b1:=g7.bw (rs1.length-1)
  have b2:=g7.bw (rs7.length-1)
  exact k td _ (rs7++[.bin bb (rs1.length-1) (rs7.length-1)]) of _ je (Oc ((ra9.kp k10).kp kf) ⟨ta,rfl,kd.tup _ _ ea⟩) (g7.snoc (x:=.bin bb (rs1.length-1) (rs7.length-1)) ⟨by omega,by omega⟩ trivial (by omega) (by simp only[wdL,List.length_cons,A4,List.length_nil];omega)) (by simp) (by simp;omega) hof hbf Sf.kp
end
def brS(w:Str):Prop:=w=Str.ofString "("\/w=Str.ofString ")"
def plS(w:Str):Prop:=w.cps.toList≠[]/\∀c∈w.cps.toList,c≠32/\c≠40/\c≠41
def okW(w:Str):Prop:=(brS w\/plS w)/\w.length<=10
def toL(w:Str):List Nat:=w.cps.toList
def curL(last:Str):List Nat:=if last=Str.ofString "("\/last=Str.ofString ")"then[]else toL last
def Spd(T:Str)(ds:List Str)(last:Str):Prop:=∃E,Cut (toL T) E (curL last)/\E++fl (curL last)=ds.map toL
theorem jdq(x y:Str):toL (x++y)=toL x++toL y:=by unfold toL;rw[Str.cps_append];simp
theorem jkz{w:Str}(h:brS w):∃c,toL w=[c]/\(c=40\/c=41):=by
 rcases h with rfl|rfl
 ·exact⟨40,by decide +kernel,.inl rfl⟩
 ·exact⟨41,by decide +kernel,.inr rfl⟩
theorem pl_br{w:Str}(h:plS w):¬brS w:=λb=>by
 obtain⟨c,e,hc⟩:=jkz b
 have:=h.2 c (by show c∈toL w;rw[e];exact .head _)
 omega
theorem Spd.step{T w last S:Str}{ds:List Str}{n:Nat}(h:Spd T ds last)(hw:okW w)(hS:toL S=List.replicate n 32)(hn:¬(brS w\/brS last)->1<=n):Spd (T++S++w) (ds++[w]) w:=by
 obtain⟨E,hc,he⟩:=h
 have cut0:∃E',Cut (toL (T++S)) E' []/\E'=ds.map toL\/(n=0/\∃E',Cut (toL (T++S)) E' (curL last)/\E'++fl (curL last)=ds.map toL):=by
  by_cases c0:n=0
  ·refine⟨[],.inr ⟨c0,E,?_,he⟩⟩
   rw[jdq,hS,c0]
   simpa using hc
  ·refine⟨E++fl (curL last),.inl ⟨?_,he⟩⟩
   rw[jdq,hS]
   exact hc.sp1 (by omega)
 obtain⟨E0,hh⟩:=cut0
 rcases hw.1 with hb|hp
 ·obtain⟨c,ec,hc'⟩:=jkz hb
  have cu:curL w=[]:=Ag hb
  have:∃E2 cur2,Cut (toL (T++S)) E2 cur2/\E2++fl cur2=ds.map toL:=by
   rcases hh with⟨h1,h2⟩|⟨_,E1,h1,h2⟩
   ·exact⟨E0,[],h1,by rw[h2];simp[fl]⟩
   ·exact⟨E1,_,h1,h2⟩
  obtain⟨E2,cur2,h1,h2⟩:=this
  refine⟨E2++fl cur2++[[c]],?_,?_⟩
  ·rw[jdq,ec,cu];exact h1.br hc'
  ·rw[cu,h2,Ip]
   show _++fl []=_++[toL w]
   rw[ec];simp[fl]
 ·have nb:=pl_br hp
  have cu:curL w=toL w:=Ae nb
  have:Cut (toL (T++S)) (ds.map toL) []:=by
   rcases hh with⟨h1,h2⟩|⟨n0,E1,h1,h2⟩
   ·rw[<-h2];exact h1
   ·have bl:brS last:=by
     apply Classical.byContradiction
     intro z
     have:=hn (by rintro(q|q);exact nb q;exact z q)
     omega
    have cl:curL last=[]:=Ag bl
    rw[cl]at h1 h2
    have:E1=ds.map toL:=by rw[<-h2];simp[fl]
    rw[<-this];exact h1
  refine⟨ds.map toL,?_,?_⟩
  ·rw[jdq,cu];exact this.word hp.2
  ·rw[cu,Ip]
   have:toL w≠[]:=hp.1
   simp[fl,this]
theorem Spd.last{T S last:Str}{ds:List Str}{n:Nat}(h:Spd T ds last)(hS:toL S=List.replicate n 32):toks (T++S)=ds:=by
 obtain⟨E,hc,he⟩:=h
 have:tok [] (toL (T++S))=ds.map toL:=by
  rw[jdq,hS]
  by_cases c0:n=0
  ·rw[c0]
   have:=hc.done
   simp only[List.replicate_zero,Im]
   rw[this,he]
  ·have:=(hc.sp1 (n:=n) (by omega)).done
   rw[this,he];simp[fl]
 unfold toks
 show(tok [] (toL (T++S))).map toS=ds
 rw[this,O2]
 have:(λw=>toS (toL w))=(id:Str->Str):=funext λw=>jj5 w
 show ds.map (λw=>toS (toL w))=ds
 rw[this,List.map_id]
theorem Spd.first{S:Str}{n:Nat}(hS:toL S=List.replicate n 32):Spd S [] (Str.ofString "("):=by
 have cu:curL (Str.ofString "(")=[]:=Ag (.inl rfl)
 refine⟨[],?_,by rw[cu];simp[fl]⟩
 rw[cu,hS]
 exact Cut.nil.sps n
def spSd:Sp:=λvs H Q _=>∃(b q:Addr)(ws:List Str),vs=[.ref b,.ref q,.int 3]/\(∃o,H b=some o/\BoxO o)/\b≠q/\H q=some (.lst (ws.map V.str))/\(∀w∈ws,okW w)/\ws.length<=2000 /\
 ∀T H',toks T=ws->T.length<=100000->SB H b H'->Q (.str T) H'
structure TSd(mg:Str->Option Value)(ft:Addr):Prop where
 n_int:mg "int"=none
 m1z:mg "_law_take"=some (.ref ft)
section
variable{P:Program}{w:World}{K:PySem.W.Frag}{mg:Str->Option Value}{base:Heap}
abbrev yq:Stmt:=top 27
theorem yk:FnScope ["_law_box_here","_law_words_here","_law_wide","_law_text","_law_last","_law_word","_law_gap"] ["_law_box_here","_law_words_here","_law_wide"] (jk yq):=⟨rfl,rfl,rfl,by decide +kernel,rfl,by decide +kernel,by decide +kernel⟩
theorem ok__law_spaced{f ft:Addr}{fd fdt:FuncData}(F:Fun K "_law_spaced" "_law_spaced" yq f fd)(T:TSd mg ft)(F1z:Fun K "_law_take" "_law_take" ki ft fdt)(b1z:Binds K fdt ["_law_box_here","_law_wide"] [])
  (G1z:FnOk P w K mg base CX0 1 ft fdt ["_law_box_here","_law_wide"] jcw):FnOk P w K mg base CX0 2 f fd ["_law_box_here","_law_words_here","_law_wide"] spSd:=by
 refine F.ok yk (λvs H Q E h=>?_) (λcdv A outer s H vs Q E hr h=>?_)
 ·obtain⟨b,q,ws,rfl,_⟩:=h
  rfl
 ·obtain⟨b,q,ws,rfl,⟨o,hb,ho⟩,nbq,hq,okw,w9,k⟩:=h
  have hu:=hr.units
  have hsz:sizeLine=16777216:=Ao
  refine exQ (jh (jn (i:=3) yk.nd rfl (by first|exact Or.inl rfl|exact Or.inr rfl) (jp ja5 jm (jo G1z (hr.mono (by decide)) rfl T.m1z F1z.kp b1z .nil jr (jc (qpv 0) (jc (qpv 2) jd)))))
  (jh (jn (i:=4) yk.nd rfl (by first|exact Or.inl rfl|exact Or.inr rfl) jm)
  (jh (zc Ii rfl (zk (K:=K) (qpv 1) rfl) (kg (i:=5) yk.nd rfl (by first|exact Or.inl rfl|exact Or.inr rfl)) (jh (jn (i:=6) yk.nd rfl (by first|exact Or.inl rfl|exact Or.inr rfl) (jp zq jg (yg jbe (by rfl) T.n_int ja0 (jc (jb3 (zr (zw (K:=K) rfl) (qpv 5) (j6 (jc jm (jc jm jd))) (by with_unfolding_all rfl)) (ja9 (zr (zw (K:=K) rfl) (qpv 4) (j6 (jc jm (jc jm jd))) (by with_unfolding_all rfl)))) jd))))
  (jh (jn (i:=3) yk.nd rfl (by first|exact Or.inl rfl|exact Or.inr rfl) (jp jz (jp jz (qpv 3) (jp ja5 jm (jp jz (qpv 6) (jo G1z (hr.mono (by decide)) rfl T.m1z F1z.kp b1z .nil jr (jc (qpv 0) (jc (qpv 2) jd)))))) (qpv 5)))
  (ji (jn (i:=4) yk.nd rfl (by first|exact Or.inl rfl|exact Or.inr rfl) (qpv 5))))))
  (ji (jy (jp jz (qpv 3) (jp ja5 jm (jo G1z (hr.mono (by decide)) rfl T.m1z F1z.kp b1z .nil jr (jc (qpv 0) (jc (qpv 2) jd)))))))))) ?_
  simp!
  have S0:SB H b H:=⟨Kp.refl _ _,o,hb,ho⟩
  refine S0.tq (by decide) (by decide) λd H1 d0 d1 S1 k1=>?_
  have es:Str.ofString " "=⟨#[32]⟩:=by decide +kernel
  have tr:∀n:Nat,toL (repC 32 n)=List.replicate n 32:=λn=>by simp[toL,repC]
  have lr:∀n:Nat,(repC 32 n).length=n:=λn=>by simp[repC,Str.length]
  obtain⟨n,rfl⟩:∃n:Nat,d=(n:Int):=⟨d.toNat,by omega⟩
  refine⟨32,n,by rw[es],rfl,by omega,?_⟩
  have hq1:=k1.old _ _ hq (by simpa using nbq.symm)
  simp! [hq1]
  obtain⟨W,hW⟩:∃W:Nat->L2.St->Hp->Prop,W=λi σ H'=>∃(T0 last:Str)(v5 v6:Option V),σ=[some (.ref b),some (.ref q),some (.int 3),some (.str T0),some (.str last),v5,v6]/\Spd T0 (ws.take i) last/\T0.length<=20*(i+1)/\SB H b H':=⟨_,rfl⟩
  refine jd8 (xs:=ws.map V.str) W ?_ ?_ ?_ ?_
  ·rw[hW]
   exact⟨_,_,none,none,rfl,Spd.first (tr n),by rw[lr];omega,S1⟩
  ·intro i σ H2 _ hw
   rw[hW]at hw
   obtain⟨T0,last,v5,v6,rfl,sd,tl,S2⟩:=hw
   exact S2.kp.old _ _ hq (by simpa using nbq.symm)
  ·intro i v σ H2 ei hw
   rw[hW]at hw
   obtain⟨T0,last,v5,v6,rfl,sd,tl,S2⟩:=hw
   rw[Aq]at ei
   obtain⟨wd,ew,rfl⟩:=Uk.mp ei
   have ow:=okw wd (A0 ew)
   simp!
   have il:i<ws.length:=(Aa.mp ew).1
   have tk:ws.take (i+1)=ws.take i++[wd]:=by rw[Ue,ew];rfl
   have go:∀{g:Nat}{H3:Hp},SB H b H3->g<=1->(¬(brS wd\/brS last)->1<=g)->jcw [.ref b,.int 3] H3 (λy H2=>rAddW (.int (g:Int)) y H2 λy H2=>jmy (.str (Str.ofString " ")) y H2 λy H2=>rAddW (.str T0) y H2 λx H1=>rAddW x (.str wd) H1 λx H1 =>
     W (i+1) [some (.ref b),some (.ref q),some (.int 3),some x,some (.str wd),some (.str wd),some (.int (g:Int))] H1) E0:=by
    intro g H3 S3 g1 hg
    refine S3.tq (by decide) (by decide) λd2 H4 e0 e1 S4 k4=>?_
    obtain⟨n2,rfl⟩:∃n2:Nat,d2=(n2:Int):=⟨d2.toNat,by omega⟩
    rw[jed]
    have l2:=lr (g+n2)
    have lw:=ow.2
    refine⟨32,g+n2,by rw[es],by rw[Int.natCast_add],by omega,?_⟩
    show rAddW (.str T0) (.str (repC 32 (g+n2))) H4 _
    rw[jdi]
    refine⟨by omega,?_⟩
    rw[jdi]
    refine⟨by rw[jcl];omega,?_⟩
    rw[hW]
    refine⟨_,_,_,_,rfl,?_,by rw[jcl,jcl];omega,S4⟩
    rw[tk]
    exact sd.step ow (tr (g+n2)) λh=>by have:=hg h;omega
   refine in2 λt1 ht1=>⟨_,rfl,?_⟩
   have S3:=S2.new (x:=.tup [V.str (Str.ofString "("),V.str (Str.ofString ")")]) ht1
   generalize upd H2 t1 (.tup [V.str (Str.ofString "("),V.str (Str.ofString ")")])=H3 at S3⊢
   refine ite2 (λhb1=>?_) (λhb1=>in2 λt2 ht2=>?_)
   ·exact go (g:=0) S3 (by decide) λh=>absurd (.inl (show wd=Str.ofString "("\/wd=Str.ofString ")"from Uj hb1)) h
   ·have S4:=S3.new (x:=.tup [V.str (Str.ofString "("),V.str (Str.ofString ")")]) ht2
    by_cases hl:last=Str.ofString "("\/last=Str.ofString ")"
    ·rw[Op hl]
     exact⟨1,rfl,go (g:=0) S4 (by decide) λh=>absurd (.inr hl) h⟩
    ·rw[A8 hl]
     exact⟨0,rfl,go (g:=1) S4 (by decide) λ_=>Ac _⟩
  ·intro σ H2 hw
   rw[hW]at hw
   obtain⟨T0,last,v5,v6,rfl,sd,tl,S2⟩:=hw
   simp!
   refine S2.tq (by decide) (by decide) λd2 H3 e0 e1 S3 k3=>?_
   obtain⟨n2,rfl⟩:∃n2:Nat,d2=(n2:Int):=⟨d2.toNat,by omega⟩
   refine⟨32,n2,by rw[es],rfl,by omega,?_⟩
   rw[Ab]at sd tl
   rw[List.take_length]at sd
   have l2:=lr n2
   simp!
   refine⟨by omega,k _ _ (sd.last (tr n2)) (by rw[jcl];omega) S3⟩
end
def spPl:Sp:=λvs H Q _=>∃(q:Addr)(us:List V)(R:List Row),vs=[.ref q]/\H q=some (.tup us)/\RowsT H us R/\(∀r∈R,r.length<=100)/\∀H',Kp [] H H'->Q (.bl true) H'
structure TPl(K:PySem.W.Frag)(mg:Str->Option Value):Prop where
 n_isinstance:mg "isinstance"=none
 n_tuple:mg "tuple"=none
 n_bool:mg "bool"=none
 n_any:mg "any"=none
 tt:PySem.W.kitOne K (.type "tuple") (.type "tuple")=some true
 ib:PySem.W.kitOne K (.type "int") (.type "bool")=some false
 sb:PySem.W.kitOne K (.type "str") (.type "bool")=some false
section
variable{P:Program}{w:World}{K:PySem.W.Frag}{mg:Str->Option Value}{base:Heap}
abbrev ym:Stmt:=top 29
theorem jaq:FnScope ["_law_heard","_law_row"] ["_law_heard"] (jk ym):=⟨rfl,rfl,rfl,by decide +kernel,rfl,by decide +kernel,by decide +kernel⟩
theorem ok__law_plain{f:Addr}{fd:FuncData}(F:Fun K "_law_plain" "_law_plain" ym f fd)(T:TPl K mg):FnOk P w K mg base CX0 1 f fd ["_law_heard"] spPl:=by
 refine F.ok jaq (λvs H Q E h=>?_) (λcdv A outer s H vs Q E hr h=>?_)
 ·obtain⟨q,us,R,rfl,_⟩:=h
  rfl
 ·obtain⟨q,us,R,rfl,hq,rt,l1,k⟩:=h
  have hu:=hr.units
  have hsz:sizeLine=16777216:=Ao
  refine exQ (jh (j7 (jav (z4 (jv (yv (K:=K) rfl) (by rfl) T.n_isinstance zh (jc (qpv 0) (jc (jah (v:=.ty "tuple") rfl T.n_tuple zm rfl) jd))))) (ji (jy jag)) kh)
  (jh (zc Ii rfl (zk (K:=K) (qpv 0) rfl) (kg (i:=1) jaq.nd rfl (by first|exact Or.inl rfl|exact Or.inr rfl)) (ji (j7 (QW.pt (jaa (jav (z4 (jv (yv (K:=K) rfl) (by rfl) T.n_isinstance zh (jc (qpv 1) (jc (jah (v:=.ty "tuple") rfl T.n_tuple zm rfl) jd))))) (z5 (z4 (jv (call_anyU rfl) (by rfl) T.n_any bt_any (jc (jaz rfl (jcv (sc:=jk ym) (N:=["_law_heard","_law_row"]) (Nc:=["_law_part"]) (js:=[none]) (by decide +kernel)) (zk (K:=K) (qpv 1) rfl) (λ_ _ _ _=>(kg (i:=0) (show List.Nodup [("_law_part":Str)]from by decide +kernel) rfl (by first|exact Or.inl rfl|exact Or.inr rfl))) (λ_ _ _ _=>(jv (yv (K:=K) rfl) (by rfl) T.n_isinstance zh (jc (qpv 0) (jc (jah (v:=.ty "bool") rfl T.n_bool bt_bool rfl) jd))))) jd)))))) (ji (jy jag)) kh)))
  (ji (jy jag)))) ?_
  simp! [hq]
  refine⟨_,TyOf.tup hq,true,T.tt,?_⟩
  simp!
  refine jdu (xs:=us) (λi σ H'=>∃v1:Option V,σ=[some (.ref q),v1]/\Kp [] H H') ⟨none,rfl,Kp.refl _ _⟩ ?_ ?_ ?_
  ·rintro i σ H1 _ ⟨v1,rfl,k1⟩
   exact k1.tup _ _ hq
  ·rintro i v σ H1 ei ⟨v1,rfl,k1⟩
   obtain⟨r,er,a,rfl,ha⟩:=jan (rt.kp k1) ei
   have lr:=l1 r (A0 er)
   simp! [ha]
   refine⟨_,TyOf.tup ha,true,T.tt,?_⟩
   simp!
   intro D hD
   refine jh6 (λ_=>V.bl false) ha hD (by rw[Ab];omega) (λx hx l Q' q'=>?_) λv=>?_
   ·rcases jki hx with⟨z,rfl,_⟩|⟨j,rfl,_⟩
    ·simp!
     exact⟨_,.str z,false,T.sb,q'⟩
    ·simp!
     exact⟨_,.int j,false,T.ib,q'⟩
   ·refine⟨(r.map kV).map λ_=>false,by rw[je,O2 (l:=r.map kV)];rfl,?_⟩
    rw[Ae (by simp)]
    exact k1.new hD
  ·rintro σ H1 ⟨v1,rfl,k1⟩
   simp!
   exact k H1 k1
end
theorem jmb{P:Nat->Prop}:∀n,P n->∃j,j<=n/\P j/\∀k,k<j->¬P k:=by
 intro n
 induction n using Nat.strongRecOn with
 |_ n ih =>
  intro h
  by_cases c:∃k,k<n/\P k
  ·obtain⟨k,kn,pk⟩:=c
   obtain⟨j,h1,h2,h3⟩:=ih k kn pk
   exact⟨j,by omega,h2,h3⟩
  ·exact⟨n,Ac _,h,λk hk pk=>c ⟨k,hk,pk⟩⟩
theorem jll{R:List Row}(ok:OkR R){h g:Nat->Nat}{i:Nat}(hi:i<R.length)(e:∀x,x<i->h x=g x):RwA R h i=RwA R g i:=jcj λp hp=>e p (jco (ok.d hi) hp)
theorem jox{R:List Row}(ok:OkR R):∀n,n<=R.length->∃h:Nat->Nat,(∀i,i<n->h i<=i)/\(∀i,i<n->RwA R h (h i)=RwA R h i)/\∀i,i<n->∀j,j<h i->RwA R h j≠RwA R h i:=by
 intro n
 induction n with
 |zero=>exact λ_=>⟨id,by omega,by omega,by omega⟩
 |succ n ih =>
  intro hn
  obtain⟨h,h1,h2,h3⟩:=ih (by omega)
  obtain⟨j,j1,j2,j3⟩:=jmb (P:=λj=>RwA R h j=RwA R h n) n rfl
  have eq:∀x,x<n->(if x=n then j else h x)=h x:=λx hx=>Ae (by omega)
  have er:∀x,x<=n->RwA R (λx=>if x=n then j else h x) x=RwA R h x:=λx hx=>jll ok (by omega) λy hy=>eq y (by omega)
  refine⟨λx=>if x=n then j else h x,λi hi=>?_,λi hi=>?_,λi hi k hk=>?_⟩
  ·by_cases c:i=n
   ·subst c;simp only[Ag];exact j1
   ·simp only[Ae c];exact h1 i (by omega)
  ·by_cases c:i=n
   ·subst c;simp only[Ag];rw[er _ j1,er _ (Ac _)];exact j2
   ·simp only[Ae c]
    have:=h1 i (by omega)
    rw[er _ (by omega),er _ (by omega)];exact h2 i (by omega)
  ·by_cases c:i=n
   ·subst c;simp only[Ag]at hk;rw[er _ (by omega),er _ (Ac _)];exact j3 k hk
   ·simp only[Ae c]at hk
    have:=h1 i (by omega)
    rw[er _ (by omega),er _ (by omega)];exact h3 i (by omega) k hk
theorem Hd.ex{R:List Row}(ok:OkR R):∃h,Hd R h:=let⟨h,h1,h2,h3⟩:=jox ok R.length (Ac _);⟨h,h1,h2,h3⟩
theorem jo1{y:Str}(h:NmOk y):isNm y=true:=by
 obtain⟨h1,h2,h3,h4⟩:=h
 have e1:decide ((y.length:Int)<1)=false:=A8 (by omega)
 have e2:decide ((3:Int)<(y.length:Int))=false:=A8 (by omega)
 have e3:inV (.str y) (NN.map V.str)=false:=h4
 have e4:y.cps.toList.all azB=true:=Os.mpr λc hc=>by
  have:=h2 c hc
  simp[azB];omega
 unfold isNm
 rw[e1,e2,e3,e4]
 rfl
theorem jow{zs:List Str}{z:Str}{rs:List RS}(hn:∀y∈zs,NmOk y)(hz:Letters z 4)(ok:okR zs rs)(lt:okL z rs):∀r∈rs,r.gd:=λr hr=>by
 obtain⟨i,er⟩:=U4 hr
 have okr:=ok i r er
 have ltr:=lt r hr
 have nn:∀y,y∈zs->isNm y=true/\y.length<=1000:=λy hy=>⟨jo1 (hn y hy),by have:=(hn y hy).1;omega⟩
 cases r with
 |is x a =>
  obtain⟨c,hc,rfl⟩:=ltr
  refine⟨nn x okr,?_,by show(1:Nat)<=1000;decide⟩
  have:=hz.az c hc
  unfold smB
  simp[Str.length,azB]
  omega
 |ahead x y=>exact⟨nn x okr.1,nn y okr.2⟩
 |qn b x j=>exact nn x okr.1
 |_=>trivial
theorem zo(s:String)(h:((Str.ofString s).cps.toList.all λc=>decide (c≠32/\c≠40/\c≠41))=true)(n:(Str.ofString s).cps.toList.isEmpty=false)(l:decide ((Str.ofString s).length<=10)=true):okW (Str.ofString s) :=
 ⟨.inr ⟨(λe=>by rw[e]at n;cases n),λc hc=>Uj (Os.mp h c hc)⟩,Uj l⟩
theorem jb4{y:Str}(h:y.cps.toList.all azB=true)(l1:1<=y.length)(l3:y.length<=10):okW y :=
 ⟨.inr ⟨(λe=>by have:y.length=y.cps.toList.length:=(by simp[Str.length]);rw[this,e]at l1;simp at l1),λc hc=>by
  have:=Os.mp h c hc
  simp[azB]at this
  omega⟩,l3⟩
theorem jbl{y:Str}(h:NmOk y):okW y:=jb4 (Os.mpr λc hc=>by
  have:=h.2.1 c hc
  simp[azB];omega) h.2.2.1 (by have:=h.1;omega)
theorem jnq{zs:List Str}{z:Str}{rs:List RS}(hn:∀y∈zs,NmOk y)(hz:Letters z 4)(ok:okR zs rs)(lt:okL z rs):∀n i,i<n->i<rs.length->∀w∈wAt rs i,okW w:=by
 intro n
 induction n with
 |zero=>intro i hi;omega
 |succ n ih =>
  intro i hi hl w hw
  obtain⟨r,er⟩:∃r,rs[i]?=some r:=⟨_,An hl⟩
  have okr:=ok i r er
  have ltr:=lt r (A0 er)
  rw[jlx ok er]at hw
  have rec_:∀j,j<i->∀w∈wAt rs j,okW w:=λj hj=>ih j (by omega) (by omega)
  have br1:okW (Str.ofString "("):=⟨.inl (.inl rfl),by decide +kernel⟩
  have br2:okW (Str.ofString ")"):=⟨.inl (.inr rfl),by decide +kernel⟩
  cases r with
  |yes=>simp only[wdL,Am]at hw;subst hw;exact zo "yes" (by decide +kernel) (by decide +kernel) (by decide +kernel)
  |is x a =>
   simp only[wdL,A2,Ai,U9]at hw
   rcases hw with rfl|rfl|rfl
   ·exact jbl (hn _ okr)
   ·exact zo "is" (by decide +kernel) (by decide +kernel) (by decide +kernel)
   ·obtain⟨c,hc,rfl⟩:=ltr
    have:=hz.az c hc
    exact jb4 (by simp[azB];omega) (by show 1<=1;decide) (by show 1<=10;decide)
  |ahead x y =>
   simp only[wdL,A2,Ai,U9]at hw
   rcases hw with rfl|rfl|rfl
   ·exact jbl (hn _ okr.1)
   ·exact zo "<" (by decide +kernel) (by decide +kernel) (by decide +kernel)
   ·exact jbl (hn _ okr.2)
  |no j =>
   simp only[wdL,A2]at hw
   rcases hw with rfl|hw
   ·exact zo "not" (by decide +kernel) (by decide +kernel) (by decide +kernel)
   ·exact rec_ j okr w hw
  |bin b j l =>
   simp only[wdL,A2,A7,Ai,U9]at hw
   rcases hw with rfl|hw|rfl|hw|rfl
   ·exact br1
   ·exact rec_ j okr.1 w hw
   ·cases b
    ·exact zo "or" (by decide +kernel) (by decide +kernel) (by decide +kernel)
    ·exact zo "and" (by decide +kernel) (by decide +kernel) (by decide +kernel)
   ·exact rec_ l okr.2 w hw
   ·exact br2
  |qn b x j =>
   simp only[wdL,A2]at hw
   rcases hw with rfl|rfl|hw
   ·cases b
    ·exact zo "each" (by decide +kernel) (by decide +kernel) (by decide +kernel)
    ·exact zo "some" (by decide +kernel) (by decide +kernel) (by decide +kernel)
   ·exact jbl (hn _ okr.1)
   ·exact rec_ j okr.2 w hw
structure It1(H:Hp)(t:Addr)(T:Str)(dq:Addr)(us:List V)(F:List Row)(rs:List RS)(zs:List Str):Prop where
 ht:H t=some (.tup [.str T,.ref dq])
 hd:H dq=some (.tup us)
 rt:RowsT H us F
 t9:T.length<=100000
 tk:toks T=wAt rs (rs.length-1)
 ds:DS rs zs (toks T)
 td:TidA (rs.map rowK) F
 sg:∀r∈F,Sg r/\r.length<=100
def ItV(H:Hp)(v:V):Prop:=∃t T dq us F rs zs,v=.ref t/\It1 H t T dq us F rs zs
theorem ItV.kp{S:List Addr}{H H':Hp}{v:V}(k:Kp S H H')(h:ItV H v):ItV H' v:=by
 obtain⟨t,T,dq,us,F,rs,zs,e,I⟩:=h
 exact⟨t,T,dq,us,F,rs,zs,e,k.tup _ _ I.ht,k.tup _ _ I.hd,I.rt.kp k,I.t9,I.tk,I.ds,I.td,I.sg⟩
theorem jn0{R:List Row}(ok:OkR R)(n1:1<=R.length){h:Nat->Nat}(hd:Hd R h):TidA R (tidR R h):=λh' hd'=>by
 have m:Hom R R λx=>x:=⟨λx hx=>hx,λx hx=>jot (ok.d hx) λp _=>rfl⟩
 exact m.tid ok ok hd hd' n1 n1 rfl
theorem jiy{H:Hp}{q:Addr}{us:List V}{F:List Row}(h:H q=some (.tup us))(rt:RowsT H us F):Rep H (.ref q) (.tuple (F.map rowD)):=by
 simp only[Rep]
 exact⟨q,_,rfl,h,jef rt⟩
theorem jno{H:Hp}{a b:Addr}{us us':List V}{F:List Row}{Q:VK}(ha:H a=some (.tup us))(hb:H b=some (.tup us'))(r1:RowsT H us F)(r2:RowsT H us' F)(s:∀r∈F,Sg r)(q:Q (.bl false) H):rNeD (.ref a) (.ref b) H Q:=by
 have l:=jdt s
 have sh:SeqAt.shaped (.tuple (F.map rowD))=true:=by
  unfold SeqAt.shaped
  simp[PyData.canLay0,PyData.depth,l.1]
  omega
 refine⟨_,_,jiy ha r1,jiy hb r2,sh,sh,?_⟩
 have:PyData.eqv (.tuple (F.map rowD)) (.tuple (F.map rowD))=true:=by
  have:=jh8 F F
  simp[PyData.eqv,this]
 rw[this]
 exact q
theorem jnj{rs:List RS}{h:Nat->Nat}{cm:List Nat}(L:Lay (rs.map rowK) h cm):∀r∈layL (rs.map rowK) h cm,r.length<=100:=λr hr=>by
 obtain⟨v,hv,rfl⟩:=Ia.mp hr
 have vl:=L.lt v hv
 rw[Ab]at vl
 have e:rs[v]?=some rs[v]:=An vl
 have:RwA (rs.map rowK) h v=wpR h (rowK rs[v]):=by
  unfold RwA
  rw[Af,Aq,e];rfl
 rw[this]
 have:=jiz rs[v]
 simp only[wpR,Ab]
 omega
def jfw(K:PySem.W.Frag)(P1 P2:Addr):Sp:=λvs H Q _=>∃(a:Addr)(ns:List Int),vs=[.ref a]/\SqL K H a (ns.map V.int)/\ns.length<=63/\a≠P1/\a≠P2/\TabOk H P1 LQ1/\TabOk H P2 LQ2/\∀H',Q (.bl true) H'
structure TLw(mg:Str->Option Value)(fbx flt fpn ft fsr fch ftc fco fsd fwd frs fpl:Addr):Prop where
 n_range:mg "range"=none
 n_max:mg "max"=none
 n_min:mg "min"=none
 n_len:mg "len"=none
 n_tuple:mg "tuple"=none
 m8z:mg "_law_box"=some (.ref fbx)
 m9z:mg "_law_letters"=some (.ref flt)
 m10z:mg "_law_place_names"=some (.ref fpn)
 m1z:mg "_law_take"=some (.ref ft)
 m12z:mg "_law_saying_rows"=some (.ref fsr)
 m4z:mg "_law_chain"=some (.ref fch)
 m14z:mg "_law_two_chains"=some (.ref ftc)
 m3z:mg "_law_come"=some (.ref fco)
 m13z:mg "_law_spaced"=some (.ref fsd)
 m15z:mg "_law_words"=some (.ref fwd)
 m21z:mg "read_saying"=some (.ref frs)
 m11z:mg "_law_plain"=some (.ref fpl)
section
variable{P:Program}{w:World}{K:PySem.W.Frag}{mg:Str->Option Value}{base:Heap}
abbrev jae:Stmt:=top 30
theorem yt:FnScope ["_law_script","_law_sayings","_law_k","_law_box_here","_law_letters_here","_law_names","_law_rows","_law_many","_law_saying","_law_due","_law_turn","_law_text","_law_heard"] ["_law_script"] (jk jae):=⟨rfl,rfl,rfl,by decide +kernel,rfl,by decide +kernel,by decide +kernel⟩
theorem ok_law{f fbx flt fpn ft fsr fch ftc fco fsd fwd frs fpl P1 P2:Addr}{fd fdbx fdlt fdpn fdt fdsr fdch fdtc fdco fdsd fdwd fdrs fdpl:FuncData}(ne:P1≠P2)(F:Fun K "law" "law" jae f fd)(T:TLw mg fbx flt fpn ft fsr fch ftc fco fsd fwd frs fpl)
  (F8z:Fun K "_law_box" "_law_box" zg fbx fdbx) (b8z:Binds K fdbx ["_law_script","_law_k"] []) (G8z:FnOk P w K mg base CX0 1 fbx fdbx ["_law_script","_law_k"] (jm1 K))
  (F9z:Fun K "_law_letters" "_law_letters" yj flt fdlt) (b9z:Binds K fdlt ["_law_box_here","_law_most"] []) (G9z:FnOk P w K mg base CX0 2 flt fdlt ["_law_box_here","_law_most"] jhd)
  (F10z:Fun K "_law_place_names" "_law_place_names" km fpn fdpn) (b10z:Binds K fdpn ["_law_box_here","_law_many"] []) (G10z:FnOk P w K mg base CX0 2 fpn fdpn ["_law_box_here","_law_many"] spPN)
  (F1z:Fun K "_law_take" "_law_take" ki ft fdt) (b1z:Binds K fdt ["_law_box_here","_law_wide"] []) (G1z:FnOk P w K mg base CX0 1 ft fdt ["_law_box_here","_law_wide"] jcw)
  (F12z:Fun K "_law_saying_rows" "_law_saying_rows" kz fsr fdsr) (b12z:Binds K fdsr ["_law_box_here","_law_letters_here","_law_names","_law_most"] []) (G12z:FnOk P w K mg base CX0 3 fsr fdsr ["_law_box_here","_law_letters_here","_law_names","_law_most"] spSR)
  (F4z:Fun K "_law_chain" "_law_chain" yl fch fdch) (b4z:Binds K fdch ["_law_box_here","_law_names","_law_rows","_law_many"] []) (G4z:FnOk P w K mg base CX0 2 fch fdch ["_law_box_here","_law_names","_law_rows","_law_many"] spCh)
  (F14z:Fun K "_law_two_chains" "_law_two_chains" yb ftc fdtc) (b14z:Binds K fdtc ["_law_box_here","_law_names","_law_rows"] []) (G14z:FnOk P w K mg base CX0 3 ftc fdtc ["_law_box_here","_law_names","_law_rows"] spTC)
  (F3z:Fun K "_law_come" "_law_come" y9 fco fdco) (b3z:Binds K fdco ["_law_saying","_law_at","_law_rows"] []) (G0:∀n,FnOk P w K mg base CX0 (n+1) fco fdco ["_law_saying","_law_at","_law_rows"] (spCo n))
  (F13z:Fun K "_law_spaced" "_law_spaced" yq fsd fdsd) (b13z:Binds K fdsd ["_law_box_here","_law_words_here","_law_wide"] []) (G13z:FnOk P w K mg base CX0 2 fsd fdsd ["_law_box_here","_law_words_here","_law_wide"] spSd)
  (F15z:Fun K "_law_words" "_law_words" yx fwd fdwd) (b15z:Binds K fdwd ["_law_saying"] []) (G15z:FnOk P w K mg base CX0 1 fwd fdwd ["_law_saying"] spWd)
  (F21z:Fun K "read_saying" "read_saying" yr frs fdrs) (b21z:Binds K fdrs ["text"] []) (G21z:FnOk P w K mg base CX0 7 frs fdrs ["text"] (spRS P1 P2))
  (F11z:Fun K "_law_plain" "_law_plain" ym fpl fdpl) (b11z:Binds K fdpl ["_law_heard"] []) (G11z:FnOk P w K mg base CX0 1 fpl fdpl ["_law_heard"] spPl):FnOk P w K mg base CX0 120 f fd ["_law_script"] (jfw K P1 P2):=by
 have G3z:=G0 110
 refine F.ok yt (λvs H Q E h=>?_) (λcdv A outer s H vs Q E hr h=>?_)
 ·obtain⟨a,ns,rfl,_⟩:=h
  rfl
 ·obtain⟨a,ns,rfl,hS,n9,na1,na2,t1,t2,k⟩:=h
  have hu:=hr.units
  have hsz:sizeLine=16777216:=Ao
  refine exQ (jh (jn (i:=1) yt.nd rfl (by first|exact Or.inl rfl|exact Or.inr rfl) (j8 jd))
  (jh (zc Ii rfl (zf rfl T.n_range (jc (jv (call_maxU rfl) (by rfl) T.n_max bt_max (jc jg (jc (jv (call_minU rfl) (by rfl) T.n_min bt_min (jc (jv zb (by rfl) T.n_len yd (jc (qpv 0) jd)) (jc jg jd))) jd))) jd)) (kg (i:=2) yt.nd rfl (by first|exact Or.inl rfl|exact Or.inr rfl)) (jh (jn (i:=3) yt.nd rfl (by first|exact Or.inl rfl|exact Or.inr rfl) (jo G8z (hr.mono (by decide)) rfl T.m8z F8z.kp b8z .nil jr (jc (qpv 0) (jc (qpv 2) jd))))
  (jh (jn (i:=4) yt.nd rfl (by first|exact Or.inl rfl|exact Or.inr rfl) (jo G9z (hr.mono (by decide)) rfl T.m9z F9z.kp b9z .nil jr (jc (qpv 3) (jc jg jd))))
  (jh (jn (i:=5) yt.nd rfl (by first|exact Or.inl rfl|exact Or.inr rfl) (jo G10z (hr.mono (by decide)) rfl T.m10z F10z.kp b10z .nil jr (jc (qpv 3) (jc (jp jz (jp jz jg (jo G1z (hr.mono (by decide)) rfl T.m1z F1z.kp b1z .nil jr (jc (qpv 3) (jc jg jd)))) (jo G1z (hr.mono (by decide)) rfl T.m1z F1z.kp b1z .nil jr (jc (qpv 3) (jc jg jd)))) jd))))
  (jh (jn (i:=6) yt.nd rfl (by first|exact Or.inl rfl|exact Or.inr rfl) (jo G12z (hr.mono (by decide)) rfl T.m12z F12z.kp b12z .nil jr (jc (qpv 3) (jc (qpv 4) (jc (qpv 5) (jc jg jd))))))
  (jh (jn (i:=7) yt.nd rfl (by first|exact Or.inl rfl|exact Or.inr rfl) jg)
  (yw (j7 (jt (kx hu) (jo G1z (hr.mono (by decide)) rfl T.m1z F1z.kp b1z .nil jr (jc (qpv 3) (jc jg jd))) jg (j5 _)) (ji (jn (i:=7) yt.nd rfl (by first|exact Or.inl rfl|exact Or.inr rfl) (jo G1z (hr.mono (by decide)) rfl T.m1z F1z.kp b1z .nil jr (jc (qpv 3) (jc jg jd))))) kh)
  (jh (jn (i:=8) yt.nd rfl (by first|exact Or.inl rfl|exact Or.inr rfl) (jo G4z (hr.mono (by decide)) rfl T.m4z F4z.kp b4z .nil jr (jc (qpv 3) (jc (qpv 5) (jc (qpv 6) (jc (qpv 7) jd))))))
  (yw (j7 (jt (kx hu) (jo G1z (hr.mono (by decide)) rfl T.m1z F1z.kp b1z .nil jr (jc (qpv 3) (jc jg jd))) jg (j5 _)) (ji (jn (i:=8) yt.nd rfl (by first|exact Or.inl rfl|exact Or.inr rfl) (jo G14z (hr.mono (by decide)) rfl T.m14z F14z.kp b14z .nil jr (jc (qpv 3) (jc (qpv 5) (jc (qpv 6) jd)))))) kh)
  (jh (jn (i:=9) yt.nd rfl (by first|exact Or.inl rfl|exact Or.inr rfl) (j8 jd))
  (jh (ke (jo G3z (hr.mono (by decide)) rfl T.m3z F3z.kp b3z .nil jr (jc (qpv 8) (jc (jp zq (jv kj (by rfl) T.n_len yd (jc (qpv 8) jd)) jg) (jc (qpv 9) jd)))))
  (ji (ke (ky At Au j9 (qpv 1) (jc (j6 (jc (jo G13z (hr.mono (by decide)) rfl T.m13z F13z.kp b13z .nil jr (jc (qpv 3) (jc (jo G15z (hr.mono (by decide)) rfl T.m15z F15z.kp b15z .nil jr (jc (qpv 8) jd)) (jc jg jd)))) (jc (yg zj (by rfl) T.n_tuple zm (jc (qpv 9) jd)) jd))) jd) jca))))))))))))))
  (jh (zc Ii rfl (zf rfl T.n_range (jc jg jd)) (kg (i:=10) yt.nd rfl (by first|exact Or.inl rfl|exact Or.inr rfl)) (ji (zc Ii rfl (zk (K:=K) (qpv 1) rfl) (jbx (n:=2) rfl (jak (kg (i:=11) yt.nd rfl (by first|exact Or.inl rfl|exact Or.inr rfl)) (jak (kg (i:=9) yt.nd rfl (by first|exact Or.inl rfl|exact Or.inr rfl)) jbs)) (K:=K) rfl) (jh (jn (i:=12) yt.nd rfl (by first|exact Or.inl rfl|exact Or.inr rfl) (jo G21z (hr.mono (by decide)) rfl T.m21z F21z.kp b21z .nil jr (jc (qpv 11) jd)))
  (ji (j7 (QW.pt (jaa (jav (z4 (jo G11z (hr.mono (by decide)) rfl T.m11z F11z.kp b11z .nil jr (jc (qpv 12) jd)))) (z5 (jt (jb1 hu) (qpv 12) (qpv 9) (j5 _))))) (ji (jy jag)) kh))))))
  (ji (jy jag))))) ?_
  simp!
  refine⟨by omega,λp hp=>?_⟩
  have k0:Kp [] H (upd H p (.lst [])):=(Kp.refl [] H).new hp
  refine⟨_,.inl (k0.seq (by simp) hS),?_⟩
  rw[Ab]
  obtain⟨m,em,m6⟩:∃m:Nat,(if(if(6:Int)<(ns.length:Int)then(6:Int)else(ns.length:Int))>2 then if(6:Int)<(ns.length:Int)then(6:Int)else(ns.length:Int)else 2)=(m:Int)/\m<=6:=by
   by_cases c1:(6:Int)<(ns.length:Int)
   ·rw[Ag c1];exact⟨6,by simp,by omega⟩
   ·rw[Ae c1]
    by_cases c2:(ns.length:Int)>2
    ·rw[Ag c2];exact⟨ns.length,rfl,by omega⟩
    ·rw[Ae c2];exact⟨2,rfl,by omega⟩
  rw[em]
  refine⟨by omega,by omega,?_⟩
  rw[Int.toNat_natCast]
  obtain⟨V0,hV⟩:∃V0:Nat->L2.St->Hp->Prop,V0=λi σ H'=>∃(vs:List V)(v2 v3 v4 v5 v6 v7 v8 v9:Option V),σ=[some (.ref a),some (.ref p),v2,v3,v4,v5,v6,v7,v8,v9,none,none,none]/\H' p=some (.lst vs)/\vs.length=i/\(∀v∈vs,ItV H' v)/\Kp [] H H':=⟨_,rfl⟩
  refine jcn V0 ?_ ?_ ?_
  ·rw[hV]
   exact⟨[],none,none,none,none,none,none,none,none,rfl,je,rfl,(λv hv=>nomatch hv),k0⟩
  ·intro i σ H1 hi hw
   rw[hV]at hw
   obtain⟨vs,v2,v3,v4,v5,v6,v7,v8,v9,rfl,hp1,vl,its,k1⟩:=hw
   simp!
   refine⟨a,_,ns,rfl,k1.seq (by simp) hS,by omega,by omega,λb o hb ho=>?_⟩
   have kb:Kp [] H1 (upd H1 b o):=(Kp.refl [] H1).new hb
   have eb:upd H1 b o b=some o:=je
   generalize upd H1 b o=H2 at kb eb⊢
   have fr1:∀s∈[b],H1 s=none:=λs hs=>by rw[Am.mp hs];exact hb
   refine⟨b,4,o,rfl,eb,ho,by omega,by omega,λz o1 H3 hz ho1 eb1 k3=>?_⟩
   have S3:SB H2 b H3:=⟨k3,o1,eb1,ho1⟩
   refine S3.tq (by decide) (by decide) λd1 H4 d10 d11 S4 k4=>?_
   simp!
   refine S4.tq (by decide) (by decide) λd2 H5 d20 d21 S5 k5=>?_
   obtain⟨mn,emn,mn1,mn6⟩:∃mn:Nat,(1+d1+d2:Int)=(mn:Int)/\1<=mn/\mn<=26:=⟨(1+d1+d2).toNat,by omega,by omega,by omega⟩
   simp! [emn]
   obtain⟨o5,eb5,ho5⟩:=S5.bx
   refine⟨b,mn,o5,rfl,eb5,ho5,mn1,mn6,λpn zs o6 H6 zl hn hpn hp6 ho6 eb6 k6=>?_⟩
   have S6:SB H2 b H6:=⟨S5.kp.trans k6,o6,eb6,ho6⟩
   have nbn:b≠pn:=jj eb5 hpn
   refine⟨b,pn,z,zs,7,o6,rfl,eb6,ho6,hz,hp6,by omega,by omega,by decide,by decide,nbn,λq us rs o7 H7 r1 r7 ra ok okl hq hq7 ho7 eb7 k7=>?_⟩
   have S7:SB H2 b H7:=⟨S6.kp.trans k7,o7,eb7,ho7⟩
   have nbq:b≠q:=jj eb6 hq
   have hp7:=k7.old _ _ hp6 (by simpa using nbn.symm)
   have bw0:BdW rs 381:=λj=>Ig (BdW.all rs.length rs rfl j) (by
    have:2^rs.length<=2^7:=Nat.pow_le_pow_right (by decide) r7
    omega)
   have g0:GR zs z rs 381:=⟨ok,okl,bw0⟩
   obtain⟨J1,hJ1⟩:∃J:L2.St->Hp->Prop,J=λσ H'=>∃mm:Nat,σ=[some (.ref a),some (.ref p),some (.int (0+(i:Int))),some (.ref b),some (.str z),some (.ref pn),some (.ref q),some (.int (mm:Int)),v8,v9,none,none,none]/\mm<=50/\SB H2 b H'/\Kp [b] H7 H':=⟨_,rfl⟩
   refine⟨J1,?_,?_⟩
   ·simp!
    refine S7.tq (by decide) (by decide) λd3 H8 d30 d31 S8 k8=>?_
    simp!
    refine ite2 (λ_=>?_) (λ_=>?_)
    ·refine S8.tq (by decide) (by decide) λd4 H9 d40 d41 S9 k9=>?_
     obtain⟨mm,rfl⟩:∃mm:Nat,d4=(mm:Int):=⟨d4.toNat,by omega⟩
     rw[hJ1]
     exact⟨mm,rfl,by omega,S9,k8.trans k9⟩
    ·rw[hJ1]
     exact⟨0,rfl,by omega,S8,k8⟩
   intro σ H8 hj
   rw[hJ1]at hj
   obtain⟨mm,rfl,mm5,S8,k8⟩:=hj
   simp!
   obtain⟨o8,eb8,ho8⟩:=S8.bx
   refine⟨b,pn,q,mm,381,zs,z,us,rs,o8,rfl,eb8,ho8,k8.old _ _ hp7 (by simpa using nbn.symm),by omega,by omega,nbn,by omega,k8.old _ _ hq7 (by simpa using nbq.symm),ra.kp k8,g0,r1,by omega,λt9 us9 rs9 o9 H9 ht9 ra9 g9 e9 ho9 eb9 k9=>?_⟩
   have S9:SB H2 b H9:=⟨S8.kp.trans k9,o9,eb9,ho9⟩
   have k79:=k8.trans k9
   obtain⟨J2,hJ2⟩:∃J:L2.St->Hp->Prop,J=λσ H'=>∃(t:Addr)(us':List V)(rs':List RS),σ=[some (.ref a),some (.ref p),some (.int (0+(i:Int))),some (.ref b),some (.str z),some (.ref pn),some (.ref q),some (.int (mm:Int)),some (.ref t),v9,none,none,none]/\H' t=some (.tup us')/\RowsAt H' us' rs'/\GR zs z rs' 2000/\1<=rs'.length/\rs'.length<=100/\SB H2 b H':=⟨_,rfl⟩
   refine⟨J2,?_,?_⟩
   ·simp!
    refine S9.tq (by decide) (by decide) λd5 H10 d50 d51 S10 k10=>?_
    simp!
    refine ite2 (λ_=>?_) (λ_=>?_)
    ·obtain⟨o10,eb10,ho10⟩:=S10.bx
     have k710:=k79.trans k10
     refine⟨b,pn,q,381,zs,z,us,rs,o10,rfl,eb10,ho10,k710.old _ _ hp7 (by simpa using nbn.symm),by omega,by omega,nbn,nbq,k710.old _ _ hq7 (by simpa using nbq.symm),ra.kp k710,g0,r1,r7,by decide,λt us' rs' o' H' ht ra' g' n1' n9' ho' eb' k'=>?_⟩
     rw[hJ2]
     exact⟨t,us',rs',rfl,ht,ra',g',n1',n9',S10.kp.trans k',o',eb',ho'⟩
    ·rw[hJ2]
     exact⟨t9,us9,rs9,rfl,k10.tup _ _ ht9,ra9.kp k10,⟨g9.ok,g9.lt,λj=>by have:=g9.bw j;omega⟩,by omega,by omega,S10⟩
   intro σ H10 hj
   rw[hJ2]at hj
   obtain⟨t,us',rs',rfl,ht,ra',g',n1',n9',S10⟩:=hj
   clear hJ1 hJ2 J1 J2
   simp!
   refine⟨by omega,λdl hdl=>?_⟩
   have kd:Kp [] H10 (upd H10 dl (.lst [])):=(Kp.refl [] H10).new hdl
   have edl:upd H10 dl (.lst []) dl=some (.lst []):=je
   generalize upd H10 dl (.lst [])=H11 at kd edl⊢
   have ul':us'.length=rs'.length:=Az ra'
   have ei:((us'.length:Int)-1)=((rs'.length-1:Nat):Int):=by omega
   have gd:=jow hn hz g'.ok g'.lt
   have okK:OkR (rs'.map rowK):=jc4 λy r e=>jbk (g'.ok y r e)
   obtain⟨h,hh⟩:=Hd.ex okK
   have nl:(rs'.map rowK).length=rs'.length:=Ab ..
   refine⟨us',by rw[kd.tup _ _ ht];rfl,t,dl,us',rs',zs,rs'.length-1,h,[],by rw[ei],kd.tup _ _ ht,ra'.kp kd,g'.ok,gd,by omega,hh,⟨⟨[],edl,.nil⟩,Lay.nil⟩,by omega,by omega,λH12 I12 k12=>?_⟩
   have nbd:b≠dl:=by obtain⟨o10,e10,_⟩:=S10.bx;exact jj e10 hdl
   have nbp:b≠p:=(jj hp1 hb).symm
   have kA:Kp [] H1 H10:=kb.trans' S10.kp λy hy=>.inr (fr1 y hy)
   have hp10:H10 p=some (.lst vs):=kA.old _ _ hp1 Ai
   have npd:p≠dl:=jj hp10 hdl
   have hp12:H12 p=some (.lst vs):=k12.old _ _ (kd.old _ _ hp10 Ai) (by simpa using npd)
   refine⟨by rw[hp12];rfl,t,us',rs',zs,rfl,k12.tup _ _ (kd.tup _ _ ht),(ra'.kp kd).kp k12,g'.ok,n1',by omega,λj=>by have:=g'.bw j;omega,λq2 H13 hq2 eq2 k13=>?_⟩
   obtain⟨o10,eb10,ho10⟩:=S10.bx
   have eb12:H12 b=some o10:=k12.old _ _ (kd.old _ _ eb10 Ai) (by simpa using nbd)
   have eb13:=k13.old _ _ eb12 Ai
   have bwl:=g'.bw (rs'.length-1)
   refine⟨b,q2,wAt rs' (rs'.length-1),rfl,⟨o10,eb13,ho10⟩,jj eb12 hq2,eq2,jnq hn hz g'.ok g'.lt rs'.length _ (by omega) (by omega),bwl,λT0 H14 etk t9 S14=>?_⟩
   obtain⟨vs12,e12,rt12⟩:=I12.vs
   have edl14:H14 dl=some (.lst vs12):=S14.kp.old _ _ (k13.old _ _ e12 Ai) (by simpa using nbd.symm)
   have rt14:=(rt12.kp k13).kp S14.kp
   refine jcp edl14 λt15 ht15=>⟨by omega,λt16 ht16=>?_⟩
   have k15:=(Kp.refl [] H14).new (o:=.tup vs12) ht15
   have et15:upd H14 t15 (.tup vs12) t15=some (.tup vs12):=je
   generalize upd H14 t15 (.tup vs12)=H15 at k15 et15 ht16⊢
   have k16:=(Kp.refl [] H15).new (o:=.tup [.str T0,.ref t15]) ht16
   have et16:upd H15 t16 (.tup [.str T0,.ref t15]) t16=some (.tup [.str T0,.ref t15]):=je
   have e15':=k16.tup _ _ et15
   have hp14:=S14.kp.old _ _ (k13.old _ _ hp12 Ai) (by simpa using nbp.symm)
   have hp16:=k16.old _ _ (k15.old _ _ hp14 Ai) (by simp)
   have k14:Kp [b] H10 H14:=(((kd.mono (by simp)).trans' k12 λy hy=>.inr (by rw[Am.mp hy];exact hdl)).trans (k13.mono (by simp))).trans S14.kp
   have k116:Kp [] H1 (upd H15 t16 (.tup [.str T0,.ref t15])):=((kA.trans' k14 λy hy=>.inr (by rw[Am.mp hy];exact hb)).trans k15).trans k16
   have rt16:=(rt14.kp k15).kp k16
   generalize upd H15 t16 (.tup [.str T0,.ref t15])=H16 at k16 et16 e15' hp16 k116 rt16⊢
   rw[hp16]
   refine⟨vs,rfl,by omega,?_⟩
   rw[hV]
   have kp':Kp [p] H16 (upd H16 p (.lst (vs++[.ref t16]))):=(Kp.refl _ H16).set hp16 (.inl (.head _))
   refine⟨vs++[.ref t16],_,_,_,_,_,_,_,_,rfl,je,by simp[vl],λv hv=>?_,(k1.trans k116).set hp16 (.inr hp)⟩
   rcases A7.mp hv with hv|hv
   ·exact((its v hv).kp k116).kp kp'
   ·rw[Am.mp hv]
    have eF:layL (rs'.map rowK) h (stp (chd (rs'.map rowK) h) [] (h (rs'.length-1)))=tidR (rs'.map rowK) h:=by
     have:=jnl okK hh (by rw[nl];exact n1')
     rw[nl]at this
     exact this
    have sg:=jid gd I12.lay
    have ln:=jnj I12.lay
    rw[eF]at rt16 sg ln
    refine ItV.kp kp' ⟨t16,T0,t15,vs12,_,rs',zs,rfl,et16,e15',rt16,t9,etk,⟨g'.ok,gd,n1',by rw[etk];omega⟩,jn0 okK (by rw[nl];exact n1') hh,λr hr=>⟨sg r hr,ln r hr⟩⟩
  ·intro σ H1 hw
   rw[hV]at hw
   obtain⟨vs,v2,v3,v4,v5,v6,v7,v8,v9,rfl,hp1,vl,its,k1⟩:=hw
   simp!
   have t1':=t1.kp k1 (by simp) (by simp)
   have t2':=t2.kp k1 (by simp) (by simp)
   refine⟨by decide,by decide,?_⟩
   obtain⟨V1,hV1⟩:∃V1:L2.St->Hp->Prop,V1=λσ H'=>∃v2 v3 v4 v5 v6 v7 v8 v9 v10 v11 v12:Option V,σ=[some (.ref a),some (.ref p),v2,v3,v4,v5,v6,v7,v8,v9,v10,v11,v12]/\H' p=some (.lst vs)/\(∀v∈vs,ItV H' v)/\TabOk H' P1 LQ1/\TabOk H' P2 LQ2:=⟨_,rfl⟩
   refine jcn (λ_=>V1) ?_ ?_ ?_
   ·rw[hV1]
    exact⟨_,_,_,_,_,_,_,_,_,_,_,rfl,hp1,its,t1',t2'⟩
   ·intro j σ H2 hj hw
    rw[hV1]at hw
    obtain⟨v2,v3,v4,v5,v6,v7,v8,v9,v10,v11,v12,rfl,hp2,its2,tb1,tb2⟩:=hw
    simp! [hp2]
    refine jd8 (xs:=vs) (λ_=>V1) ?_ ?_ ?_ ?_
    ·rw[hV1]
     exact⟨_,_,_,_,_,_,_,_,_,_,_,rfl,hp2,its2,tb1,tb2⟩
    ·intro i σ H3 _ hw
     rw[hV1]at hw
     obtain⟨v2,v3,v4,v5,v6,v7,v8,v9,v10,v11,v12,rfl,hp3,_⟩:=hw
     exact hp3
    ·intro i v σ H3 ei hw
     rw[hV1]at hw
     obtain⟨v2,v3,v4,v5,v6,v7,v8,v9,v10,v11,v12,rfl,hp3,its3,tb1,tb2⟩:=hw
     obtain⟨t,T0,dq,us,F1,rs,zs,rfl,I⟩:=its3 v (A0 ei)
     have iht:=I.ht
     simp! [iht]
     refine⟨t,_,rfl,.of iht,rfl,_,_,rfl,_,_,rfl,rfl,_,rfl,?_⟩
     have nP:∀{T0:Addr}{qq:Str},TabOk H3 T0 qq->p≠T0:=λtb z=>by
      obtain⟨ps,e,_⟩:=tb
      rw[<-z,hp3]at e
      cases e
     refine⟨T0,rs,zs,rfl,I.t9,I.tk,I.ds,tb1,tb2,λq us2 F2 H4 td2 hq2 rt2 tc1 tc2 k4=>?_⟩
     have eF:F2=F1:=by
      obtain⟨h,hh⟩:=Hd.ex (jc4 λy r e=>jbk (I.ds.ok y r e))
      rw[td2 h hh,I.td h hh]
     subst eF
     refine⟨_,rfl,q,us2,F2,rfl,hq2,rt2,λr hr=>(I.sg r hr).2,λH5 k5=>⟨true,rfl,?_⟩⟩
     rw[Ae (by decide)]
     refine⟨_,rfl,_,rfl,?_⟩
     rw[je8]
     refine jno (k5.tup _ _ hq2) (k5.tup _ _ (k4.tup _ _ I.hd)) (rt2.kp k5) ((I.rt.kp k4).kp k5) (λr hr=>(I.sg r hr).1) ⟨false,rfl,?_⟩
     rw[Ae (by decide),hV1]
     have hp4:H4 p=some (.lst vs):=k4.old _ _ hp3 (by simp[nP tb1,nP tb2])
     exact⟨_,_,_,_,_,_,_,_,_,_,_,rfl,k5.old _ _ hp4 Ai,λv hv=>((its3 v hv).kp k4).kp k5,tc1.kp k5 (by simp) (by simp),tc2.kp k5 (by simp) (by simp)⟩
    ·intro σ H3 hw
     exact hw
   ·intro σ H2 hw
    simp!
    exact k _
end
theorem c_of{K:PySem.W.Frag}{hh:Heap}{tb:Addr}{m:Str}(X:K.In hh){C b c:Addr}{fd:FuncData}{oc:Value}{od:Option Addr}{osl:Array (Option Value)}(h2:PySem.W.nsIn K mainGlobals "SayingReading"=some (some (.ref C)))(h3:PySem.W.findIn K (.ref C) m=some (some (.ref b)))(h4:K.lookup b=some ⟨oc,od,.func fd,osl⟩)(h5:fd.code=.ref c)(h6:PySem.W.codeHdIn K c tb=true):∃c,PySem.W.CodeHd hh c tb:=⟨c,U7 X h6⟩
theorem us2{C:List Value->Prop}(h:∀v0 v1:Value,C [v0,v1])(us:List Value)(e:us.length=2):C us:=by
 cases us with
 |nil=>exact absurd e.symm (Ij _)
 |cons v0 us =>
  cases us with
  |nil=>exact absurd (Ib (e.symm)) (Ij _)
  |cons v1 us =>
   cases us with
   |nil=>exact h v0 v1
   |cons _ _=>exact absurd (Ib (Ib (e))) (Ij _)
theorem us3{C:List Value->Prop}(h:∀v0 v1 v2:Value,C [v0,v1,v2])(us:List Value)(e:us.length=3):C us:=by
 cases us with
 |nil=>exact absurd e.symm (Ij _)
 |cons v0 us =>
  cases us with
  |nil=>exact absurd (Ib (e.symm)) (Ij _)
  |cons v1 us =>
   cases us with
   |nil=>exact absurd (Ib (Ib (e.symm))) (Ij _)
   |cons v2 us =>
    cases us with
    |nil=>exact h v0 v1 v2
    |cons _ _=>exact absurd (Ib (Ib (Ib (e)))) (Ij _)
theorem us4{C:List Value->Prop}(h:∀v0 v1 v2 v3:Value,C [v0,v1,v2,v3])(us:List Value)(e:us.length=4):C us:=by
 cases us with
 |nil=>exact absurd e.symm (Ij _)
 |cons v0 us =>
  cases us with
  |nil=>exact absurd (Ib (e.symm)) (Ij _)
  |cons v1 us =>
   cases us with
   |nil=>exact absurd (Ib (Ib (e.symm))) (Ij _)
   |cons v2 us =>
    cases us with
    |nil=>exact absurd (Ib (Ib (Ib (e.symm)))) (Ij _)
    |cons v3 us =>
     cases us with
     |nil=>exact h v0 v1 v2 v3
     |cons _ _=>exact absurd (Ib (Ib (Ib (Ib (e))))) (Ij _)
theorem all_mk{l:PySem.W.OpenLaw}{w:World}{K:PySem.W.Frag}{h:Heap}{mg:Str->Option Value}{fa f1 f2 f3 f4 f5 f6 f7 f8 f9 f10 f11 f12 f13 f14 f15 f16 f17 f18 f19 f20 f21 f22:Addr}(X:K.In h)(G:h.Ns mainGlobals mg)(hfa:mg "law"=some (.ref fa))
  {od1 od2 od3 od4 od5 od6 od7 od8 od9 od10 od11 od12 od13 od14 od15 od16 od17 od18 od19 od20 od21 od22 an1 an2 an3 an4 an5 an6 an7 an8 an9 an10 an11 an12 an13 an14 an15 an16 an17 an18 an19 an20 an21 an22:Option Addr}{sl1 sl2 sl3 sl4 sl5 sl6 sl7 sl8 sl9 sl10 sl11 sl12 sl13 sl14 sl15 sl16 sl17 sl18 sl19 sl20 sl21 sl22:Array (Option Value)}{oc1 kV1 dc1 pm1 cd1 ct1 oc2 kV2 dc2 pm2 cd2 ct2 oc3 kV3 dc3 pm3 cd3 ct3 oc4 kV4 dc4 pm4 cd4 ct4 oc5 kV5 dc5 pm5 cd5 ct5 oc6 kV6 dc6 pm6 cd6 ct6 oc7 kV7 dc7 pm7 cd7 ct7 oc8 kV8 dc8 pm8 cd8 ct8 oc9 kV9 dc9 pm9 cd9 ct9 oc10 kV10 dc10 pm10 cd10 ct10 oc11 kV11 dc11 pm11 cd11 ct11 oc12 kV12 dc12 pm12 cd12 ct12 oc13 kV13 dc13 pm13 cd13 ct13 oc14 kV14 dc14 pm14 cd14 ct14 oc15 kV15 dc15 pm15 cd15 ct15 oc16 kV16 dc16 pm16 cd16 ct16 oc17 kV17 dc17 pm17 cd17 ct17 oc18 kV18 dc18 pm18 cd18 ct18 oc19 kV19 dc19 pm19 cd19 ct19 oc20 kV20 dc20 pm20 cd20 ct20 oc21 kV21 dc21 pm21 cd21 ct21 oc22 kV22 dc22 pm22 cd22 ct22:Value}
  {C cx cy:Addr}{M0:Addr}{vd0 va0:Option Addr}{vs0:Array (Option Value)}{vo0 vk0 vq0 vp0 vc0 vt0:Value}{M1:Addr}{vd1 va1:Option Addr}{vs1:Array (Option Value)}{vo1 vk1 vq1 vp1 vc1 vt1:Value}{M2:Addr}{vd2 va2:Option Addr}{vs2:Array (Option Value)}{vo2 vk2 vq2 vp2 vc2 vt2:Value}{M3:Addr}{vd3 va3:Option Addr}{vs3:Array (Option Value)}{vo3 vk3 vq3 vp3 vc3 vt3:Value}{M4:Addr}{vd4 va4:Option Addr}{vs4:Array (Option Value)}{vo4 vk4 vq4 vp4 vc4 vt4:Value}{M5:Addr}{vd5 va5:Option Addr}{vs5:Array (Option Value)}{vo5 vk5 vq5 vp5 vc5 vt5:Value}{M6:Addr}{vd6 va6:Option Addr}{vs6:Array (Option Value)}{vo6 vk6 vq6 vp6 vc6 vt6:Value}{an:Addr}{odn:Option Addr}{itn:Array Value}{nn:Nat}{sln:Array (Option Value)}
  (a1:PySem.W.nsIn K mainGlobals "parts_of"=some (some (.ref f1))) (l1:K.lookup f1=some ⟨oc1,od1,.func (PySem.W.fnOf "parts_of" "parts_of" (jx y3) (ju y3) (jk y3) .none kV1 dc1 pm1 an1 cd1 ct1),sl1⟩) (c1:PySem.W.codeIn K cd1 "parts_of"=true) (k1:PySem.W.keepIn K (.ref f1)=true)
  (a2:PySem.W.nsIn K mainGlobals "with_parts"=some (some (.ref f2))) (l2:K.lookup f2=some ⟨oc2,od2,.func (PySem.W.fnOf "with_parts" "with_parts" (jx yf) (ju yf) (jk yf) .none kV2 dc2 pm2 an2 cd2 ct2),sl2⟩) (c2:PySem.W.codeIn K cd2 "with_parts"=true) (k2:PySem.W.keepIn K (.ref f2)=true)
  (a3:PySem.W.nsIn K mainGlobals "in_order"=some (some (.ref f3))) (l3:K.lookup f3=some ⟨oc3,od3,.func (PySem.W.fnOf "in_order" "in_order" (jx yu) (ju yu) (jk yu) .none kV3 dc3 pm3 an3 cd3 ct3),sl3⟩) (c3:PySem.W.codeIn K cd3 "in_order"=true) (k3:PySem.W.keepIn K (.ref f3)=true)
  (a4:PySem.W.nsIn K mainGlobals "heads_of"=some (some (.ref f4))) (l4:K.lookup f4=some ⟨oc4,od4,.func (PySem.W.fnOf "heads_of" "heads_of" (jx yz) (ju yz) (jk yz) .none kV4 dc4 pm4 an4 cd4 ct4),sl4⟩) (c4:PySem.W.codeIn K cd4 "heads_of"=true) (k4:PySem.W.keepIn K (.ref f4)=true)
  (a5:PySem.W.nsIn K mainGlobals "is_name"=some (some (.ref f5))) (l5:K.lookup f5=some ⟨oc5,od5,.func (PySem.W.fnOf "is_name" "is_name" (jx yn) (ju yn) (jk yn) .none kV5 dc5 pm5 an5 cd5 ct5),sl5⟩) (c5:PySem.W.codeIn K cd5 "is_name"=true) (k5:PySem.W.keepIn K (.ref f5)=true)
  (a6:PySem.W.nsIn K mainGlobals "read_saying"=some (some (.ref f6))) (l6:K.lookup f6=some ⟨oc6,od6,.func (PySem.W.fnOf "read_saying" "read_saying" (jx yr) (ju yr) (jk yr) .none kV6 dc6 pm6 an6 cd6 ct6),sl6⟩) (c6:PySem.W.codeIn K cd6 "read_saying"=true) (k6:PySem.W.keepIn K (.ref f6)=true)
  (a7:PySem.W.nsIn K mainGlobals "words_of"=some (some (.ref f7))) (l7:K.lookup f7=some ⟨oc7,od7,.func (PySem.W.fnOf "words_of" "words_of" (jx y4) (ju y4) (jk y4) .none kV7 dc7 pm7 an7 cd7 ct7),sl7⟩) (c7:PySem.W.codeIn K cd7 "words_of"=true) (k7:PySem.W.keepIn K (.ref f7)=true)
  (a8:PySem.W.nsIn K mainGlobals "is_small_letter"=some (some (.ref f8))) (l8:K.lookup f8=some ⟨oc8,od8,.func (PySem.W.fnOf "is_small_letter" "is_small_letter" (jx ko) (ju ko) (jk ko) .none kV8 dc8 pm8 an8 cd8 ct8),sl8⟩) (c8:PySem.W.codeIn K cd8 "is_small_letter"=true) (k8:PySem.W.keepIn K (.ref f8)=true)
  (a9:PySem.W.nsIn K mainGlobals "begins_saying"=some (some (.ref f9))) (l9:K.lookup f9=some ⟨oc9,od9,.func (PySem.W.fnOf "begins_saying" "begins_saying" (jx yc) (ju yc) (jk yc) .none kV9 dc9 pm9 an9 cd9 ct9),sl9⟩) (c9:PySem.W.codeIn K cd9 "begins_saying"=true) (k9:PySem.W.keepIn K (.ref f9)=true)
  (a10:PySem.W.nsIn K mainGlobals "_law_box"=some (some (.ref f10))) (l10:K.lookup f10=some ⟨oc10,od10,.func (PySem.W.fnOf "_law_box" "_law_box" (jx zg) (ju zg) (jk zg) .none kV10 dc10 pm10 an10 cd10 ct10),sl10⟩) (c10:PySem.W.codeIn K cd10 "_law_box"=true) (k10:PySem.W.keepIn K (.ref f10)=true)
  (a11:PySem.W.nsIn K mainGlobals "_law_take"=some (some (.ref f11))) (l11:K.lookup f11=some ⟨oc11,od11,.func (PySem.W.fnOf "_law_take" "_law_take" (jx ki) (ju ki) (jk ki) .none kV11 dc11 pm11 an11 cd11 ct11),sl11⟩) (c11:PySem.W.codeIn K cd11 "_law_take"=true) (k11:PySem.W.keepIn K (.ref f11)=true)
  (a12:PySem.W.nsIn K mainGlobals "_law_letters"=some (some (.ref f12))) (l12:K.lookup f12=some ⟨oc12,od12,.func (PySem.W.fnOf "_law_letters" "_law_letters" (jx yj) (ju yj) (jk yj) .none kV12 dc12 pm12 an12 cd12 ct12),sl12⟩) (c12:PySem.W.codeIn K cd12 "_law_letters"=true) (k12:PySem.W.keepIn K (.ref f12)=true)
  (a13:PySem.W.nsIn K mainGlobals "_law_row_at"=some (some (.ref f13))) (l13:K.lookup f13=some ⟨oc13,od13,.func (PySem.W.fnOf "_law_row_at" "_law_row_at" (jx yp) (ju yp) (jk yp) .none kV13 dc13 pm13 an13 cd13 ct13),sl13⟩) (c13:PySem.W.codeIn K cd13 "_law_row_at"=true) (k13:PySem.W.keepIn K (.ref f13)=true)
  (a14:PySem.W.nsIn K mainGlobals "_law_place_names"=some (some (.ref f14))) (l14:K.lookup f14=some ⟨oc14,od14,.func (PySem.W.fnOf "_law_place_names" "_law_place_names" (jx km) (ju km) (jk km) .none kV14 dc14 pm14 an14 cd14 ct14),sl14⟩) (c14:PySem.W.codeIn K cd14 "_law_place_names"=true) (k14:PySem.W.keepIn K (.ref f14)=true)
  (a15:PySem.W.nsIn K mainGlobals "_law_saying_rows"=some (some (.ref f15))) (l15:K.lookup f15=some ⟨oc15,od15,.func (PySem.W.fnOf "_law_saying_rows" "_law_saying_rows" (jx kz) (ju kz) (jk kz) .none kV15 dc15 pm15 an15 cd15 ct15),sl15⟩) (c15:PySem.W.codeIn K cd15 "_law_saying_rows"=true) (k15:PySem.W.keepIn K (.ref f15)=true)
  (a16:PySem.W.nsIn K mainGlobals "_law_chain"=some (some (.ref f16))) (l16:K.lookup f16=some ⟨oc16,od16,.func (PySem.W.fnOf "_law_chain" "_law_chain" (jx yl) (ju yl) (jk yl) .none kV16 dc16 pm16 an16 cd16 ct16),sl16⟩) (c16:PySem.W.codeIn K cd16 "_law_chain"=true) (k16:PySem.W.keepIn K (.ref f16)=true)
  (a17:PySem.W.nsIn K mainGlobals "_law_two_chains"=some (some (.ref f17))) (l17:K.lookup f17=some ⟨oc17,od17,.func (PySem.W.fnOf "_law_two_chains" "_law_two_chains" (jx yb) (ju yb) (jk yb) .none kV17 dc17 pm17 an17 cd17 ct17),sl17⟩) (c17:PySem.W.codeIn K cd17 "_law_two_chains"=true) (k17:PySem.W.keepIn K (.ref f17)=true)
  (a18:PySem.W.nsIn K mainGlobals "_law_words"=some (some (.ref f18))) (l18:K.lookup f18=some ⟨oc18,od18,.func (PySem.W.fnOf "_law_words" "_law_words" (jx yx) (ju yx) (jk yx) .none kV18 dc18 pm18 an18 cd18 ct18),sl18⟩) (c18:PySem.W.codeIn K cd18 "_law_words"=true) (k18:PySem.W.keepIn K (.ref f18)=true)
  (a19:PySem.W.nsIn K mainGlobals "_law_spaced"=some (some (.ref f19))) (l19:K.lookup f19=some ⟨oc19,od19,.func (PySem.W.fnOf "_law_spaced" "_law_spaced" (jx yq) (ju yq) (jk yq) .none kV19 dc19 pm19 an19 cd19 ct19),sl19⟩) (c19:PySem.W.codeIn K cd19 "_law_spaced"=true) (k19:PySem.W.keepIn K (.ref f19)=true)
  (a20:PySem.W.nsIn K mainGlobals "_law_come"=some (some (.ref f20))) (l20:K.lookup f20=some ⟨oc20,od20,.func (PySem.W.fnOf "_law_come" "_law_come" (jx y9) (ju y9) (jk y9) .none kV20 dc20 pm20 an20 cd20 ct20),sl20⟩) (c20:PySem.W.codeIn K cd20 "_law_come"=true) (k20:PySem.W.keepIn K (.ref f20)=true)
  (a21:PySem.W.nsIn K mainGlobals "_law_plain"=some (some (.ref f21))) (l21:K.lookup f21=some ⟨oc21,od21,.func (PySem.W.fnOf "_law_plain" "_law_plain" (jx ym) (ju ym) (jk ym) .none kV21 dc21 pm21 an21 cd21 ct21),sl21⟩) (c21:PySem.W.codeIn K cd21 "_law_plain"=true) (k21:PySem.W.keepIn K (.ref f21)=true)
  (a22:PySem.W.nsIn K mainGlobals "law"=some (some (.ref f22))) (l22:K.lookup f22=some ⟨oc22,od22,.func (PySem.W.fnOf "law" "law" (jx jae) (ju jae) (jk jae) .none kV22 dc22 pm22 an22 cd22 ct22),sl22⟩) (c22:PySem.W.codeIn K cd22 "law"=true) (k22:PySem.W.keepIn K (.ref f22)=true)
  (z_len:PySem.W.nsIn K mainGlobals "len"=some none)
  (z_int:PySem.W.nsIn K mainGlobals "int"=some none)
  (z_range:PySem.W.nsIn K mainGlobals "range"=some none)
  (z_list:PySem.W.nsIn K mainGlobals "list"=some none)
  (z_tuple:PySem.W.nsIn K mainGlobals "tuple"=some none)
  (z_isinstance:PySem.W.nsIn K mainGlobals "isinstance"=some none)
  (z_str:PySem.W.nsIn K mainGlobals "str"=some none)
  (z_bool:PySem.W.nsIn K mainGlobals "bool"=some none)
  (z_enumerate:PySem.W.nsIn K mainGlobals "enumerate"=some none)
  (z_max:PySem.W.nsIn K mainGlobals "max"=some none)
  (z_min:PySem.W.nsIn K mainGlobals "min"=some none)
  (z_any:PySem.W.nsIn K mainGlobals "any"=some none)
  (z_all:PySem.W.nsIn K mainGlobals "all"=some none)
  (aC:PySem.W.nsIn K mainGlobals "SayingReading"=some (some (.ref C)))
  (Cpg:PySem.W.plainGet K C Str.empty=true)
  (Chd:PySem.W.hasDictIn K C=true)
  (Cpo:PySem.W.plainOver K C=true)
  (Csa:PySem.W.findIn K (.ref C) "__setattr__"=some (some (.builtin "object.__setattr__")))
  (Cmk:PySem.W.makesIn K C=true)
  (Ckp:PySem.W.keepIn K (.ref C)=true)
  (Nwords:PySem.W.findIn K (.ref C) "words"=some none)
  (Nplace:PySem.W.findIn K (.ref C) "place"=some none)
  (Nrows:PySem.W.findIn K (.ref C) "rows"=some none)
  (Nwaiting:PySem.W.findIn K (.ref C) "waiting"=some none)
  (fm0:PySem.W.findIn K (.ref C) "__init__"=some (some (.ref M0)))
  (lm0:K.lookup M0=some ⟨vo0,vd0,.func (PySem.W.fnOf "__init__" "SayingReading.__init__" (jx z7) (ju z7) (jk z7) .none vk0 vq0 vp0 va0 vc0 vt0),vs0⟩)
  (cm0:PySem.W.codeIn K vc0 "SayingReading.__init__"=true)
  (km0:PySem.W.keepIn K (.ref M0)=true)
  (im0:PySem.W.isFn K (.ref M0)=true)
  (fm1:PySem.W.findIn K (.ref C) "take"=some (some (.ref M1)))
  (lm1:K.lookup M1=some ⟨vo1,vd1,.func (PySem.W.fnOf "take" "SayingReading.take" (jx z8) (ju z8) (jk z8) .none vk1 vq1 vp1 va1 vc1 vt1),vs1⟩)
  (cm1:PySem.W.codeIn K vc1 "SayingReading.take"=true)
  (km1:PySem.W.keepIn K (.ref M1)=true)
  (im1:PySem.W.isFn K (.ref M1)=true)
  (fm2:PySem.W.findIn K (.ref C) "begin"=some (some (.ref M2)))
  (lm2:K.lookup M2=some ⟨vo2,vd2,.func (PySem.W.fnOf "begin" "SayingReading.begin" (jx zu) (ju zu) (jk zu) .none vk2 vq2 vp2 va2 vc2 vt2),vs2⟩)
  (cm2:PySem.W.codeIn K vc2 "SayingReading.begin"=true)
  (km2:PySem.W.keepIn K (.ref M2)=true)
  (im2:PySem.W.isFn K (.ref M2)=true)
  (fm3:PySem.W.findIn K (.ref C) "row_of_name"=some (some (.ref M3)))
  (lm3:K.lookup M3=some ⟨vo3,vd3,.func (PySem.W.fnOf "row_of_name" "SayingReading.row_of_name" (jx yi) (ju yi) (jk yi) .none vk3 vq3 vp3 va3 vc3 vt3),vs3⟩)
  (cm3:PySem.W.codeIn K vc3 "SayingReading.row_of_name"=true)
  (km3:PySem.W.keepIn K (.ref M3)=true)
  (im3:PySem.W.isFn K (.ref M3)=true)
  (fm4:PySem.W.findIn K (.ref C) "close"=some (some (.ref M4)))
  (lm4:K.lookup M4=some ⟨vo4,vd4,.func (PySem.W.fnOf "close" "SayingReading.close" (jx yy) (ju yy) (jk yy) .none vk4 vq4 vp4 va4 vc4 vt4),vs4⟩)
  (cm4:PySem.W.codeIn K vc4 "SayingReading.close"=true)
  (km4:PySem.W.keepIn K (.ref M4)=true)
  (im4:PySem.W.isFn K (.ref M4)=true)
  (fm5:PySem.W.findIn K (.ref C) "end"=some (some (.ref M5)))
  (lm5:K.lookup M5=some ⟨vo5,vd5,.func (PySem.W.fnOf "end" "SayingReading.end" (jx jab) (ju jab) (jk jab) .none vk5 vq5 vp5 va5 vc5 vt5),vs5⟩)
  (cm5:PySem.W.codeIn K vc5 "SayingReading.end"=true)
  (km5:PySem.W.keepIn K (.ref M5)=true)
  (im5:PySem.W.isFn K (.ref M5)=true)
  (fm6:PySem.W.findIn K (.ref C) "put_row"=some (some (.ref M6)))
  (lm6:K.lookup M6=some ⟨vo6,vd6,.func (PySem.W.fnOf "put_row" "SayingReading.put_row" (jx zd) (ju zd) (jk zd) .none vk6 vq6 vp6 va6 vc6 vt6),vs6⟩)
  (cm6:PySem.W.codeIn K vc6 "SayingReading.put_row"=true)
  (km6:PySem.W.keepIn K (.ref M6)=true)
  (im6:PySem.W.isFn K (.ref M6)=true)
  (en:PySem.W.nsIn K mainGlobals "NO_NAMES"=some (some (.ref an)))
  (ln:K.lookup an=some ⟨.type "tuple",odn,.seq itn nn,sln⟩)
  (vn:Vals (NN.map V.str) itn.toList)
  (ecx:vc3=.ref cx)
  (hcx:PySem.W.codeHdIn K cx 123=true)
  (ecy:vc4=.ref cy)
  (hcy:PySem.W.codeHdIn K cy 130=true)
  : ∃fd:FuncData,(∀(s:Shared)(v:Value),BindsTo s fd ⟨[v],[]⟩ [("_law_script",v)])/\∀base:Heap,K.In base->base.Ns mainGlobals mg->(∀t∈[130,123],base.BuiltinsAt mg t)->FnOk l.prog w K mg base CX0 120 fa fd ["_law_script"] (jfw K 123 130):=by
 have e:=hfa.symm.trans (A3 X G a22)
 cases e
 have F20z:=jb9 (st:=y3) l1 c1 k1
 have m20z:=A3 X G a1
 have b20z:=F20z.binds (ps:=["row"]) λ_ _ _ _ _ _=>us1 λ_=>rfl
 have F5z:=jb9 (st:=yf) l2 c2 k2
 have m5z:=A3 X G a2
 have b5z:=F5z.binds (ps:=["row","numbers"]) λ_ _ _ _ _ _=>us2 λ_ _=>rfl
 have F18z:=jb9 (st:=yu) l3 c3 k3
 have m18z:=A3 X G a3
 have b18z:=F18z.binds (ps:=["rows"]) λ_ _ _ _ _ _=>us1 λ_=>rfl
 have F17z:=jb9 (st:=yz) l4 c4 k4
 have m17z:=A3 X G a4
 have b17z:=F17z.binds (ps:=["rows"]) λ_ _ _ _ _ _=>us1 λ_=>rfl
 have F2z:=jb9 (st:=yn) l5 c5 k5
 have m2z:=A3 X G a5
 have b2z:=F2z.binds (ps:=["text"]) λ_ _ _ _ _ _=>us1 λ_=>rfl
 have F21z:=jb9 (st:=yr) l6 c6 k6
 have m21z:=A3 X G a6
 have b21z:=F21z.binds (ps:=["text"]) λ_ _ _ _ _ _=>us1 λ_=>rfl
 have F22z:=jb9 (st:=y4) l7 c7 k7
 have m22z:=A3 X G a7
 have b22z:=F22z.binds (ps:=["text"]) λ_ _ _ _ _ _=>us1 λ_=>rfl
 have F19z:=jb9 (st:=ko) l8 c8 k8
 have m19z:=A3 X G a8
 have b19z:=F19z.binds (ps:=["word"]) λ_ _ _ _ _ _=>us1 λ_=>rfl
 have F16z:=jb9 (st:=yc) l9 c9 k9
 have m16z:=A3 X G a9
 have b16z:=F16z.binds (ps:=["word"]) λ_ _ _ _ _ _=>us1 λ_=>rfl
 have F8z:=jb9 (st:=zg) l10 c10 k10
 have m8z:=A3 X G a10
 have b8z:=F8z.binds (ps:=["_law_script","_law_k"]) λ_ _ _ _ _ _=>us2 λ_ _=>rfl
 have F1z:=jb9 (st:=ki) l11 c11 k11
 have m1z:=A3 X G a11
 have b1z:=F1z.binds (ps:=["_law_box_here","_law_wide"]) λ_ _ _ _ _ _=>us2 λ_ _=>rfl
 have F9z:=jb9 (st:=yj) l12 c12 k12
 have m9z:=A3 X G a12
 have b9z:=F9z.binds (ps:=["_law_box_here","_law_most"]) λ_ _ _ _ _ _=>us2 λ_ _=>rfl
 have F6z:=jb9 (st:=yp) l13 c13 k13
 have m6z:=A3 X G a13
 have b6z:=F6z.binds (ps:=["_law_box_here","_law_k"]) λ_ _ _ _ _ _=>us2 λ_ _=>rfl
 have F10z:=jb9 (st:=km) l14 c14 k14
 have m10z:=A3 X G a14
 have b10z:=F10z.binds (ps:=["_law_box_here","_law_many"]) λ_ _ _ _ _ _=>us2 λ_ _=>rfl
 have F12z:=jb9 (st:=kz) l15 c15 k15
 have m12z:=A3 X G a15
 have b12z:=F12z.binds (ps:=["_law_box_here","_law_letters_here","_law_names","_law_most"]) λ_ _ _ _ _ _=>us4 λ_ _ _ _=>rfl
 have F4z:=jb9 (st:=yl) l16 c16 k16
 have m4z:=A3 X G a16
 have b4z:=F4z.binds (ps:=["_law_box_here","_law_names","_law_rows","_law_many"]) λ_ _ _ _ _ _=>us4 λ_ _ _ _=>rfl
 have F14z:=jb9 (st:=yb) l17 c17 k17
 have m14z:=A3 X G a17
 have b14z:=F14z.binds (ps:=["_law_box_here","_law_names","_law_rows"]) λ_ _ _ _ _ _=>us3 λ_ _ _=>rfl
 have F15z:=jb9 (st:=yx) l18 c18 k18
 have m15z:=A3 X G a18
 have b15z:=F15z.binds (ps:=["_law_saying"]) λ_ _ _ _ _ _=>us1 λ_=>rfl
 have F13z:=jb9 (st:=yq) l19 c19 k19
 have m13z:=A3 X G a19
 have b13z:=F13z.binds (ps:=["_law_box_here","_law_words_here","_law_wide"]) λ_ _ _ _ _ _=>us3 λ_ _ _=>rfl
 have F3z:=jb9 (st:=y9) l20 c20 k20
 have m3z:=A3 X G a20
 have b3z:=F3z.binds (ps:=["_law_saying","_law_at","_law_rows"]) λ_ _ _ _ _ _=>us3 λ_ _ _=>rfl
 have F11z:=jb9 (st:=ym) l21 c21 k21
 have m11z:=A3 X G a21
 have b11z:=F11z.binds (ps:=["_law_heard"]) λ_ _ _ _ _ _=>us1 λ_=>rfl
 have F_law:=jb9 (st:=jae) l22 c22 k22
 have m_law:=A3 X G a22
 have b_law:=F_law.binds (ps:=["_law_script"]) λ_ _ _ _ _ _=>us1 λ_=>rfl
 have n_len:=Ie X G z_len
 have n_int:=Ie X G z_int
 have n_range:=Ie X G z_range
 have n_list:=Ie X G z_list
 have n_tuple:=Ie X G z_tuple
 have n_isinstance:=Ie X G z_isinstance
 have n_str:=Ie X G z_str
 have n_bool:=Ie X G z_bool
 have n_enumerate:=Ie X G z_enumerate
 have n_max:=Ie X G z_max
 have n_min:=Ie X G z_min
 have n_any:=Ie X G z_any
 have n_all:=Ie X G z_all
 refine⟨PySem.W.fnOf "law" "law" (jx jae) (ju jae) (jk jae) .none kV22 dc22 pm22 an22 cd22 ct22,λs v=>.of_eq rfl,λbase kb0 _ hbt=>?_⟩
 have hd1:PySem.W.CodeHd base cx 123:=U7 kb0 hcx
 have hd2:PySem.W.CodeHd base cy 130:=U7 kb0 hcy
 have ss:PySem.W.kitOne K (.type "str") (.type "str")=some true:=Ag (by simp)
 have ii:PySem.W.kitOne K (.type "int") (.type "int")=some true:=Ag (by simp)
 have tt:PySem.W.kitOne K (.type "tuple") (.type "tuple")=some true:=Ag (by simp)
 have is_:PySem.W.kitOne K (.type "int") (.type "str")=some false:=by
  unfold PySem.W.kitOne
  rw[Ae (by decide)]
  unfold PySem.W.kitCls
  first|rfl|decide +kernel|simp
 have si:PySem.W.kitOne K (.type "str") (.type "int")=some false:=by
  unfold PySem.W.kitOne
  rw[Ae (by decide)]
  unfold PySem.W.kitCls
  first|rfl|decide +kernel|simp
 have ib:PySem.W.kitOne K (.type "int") (.type "bool")=some false:=by
  unfold PySem.W.kitOne
  rw[Ae (by decide)]
  unfold PySem.W.kitCls
  first|rfl|decide +kernel|simp
 have sb:PySem.W.kitOne K (.type "str") (.type "bool")=some false:=by
  unfold PySem.W.kitOne
  rw[Ae (by decide)]
  unfold PySem.W.kitCls
  first|rfl|decide +kernel|simp
 have hT:TPa K mg:=⟨n_isinstance,n_int,n_str,n_tuple,n_bool,ii,si,ss,is_,ib,tt⟩
 have nn12:(123:Addr)≠130:=by decide
 have m_SayingReading:=A3 X G aC
 have m_NO_NAMES:=A3 X G en
 have kN:∀H,SqT K H an (NN.map V.str):=λH=>.inr ⟨_,itn,nn,ln,rfl,rfl,by have:=vn.length;simp[NN]at this;have hs:sizeLine=16777216:=Ao;omega,vn⟩
 have cls:Cls K C:=⟨Cpg,Chd,Cpo,Csa⟩
 have rc:SK K C:=⟨cls,Nwords,Nplace,Nrows,Nwaiting⟩
 have F25z:=jb9 (st:=z7) lm0 cm0 km0
 have b25z:=F25z.binds (ps:=["self","words"]) λ_ _ _ _ _ _=>us2 λ_ _=>rfl
 have F0z:=jb9 (st:=z8) lm1 cm1 km1
 have b0z:=F0z.binds (ps:=["self","fits"]) λ_ _ _ _ _ _=>us2 λ_ _=>rfl
 have d_take:Meth K C "take" M1:=⟨fm1,im1,km1⟩
 have F23z:=jb9 (st:=zu) lm2 cm2 km2
 have b23z:=F23z.binds (ps:=["self"]) λ_ _ _ _ _ _=>us1 λ_=>rfl
 have d_begin:Meth K C "begin" M2:=⟨fm2,im2,km2⟩
 have F26z:=jb9 (st:=yi) lm3 cm3 km3
 have b26z:=F26z.binds (ps:=["self","name"]) λ_ _ _ _ _ _=>us2 λ_ _=>rfl
 have d_row_of_name:Meth K C "row_of_name" M3:=⟨fm3,im3,km3⟩
 have F24z:=jb9 (st:=yy) lm4 cm4 km4
 have b24z:=F24z.binds (ps:=["self","number"]) λ_ _ _ _ _ _=>us2 λ_ _=>rfl
 have d_close:Meth K C "close" M4:=⟨fm4,im4,km4⟩
 have F_end:=jb9 (st:=jab) lm5 cm5 km5
 have b_end:=F_end.binds (ps:=["self"]) λ_ _ _ _ _ _=>us1 λ_=>rfl
 have d_end:Meth K C "end" M5:=⟨fm5,im5,km5⟩
 have F7z:=jb9 (st:=zd) lm6 cm6 km6
 have b7z:=F7z.binds (ps:=["self","row"]) λ_ _ _ _ _ _=>us2 λ_ _=>rfl
 have d_put_row:Meth K C "put_row" M6:=⟨fm6,im6,km6⟩
 have mkR:Mk K C M0:=⟨Cmk,fm0,im0,Ckp⟩
 have g1z:=ok__law_take (P:=l.prog) (w:=w) (mg:=mg) (base:=base) F1z
 have g8z:=ok__law_box (P:=l.prog) (w:=w) (base:=base) F8z ⟨n_len,n_int⟩
 have g9z:=ok__law_letters (P:=l.prog) (w:=w) (base:=base)   F9z ⟨n_len,n_list,n_range,m1z⟩ F1z b1z g1z
 have g6z:=ok__law_row_at (P:=l.prog) (w:=w) (base:=base)   F6z ⟨m1z⟩ F1z b1z g1z
 have g10z:=ok__law_place_names (P:=l.prog) (w:=w) (base:=base)   F10z ⟨n_range,m1z⟩ F1z b1z g1z
 have g12z:=ok__law_saying_rows (P:=l.prog) (w:=w) (base:=base)   F12z ⟨n_range,n_len,m1z,m6z⟩ F1z b1z g1z F6z b6z g6z
 have g4z:=ok__law_chain (P:=l.prog) (w:=w) (base:=base)   F4z ⟨n_range,n_len,n_list,n_tuple,m1z⟩ F1z b1z g1z
 have g14z:=ok__law_two_chains (P:=l.prog) (w:=w) (base:=base)   F14z ⟨n_len,n_list,n_tuple,m1z,m4z⟩ F1z b1z g1z F4z b4z g4z
 have g15z:=ok__law_words (P:=l.prog) (w:=w) (mg:=mg) (base:=base) F15z
 have g13z:=ok__law_spaced (P:=l.prog) (w:=w) (base:=base)   F13z ⟨n_int,m1z⟩ F1z b1z g1z
 have g3z:=ok__law_come (P:=l.prog) (w:=w) (base:=base)   F3z ⟨m3z⟩ b3z
 have g11z:=ok__law_plain (P:=l.prog) (w:=w) (base:=base)   F11z ⟨n_isinstance,n_tuple,n_bool,n_any,tt,ib,sb⟩
 have g20z:=ok_parts_of (P:=l.prog) (w:=w) (base:=base)   F20z hT
 have g5z:=ok_with_parts (P:=l.prog) (w:=w) (base:=base)   F5z hT
 have g17z:=ok_heads_of (P:=l.prog) (w:=w) (base:=base)   F17z ⟨n_enumerate,m5z⟩ F5z b5z g5z
 have g18z:=ok_in_order (P:=l.prog) (w:=w) (base:=base)   F18z ⟨n_len,n_tuple,m17z,m5z,m20z⟩ F17z b17z g17z F5z b5z g5z F20z b20z g20z
 have g2z:=ok_is_name (P:=l.prog) (w:=w) (base:=base)   F2z ⟨n_len,n_all,m_NO_NAMES,kN⟩
 have g16z:=ok_begins_saying (P:=l.prog) (w:=w) (base:=base)   F16z ⟨m2z⟩ F2z b2z g2z
 have g19z:=ok_is_small_letter (P:=l.prog) (w:=w) (base:=base)   F19z ⟨n_len⟩
 have g22z:=ok_words_of (P:=l.prog) (w:=w) (mg:=mg) (base:=base) F22z
 have g0z:=ok_take (P:=l.prog) (w:=w) (base:=base) (P1:=123) (P2:=130)  F0z ⟨n_len,rc⟩
 have g7z:=ok_put_row (P:=l.prog) (w:=w) (base:=base) (P1:=123) (P2:=130)  F7z ⟨n_len,rc⟩
 have g_end:=ok_end (P:=l.prog) (w:=w) (base:=base) (P1:=123) (P2:=130)  F_end ⟨n_len,rc⟩
 have g25z:=ok_init (P:=l.prog) (w:=w) (mg:=mg) (base:=base) (P1:=123) (P2:=130) F25z rc
 have g26z:=ok_row_of_name (P:=l.prog) (w:=w) (base:=base) (Pt:=123) (P2:=130) nn12 F26z ⟨cls,d_take,m2z,m19z,rfl,hd1,hbt 123 (.tail _ (.head _))⟩ ecx b0z g0z F2z b2z g2z F19z b19z g19z
 have g23z:=ok_begin (P:=l.prog) (w:=w) (base:=base) (P1:=123) (P2:=130)  F23z ⟨rc,cls,d_take,d_put_row,d_row_of_name,m2z,m16z⟩ b0z g0z b7z g7z b26z g26z F2z b2z g2z F16z b16z g16z
 have g24z:=ok_close (P:=l.prog) (w:=w) (base:=base) (P1:=123) (Pt:=130) nn12 F24z ⟨rc,cls,d_take,d_put_row,rfl,hd2,hbt 130 (.head _)⟩ ecy b0z g0z b7z g7z
 have g21z:=ok_read_saying (P:=l.prog) (w:=w) (base:=base) (P1:=123) (P2:=130) nn12 F21z ⟨rc,cls,mkR,m_SayingReading,n_tuple,d_begin,d_close,d_end,m22z,m18z⟩ b25z g25z b23z g23z b24z g24z b_end g_end F22z b22z g22z F18z b18z g18z
 exact ok_law nn12 F_law ⟨n_range,n_max,n_min,n_len,n_tuple,m8z,m9z,m10z,m1z,m12z,m4z,m14z,m3z,m13z,m15z,m21z,m11z⟩ F8z b8z g8z F9z b9z g9z F10z b10z g10z F1z b1z g1z F12z b12z g12z F4z b4z g4z F14z b14z g14z F3z b3z g3z F13z b13z g13z F15z b15z g15z F21z b21z g21z F11z b11z g11z
theorem jm2{K:PySem.W.Frag}{H:Hp}{a t:Addr}{xs:List V}{ps:Array Value}(hS:SqL K H a xs)(hT:H t=some (.tbl ps))(hK:K.lookup t=none):a≠t:=by
 rintro rfl
 rcases hS with(h|⟨o,h⟩)|⟨o,its,n,h,_⟩
 ·rw[hT]at h;cases h
 ·rw[hT]at h;cases h
 ·rw[hK]at h;cases h
theorem walk{l:PySem.W.OpenLaw}{q:Program}{loose:List Str}{XP:(Str->Option Value)->Heap->Prop}{YP:World->Heap->Prop}{d:DefRec}{K:Params->PySem.W.Frag}(hn:l.most=some 63)(hdf:d.params.defaults=[])
  (hY:∀(w:World)(h:Heap),YP w h->(K w.params).In h) (hT:∀(w:World)(h:Heap),YP w h->∀t∈[130,123],h.get? t=some (PySem.W.tabObj #[]))
  (hC:∀(w:World)(h:Heap),(K w.params).In h->∀t∈[130,123],∃c,PySem.W.CodeHd h c t) (hN:∀w:World,∀t∈[130,123],(K w.params).lookup t=none)
  (F:∀(w:World)(mg:Str->Option Value)(fa:Addr)(h:Heap),(K w.params).In h->h.Ns mainGlobals mg->mg d.name=some (.ref fa) ->
   ∃fd:FuncData,(∀(s:Shared)(u:Value),BindsTo s fd ⟨[u],[]⟩ [("_law_script",u)])/\∀base:Heap,(K w.params).In base->base.Ns mainGlobals mg->(∀t∈[130,123],base.BuiltinsAt mg t)->FnOk l.prog w (K w.params) mg base CX0 120 fa fd ["_law_script"] (jfw (K w.params) 123 130)) :
  PySem.W.WalkO q loose XP YP l.row.toRowW d [] (λf vs=>PySem.call f vs) :=
 L2.walk_ofT (n:=63) (k:=120) (x:="_law_script") (ts:=[130,123]) (CX:=λ_=>CX0) (sp:=λw=>jfw (K w.params) 123 130) hn (by decide) hdf ⟨rfl,by decide,by decide,rfl⟩ hY hT hC hN F
  (λw _ a ns hl hS hT=>⟨a,ns,rfl,hS,hl,jm2 hS (hT 123 (.tail _ (.head _))) (hN w 123 (.tail _ (.head _))),jm2 hS (hT 130 (.head _)) (hN w 130 (.head _)),⟨#[],hT 123 (.tail _ (.head _)),trivial,λp cv e=>by cases e⟩,⟨#[],hT 130 (.head _),trivial,λp cv e=>by cases e⟩,λ_=>rfl⟩) λ_ _ _ _ _ z=>z
end My
theorem PySem.W.Fast.tw12891383182412048593:True:=trivial
theorem PySem.W.Fast.tw12146764418004036736:True:=trivial
theorem PySem.W.Fast.tw13430249139532938369:True:=trivial
theorem PySem.W.Fast.tw171291754108485676:True:=trivial
theorem PySem.W.Fast.tw12816407810350884437:True:=trivial
theorem PySem.W.Fast.tw12140153771924484704:True:=trivial
theorem PySem.W.Fast.tw1673740634962625792:True:=trivial
theorem PySem.W.Fast.tw2452183089100199431:True:=trivial
theorem PySem.W.Fast.tw4469153345489082137:True:=trivial
theorem PySem.W.Fast.tw2765498453936446044:True:=trivial
theorem PySem.W.Fast.tw15856636974760153345:True:=trivial
theorem PySem.W.Fast.tw9725662996654294085:True:=trivial
theorem PySem.W.Fast.tw9422763266112990851:True:=trivial
theorem PySem.W.Fast.tw7290042926613615772:True:=trivial
theorem PySem.W.Fast.tw7418466945615597542:True:=trivial
theorem PySem.W.Fast.tw9680919916606200524:True:=trivial
theorem PySem.W.Fast.tw1818322138541819452:True:=trivial
theorem PySem.W.Fast.tw9311807203342873781:True:=trivial
theorem PySem.W.Fast.tw11432041176626740900:True:=trivial
theorem PySem.W.Fast.tw15489375818896121229:True:=trivial
theorem PySem.W.Fast.tw7197971566286808008:True:=trivial
theorem PySem.W.Fast.tw14412855771520132601:True:=trivial
theorem PySem.W.Fast.tw7101839656588959589:True:=trivial
theorem PySem.W.Fast.tw15488690186933441992:True:=trivial
theorem PySem.W.Fast.tw10956644954110896092:True:=trivial
theorem PySem.W.Fast.tw683198662345274589:True:=trivial
theorem PySem.W.Fast.tw6963539322969312366:True:=trivial
theorem PySem.W.Fast.tw8639199183164782178:True:=trivial
theorem PySem.W.Fast.tw12128803758487350447:True:=trivial
theorem PySem.W.Fast.tw13590017745414313191:True:=trivial
theorem PySem.W.Fast.tw654238168343658657:True:=trivial
theorem PySem.W.Fast.tw251827269973014119:True:=trivial
theorem PySem.W.Fast.tw3606793435756303232:True:=trivial
theorem PySem.W.Fast.tw13001640422924179418:True:=trivial
theorem PySem.W.Fast.tw3163558252529603102:True:=trivial
theorem PySem.W.Fast.tw12423408539340342776:True:=trivial
theorem PySem.W.Fast.tw10101649997150768050:True:=trivial
theorem PySem.W.Fast.tw15426793215109341518:True:=trivial
theorem PySem.W.Fast.tw2955205527810248641:True:=trivial
theorem PySem.W.Fast.tw18164048733734638606:True:=trivial
theorem PySem.W.Fast.tw4997224337260412641:True:=trivial
theorem PySem.W.Fast.tw14984109713317501430:True:=trivial
theorem PySem.W.Fast.tw4924777616461343779:True:=trivial
theorem PySem.W.Fast.tw7701278720649427223:True:=trivial
theorem PySem.W.Fast.tw6005888933881242258:True:=trivial
theorem PySem.W.Fast.tw2046604760386720852:True:=trivial
theorem PySem.W.Fast.tw16850646272749333188:True:=trivial
theorem PySem.W.Fast.tw18096593980223684002:True:=trivial
theorem PySem.W.Fast.tw7442565059343492733:True:=trivial
theorem PySem.W.Fast.tw17769427648129824094:True:=trivial
theorem PySem.W.Fast.tw15398560349867373454:True:=trivial
theorem PySem.W.Fast.tw13841276098079464857:True:=trivial
theorem PySem.W.Fast.tw1363076191079517973:True:=trivial
theorem PySem.W.Fast.tw13235598454319379013:True:=trivial
theorem PySem.W.Fast.tw9574593021299536705:True:=trivial
theorem PySem.W.Fast.tw6129527831074234176:True:=trivial
theorem PySem.W.Fast.tw14191671969057639284:True:=trivial
theorem PySem.W.Fast.tw11807733872683992189:True:=trivial
theorem PySem.W.Fast.tw11143285279291364706:True:=trivial
theorem PySem.W.Fast.tw8091989978281774306:True:=trivial
open PySem PySem.W PyProof.Rows
set_option maxRecDepth 100000 in
set_option maxHeartbeats 0 in
theorem PySem.Challenge.cw_calmword_k43_sayings_read_holds : PySem.Challenge.rw_calmword_k43_sayings_read.Holds := by
 w_on;o_law;k_head;(case hw=>w_witness2)
 k_fill
 refine My.walk (l:=PySem.Challenge.rw_calmword_k43_sayings_read) rfl rfl (λw h Y=>PySem.W.km_in_of Y) (λw h Y=>PySem.W.km_tabs_of Y) ?cC ?cN ?F
 case cC =>
  intro w h X t ht
  rcases A2.mp ht with rfl|ht
  ·(refine' My.c_of (m:="close") (tb:=130) X ?h2 ?h3 ?h4 ?h5 ?h6;(case h2=>k_is);(case h3=>first|k_is|kernel_rfl);(case h4=>k_is);(case h5=>rfl);(case h6=>kernel_rfl))
  ·cases Am.mp ht;(refine' My.c_of (m:="row_of_name") (tb:=123) X ?h2 ?h3 ?h4 ?h5 ?h6;(case h2=>k_is);(case h3=>first|k_is|kernel_rfl);(case h4=>k_is);(case h5=>rfl);(case h6=>kernel_rfl))
 case cN =>
  intro w t ht
  rcases A2.mp ht with rfl|ht
  ·rfl
  ·cases Am.mp ht;rfl
 case F =>
  intro w mg fa h KX G hmg
  refine' My.all_mk KX G hmg ?a1 ?l1 ?c1 ?k1 ?a2 ?l2 ?c2 ?k2 ?a3 ?l3 ?c3 ?k3 ?a4 ?l4 ?c4 ?k4 ?a5 ?l5 ?c5 ?k5 ?a6 ?l6 ?c6 ?k6 ?a7 ?l7 ?c7 ?k7 ?a8 ?l8 ?c8 ?k8 ?a9 ?l9 ?c9 ?k9 ?a10 ?l10 ?c10 ?k10 ?a11 ?l11 ?c11 ?k11 ?a12 ?l12 ?c12 ?k12 ?a13 ?l13 ?c13 ?k13 ?a14 ?l14 ?c14 ?k14 ?a15 ?l15 ?c15 ?k15 ?a16 ?l16 ?c16 ?k16 ?a17 ?l17 ?c17 ?k17 ?a18 ?l18 ?c18 ?k18 ?a19 ?l19 ?c19 ?k19 ?a20 ?l20 ?c20 ?k20 ?a21 ?l21 ?c21 ?k21 ?a22 ?l22 ?c22 ?k22 ?z_len ?z_int ?z_range ?z_list ?z_tuple ?z_isinstance ?z_str ?z_bool ?z_enumerate ?z_max ?z_min ?z_any ?z_all ?aC ?Cpg ?Chd ?Cpo ?Csa ?Cmk ?Ckp ?Nwords ?Nplace ?Nrows ?Nwaiting ?fm0 ?lm0 ?cm0 ?km0 ?im0 ?fm1 ?lm1 ?cm1 ?km1 ?im1 ?fm2 ?lm2 ?cm2 ?km2 ?im2 ?fm3 ?lm3 ?cm3 ?km3 ?im3 ?fm4 ?lm4 ?cm4 ?km4 ?im4 ?fm5 ?lm5 ?cm5 ?km5 ?im5 ?fm6 ?lm6 ?cm6 ?km6 ?im6 ?en ?ln ?vn ?ecx ?hcx ?ecy ?hcy
  (case a1=>k_is)
  (case l1=>k_is)
  (case c1=>k_is)
  (case k1=>k_is)
  (case a2=>k_is)
  (case l2=>k_is)
  (case c2=>k_is)
  (case k2=>k_is)
  (case a3=>k_is)
  (case l3=>k_is)
  (case c3=>k_is)
  (case k3=>k_is)
  (case a4=>k_is)
  (case l4=>k_is)
  (case c4=>k_is)
  (case k4=>k_is)
  (case a5=>k_is)
  (case l5=>k_is)
  (case c5=>k_is)
  (case k5=>k_is)
  (case a6=>k_is)
  (case l6=>k_is)
  (case c6=>k_is)
  (case k6=>k_is)
  (case a7=>k_is)
  (case l7=>k_is)
  (case c7=>k_is)
  (case k7=>k_is)
  (case a8=>k_is)
  (case l8=>k_is)
  (case c8=>k_is)
  (case k8=>k_is)
  (case a9=>k_is)
  (case l9=>k_is)
  (case c9=>k_is)
  (case k9=>k_is)
  (case a10=>k_is)
  (case l10=>k_is)
  (case c10=>k_is)
  (case k10=>k_is)
  (case a11=>k_is)
  (case l11=>k_is)
  (case c11=>k_is)
  (case k11=>k_is)
  (case a12=>k_is)
  (case l12=>k_is)
  (case c12=>k_is)
  (case k12=>k_is)
  (case a13=>k_is)
  (case l13=>k_is)
  (case c13=>k_is)
  (case k13=>k_is)
  (case a14=>k_is)
  (case l14=>k_is)
  (case c14=>k_is)
  (case k14=>k_is)
  (case a15=>k_is)
  (case l15=>k_is)
  (case c15=>k_is)
  (case k15=>k_is)
  (case a16=>k_is)
  (case l16=>k_is)
  (case c16=>k_is)
  (case k16=>k_is)
  (case a17=>k_is)
  (case l17=>k_is)
  (case c17=>k_is)
  (case k17=>k_is)
  (case a18=>k_is)
  (case l18=>k_is)
  (case c18=>k_is)
  (case k18=>k_is)
  (case a19=>k_is)
  (case l19=>k_is)
  (case c19=>k_is)
  (case k19=>k_is)
  (case a20=>k_is)
  (case l20=>k_is)
  (case c20=>k_is)
  (case k20=>k_is)
  (case a21=>k_is)
  (case l21=>k_is)
  (case c21=>k_is)
  (case k21=>k_is)
  (case a22=>k_is)
  (case l22=>k_is)
  (case c22=>k_is)
  (case k22=>k_is)
  (case z_len=>k_is)
  (case z_int=>k_is)
  (case z_range=>k_is)
  (case z_list=>k_is)
  (case z_tuple=>k_is)
  (case z_isinstance=>k_is)
  (case z_str=>k_is)
  (case z_bool=>k_is)
  (case z_enumerate=>k_is)
  (case z_max=>k_is)
  (case z_min=>k_is)
  (case z_any=>k_is)
  (case z_all=>k_is)
  (case aC=>k_is)
  (case Cpg=>first|k_is|kernel_rfl)
  (case Chd=>first|k_is|kernel_rfl)
  (case Cpo=>first|k_is|kernel_rfl)
  (case Csa=>first|k_is|kernel_rfl)
  (case Cmk=>first|k_is|kernel_rfl)
  (case Ckp=>first|k_is|kernel_rfl)
  (case Nwords=>first|k_is|kernel_rfl)
  (case Nplace=>first|k_is|kernel_rfl)
  (case Nrows=>first|k_is|kernel_rfl)
  (case Nwaiting=>first|k_is|kernel_rfl)
  (case fm0=>first|k_is|kernel_rfl)
  (case lm0=>k_is)
  (case cm0=>first|k_is|kernel_rfl)
  (case km0=>first|k_is|kernel_rfl)
  (case im0=>first|k_is|kernel_rfl)
  (case fm1=>first|k_is|kernel_rfl)
  (case lm1=>k_is)
  (case cm1=>first|k_is|kernel_rfl)
  (case km1=>first|k_is|kernel_rfl)
  (case im1=>first|k_is|kernel_rfl)
  (case fm2=>first|k_is|kernel_rfl)
  (case lm2=>k_is)
  (case cm2=>first|k_is|kernel_rfl)
  (case km2=>first|k_is|kernel_rfl)
  (case im2=>first|k_is|kernel_rfl)
  (case fm3=>first|k_is|kernel_rfl)
  (case lm3=>k_is)
  (case cm3=>first|k_is|kernel_rfl)
  (case km3=>first|k_is|kernel_rfl)
  (case im3=>first|k_is|kernel_rfl)
  (case fm4=>first|k_is|kernel_rfl)
  (case lm4=>k_is)
  (case cm4=>first|k_is|kernel_rfl)
  (case km4=>first|k_is|kernel_rfl)
  (case im4=>first|k_is|kernel_rfl)
  (case fm5=>first|k_is|kernel_rfl)
  (case lm5=>k_is)
  (case cm5=>first|k_is|kernel_rfl)
  (case km5=>first|k_is|kernel_rfl)
  (case im5=>first|k_is|kernel_rfl)
  (case fm6=>first|k_is|kernel_rfl)
  (case lm6=>k_is)
  (case cm6=>first|k_is|kernel_rfl)
  (case km6=>first|k_is|kernel_rfl)
  (case im6=>first|k_is|kernel_rfl)
  (case en=>k_is)
  (case ln=>k_is)
  (case vn=>exact .cons ⟨_,rfl⟩ (.cons ⟨_,rfl⟩ (.cons ⟨_,rfl⟩ (.cons ⟨_,rfl⟩ (.cons ⟨_,rfl⟩ .nil)))))
  (case ecx=>rfl)
  (case hcx=>kernel_rfl)
  (case ecy=>rfl)
  (case hcy=>kernel_rfl)