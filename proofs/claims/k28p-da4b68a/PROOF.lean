import PyProof.Rows.All
import Wide.All
import OpenK.AllK
import Wide.FinOn
import Lean
import PyProof.EqAt
import PyProof.EqKinds
import PyProof.TupleCall
import PySem.Challenge.RW_calmword_k28_the_first_wrong_sign
set_option Elab.async false
set_option linter.all false
set_option maxRecDepth 100000
set_option maxHeartbeats 4000000
abbrev Aa:=@if_neg
abbrev Ab:=@PySem.wpAny_bind
abbrev Ac:=@PySem.Heap.get?_push_of_some
abbrev Ad:=@if_pos
abbrev Ae:=@List.length_map
abbrev Af:=@Nat.le_refl
abbrev Ag:=@List.getD_eq_getElem?_getD
abbrev Ah:=@PySem.Heap.lt_size
abbrev Ai:=@List.getElem?_eq_some_iff
abbrev Aj:=@List.size_toArray
abbrev Ak:=@List.mem_singleton
abbrev Al:=@PySem.W.mg_of
abbrev Am:=@PySem.wpAny_pure
abbrev An:=@List.getElem?_eq_getElem
abbrev Ao:=@PySem.sizeLine_eq
abbrev Ap:=@List.not_mem_nil
abbrev Aq:=@Nat.lt_of_lt_of_le
abbrev Ar:=@Nat.ne_of_lt
abbrev Au:=@Option.some.inj
abbrev Av:=@PySem.Heap.get?_push_size
abbrev Aw:=@List.mem_cons
abbrev Ax:=@List.map_cons
abbrev Ay:=@List.length_append
abbrev Az:=@PySem.F.slot_list_append
abbrev A0:=@PySem.F.type_list_append
abbrev A1:=@List.getElem?_append_left
abbrev A2:=@PySem.wpAny_loadPart_at
abbrev A3:=@List.getElem?_map
abbrev A4:=@Bool.false_ne_true
abbrev A5:=@List.mem_append_right
abbrev A6:=@List.mem_of_getElem?
abbrev A7:=@List.mem_map
abbrev A8:=@List.getElem?_append_right
abbrev A9:=@PySem.W.mg_none_of
abbrev Ia:=@Nat.zero_le
abbrev Ib:=@Nat.le_trans
abbrev Ic:=@decide_eq_false
abbrev Ie:=@List.mem_append
abbrev Ig:=@List.mem_cons_of_mem
abbrev Ih:=@PySem.W.kia_one
abbrev Ii:=@PySem.PassesOwn.never
abbrev Ij:=@PyProof.Rows.callWith_type1
abbrev Ik:=@PySem.wpAny_Call_Name_kw
abbrev Il:=@List.length_take
abbrev Im:=@PySem.Heap.get?_update_other
abbrev Io:=@PySem.mem_of_lookup
abbrev Ip:=@PySem.Paired.length
abbrev Iq:=@PySem.Heap.get?_update_self
abbrev Ir:=@List.append_nil
abbrev Is:=@List.map_append
abbrev Iu:=@Bool.false_eq_true
abbrev Iv:=@List.take_of_length_le
abbrev Iw:=@PySem.wpAny_mono
abbrev Ix:=@Ne.symm
abbrev Iy:=@PySem.F.slot_list_pop
abbrev Iz:=@PySem.F.type_list_pop
abbrev I0:=@Nat.succ_ne_zero
abbrev Oa:=@PySem.wpAny_truthy_bool
abbrev Ob:=@List.append_assoc
abbrev Oc:=@List.map_map
abbrev Od:=@Bool.and_eq_true
abbrev Oe:=@List.mem_cons_self
abbrev Of:=@List.getElem?_eq_none
abbrev Og:=@List.mem_append_left
abbrev Oh:=@Nat.succ.inj
abbrev Oi:=@PySem.wpAny_newObj_type
abbrev Oj:=@Nat.lt_irrefl
abbrev Ol:=@beq_eq_false_iff_ne
abbrev Om:=@PySem.wpAny_isSubtype_exc
abbrev On:=@if_false
abbrev Oo:=@if_true
abbrev Op:=@Option.map_eq_some_iff
abbrev Oq:=@PySem.Calls.spliced_cons
abbrev Os:=@List.contains_cons
abbrev Ot:=@PySem.F.attrBase_ValueError
abbrev Ou:=@PySem.wpAny_passesOwn
abbrev Ov:=@List.nodup_cons
abbrev Ow:=@Array.getElem?_eq_some_iff
abbrev Ox:=@List.dropLast_concat
abbrev Oy:=@decide_eq_true
abbrev Oz:=@List.take_succ
abbrev O0:=@congrArg
abbrev O1:=@Option.isSome_iff_exists
abbrev O2:=@List.length_reverse
abbrev O3:=@List.map_congr_left
abbrev O4:=@PyProof.Rows.slot_tuple_getitem
abbrev O5:=@PySem.wpAny_holding
abbrev O6:=@PySem.wpAny_execs_nil
abbrev O7:=@PySem.W.callWith_K
abbrev O8:=@PySem.wpAny_loadPart'
abbrev O9:=@PySem.tupleKind_room_in1
abbrev Ua:=@PySem.wpAny_field
abbrev Ub:=@PySem.Calls.callWith_builtin
abbrev Uc:=@List.nodup_append
abbrev Ud:=@List.mem_range
abbrev Ue:=@PySem.codeAny_mono
abbrev Uf:=@List.map_nil
abbrev Ug:=@List.length_filter_le
abbrev Uh:=@PySem.wpAny_setField
abbrev Ui:=@List.idxOf_lt_length_of_mem
abbrev Uj:=@PySem.Heap.get?_none_of_le
abbrev Uk:=@beq_iff_eq
abbrev Ul:=@beq_self_eq_true
abbrev Um:=@List.getElem_mem
abbrev Uo:=@PySem.codeAny_call_builtin
abbrev Up:=@List.pairwise_append
abbrev Uq:=@PySem.wpAny_standAt
abbrev Ur:=@List.mem_filterMap
abbrev Us:=@Nat.le_of_eq
abbrev Ut:=@Nat.lt_of_le_of_lt
abbrev Uu:=@PySem.wpAny_comprehension_free
abbrev Uv:=@List.filter_append
abbrev Uw:=@PySem.wpAny_call
abbrev Ux:=@PySem.wpAny_callSpecial?_slot
abbrev Uy:=@PySem.Calls.spliced_nil
abbrev Uz:=@PySem.wpAny_pyIter_enum
abbrev U0:=@PySem.F.args_tuple_iterator_next_1
abbrev U1:=@List.foldr_append
abbrev U2:=@PySem.sizeLine_eq
abbrev U3:=@PySem.F.entry_tuple_iterator_next
abbrev U4:=@PySem.wpAny_execs_cons
abbrev U5:=@List.filter_cons
abbrev U6:=@PySem.F.slot_dict_get
abbrev U7:=@List.take_append_drop
abbrev U8:=@List.mem_filter
abbrev U9:=@Nat.le_of_lt
abbrev Wa:=@List.getElem?_set_ne
abbrev Wb:=@Bool.eq_iff_iff
abbrev Wc:=@List.of_mem_zip
abbrev Wd:=@PySem.Calls.evalArgs_plain
abbrev We:=@PySem.call_meets
abbrev Wf:=@PySem.wpAny_newFunctionEnv
abbrev Wg:=@List.mem_of_mem_take
abbrev Wh:=@Bool.or_true
abbrev Wi:=@PySem.W.plainGet_of
abbrev Wj:=@PySem.Heap.SameBut.update
abbrev Wk:=@List.nodup_nil
abbrev Wl:=@or_false
abbrev Wm:=@PySem.Paired.snoc
abbrev Wn:=@PySem.Obj.data_mapFields
namespace L2
open PySem PySem.Spec PyProof.Rows
abbrev Key:=Sum Int Str
def jej:Key->Value->Bool
 |.inl k,v=>Value.isInt k v
 |.inr x,v=>Value.isStrOf x v
def keyH(w:World):Key->Int
 |.inl k=>hashInt k
 |.inr x=>hashStr w x
theorem jcy:∀{k:Key}{v:Value},jej k v=true->(∃i t,k=Sum.inl i/\v=Value.int i t)\/(∃x t,k=Sum.inr x/\v=Value.str x t)
 |.inl i,v,h=>by
  obtain⟨t,e⟩:=Value.isInt_shape (k:=i) (v:=v) h
  exact .inl ⟨i,t,rfl,e⟩
 |.inr x,v,h=>by
  obtain⟨t,e⟩:=Value.isStrOf_shape (x:=x) (v:=v) h
  exact .inr ⟨x,t,rfl,e⟩
theorem jni(i:Int)(t:Tok):jej (.inl i) (.int i t)=true:=by simp[jej,Value.isInt]
theorem jnj(x:Str)(t:Tok):jej (.inr x) (.str x t)=true:=by simp[jej,Value.isStrOf]
theorem jqt(a b:Int):decide ((Sum.inl a:Key)=Sum.inl b)=(a == b):=by
 by_cases e:a=b
 ·subst e;simp
 ·have h:¬(Sum.inl a:Key)=Sum.inl b:=λq=>e (Sum.inl.inj q)
  rw[Ic h]
  exact(Ol.mpr e).symm
theorem jqw(a b:Str):decide ((Sum.inr a:Key)=Sum.inr b)=decide (a=b):=by
 by_cases e:a=b
 ·subst e;simp
 ·have h:¬(Sum.inr a:Key)=Sum.inr b:=λq=>e (Sum.inr.inj q)
  rw[Ic h,Ic e]
theorem jqu(a:Int)(b:Str):decide ((Sum.inl a:Key)=Sum.inr b)=false:=Ic (λq=>nomatch q)
theorem jqv(a:Str)(b:Int):decide ((Sum.inr a:Key)=Sum.inl b)=false:=Ic (λq=>nomatch q)
def jcr(prog:Program)(w:World):PySem.KeyKind prog w Key where
 is:=jej
 hash:=keyH w
 inj:=λv a b ha hb=>by
  rcases jcy ha with⟨i,t,rfl,rfl⟩|⟨x,t,rfl,rfl⟩
  ·rcases jcy hb with⟨j,u,rfl,e⟩|⟨y,u,rfl,e⟩
   ·injection e with e1 _;rw[e1]
   ·exact nomatch e
  ·rcases jcy hb with⟨j,u,rfl,e⟩|⟨y,u,rfl,e⟩
   ·exact nomatch e
   ·injection e with e1 _;rw[e1]
 byValue:=λk v h=>by
  rcases jcy h with⟨i,t,rfl,rfl⟩|⟨x,t,rfl,rfl⟩ <;> rfl
 pyHash:=λhv h=>by
  rcases jcy hv with⟨i,t,rfl,rfl⟩|⟨x,t,rfl,rfl⟩
  ·exact wpAny_pyHash_int h
  ·exact wpAny_pyHash_str h
 eqBool:=λhu hv h=>by
  rcases jcy hu with⟨i,t,rfl,rfl⟩|⟨x,t,rfl,rfl⟩
  ·rcases jcy hv with⟨j,u,rfl,rfl⟩|⟨y,u,rfl,rfl⟩
   ·rw[jqt]at h;exact wpAny_eqBool_int h
   ·rw[jqu]at h;exact SeqAt.EqAt.int_str i t y u _ _ _ _ h
  ·rcases jcy hv with⟨j,u,rfl,rfl⟩|⟨y,u,rfl,rfl⟩
   ·rw[jqv]at h;exact SeqAt.EqAt.str_int x t j u _ _ _ _ h
   ·rw[jqw]at h;exact wpAny_eqBool_str h
 «strs»:=λk x t v h=>by
  rcases jcy h with⟨i,u,rfl,e⟩|⟨y,u,rfl,e⟩
  ·exact nomatch e
  ·injection e with e1 _
   subst e1
   cases v <;> rfl
theorem jk5(prog:Program)(w:World)(i:Int)(t:Tok):(jcr prog w).is (.inl i) (.int i t)=true:=jni i t
theorem jk6(prog:Program)(w:World)(x:Str)(t:Tok):(jcr prog w).is (.inr x) (.str x t)=true:=jnj x t
inductive V where
 |non|bl (b:Bool)|int (i:Int)|str (x:Str)|byt (b:Array UInt8)|flt (b:UInt64)|ref (a:Addr)|ty (n:String)
 deriving DecidableEq
def RelV:V->Value->Prop
 |.non,u=>u=Value.none
 |.bl b,u=>u=Value.bool b
 |.int i,u=>∃t,u=Value.int i t
 |.str x,u=>∃t,u=Value.str x t
 |.byt b,u=>∃t,u=Value.bytes b t
 |.flt b,u=>∃t,u=Value.float b t
 |.ref a,u=>u=Value.ref a
 |.ty n,u=>u=Value.type n
abbrev Vals:List V->List Value->Prop:=Paired RelV
theorem Vals.length{xs:List V}{us:List Value}(r:Vals xs us):xs.length=us.length:=Ip r
theorem Vals.get:∀{xs:List V}{us:List Value}{i:Nat}{x:V},Vals xs us->xs[i]?=some x->∃u,us[i]?=some u/\RelV x u
 |_,_,_,_,.nil,e=>by simp at e
 |_,_,0,_,.cons r _,e=>by simp at e;subst e;exact⟨_,rfl,r⟩
 |_,_,i+1,x,.cons _ t,e=>by
  obtain⟨u,h1,h2⟩:=Vals.get (i:=i) (x:=x) t (by simpa using e)
  exact⟨u,by simpa using h1,h2⟩
theorem Vals.set{x:V}{u:Value}(r:RelV x u):∀{xs:List V}{us:List Value}(i:Nat),Vals xs us->Vals (xs.set i x) (us.set i u)
 |_,_,_,.nil=>.nil
 |_,_,0,.cons _ t=>.cons r t
 |_,_,i+1,.cons q t=>.cons q (Vals.set r i t)
theorem Vals.append:∀{xs ys:List V}{us ws:List Value},Vals xs us->Vals ys ws->Vals (xs++ys) (us++ws)
 |_,_,_,_,.nil,s=>s
 |_,_,_,_,.cons r t,s=>.cons r (Vals.append t s)
theorem Vals.take:∀{xs:List V}{us:List Value}(n:Nat),Vals xs us->Vals (xs.take n) (us.take n)
 |_,_,0,_=>.nil
 |_,_,_+1,.nil=>.nil
 |_,_,n+1,.cons r t=>.cons r (Vals.take n t)
theorem Vals.drop:∀{xs:List V}{us:List Value}(n:Nat),Vals xs us->Vals (xs.drop n) (us.drop n)
 |_,_,0,r=>r
 |_,_,_+1,.nil=>.nil
 |_,_,n+1,.cons _ t=>Vals.drop n t
def RelO:Option V->Option Value->Prop
 |some v,some u=>RelV v u
 |none,none=>True
 |_,_=>False
def KV{κ:Type}:List (κ×V)->List (κ×Value)->Prop:=Paired fun(p:κ×V) (q:κ×Value)=>p.1=q.1/\RelV p.2 q.2
def kV:Key->V
 |.inl i=>.int i
 |.inr x=>.str x
inductive HO where
  |lst (xs:List V)
  |tup (xs:List V)
  |dK (kvs:List (Key×V))|dT (kvs:List (List Key×V))
  |set (S:Int->Bool) (n:Nat)
  |ins (C dx:Addr) (fs:List (Str×V))
  |own (x:Addr)
  |xd (fs:List (Str×V))
  |met (f x:Addr)
  |rng (lo hi:Int)
  |frz (o:Obj) (u:HO)
  |tbl (ps:Array Value)
  |ext (φ:Heap->Prop)
abbrev Hp:=Addr->Option HO
def upd(H:Hp)(a:Addr)(o:HO):Hp:=λb=>if b=a then some o else H b
theorem jc{H:Hp}{a:Addr}{o:HO}:upd H a o a=some o:=by unfold upd;rw[Ad rfl]
theorem jd{H:Hp}{a b:Addr}{o:HO}(h:b≠a):upd H a o b=H b:=by unfold upd;rw[Aa h]
theorem jf5{H:Hp}{a:Addr}{o u:HO}:upd (upd H a o) a u=upd H a u:=by
 funext b;unfold upd;split <;> rfl
theorem ji9{H:Hp}{a b:Addr}{o u:HO}(h:H a=some o)(h':H b=some u)(d:o≠u):a≠b:=by
 intro e;subst e;rw[h]at h';exact d (Au h')
theorem jh{H:Hp}{a b:Addr}{o:HO}(h:H a=some o)(h':H b=none):a≠b:=by
 intro e;subst e;rw[h]at h';cases h'
section
variable(P:Program)(w:World)
def ObjOk(H:Hp)(h:Heap)(a:Addr):HO->Prop
 |.lst xs=>xs.length<=sizeLine/\∃(its:List Value)(n:Nat),Vals xs its/\h.get? a=some {cls:=.type "list",data:=.seq its.toArray n}
 |.tup xs=>xs.length<=sizeLine/\∃its:List Value,Vals xs its/\IsTup h a its.toArray
 |.dK kvs=>kvs.length<=sizeLine/\(a == sysModules)=false/\∃vs,KV kvs vs/\h.DictOf (jcr P w) a vs
 |.dT kvs=>kvs.length<=sizeLine/\(a == sysModules)=false/\∃xs:List (List Key×Addr×Value),
   Paired (fun(p:List Key×V) (q:List Key×Addr×Value)=>p.1=q.1/\H q.2.1=some (.tup (p.1.map kV))/\RelV p.2 q.2.2) kvs xs /\
   ∃o es ep,h.get? a=some o/\o.ExactDict/\o.data=.dict es ep/\es.toList=xs.map (entryOfKey (tupleKind (jcr P w)))/\(xs.map (·.1)).Nodup
 |.set S n=>h.SetOf (intKind P w) a S n
 |.ins C dx fs=>H dx=some (.own a)/\fs.length<=1000/\dx≠a/\h.get? a=some (PySem.W.instObj C dx) /\
   ∃mA,h.Ns1 dx mA/\(∀f,RelO (fs.lookup f) (mA f))/\PySem.Within mA (fs.map (·.1))
 |.own _=>∃o,h.get? a=some o
 |.xd fs=>∃mA,h.Ns1 a mA/\∀f,RelO (fs.lookup f) (mA f)
 |.rng lo hi=>∃t u v,h.get? a=some {cls:=.type "range",data:=.fields #[.int lo t,.int hi u,.int 1 v]}
 |.frz o u=>h.get? a=some o/\ObjOk H h a u
 |.tbl ps=>h.get? a=some {cls:=.none,data:=.fields ps}
 |.met f x=>h.get? a=some (PySem.W.methodObj (.ref f) (.ref x))
 |.ext φ=>φ h/\(∃o,h.get? a=some o)/\∀h1 h2:Heap,φ h1->(∀o,h1.get? a=some o->h2.get? a=some o)->φ h2
def HOk(H:Hp)(h:Heap):Prop:=∀a o,H a=some o->ObjOk P w H h a o
end
section
variable{P:Program}{w:World}{H H':Hp}{h h':Heap}{a:Addr}{o:HO}
theorem ObjOk.lt(x:ObjOk P w H h a o):a<h.objs.size:=by
 cases o with
 |lst xs=>obtain⟨_,_,_,_,e⟩:=x;exact Ah e
 |tup xs=>obtain⟨_,_,_,p⟩:=x;exact p.lt
 |dK kvs=>obtain⟨_,_,_,_,o,_,_,e,_⟩:=x;exact Ah e
 |dT kvs=>obtain⟨_,_,_,_,o,_,_,e,_⟩:=x;exact Ah e
 |set S n=>obtain⟨o,_,_,_,e,_⟩:=x;exact Ah e
 |ins C dx fs=>obtain⟨_,_,_,e,_⟩:=x;exact Ah e
 |own y=>obtain⟨_,e⟩:=x;exact Ah e
 |xd fs=>obtain⟨_,⟨_,_,_,e,_⟩,_⟩:=x;exact Ah e
 |rng lo hi=>obtain⟨_,_,_,e⟩:=x;exact Ah e
 |frz ob u=>obtain⟨e,_⟩:=x;exact Ah e
 |tbl ps=>exact Ah (show h.get? a=some _ from x)
 |met f y=>exact Ah (show h.get? a=some _ from x)
 |ext φ=>obtain⟨_,⟨_,e⟩,_⟩:=x;exact Ah e
theorem Paired.mapP{α β:Type}{F G:α->β->Prop}:∀{l₁:List α}{l₂:List β},Paired F l₁ l₂->(∀a b,F a b->G a b)->Paired G l₁ l₂
 |_,_,.nil,_=>.nil
 |_,_,.cons r t,f=>.cons (f _ _ r) (Paired.mapP t f)
theorem ObjOk.stay(x:ObjOk P w H h a o)(k:∀b u,(b=a\/H b=some (.own a))->h.get? b=some u->h'.get? b=some u)
  (ho:∀b,H b=some (.own a)->H' b=some (.own a)) (ht:∀b xs,H b=some (.tup xs)->H' b=some (.tup xs)):ObjOk P w H' h' a o:=by
 induction o with
 |lst xs=>obtain⟨z,its,n,r,e⟩:=x;exact⟨z,its,n,r,k _ _ (.inl rfl) e⟩
 |tup xs=>obtain⟨z,its,r,ob,e,c⟩:=x;exact⟨z,its,r,ob,k _ _ (.inl rfl) e,c⟩
 |dK kvs=>obtain⟨z,y,vs,r,ob,es,ep,e,c⟩:=x;exact⟨z,y,vs,r,ob,es,ep,k _ _ (.inl rfl) e,c⟩
 |dT kvs =>
  obtain⟨z,y,xs,r,ob,es,ep,e,c⟩:=x
  exact⟨z,y,xs,Paired.mapP r λp q z=>⟨z.1,ht _ _ z.2.1,z.2.2⟩,ob,es,ep,k _ _ (.inl rfl) e,c⟩
 |set S n=>obtain⟨ob,es,ep,t,e,c⟩:=x;exact⟨ob,es,ep,t,k _ _ (.inl rfl) e,c⟩
 |ins C dx fs =>
  obtain⟨d,z,ne,e,mA,⟨od,es,ep,e2,c⟩,r⟩:=x
  exact⟨ho _ d,z,ne,k _ _ (.inl rfl) e,mA,⟨od,es,ep,k _ _ (.inr d) e2,c⟩,r⟩
 |own y=>obtain⟨ob,e⟩:=x;exact⟨ob,k _ _ (.inl rfl) e⟩
 |xd fs=>obtain⟨mA,⟨od,es,ep,e,c⟩,r⟩:=x;exact⟨mA,⟨od,es,ep,k _ _ (.inl rfl) e,c⟩,r⟩
 |rng lo hi=>obtain⟨t,u,v,e⟩:=x;exact⟨t,u,v,k _ _ (.inl rfl) e⟩
 |frz ob u ih=>obtain⟨e,q⟩:=x;exact⟨k _ _ (.inl rfl) e,ih q⟩
 |tbl ps =>
  have e:h.get? a=some {cls:=.none,data:=.fields ps}:=x
  show h'.get? a=some {cls:=.none,data:=.fields ps}
  exact k a _ (.inl rfl) e
 |met f y =>
  have e:h.get? a=some (PySem.W.methodObj (.ref f) (.ref y)):=x
  show h'.get? a=some (PySem.W.methodObj (.ref f) (.ref y))
  exact k a _ (.inl rfl) e
 |ext φ=>obtain⟨p,⟨o,e⟩,st⟩:=x;exact⟨st _ _ p λo q=>k _ _ (.inl rfl) q,⟨o,k _ _ (.inl rfl) e⟩,st⟩
theorem HOk.lt(x:HOk P w H h)(e:H a=some o):a<h.objs.size:=(x a o e).lt
theorem HOk.fresh(x:HOk P w H h)(e:h.objs.size<=a):H a=none:=by
 cases q:H a with
 |none=>rfl
 |some u=>exact absurd (Aq (x.lt q) e) (Oj _)
theorem HOk.kept(x:HOk P w H h)(k:∀b u,h.get? b=some u->h'.get? b=some u):HOk P w H h':=λa o e =>
 (x a o e).stay (λb u _ q=>k b u q) (λ_ q=>q) λ_ _ q=>q
theorem HOk.laid(x:HOk P w H h)(k:∀b u,h.get? b=some u->h'.get? b=some u)(hp:h.objs.size<=a)(new:ObjOk P w (upd H a o) h' a o):HOk P w (upd H a o) h':=λb u e=>by
 have hn:=x.fresh hp
 by_cases hb:b=a
 ·subst hb;rw[jc]at e;cases e;exact new
 ·rw[jd hb]at e
  exact(x b u e).stay (λc v _ q=>k c v q) (λc q=>by rw[jd (jh q hn)];exact q) λc xs q=>by rw[jd (jh q hn)];exact q
end
def Rd(H:Hp)(a:Addr)(u:HO):Prop:=H a=some u\/∃o,H a=some (.frz o u)
theorem Rd.ok{P:Program}{w:World}{H:Hp}{h:Heap}{a:Addr}{u:HO}(r:Rd H a u)(x:HOk P w H h):ObjOk P w H h a u:=by
 rcases r with r|⟨o,r⟩
 ·exact x a u r
 ·obtain⟨_,q⟩:=x a _ r
  exact q
def Mut:Option HO->Prop
 |some (.lst _)=>True
 |some (.dK _)=>True
 |some (.dT _)=>True
 |some (.set _ _)=>True
 |some (.ins _ _ _)=>True
 |some (.ext _)=>True
 |_=>False
section
variable{P:Program}{w:World}{H:Hp}{h h':Heap}{x e:Addr}{o':HO}
theorem HOk.write(ok:HOk P w H h)(mu:Mut (H x))(he:e=x\/H e=some (.own x))(k:∀b u,b≠e->h.get? b=some u->h'.get? b=some u)(heo:∃u,h'.get? e=some u)
  (new:ObjOk P w (upd H x o') h' x o'):HOk P w (upd H x o') h':=λb u q=>by
 have nown:∀c y,H c=some (.own y)->c≠x:=λc y r z=>by subst z;rw[r]at mu;exact mu
 have ntup:∀c xs,H c=some (.tup xs)->c≠x:=λc xs r z=>by subst z;rw[r]at mu;exact mu
 by_cases hb:b=x
 ·subst hb;rw[jc]at q;cases q;exact new
 ·rw[jd hb]at q
  by_cases hbe:b=e
  ·have q':H b=some (.own x):=by
    rcases he with z|z
    ·exact absurd (hbe.trans z) hb
    ·rw[hbe];exact z
   rw[q]at q';cases q'
   obtain⟨v,hv⟩:=heo
   exact⟨v,by rw[hbe];exact hv⟩
  ·refine(ok b u q).stay (λc v hc r=>k c v ?_ r) (λc r=>by rw[jd (nown c b r)];exact r) λc xs r=>by rw[jd (ntup c xs r)];exact r
   rcases hc with rfl|hc
   ·exact hbe
   ·rintro rfl
    rcases he with z|z
    ·exact nown c b hc z
    ·rw[hc]at z;cases z;exact hb rfl
end
structure Un(fs ex:List Addr)(H H':Hp)(h h':Heap):Prop where
 keep:∀b o,h.get? b=some o->H b=none->b∉fs->b∉ex->h'.get? b=some o
 slot:∀b o,h.get? b=some o->H b=none->b∈fs->b∉ex->∃sl,h'.get? b=some {o with slots:=sl}
 free:∀b o,h.get? b=some o->H b=none->b∉ex->H' b=none
 there:∀b o,h.get? b=some o->b∉ex->∃o',h'.get? b=some o'
 tups:∀b xs,H b=some (.tup xs)->H' b=some (.tup xs)
 frzs:∀b o u,H b=some (.frz o u)->H' b=some (.frz o u)
 tbls:∀b ps,H b=some (.tbl ps)->∃more,H' b=some (.tbl (ps++more))
section
variable{fs fs' ex ex':List Addr}{H H1 H2:Hp}{h h1 h2 h':Heap}{a x e:Addr}{o:HO}
theorem Un.any(u:Un fs ex H H1 h h1){b:Addr}{ob:Obj}(q:h.get? b=some ob)(n:H b=none)(hx:b∉ex):∃sl,h1.get? b=some {ob with slots:=sl}:=by
 by_cases hb:b∈fs
 ·exact u.slot b ob q n hb hx
 ·exact⟨ob.slots,u.keep b ob q n hb hx⟩
theorem Un.kept(k:∀b u,h.get? b=some u->h'.get? b=some u):Un fs ex H H h h' :=
 ⟨λb ob q _ _ _=>k b ob q,λb ob q _ _ _=>⟨ob.slots,k b ob q⟩,λ_ _ _ n _=>n,λb ob q _=>⟨ob,k b ob q⟩,λ_ _ q=>q,λ_ _ _ q=>q,λ_ ps q=>⟨#[],by rw[q];simp⟩⟩
theorem Un.refl:Un fs ex H H h h:=Un.kept λ_ _ q=>q
theorem Un.laid(k:∀b u,h.get? b=some u->h'.get? b=some u)(hp:h.objs.size<=a)(hn:H a=none):Un fs ex H (upd H a o) h h' where
 keep:=λb u q _ _ _=>k b u q
 slot:=λb u q _ _ _=>⟨u.slots,k b u q⟩
 free:=λb u q n _=>by rw[jd (Ar (Aq (Ah q) hp))];exact n
 there:=λb u q _=>⟨u,k b u q⟩
 tups:=λb xs q=>by rw[jd (jh q hn)];exact q
 frzs:=λb u xs q=>by rw[jd (jh q hn)];exact q
 tbls:=λb ps q=>⟨#[],by rw[jd (jh q hn),q];simp⟩
theorem Un.write(mu:Mut (H x))(he:e=x\/H e=some (.own x))(k:∀b u,b≠e->h.get? b=some u->h'.get? b=some u)(heo:∃u,h'.get? e=some u):Un fs ex H (upd H x o) h h':=by
 have hx:∀b,H b=none->b≠x:=λb n z=>by subst z;rw[n]at mu;exact mu
 have hb:∀b,H b=none->b≠e:=λb n z=>by
  subst z
  rcases he with r|r
  ·exact hx b n r
  ·rw[n]at r;cases r
 have hm:∀b u,H b=some u->¬Mut (some u)->b≠x:=λb u q nm z=>by subst z;rw[q]at mu;exact nm mu
 refine⟨λb u q n _ _=>k b u (hb b n) q,λb u q n _ _=>⟨u.slots,k b u (hb b n) q⟩,λb u q n _=>by rw[jd (hx b n)];exact n,λb u q _=>?_,
  λb xs q=>by rw[jd (hm b _ q λz=>z)];exact q,λb u xs q=>by rw[jd (hm b _ q λz=>z)];exact q,λb ps q=>⟨#[],by rw[jd (hm b _ q λz=>z),q];simp⟩⟩
 by_cases hbe:b=e
 ·subst hbe;exact heo
 ·exact⟨u,k b u hbe q⟩
end
def trk(h:Heap)(H:Hp):List Addr:=(List.range h.objs.size).filter λa=>(H a).isSome
def hidT(h:Heap)(H:Hp):Heap:=PySem.W.hideAll h (trk h H)
theorem jne(h:Heap)(H:Hp):(hidT h H).objs.size=h.objs.size:=PySem.W.hideAll_size _ _
theorem jn9{h:Heap}{H:Hp}{b:Addr}{o:Obj}(e:h.get? b=some o)(n:H b=none):(hidT h H).get? b=some o :=
 PySem.W.hideAll_get _ e λhm=>by
  have q:(H b).isSome=true:=(U8.mp hm).2
  rw[n]at q;simp at q
theorem jpx{h:Heap}{H:Hp}{b:Addr}{o:Obj}(e:(hidT h H).get? b=some o):h.get? b=some o/\H b=none:=by
 have e':h.get? b=some o:=PySem.W.of_hideAll (trk h H) e
 refine⟨e',?_⟩
 cases q:H b with
 |none=>rfl
 |some x =>
  have hm:b∈trk h H:=U8.mpr ⟨Ud.mpr (Ah e'),by simp[q]⟩
  have z:(hidT h H).get? b=none:=PySem.W.hideAll_none (trk h H) hm
  rw[z]at e;cases e
structure Mod(K:PySem.W.Frag)(mg:Str->Option Value)(base:Heap):Prop where
 kin:K.In base
 glob:base.Ns mainGlobals mg
 blt:∃mb,base.Ns builtinsNs mb/\∀x:Str,x≠"__name__"->mb x=bootBuiltins x
 nolimit:base.NoLimit
structure Cx where
 prog:Program
 w:World
 K:PySem.W.Frag
 mg:Str->Option Value
 base:Heap
 A:Around
 N:List Str
 s₀:Shared
 H₀:Hp
 env:Env
 outer:List Env
 stack:List Env
 ex:List Addr
 fn:Str->Bool
 calm:Bool
 pn:List (Addr×Obj)
 xe:Value->Shared->Prop
def frs(l:List Env):List Addr:=l.filterMap (·.frame)
abbrev Cx.fs(X:Cx):List Addr:=frs X.outer
def Vis(sc:Scope)(x:Str):Prop:=sc.names.lookup x=some .local\/sc.names.lookup x=some .cell\/sc.names.lookup x=some .free
def Loc(sc:Scope)(x:Str):Prop:=sc.names.lookup x=some .local\/sc.names.lookup x=some .cell
def Look(env:Env)(h:Heap)(m:Str->Option Value)(x:Str)(u:Value):Prop :=
 (env.kindOf x=some .local/\m x=some u)\/((env.kindOf x=some .cell\/env.kindOf x=some .free)/\∃c,env.cells.lookup x=some c/\h.IsCell c (some u))
structure Cx.Ok(X:Cx):Prop where
 mod:Mod X.K X.mg X.base
 kind:X.env.scope.kind=.function
 glob:X.env.globals=mainGlobals
 blt:X.env.builtins=builtinsNs
 above:X.s₀.heap.objs.size<=X.env.locals
 inj:∀x y c,X.env.cells.lookup x=some c->X.env.cells.lookup y=some c->x=y
 has:∀x,(X.env.kindOf x=some .cell\/X.env.kindOf x=some .free)->∃c,X.env.cells.lookup x=some c
 cab:∀x c,X.fn x=true->X.env.cells.lookup x=some c->X.s₀.heap.objs.size<=c
 hd:X.calm=true->X.A.handled=none
 frames:X.A.frames=some X.stack
 stk:X.stack=X.outer\/(X.stack=X.env::X.outer/\X.env.frame=some X.env.locals)
 exf:∀b∈X.ex,b≠X.env.locals/\∀x c,X.env.cells.lookup x=some c->c≠b
 bs:∀b o,X.base.get? b=some o->X.s₀.heap.get? b=some o/\X.H₀ b=none
 bsz:X.base.objs.size<=X.s₀.heap.objs.size
 noex:∀b o,X.base.get? b=some o->b∉X.ex
 exfs:∀b∈X.ex,b∉X.fs
 funs:X.s₀.heap.FunFrames X.base X.outer
 frf:∀b∈X.fs,X.H₀ b=none
structure Inv(X:Cx)(pins:List (Addr×Obj))(σ:List (Option V))(H:Hp)(s:Shared):Prop where
 ok:X.Ok
 os:s.os=X.s₀.os
 bare:AllBare s.gens
 base:Un X.fs X.ex X.H₀ H X.s₀.heap s.heap
 loc:∃m,s.heap.Ns X.env.locals m/\∀(i:Nat)(x:Str)(v:V),X.N[i]?=some x->σ[i]?=some (some v)->Vis X.env.scope x->∃u,RelV v u/\Look X.env s.heap m x u
 cell:∀x c,X.env.cells.lookup x=some c->∃v,s.heap.IsCell c v
 free:H X.env.locals=none
 freeC:∀x c,X.env.cells.lookup x=some c->H c=none
 pin:∀p∈X.pn++pins,s.heap.get? p.1=some p.2/\H p.1=none/\p.1≠X.env.locals/\p.1∉X.fs/\∀v,p.2.data≠.cell v
 hok:HOk X.prog X.w H s.heap
 len:σ.length=X.N.length
section
variable{X:Cx}{pins:List (Addr×Obj)}{σ:List (Option V)}{H H':Hp}{s:Shared}{h':Heap}
theorem Cx.Ok.nofr(ok:X.Ok){b:Addr}{o:Obj}(e:X.base.get? b=some o):b∉X.fs:=λhb=>by
 have:=(ok.funs.mem hb).1
 rw[e]at this;cases this
theorem Inv.bs(I:Inv X pins σ H s):∀b o,X.base.get? b=some o->s.heap.get? b=some o/\H b=none:=λb o e =>
 ⟨I.base.keep b o (I.ok.bs b o e).1 (I.ok.bs b o e).2 (I.ok.nofr e) (I.ok.noex b o e),I.base.free b o (I.ok.bs b o e).1 (I.ok.bs b o e).2 (I.ok.noex b o e)⟩
theorem Inv.bk(I:Inv X pins σ H s):∀b o,X.base.get? b=some o->s.heap.get? b=some o:=λb o e=>(I.bs b o e).1
theorem Inv.mod(I:Inv X pins σ H s):Mod X.K X.mg X.base:=I.ok.mod
theorem Inv.kIn(I:Inv X pins σ H s):X.K.In s.heap:=I.ok.mod.kin.keeps I.bk
theorem Inv.lt(I:Inv X pins σ H s):X.env.locals<s.heap.objs.size:=let⟨_,hn,_⟩:=I.loc;hn.lt
theorem Inv.sz(I:Inv X pins σ H s):X.s₀.heap.objs.size<=s.heap.objs.size:=Ib I.ok.above (U9 I.lt)
theorem Inv.nofs(I:Inv X pins σ H s){a:Addr}(h:s.heap.objs.size<=a):a∉X.fs:=λhb=>by
 obtain⟨_,o,ho,_⟩:=I.ok.funs.mem hb
 exact absurd (Aq (Ah ho) (Ib I.sz h)) (Oj _)
theorem Inv.cne(I:Inv X pins σ H s):∀x c,X.env.cells.lookup x=some c->c≠X.env.locals:=λx c e z=>by
 obtain⟨v,o,ho,hd⟩:=I.cell x c e
 obtain⟨m,⟨o',es,ep,ho',hd',_⟩,_⟩:=I.loc
 rw[z,ho']at ho;cases ho;rw[hd']at hd;cases hd
theorem Inv.funs(I:Inv X pins σ H s):s.heap.FunFrames X.base X.outer:=by
 have all:∀(l:List Env),(∀b∈frs l,b∈X.fs)->X.s₀.heap.FunFrames X.base l->s.heap.FunFrames X.base l:=by
  intro l
  induction l with
  |nil=>intro _ _;trivial
  |cons env r ih =>
   intro hs hl
   obtain⟨hk,⟨L,o,hf,hn,ho,hd⟩,hr⟩:=hl
   have hL:L∈X.fs:=hs L (by unfold frs;rw[List.filterMap_cons,hf];exact Oe)
   obtain⟨sl,e⟩:=I.base.slot L o ho (I.ok.frf L hL) hL λz=>I.ok.exfs L z hL
   exact⟨hk,⟨L,_,hf,hn,e,hd⟩,ih (λb hb=>hs b (by unfold frs;rw[List.filterMap_cons,hf];exact Ig _ hb)) hr⟩
 exact all X.outer (λ_ hb=>hb) I.ok.funs
theorem Inv.stack(I:Inv X pins σ H s):s.heap.FunFrames X.base X.stack:=by
 rcases I.ok.stk with e|⟨e,hf⟩
 ·rw[e];exact I.funs
 ·rw[e]
  obtain⟨m,hn,_⟩:=I.loc
  refine .cons (by rw[I.ok.kind];decide) hf hn ?_ I.funs
  exact Uj (Ib I.ok.bsz I.ok.above)
theorem Inv.stkSub(I:Inv X pins σ H s):∀b∈frs X.stack,b∈X.env.locals::X.fs:=λb hb=>by
 rcases I.ok.stk with e|⟨e,hf⟩
 ·rw[e]at hb;exact Ig _ hb
 ·rw[e]at hb
  unfold frs at hb
  rw[List.filterMap_cons,hf]at hb
  exact hb
theorem Inv.stkFree(I:Inv X pins σ H s):∀b∈frs X.stack,H b=none:=λb hb=>by
 rcases Aw.mp (I.stkSub b hb)with e|hb
 ·rw[e];exact I.free
 ·obtain⟨_,o,ho,_⟩:=I.ok.funs.mem hb
  exact I.base.free b o ho (I.ok.frf b hb) λz=>I.ok.exfs b z hb
theorem Inv.step{g':Array GenState}{t':Nat}{d':Drawn}{ch:List Addr}(I:Inv X pins σ H s)
  (hch:∀b∈ch,(b∈X.ex\/X.s₀.heap.objs.size<=b)/\b≠X.env.locals/\(∀x c,X.env.cells.lookup x=some c->c≠b)/\∀p∈X.pn++pins,p.1≠b)
  (keep:∀b o,b≠X.env.locals->b∉X.fs->b∉ch->s.heap.get? b=some o->H b=none->h'.get? b=some o)
  (slot:∀b o,b≠X.env.locals->b∈X.fs->b∉ch->s.heap.get? b=some o->H b=none->∃sl,h'.get? b=some {o with slots:=sl}) (free:∀b o,b∉ch->s.heap.get? b=some o->H b=none->H' b=none)
  (there:∀b o,b∉ch->s.heap.get? b=some o->∃o',h'.get? b=some o')
  (tups:∀b xs,H b=some (.tup xs)->H' b=some (.tup xs)) (frzs:∀b o u,H b=some (.frz o u)->H' b=some (.frz o u)) (tbls:∀b ps,H b=some (.tbl ps)->∃more,H' b=some (.tbl (ps++more)))
  (ns:∀m,s.heap.Ns X.env.locals m->h'.Ns X.env.locals m) (hok:HOk X.prog X.w H' h') (hg:AllBare g') :
  Inv X pins σ H' {s with heap:=h',gens:=g',drawn:=d',toks:=t'}:=by
 have neL:∀b o,X.s₀.heap.get? b=some o->b≠X.env.locals:=λb o e=>Ar (Aq (Ah e) I.ok.above)
 have neC:∀b o,X.s₀.heap.get? b=some o->b∉X.ex->b∉ch:=λb o e hx hb=>by
  rcases(hch b hb).1 with z|z
  ·exact hx z
  ·exact absurd (Aq (Ah e) z) (Oj _)
 have cellK:∀x c,X.env.cells.lookup x=some c->∀v,s.heap.IsCell c v->h'.IsCell c v:=λx c e v ⟨o,ho,hd⟩=>by
  have nch:c∉ch:=λz=>(hch c z).2.2.1 x c e rfl
  by_cases hc:c∈X.fs
  ·obtain⟨sl,q⟩:=slot c o (I.cne x c e) hc nch ho (I.freeC x c e)
   exact⟨_,q,hd⟩
  ·exact⟨o,keep c o (I.cne x c e) hc nch ho (I.freeC x c e),hd⟩
 refine⟨I.ok,I.os,hg,⟨λb o e n hb hx=>?_,λb o e n hb hx=>?_,λb o e n hx=>?_,λb o e hx=>?_,λb xs e=>tups b xs (I.base.tups b xs e),λb o xs e=>frzs b o xs (I.base.frzs b o xs e),λb ps e=>?_⟩,?_,λx c e=>?_,?_,λx c e=>?_,λp hp=>?_,hok,I.len⟩
 ·exact keep b o (neL b o e) hb (neC b o e hx) (I.base.keep b o e n hb hx) (I.base.free b o e n hx)
 ·obtain⟨sl,e1⟩:=I.base.slot b o e n hb hx
  obtain⟨sl',e2⟩:=slot b _ (neL b o e) hb (neC b o e hx) e1 (I.base.free b o e n hx)
  exact⟨sl',e2⟩
 ·obtain⟨o',e1⟩:=I.base.there b o e hx
  exact free b o' (neC b o e hx) e1 (I.base.free b o e n hx)
 ·obtain⟨o',e1⟩:=I.base.there b o e hx
  exact there b o' (neC b o e hx) e1
 ·obtain⟨m1,e1⟩:=I.base.tbls b ps e
  obtain⟨m2,e2⟩:=tbls b _ e1
  exact⟨m1++m2,by rw[e2,Array.append_assoc]⟩
 ·obtain⟨m,hn,hl⟩:=I.loc
  refine⟨m,ns m hn,λi x v e1 e2 e3=>?_⟩
  obtain⟨u,r,l⟩:=hl i x v e1 e2 e3
  refine⟨u,r,?_⟩
  rcases l with l|⟨k,c,e,z⟩
  ·exact .inl l
  ·exact .inr ⟨k,c,e,cellK x c e _ z⟩
 ·obtain⟨v,z⟩:=I.cell x c e
  exact⟨v,cellK x c e v z⟩
 ·obtain⟨m,⟨o,_,_,ho,_⟩,_⟩:=I.loc
  exact free _ o (λz=>(hch _ z).2.1 rfl) ho I.free
 ·obtain⟨v,o,ho,hd⟩:=I.cell x c e
  exact free c o (λz=>(hch c z).2.2.1 x c e rfl) ho (I.freeC x c e)
 ·obtain⟨e,n,ne,nf,d⟩:=I.pin p hp
  have nch:p.1∉ch:=λz=>(hch p.1 z).2.2.2 p hp rfl
  exact⟨keep p.1 p.2 ne nf nch e n,free p.1 p.2 nch e n,ne,nf,d⟩
theorem Inv.un{t':Nat}(I:Inv X pins σ H s)(u:Un X.fs [] H H' s.heap h')(hok:HOk X.prog X.w H' h'):Inv X pins σ H' {s with heap:=h',toks:=t'}:=by
 obtain⟨m,⟨o,es,ep,ho,r⟩,_⟩:=id I.loc
 obtain⟨sl,hL⟩:=u.any ho I.free (by simp)
 exact I.step (g':=s.gens) (d':=s.drawn) (ch:=[]) (λ_ z=>nomatch z) (λb o _ hb _ e n=>u.keep b o e n hb (by simp)) (λb o _ hb _ e n=>u.slot b o e n hb (by simp)) (λb o _ e n=>u.free b o e n (by simp)) (λb o _ e=>u.there b o e (by simp)) u.tups u.frzs u.tbls (λm' hm=>by
  obtain⟨o',es',ep',ho',r'⟩:=hm
  rw[ho]at ho';cases ho'
  exact⟨_,es',ep',hL,r'⟩) hok I.bare
theorem Inv.call{g':Array GenState}{t':Nat}{d':Drawn}{ch:List Addr}(I:Inv X pins σ H s)(u:Un (frs X.stack) ch H H' s.heap h')(hok:HOk X.prog X.w H' h')(hg:AllBare g')
  (hch:∀b∈ch,(b∈X.ex\/X.s₀.heap.objs.size<=b)/\b≠X.env.locals/\(∀x c,X.env.cells.lookup x=some c->c≠b)/\∀p∈X.pn++pins,p.1≠b) :
  Inv X pins σ H' {s with heap:=h',gens:=g',drawn:=d',toks:=t'}:=by
 obtain⟨m,⟨o,es,ep,ho,r⟩,_⟩:=id I.loc
 obtain⟨sl,hL⟩:=u.any ho I.free λz=>(hch _ z).2.1 rfl
 exact I.step (ch:=ch) hch (λb o hL hb hc e n=>u.keep b o e n (λz=>(Aw.mp (I.stkSub b z)).elim hL hb) hc) (λb o _ _ hc e n=>u.any e n hc) (λb o hc e n=>u.free b o e n hc) (λb o hc e=>u.there b o e hc) u.tups u.frzs u.tbls (λm' hm=>by
  obtain⟨o',es',ep',ho',r'⟩:=hm
  rw[ho]at ho';cases ho'
  exact⟨_,es',ep',hL,r'⟩) hok hg
theorem Inv.turned{t':Nat}{it:Addr}(I:Inv X pins σ H s)(k:∀b o,b≠it->s.heap.get? b=some o->h'.get? b=some o)(hn:H it=none)(hL:it≠X.env.locals)
  (h1:it∈X.ex\/X.s₀.heap.objs.size<=it) (h2:∀x c,X.env.cells.lookup x=some c->c≠it) (h3:∀p∈X.pn++pins,p.1≠it):Inv X pins σ H {s with heap:=h',toks:=t'}:=by
 have nit:∀b u,H b=some u->b≠it:=λb u e z=>by rw[z,hn]at e;cases e
 refine I.step (g':=s.gens) (d':=s.drawn) (ch:=[it]) (λb hb=>?_) (λb o _ _ hc e _=>k b o (λz=>hc (by simp[z])) e) (λb o _ _ hc e _=>⟨o.slots,k b o (λz=>hc (by simp[z])) e⟩) (λ_ _ _ _ n=>n)
  (λb o hc e=>⟨o,k b o (λz=>hc (by simp[z])) e⟩) (λ_ _ e=>e) (λ_ _ _ e=>e) (λb ps e=>⟨#[],by rw[e];simp⟩) (λm hm=>?_) (λb u e=>?_) I.bare
 ·have e:b=it:=by simpa using hb
  subst e
  exact⟨h1,hL,h2,h3⟩
 ·obtain⟨o,es,ep,ho,r⟩:=hm
  exact⟨o,es,ep,k _ o (Ix hL) ho,r⟩
 ·refine(I.hok b u e).stay (λc v hc q=>k c v ?_ q) (λ_ q=>q) λ_ _ q=>q
  rcases hc with z|z
  ·rw[z];exact nit b u e
  ·exact nit c _ z
theorem Inv.tok(I:Inv X pins σ H s)(t:Nat):Inv X pins σ H {s with toks:=t}:=I.un (h':=s.heap) (t':=t) Un.refl I.hok
theorem Inv.kept{t':Nat}(I:Inv X pins σ H s)(k:∀b u,s.heap.get? b=some u->h'.get? b=some u):Inv X pins σ H {s with heap:=h',toks:=t'}:=I.un (Un.kept k) (I.hok.kept k)
theorem Inv.laid{a:Addr}{o:HO}{t':Nat}(I:Inv X pins σ H s)(k:∀b u,s.heap.get? b=some u->h'.get? b=some u)(hp:s.heap.objs.size<=a)(new:ObjOk X.prog X.w (upd H a o) h' a o) :
  Inv X pins σ (upd H a o) {s with heap:=h',toks:=t'}:=I.un (Un.laid k hp (I.hok.fresh hp)) (I.hok.laid k hp new)
theorem Inv.write{x e:Addr}{o:HO}{t':Nat}(I:Inv X pins σ H s)(mu:Mut (H x))(he:e=x\/H e=some (.own x))(k:∀b u,b≠e->s.heap.get? b=some u->h'.get? b=some u)(heo:∃u,h'.get? e=some u)
  (new:ObjOk X.prog X.w (upd H x o) h' x o):Inv X pins σ (upd H x o) {s with heap:=h',toks:=t'}:=I.un (Un.write mu he k heo) (I.hok.write mu he k heo new)
theorem Inv.pins_of{pins':List (Addr×Obj)}(I:Inv X pins σ H s)(h:∀p∈pins',s.heap.get? p.1=some p.2/\H p.1=none/\p.1≠X.env.locals/\p.1∉X.fs/\∀v,p.2.data≠.cell v):Inv X pins' σ H s :=
 ⟨I.ok,I.os,I.bare,I.base,I.loc,I.cell,I.free,I.freeC,λp hp=>(Ie.mp hp).elim (λz=>I.pin p (Og _ z)) (h p),I.hok,I.len⟩
theorem jgi{N:List Str}(hN:N.Nodup){i j:Nat}{x:Str}(a:N[i]?=some x)(b:N[j]?=some x):i=j:=by
 obtain⟨h1,e1⟩:=Ai.mp a
 obtain⟨h2,e2⟩:=Ai.mp b
 exact(List.getElem_inj hN).mp (e1.trans e2.symm)
theorem jiw{M:Model}{A:Around}{E:Value->Shared->Prop}{i:Nat}{x:Str}{v:V}{u:Value}{Q:Unit->Shared->Prop}(I:Inv X pins σ H s)(hN:X.N.Nodup)(hi:X.N[i]?=some x)(hx:Loc X.env.scope x)(r:RelV v u)
  (h:∀s',Inv X pins (σ.set i (some v)) H s'->(∃a,Heap.SameBut a s.heap s'.heap/\(a=X.env.locals\/X.env.cells.lookup x=some a))->Q () s') (hf:X.fn x=true\/X.env.scope.names.lookup x=some .local:=by first|exact .inl rfl|exact .inr rfl|assumption):wpAny M A (storeName X.env x u) Q E s:=by
 obtain⟨m,hn,hl⟩:=id I.loc
 have hcls:(X.env.scope.kind == .class || (X.env.scope.kind == .module && X.env.locals != X.env.globals))=false:=by rw[I.ok.kind];rfl
 have hiσ:i<σ.length:=by rw[I.len];exact(Ai.mp hi).1
 have cne:=I.cne
 have tracked:∀{a:Addr}{h':Heap},(∃o,s.heap.get? a=some o/\H a=none)->Heap.SameBut a s.heap h'->HOk X.prog X.w H h':=fun{a h'} ha hs b ob e=>by
  obtain⟨_,_,hfree⟩:=ha
  refine(I.hok b ob e).stay (λc w' hc q=>(hs.2 c ?_).trans q) (λ_ q=>q) λ_ _ q=>q
  rintro rfl
  rcases hc with rfl|hc
  ·rw[hfree]at e;cases e
  ·rw[hfree]at hc;cases hc
 rcases hx with hk|hk
 ·refine wpAny_storeName_local hk hn (λh' hn' hs=>?_) hcls
  obtain⟨oL,_,_,hoL,_⟩:=id hn
  refine h _ ⟨I.ok,I.os,I.bare,⟨λb o e n hb hx=>?_,λb o e n hb hx=>?_,I.base.free,λb o e hx=>?_,I.base.tups,I.base.frzs,I.base.tbls⟩,⟨_,hn',λj y v' e1 e2 e3=>?_⟩,λy c e=>?_,I.free,I.freeC,λp hp=>?_,tracked ⟨oL,hoL,I.free⟩ hs,by simpa using I.len⟩ ⟨_,hs,.inl rfl⟩
  ·exact(hs.2 b (Ar (Aq (Ah e) I.ok.above))).trans (I.base.keep b o e n hb hx)
  ·obtain⟨sl,e1⟩:=I.base.slot b o e n hb hx
   exact⟨sl,(hs.2 b (Ar (Aq (Ah e) I.ok.above))).trans e1⟩
  ·obtain⟨o',e1⟩:=I.base.there b o e hx
   exact⟨o',(hs.2 b (Ar (Aq (Ah e) I.ok.above))).trans e1⟩
  ·by_cases hj:j=i
   ·subst hj
    rw[hi]at e1;cases e1
    rw[List.getElem?_set_self hiσ]at e2
    cases e2
    exact⟨u,r,.inl ⟨hk,by simp⟩⟩
   ·rw[Wa (Ix hj)]at e2
    obtain⟨u',r',q⟩:=hl j y v' e1 e2 e3
    refine⟨u',r',?_⟩
    rcases q with⟨k,e⟩|⟨k,c,e,z⟩
    ·refine .inl ⟨k,?_⟩
     have:y≠x:=λe=>hj (jgi hN e1 (e▸hi))
     simp[this,e]
    ·exact .inr ⟨k,c,e,z.sameBut hs (cne y c e)⟩
  ·obtain⟨w',z⟩:=I.cell y c e
   exact⟨w',z.sameBut hs (cne y c e)⟩
  ·obtain⟨e,n,ne,nf,d⟩:=I.pin p hp
   exact⟨(hs.2 p.1 ne).trans e,n,ne,nf,d⟩
 ·have hfn:X.fn x=true:=by
   rcases hf with z|z
   ·exact z
   ·rw[z]at hk;cases hk
  obtain⟨c,hc⟩:=I.ok.has x (.inl hk)
  obtain⟨w',z⟩:=I.cell x c hc
  refine wpAny_storeName_cell I.ok.kind hk hc z (λh' hc' hs=>?_)
  obtain⟨oc,hoc,hocd⟩:=id z
  refine h {s with heap:=h'} ⟨I.ok,I.os,I.bare,⟨λb o e n hb hx=>?_,λb o e n hb hx=>?_,I.base.free,λb o e hx=>?_,I.base.tups,I.base.frzs,I.base.tbls⟩,⟨m,hn.sameBut hs (Ix (cne x c hc)),λj y v' e1 e2 e3=>?_⟩,λy c' e=>?_,I.free,I.freeC,λp hp=>?_,tracked ⟨oc,hoc,I.freeC x c hc⟩ hs,by simpa using I.len⟩ ⟨c,hs,.inr hc⟩
  ·exact(hs.2 b (Ar (Aq (Ah e) (I.ok.cab x c hfn hc)))).trans (I.base.keep b o e n hb hx)
  ·obtain⟨sl,e1⟩:=I.base.slot b o e n hb hx
   exact⟨sl,(hs.2 b (Ar (Aq (Ah e) (I.ok.cab x c hfn hc)))).trans e1⟩
  ·obtain⟨o',e1⟩:=I.base.there b o e hx
   exact⟨o',(hs.2 b (Ar (Aq (Ah e) (I.ok.cab x c hfn hc)))).trans e1⟩
  ·by_cases hj:j=i
   ·subst hj
    rw[hi]at e1;cases e1
    rw[List.getElem?_set_self hiσ]at e2
    cases e2
    exact⟨u,r,.inr ⟨.inl hk,c,hc,hc'⟩⟩
   ·rw[Wa (Ix hj)]at e2
    obtain⟨u',r',q⟩:=hl j y v' e1 e2 e3
    refine⟨u',r',?_⟩
    rcases q with q|⟨k,c',e,z'⟩
    ·exact .inl q
    ·refine .inr ⟨k,c',e,z'.sameBut hs ?_⟩
     rintro rfl
     exact hj (jgi hN e1 (I.ok.inj _ _ _ e hc▸hi))
  ·by_cases hcc:c'=c
   ·subst hcc;exact⟨_,hc'⟩
   ·obtain⟨w2,z2⟩:=I.cell y c' e
    exact⟨w2,z2.sameBut hs hcc⟩
  ·obtain⟨e,n,ne,nf,d⟩:=I.pin p hp
   refine⟨(hs.2 p.1 ?_).trans e,n,ne,nf,d⟩
   intro q
   rw[q,hoc]at e
   have q':oc=p.2:=Au e
   exact d w' (by rw[<-q'];exact hocd)
theorem je5{M:Model}{A:Around}{E:Value->Shared->Prop}{i:Nat}{x:Str}{v:V}{u:Value}{Q:Unit->Shared->Prop}(I:Inv X pins σ H s)(hN:X.N.Nodup)(hi:X.N[i]?=some x)(hx:Loc X.env.scope x)(r:RelV v u)
  (h:∀s',Inv X pins (σ.set i (some v)) H s'->Q () s') (hf:X.fn x=true\/X.env.scope.names.lookup x=some .local:=by first|exact .inl rfl|exact .inr rfl|assumption):wpAny M A (storeName X.env x u) Q E s :=
 jiw I hN hi hx r (λs' I' _=>h s' I') hf
theorem Inv.call'{s':Shared}{ch:List Addr}(I:Inv X pins σ H s)(ho:s'.os=s.os)(u:Un (frs X.stack) ch H H' s.heap s'.heap)(hok:HOk X.prog X.w H' s'.heap)(hg:AllBare s'.gens)
  (hch:∀b∈ch,(b∈X.ex\/X.s₀.heap.objs.size<=b)/\b≠X.env.locals/\(∀x c,X.env.cells.lookup x=some c->c≠b)/\∀p∈X.pn++pins,p.1≠b):Inv X pins σ H' s':=by
 obtain⟨h',g',d',t',o'⟩:=s'
 have e:o'=s.os:=ho
 subst e
 exact I.call (g':=g') (t':=t') (d':=d') u hok hg hch
end
abbrev XK:=Value->Option Addr->Hp->Prop
abbrev St:=List (Option V)
abbrev VK:=V->Hp->Prop
abbrev TE:=St->Hp->VK->Prop
abbrev TT:=St->Hp->(Bool->Hp->Prop)->Prop
abbrev TA:=St->Hp->(List V->Hp->Prop)->Prop
structure Ends where
 nx:St->Hp->Prop
 rt:VK
 bk:St->Hp->Prop:=λ_ _=>False
 ct:St->Hp->Prop:=λ_ _=>False
abbrev TS:=Ends->St->Hp->Prop
def EP(X:Cx)(pins:List (Addr×Obj))(σ:St)(Q:VK)(u:Value)(s':Shared):Prop:=∃v H',Inv X pins σ H' s'/\RelV v u/\Q v H'
def TP(X:Cx)(pins:List (Addr×Obj))(σ:St)(Q:Bool->Hp->Prop)(b:Bool)(s':Shared):Prop:=∃H',Inv X pins σ H' s'/\Q b H'
def AP(X:Cx)(pins:List (Addr×Obj))(σ:St)(Q:List V->Hp->Prop)(us:List Value)(s':Shared):Prop:=∃vs H',Inv X pins σ H' s'/\Vals vs us/\Q vs H'
def SP(X:Cx)(pins:List (Addr×Obj))(D:Ends)(f:Flow)(s':Shared):Prop :=
 match f with
 |.next=>∃σ' H',Inv X pins σ' H' s'/\D.nx σ' H'
 |.brk=>∃σ' H',Inv X pins σ' H' s'/\D.bk σ' H'
 |.cont=>∃σ' H',Inv X pins σ' H' s'/\D.ct σ' H'
 |.ret u=>∃v σ' H',Inv X pins σ' H' s'/\RelV v u/\D.rt v H'
def PE(X:Cx)(e:Expr)(t:TE):Prop :=
 ∀(pins:List (Addr×Obj))(s:Shared)(σ:St)(H:Hp)(Q:VK),Inv X pins σ H s->t σ H Q->wpAny (model X.prog X.w) X.A (eval e X.env) (EP X pins σ Q) X.xe s
def PT(X:Cx)(e:Expr)(t:TT):Prop :=
 ∀(pins:List (Addr×Obj))(s:Shared)(σ:St)(H:Hp)(Q:Bool->Hp->Prop),Inv X pins σ H s->t σ H Q->wpAny (model X.prog X.w) X.A (isTrue e X.env (eval e X.env)) (TP X pins σ Q) X.xe s
def PW(X:Cx)(e:Expr)(t:TT):Prop :=
 ∀(whole:Sem Value)(pins:List (Addr×Obj))(s:Shared)(σ:St)(H:Hp)(Q:Bool->Hp->Prop),Inv X pins σ H s->t σ H Q->wpAny (model X.prog X.w) X.A (isTrue e X.env whole) (TP X pins σ Q) X.xe s
theorem PW.pt{X:Cx}{e:Expr}{t:TT}(h:PW X e t):PT X e t:=h _
def PA(X:Cx)(es:List Expr)(t:TA):Prop :=
 ∀(pos:Pos)(pins:List (Addr×Obj))(s:Shared)(σ:St)(H:Hp)(Q:List V->Hp->Prop),Inv X pins σ H s->t σ H Q->wpAny (model X.prog X.w) X.A (spliced (backTo pos (starEach es X.env))) (AP X pins σ Q) X.xe s
def PS(X:Cx)(st:Stmt)(t:TS):Prop :=
 ∀(pins:List (Addr×Obj))(s:Shared)(σ:St)(H:Hp)(D:Ends),Inv X pins σ H s->t D σ H->wpAny (model X.prog X.w) X.A (exec st X.env) (SP X pins D) X.xe s
def PSs(X:Cx)(st:List Stmt)(t:TS):Prop :=
 ∀(pins:List (Addr×Obj))(s:Shared)(σ:St)(H:Hp)(D:Ends),Inv X pins σ H s->t D σ H->wpAny (model X.prog X.w) X.A (execs st X.env) (SP X pins D) X.xe s
theorem thn{α:Type}{t:Sem α}{Q Q':α->Shared->Prop}{M:Model}{A:Around}{E:Value->Shared->Prop}{s:Shared}(h:wpAny M A t Q E s)(hQ:∀a s,Q a s->Q' a s):wpAny M A t Q' E s:=Iw h hQ λ_ _ x=>x
section
variable{X:Cx}
def tVar(i:Nat):TE:=λσ H Q=>∃v,σ[i]?=some (some v)/\Q v H
def tC(v:V):TE:=λ_ H Q=>Q v H
theorem jci{i:Nat}{x:Str}{pos:Pos}(hN:X.N[i]?=some x)(hv:Vis X.env.scope x)(hd:(x == ("__debug__":Str))=false:=by decide)(hcd:(x == ("__classdict__":Str))=false:=by decide):PE X (.Name x pos) (tVar i):=by
 intro pins s σ H Q I h
 obtain⟨v,e,h⟩:=h
 obtain⟨m,hn,hl⟩:=I.loc
 obtain⟨u,r,l⟩:=hl i x v hN e hv
 have fin:EP X pins σ Q u s:=⟨v,H,I,r,h⟩
 rcases l with⟨hk,hm⟩|⟨hk,c,hc,hcell⟩
 ·exact wpAny_Name (wpAny_loadName_local I.ok.kind hk hn hm fin) hd
 ·rcases hk with hk|hk
  ·exact wpAny_Name (wpAny_loadName_cell I.ok.kind hk hc hcell fin) hd
  ·exact wpAny_Name (wpAny_loadName_free I.ok.kind hk hc hcell fin hcd) hd
theorem pe_int{i j pos}:PE X (.Constant (.int i) j pos) (tC (.int i)):=λ_ _ _ H _ I h=>wpAny_Constant_int ⟨.int i,H,I.tok _,⟨_,rfl⟩,h⟩
theorem pe_bl{b j pos}:PE X (.Constant (.bool b) j pos) (tC (.bl b)):=λ_ _ _ H _ I h=>Constant_bool ⟨.bl b,H,I,rfl,h⟩
theorem pe_str{x j pos}:PE X (.Constant (.str x) j pos) (tC (.str x)):=λ_ _ _ H _ I h=>Calls.Constant_str ⟨.str x,H,I.tok _,⟨_,rfl⟩,h⟩
def Gl(X:Cx)(x:Str):Prop:=X.env.kindOf x=some .globalImplicit
theorem jdr{E:Value->Shared->Prop}{pins:List (Addr×Obj)}{s:Shared}{σ:St}{H:Hp}{x:Str}{u:Value}{pos:Pos}{Q:Value->Shared->Prop}(I:Inv X pins σ H s)(hg:Gl X x)(hm:X.mg x=some u)(h:Q u s)
  (hd:(x == ("__debug__":Str))=false:=by decide):wpAny (model X.prog X.w) X.A (eval (.Name x pos) X.env) Q E s :=
 Calls.Name_function_global I.ok.kind hg (Calls.loadGlobal_global (by rw[I.ok.glob];exact I.mod.glob.keeps I.bk) hm h) hd
theorem jdt{E:Value->Shared->Prop}{pins:List (Addr×Obj)}{s:Shared}{σ:St}{H:Hp}{x:Str}{u:Value}{pos:Pos}{Q:Value->Shared->Prop}(I:Inv X pins σ H s)(hg:Gl X x)(hm:X.mg x=none)(hv:bootBuiltins x=some u)(h:Q u s)
  (hn:x≠"__name__":=by decide) (hd:(x == ("__debug__":Str))=false:=by decide):wpAny (model X.prog X.w) X.A (eval (.Name x pos) X.env) Q E s:=by
 obtain⟨mb,h1,h2⟩:=I.mod.blt
 exact Calls.Name_function_global I.ok.kind hg (Calls.loadGlobal_builtin (by rw[I.ok.glob];exact I.mod.glob.keeps I.bk) hm (by rw[I.ok.blt];exact h1.keeps I.bk) ((h2 x hn).trans hv) h) hd
theorem pe_glob{x:Str}{v:V}{u:Value}{pos:Pos}(hg:Gl X x)(hm:X.mg x=some u)(r:RelV v u)(hd:(x == ("__debug__":Str))=false:=by decide):PE X (.Name x pos) (tC v) :=
 λ_ _ _ H _ I h=>jdr I hg hm ⟨v,H,I,r,h⟩ hd
theorem pe_bltn{x:Str}{v:V}{u:Value}{pos:Pos}(hg:Gl X x)(hm:X.mg x=none)(hv:bootBuiltins x=some u)(r:RelV v u)(hn:x≠"__name__":=by decide)(hd:(x == ("__debug__":Str))=false:=by decide):PE X (.Name x pos) (tC v) :=
 λ_ _ _ H _ I h=>jdt I hg hm hv ⟨v,H,I,r,h⟩ hn hd
variable{a b:Expr}{ta tb:TE}{pos:Pos}
def PC(X:Cx)(op:CmpOp)(a b:Expr)(t:TE):Prop :=
 ∀(pins:List (Addr×Obj))(s:Shared)(σ:St)(H:Hp)(Q:VK),Inv X pins σ H s->t σ H Q ->
  wpAny (model X.prog X.w) X.A (eval a X.env) (λv s₁=>wpAny (model X.prog X.w) X.A (eval b X.env) (λu s₂=>wpAny (model X.prog X.w) X.A (compareOp op v u) (EP X pins σ Q) X.xe s₂) X.xe s₁) X.xe s
def tB(t:TE):TT:=λσ H Q=>t σ H λx H1=>∃c,x=.bl c/\Q c H1
theorem pt_cmp{op:CmpOp}{t:TE}(h:PC X op a b t)(h1:behindInMarks op b=false:=by first|exact nobehind _ (by decide) (by decide)|rfl):PT X (.Compare a [op] [b] pos) (tB t):=by
 intro pins s σ H Q I hw
 refine wpAny_isTrue_Compare1 (thn (h pins s σ H _ I hw) λv s1 h1=>thn h1 λu s2 h2=>thn h2 λc s3 ⟨x,H1,I1,r1,q1⟩=>?_) h1
 obtain⟨d,rfl,q⟩:=q1
 cases r1
 exact Oa ⟨H1,I1,q⟩
theorem pt_val{e:Expr}{t:TE}(h:PE X e t)(he:∀whole,isTrue e X.env whole=(do let v <-whole;standAt e.pos;holding [v] (truthy v)):=by intro _;rfl):PT X e (tB t):=by
 intro pins s σ H Q I hw
 refine isTrue_plain (thn (h pins s σ H _ I hw) λv s1 ⟨x,H1,I1,r1,q1⟩=>?_) (he _)
 obtain⟨d,rfl,q⟩:=q1
 cases r1
 exact Oa ⟨H1,I1,q⟩
variable{tA tB':TT}{rest:List Expr}
def tAnd(t u:TT):TT:=λσ H Q=>t σ H λc H1=>if c=true then u σ H1 Q else Q false H1
def tOr(t u:TT):TT:=λσ H Q=>t σ H λc H1=>if c=true then Q true H1 else u σ H1 Q
def tNot(t:TT):TT:=λσ H Q=>t σ H λc H1=>Q (!c) H1
theorem pw_and1(ha:PT X a tA):PW X (.BoolOp .And [a] pos) tA:=by
 intro wh pins s σ H Q I h
 refine isTrue_and (thn (ha pins s σ H Q I h) λc s1 e=>?_)
 cases c with
 |true=>exact isTrue_and_nil e
 |false=>exact e
theorem pw_or1(ha:PT X a tA):PW X (.BoolOp .Or [a] pos) tA:=by
 intro wh pins s σ H Q I h
 refine isTrue_or (thn (ha pins s σ H Q I h) λc s1 e=>?_)
 cases c with
 |false=>exact isTrue_or_nil e
 |true=>exact e
theorem pw_and(ha:PT X a tA)(hb:PW X (.BoolOp .And (b::rest) pos) tB'):PW X (.BoolOp .And (a::b::rest) pos) (tAnd tA tB'):=by
 intro wh pins s σ H Q I h
 refine isTrue_and (thn (ha pins s σ H _ I h) λc s1 ⟨H1,I1,q1⟩=>?_)
 cases c with
 |true=>exact hb wh pins s1 σ H1 Q I1 q1
 |false=>exact⟨H1,I1,q1⟩
theorem pw_or(ha:PT X a tA)(hb:PW X (.BoolOp .Or (b::rest) pos) tB'):PW X (.BoolOp .Or (a::b::rest) pos) (tOr tA tB'):=by
 intro wh pins s σ H Q I h
 refine isTrue_or (thn (ha pins s σ H _ I h) λc s1 ⟨H1,I1,q1⟩=>?_)
 cases c with
 |true=>exact⟨H1,I1,q1⟩
 |false=>exact hb wh pins s1 σ H1 Q I1 q1
theorem pt_not(ha:PT X a tA):PT X (.UnaryOp .Not a pos) (tNot tA):=by
 intro pins s σ H Q I h
 exact isTrue_not (ha pins s σ H (λc H1=>Q (!c) H1) I h)
def jjc(ta tb:TE):TE:=λσ H Q=>ta σ H λx H1=>∃c,x=.bl c/\if c=true then tb σ H1 Q else Q (.bl false) H1
def tOrV(ta tb:TE):TE:=λσ H Q=>ta σ H λx H1=>∃c,x=.bl c/\if c=true then Q (.bl true) H1 else tb σ H1 Q
def jjp(ta:TE):TE:=λσ H Q=>ta σ H λx H1=>∃c,x=.bl c/\Q (.bl (!c)) H1
theorem pe_one{op}{t:TE}(h:PE X a t):PE X (.BoolOp op [a] pos) t:=λpins s σ H Q I hw=>BoolOp_one (h pins s σ H Q I hw)
theorem pe_and(ha:PE X a ta)(hb:PE X (.BoolOp .And (b::rest) pos) tb):PE X (.BoolOp .And (a::b::rest) pos) (jjc ta tb):=by
 intro pins s σ H Q I h
 refine BoolOp_and (thn (ha pins s σ H _ I h) λv s1 ⟨x,H1,I1,r1,q1⟩=>?_)
 obtain⟨c,rfl,q1⟩:=q1
 cases r1
 refine Oa ?_
 cases c with
 |true=>exact hb pins s1 σ H1 Q I1 q1
 |false=>exact⟨.bl false,H1,I1,rfl,q1⟩
theorem pe_or(ha:PE X a ta)(hb:PE X (.BoolOp .Or (b::rest) pos) tb):PE X (.BoolOp .Or (a::b::rest) pos) (tOrV ta tb):=by
 intro pins s σ H Q I h
 refine BoolOp_or (thn (ha pins s σ H _ I h) λv s1 ⟨x,H1,I1,r1,q1⟩=>?_)
 obtain⟨c,rfl,q1⟩:=q1
 cases r1
 refine Oa ?_
 cases c with
 |false=>exact hb pins s1 σ H1 Q I1 q1
 |true=>exact⟨.bl true,H1,I1,rfl,q1⟩
theorem pe_not(ha:PE X a ta):PE X (.UnaryOp .Not a pos) (jjp ta):=by
 intro pins s σ H Q I h
 refine UnaryOp_ (thn (ha pins s σ H _ I h) λv s1 ⟨x,H1,I1,r1,q1⟩=>?_)
 obtain⟨c,rfl,q1⟩:=q1
 cases r1
 exact not_of (Oa ⟨.bl (!c),H1,I1,rfl,q1⟩)
def tIf(t:TT)(ta tb:TE):TE:=λσ H Q=>t σ H λc H1=>if c=true then ta σ H1 Q else tb σ H1 Q
theorem pe_ifExp{c:Expr}(hc:PT X c tA)(ha:PE X a ta)(hb:PE X b tb):PE X (.IfExp c a b pos) (tIf tA ta tb):=by
 intro pins s σ H Q I h
 refine wpAny_IfExp (thn (hc pins s σ H _ I h) λd s1 ⟨H1,I1,q1⟩=>?_)
 cases d with
 |true=>exact ha pins s1 σ H1 Q I1 q1
 |false=>exact hb pins s1 σ H1 Q I1 q1
end
def SqL(K:PySem.W.Frag)(H:Hp)(a:Addr)(xs:List V):Prop :=
 Rd H a (.lst xs) \/
  ∃(o:Obj)(its:Array Value)(n:Nat),K.lookup a=some o/\o.cls=.type "list"/\o.dict=none/\o.data=.seq its n/\its.size<=sizeLine/\Vals xs its.toList
def SqT(K:PySem.W.Frag)(H:Hp)(a:Addr)(xs:List V):Prop :=
 Rd H a (.tup xs) \/
  ∃(o:Obj)(its:Array Value)(n:Nat),K.lookup a=some o/\o.cls=.type "tuple"/\o.data=.seq its n/\its.size<=sizeLine/\Vals xs its.toList
def absV:Value->Option V
 |.none=>some .non
 |.bool b=>some (.bl b)
 |.int i _=>some (.int i)
 |.str x _=>some (.str x)
 |.bytes b _=>some (.byt b)
 |.float b _=>some (.flt b)
 |.ref a=>some (.ref a)
 |.type n=>some (.ty n)
 |_=>none
theorem RelV.abs{x:V}{u:Value}(r:RelV x u):absV u=some x:=by
 cases x with
 |non=>cases r;rfl
 |bl _=>cases r;rfl
 |int _=>obtain⟨t,rfl⟩:=r;rfl
 |str _=>obtain⟨t,rfl⟩:=r;rfl
 |byt _=>obtain⟨t,rfl⟩:=r;rfl
 |flt _=>obtain⟨t,rfl⟩:=r;rfl
 |ref _=>cases r;rfl
 |ty _=>cases r;rfl
theorem RelV.inj{x y:V}{u:Value}(r:RelV x u)(q:RelV y u):x=y:=Au (r.abs.symm.trans q.abs)
theorem Vals.inj:∀{xs ys:List V}{us:List Value},Vals xs us->Vals ys us->xs=ys
 |_,_,_,.nil,.nil=>rfl
 |_,_,_,.cons r t,.cons r' t'=>by rw[r.inj r',Vals.inj t t']
section
variable{X:Cx}{pins:List (Addr×Obj)}{σ:St}{H:Hp}{s:Shared}{a:Addr}{xs ys:List V}
theorem SqL.of{K:PySem.W.Frag}(h:H a=some (.lst xs)):SqL K H a xs:=.inl (.inl h)
theorem SqT.of{K:PySem.W.Frag}(h:H a=some (.tup xs)):SqT K H a xs:=.inl (.inl h)
theorem Inv.list(I:Inv X pins σ H s)(h:SqL X.K H a xs):∃its:List Value,Vals xs its/\PlainL s.heap a its.toArray/\xs.length<=sizeLine:=by
 rcases h with h|⟨o,its,n,hk,hc,hd,hs,hz,r⟩
 ·obtain⟨z,its,n,r,e⟩:=h.ok I.hok
  exact⟨its,r,⟨_,n,e,rfl,rfl,rfl⟩,z⟩
 ·refine⟨its.toList,r,⟨o,n,I.kIn a o hk,hc,hd,by simpa using hs⟩,?_⟩
  have e:=r.length
  simp only[Array.length_toList]at e
  omega
theorem Inv.tuple(I:Inv X pins σ H s)(h:SqT X.K H a xs):∃its:List Value,Vals xs its/\IsTup s.heap a its.toArray/\xs.length<=sizeLine:=by
 rcases h with h|⟨o,its,n,hk,hc,hs,hz,r⟩
 ·obtain⟨z,its,r,p⟩:=h.ok I.hok
  exact⟨its,r,p,z⟩
 ·refine⟨its.toList,r,⟨o,I.kIn a o hk,hc,n,by simpa using hs⟩,?_⟩
  have e:=r.length
  simp only[Array.length_toList]at e
  omega
theorem Inv.list_inj(I:Inv X pins σ H s)(h:SqL X.K H a xs)(h':SqL X.K H a ys):xs=ys:=by
 obtain⟨its,r,⟨o,n,e,_,_,d⟩,_⟩:=I.list h
 obtain⟨its',r',⟨o',n',e',_,_,d'⟩,_⟩:=I.list h'
 rw[e]at e';cases e'
 rw[d]at d'
 injection d' with d1 _
 have:its=its':=by simpa using O0 Array.toList d1
 subst this
 exact r.inj r'
theorem Inv.tuple_inj(I:Inv X pins σ H s)(h:SqT X.K H a xs)(h':SqT X.K H a ys):xs=ys:=by
 obtain⟨its,r,⟨o,e,_,n,d⟩,_⟩:=I.tuple h
 obtain⟨its',r',⟨o',e',_,n',d'⟩,_⟩:=I.tuple h'
 rw[e]at e';cases e'
 rw[d]at d'
 injection d' with d1 _
 have:its=its':=by simpa using O0 Array.toList d1
 subst this
 exact r.inj r'
end
abbrev Cx.wish(X:Cx)(E:Value->Shared->Prop):Cx:={X with xe:=E}
abbrev Cx.nox(X:Cx):Cx:=X.wish λ_ _=>False
theorem Cx.Ok.wish{X:Cx}(ok:X.Ok)(E:Value->Shared->Prop):(X.wish E).Ok :=
 ⟨ok.mod,ok.kind,ok.glob,ok.blt,ok.above,ok.inj,ok.has,ok.cab,ok.hd,ok.frames,ok.stk,ok.exf,ok.bs,ok.bsz,ok.noex,ok.exfs,ok.funs,ok.frf⟩
theorem Cx.Ok.unwish{X:Cx}{E:Value->Shared->Prop}(ok:(X.wish E).Ok):X.Ok :=
 ⟨ok.mod,ok.kind,ok.glob,ok.blt,ok.above,ok.inj,ok.has,ok.cab,ok.hd,ok.frames,ok.stk,ok.exf,ok.bs,ok.bsz,ok.noex,ok.exfs,ok.funs,ok.frf⟩
section
variable{X:Cx}{pins:List (Addr×Obj)}{σ:St}{H:Hp}{s:Shared}{E:Value->Shared->Prop}
theorem Inv.wish(I:Inv X pins σ H s)(E:Value->Shared->Prop):Inv (X.wish E) pins σ H s:=⟨I.ok.wish E,I.os,I.bare,I.base,I.loc,I.cell,I.free,I.freeC,I.pin,I.hok,I.len⟩
theorem Inv.unwish(I:Inv (X.wish E) pins σ H s):Inv X pins σ H s:=⟨I.ok.unwish,I.os,I.bare,I.base,I.loc,I.cell,I.free,I.freeC,I.pin,I.hok,I.len⟩
theorem SP.unwish{D:Ends}{f:Flow}{s':Shared}(h:SP (X.wish E) pins D f s'):SP X pins D f s':=by
 cases f with
 |next=>obtain⟨σ',H',I,q⟩:=h;exact⟨σ',H',I.unwish,q⟩
 |brk=>obtain⟨σ',H',I,q⟩:=h;exact⟨σ',H',I.unwish,q⟩
 |cont=>obtain⟨σ',H',I,q⟩:=h;exact⟨σ',H',I.unwish,q⟩
 |ret u=>obtain⟨v,σ',H',I,r,q⟩:=h;exact⟨v,σ',H',I.unwish,r,q⟩
theorem PSs.nox{st:List Stmt}{t:TS}(h:PSs X.nox st t):PSs X st t:=λpins s σ H D I hw =>
 Iw (h pins s σ H D (I.wish _) hw) (λ_ _ q=>q.unwish) λ_ _ z=>False.elim z
end
section
variable{X:Cx}{st:Stmt}{rest:List Stmt}{t u:TS}{e:Expr}{te:TE}{pos:Pos}
def jjo:TS:=λD σ H=>D.nx σ H
def tSeq(t u:TS):TS:=λD σ H=>t {D with nx:=u D} σ H
theorem pss_nil:PSs X [] jjo:=λ_ _ σ H _ I h=>O6 ⟨σ,H,I,h⟩
theorem pss_cons(h1:PS X st t)(h2:PSs X rest u):PSs X (st::rest) (tSeq t u):=by
 intro pins s σ H D I h
 refine U4 (thn (h1 pins s σ H {D with nx:=u D} I h) λf s1 q=>?_)
 cases f with
 |next =>
  obtain⟨σ',H',I',q⟩:=q
  exact h2 pins s1 σ' H' D I' q
 |ret v=>exact q
 |brk=>exact q
 |cont=>exact q
theorem pss_one(h1:PS X st t):PSs X [st] t:=by
 intro pins s σ H D I h
 refine U4 (thn (h1 pins s σ H D I h) λf s1 q=>?_)
 cases f with
 |next=>exact O6 q
 |ret v=>exact q
 |brk=>exact q
 |cont=>exact q
def jjg:TS:=λD σ H=>D.ct σ H
theorem ps_continue:PS X (.Continue pos) jjg:=λ_ _ σ H _ I h=>wpAny_Continue ⟨σ,H,I,h⟩
theorem Inv.quiet{pins:List (Addr×Obj)}{σ:St}{H:Hp}{s:Shared}(I:Inv X pins σ H s):interactive X.env=false:=by simp[interactive,I.ok.kind]
def jjh(te:TE):TS:=λD σ H=>te σ H λ_ H1=>D.nx σ H1
theorem ps_expr(he:PE X e te)(hs:swapsWith e none pos.line X.env=pure false:=by rfl):PS X (.Expr e pos) (jjh te):=by
 intro pins s σ H D I h
 exact wpAny_Expr_any (thn (he pins s σ H _ I h) λv s1 ⟨x,H1,I1,r1,q1⟩=>⟨σ,H1,I1,q1⟩) I.quiet hs
def tRet(te:TE):TS:=λD σ H=>te σ H D.rt
theorem ps_ret(he:PE X e te):PS X (.Return (some e) pos) (tRet te):=by
 intro pins s σ H D I h
 exact wpAny_Return_some (thn (he pins s σ H _ I h) λv s1 ⟨x,H1,I1,r1,q1⟩=>⟨x,σ,H1,I1,r1,q1⟩)
def tIfS(c:TT)(t u:TS):TS:=λD σ H=>c σ H λb H1=>if b=true then t D σ H1 else u D σ H1
theorem ps_if{c:Expr}{a b:List Stmt}{tc:TT}(hc:PT X c tc)(ha:PSs X a t)(hb:PSs X b u):PS X (.If c a b pos) (tIfS tc t u):=by
 intro pins s σ H D I h
 refine wpAny_If (thn (hc pins s σ H _ I h) λd s1 ⟨H1,I1,q1⟩=>?_)
 cases d with
 |true=>exact ha pins s1 σ H1 D I1 q1
 |false=>exact hb pins s1 σ H1 D I1 q1
def jnv:TS:=λ_ _ _=>False
theorem ps_never:PS X st jnv:=λ_ _ _ _ _ _ h=>h.elim
end
abbrev TG:=V->St->Hp->(St->Hp->Prop)->Prop
abbrev TGs:=List V->St->Hp->(St->Hp->Prop)->Prop
def PG(X:Cx)(target:Expr)(t:TG):Prop :=
 ∀(pins:List (Addr×Obj))(s:Shared)(σ:St)(H:Hp)(v:V)(u:Value)(Q:St->Hp->Prop),Inv X pins σ H s->RelV v u->t v σ H Q ->
  wpAny (model X.prog X.w) X.A (assign target X.env u) (λ_ s'=>∃σ' H',Inv X pins σ' H' s'/\Q σ' H') X.xe s
def PGs(X:Cx)(ts:List Expr)(t:TGs):Prop :=
 ∀(pins:List (Addr×Obj))(s:Shared)(σ:St)(H:Hp)(vs:List V)(us:List Value)(Q:St->Hp->Prop),Inv X pins σ H s->Vals vs us->t vs σ H Q ->
  wpAny (model X.prog X.w) X.A (assignInOrder ((assignEach ts X.env).map (·.2)) us) (λ_ s'=>∃σ' H',Inv X pins σ' H' s'/\Q σ' H') X.xe s
abbrev TSet:=V->V->V->Hp->(Hp->Prop)->Prop
def PSet(X:Cx)(t:TSet):Prop :=
 ∀(pins:List (Addr×Obj))(s:Shared)(σ:St)(H:Hp)(o i v:V)(ov iv u:Value)(Q:Hp->Prop),Inv X pins σ H s->RelV o ov->RelV i iv->RelV v u->t o i v H Q ->
  wpAny (model X.prog X.w) X.A (setItem ov iv u) (λ_ s'=>∃H',Inv X pins σ H' s'/\Q H') X.xe s
section
variable{X:Cx}{pos:Pos}
def jdi(i:Nat):TG:=λv σ H Q=>Q (σ.set i (some v)) H
theorem pg_name{i:Nat}{x:Str}(hN:X.N.Nodup)(hi:X.N[i]?=some x)(hx:Loc X.env.scope x)(hf:X.fn x=true\/X.env.scope.names.lookup x=some .local:=by first|exact .inl rfl|exact .inr rfl|assumption):PG X (.Name x pos) (jdi i):=by
 intro pins s σ H v u Q I r h
 exact wpAny_assign_Name (je5 I hN hi hx r (λs' I'=>⟨_,H,I',h⟩) hf)
def gNil:TGs:=λvs σ H Q=>vs=[]/\Q σ H
def joy(t:TG)(u:TGs):TGs:=λvs σ H Q=>∃v r,vs=v::r/\t v σ H λσ' H'=>u r σ' H' Q
theorem pgs_nil:PGs X [] gNil:=by
 intro pins s σ H vs us Q I r h
 obtain⟨e,h⟩:=h
 subst e
 cases r
 exact assignInOrder_nil ⟨σ,H,I,h⟩
theorem pgs_cons{e:Expr}{es:List Expr}{t:TG}{u:TGs}(h1:PG X e t)(h2:PGs X es u)
  (hs:(assignEach (e::es) X.env).map (·.2)=assign e X.env::(assignEach es X.env).map (·.2):=by rfl):PGs X (e::es) (joy t u):=by
 intro pins s σ H vs us Q I r h
 obtain⟨v,vr,e1,h⟩:=h
 subst e1
 cases r with
 |cons r rr =>
  rw[hs]
  refine assignInOrder_cons (thn (h1 pins s σ H _ _ _ I r h) λ_ s1 ⟨σ1,H1,I1,q1⟩=>?_)
  exact h2 pins s1 σ1 H1 _ _ Q I1 rr q1
def gTup(K:PySem.W.Frag)(n:Nat)(t:TGs):TG:=λv σ H Q=>∃a xs,v=.ref a/\SqT K H a xs/\xs.length=n/\t xs σ H Q
theorem pg_tup{es:List Expr}{k:Nat}{t:TGs}{n:Nat}(hc:X.calm=true)(h:PGs X es t)
  (hn:(assignEach es X.env).length=n:=by rfl) (hst:(assignEach es X.env).findIdx? (·.1)=none:=by rfl):PG X (.Tuple es k pos) (gTup X.K n t):=by
 intro pins s σ H v u Q I r hw
 obtain⟨a,xs,e1,hq,hl,hw⟩:=hw
 subst e1
 cases r
 obtain⟨its,rv,ht,hz⟩:=I.tuple hq
 refine assign_Tuple_tuple (I.ok.hd hc) ht (by simp[hn,<-hl,rv.length]) hst λh' hx=>?_
 have I1:Inv X pins σ H {s with heap:=h'}:=I.kept (t':=s.toks) λb o e=>hx b o (Ar (Ah e)) e
 exact h pins _ σ H xs _ Q I1 (by simpa using rv) hw
def gSub(to ti:TE)(t:TSet):TG:=λv σ H Q=>to σ H λo H1=>ti σ H1 λi H2=>t o i v H2 λH3=>Q σ H3
theorem pg_sub{o i:Expr}{to ti:TE}{t:TSet}(ho:PE X o to)(hi:PE X i ti)(hs:PSet X t)
  (ha:∀v,assign (.Subscript o i pos) X.env v=(do
   let ov <-holding [v] (eval o X.env)
   let iv <-holding [v,ov] (eval i X.env)
   standAt pos
   holding [v,ov,iv] (setItem ov iv v)
   release [v,ov,iv] []):=by intro _;rfl):PG X (.Subscript o i pos) (gSub to ti t):=by
 intro pins s σ H v u Q I r h
 rw[ha]
 refine Ab (O5 (thn (ho pins s σ H _ I h) λov s1 ⟨x,H1,I1,r1,q1⟩=>?_))
 refine Ab (O5 (thn (hi pins s1 σ H1 _ I1 q1) λiv s2 ⟨y,H2,I2,r2,q2⟩=>?_))
 refine Ab (Uq (Ab (O5 (thn (hs pins s2 σ H2 x y v ov iv u _ I2 r1 r2 r q2) λ_ s3 ⟨H3,I3,q3⟩=>?_))))
 exact wpAny_release ⟨σ,H3,I3,q3⟩
def tAsg(te:TE)(g:TG):TS:=λD σ H=>te σ H λx H1=>g x σ H1 D.nx
theorem ps_asg{tg e:Expr}{te:TE}{g:TG}(he:PE X e te)(hg:PG X tg g)(hs:swapsWithSole [tg] e pos.line X.env=pure false:=by rfl)(hw:swappedStores [tg] e X.env=pure none:=by rfl)
  (h1:(assignEach [tg] X.env).map (·.2)=[assign tg X.env]:=by rfl):PS X (.Assign [tg] e pos) (tAsg te g):=by
 intro pins s σ H D I h
 refine wpAny_Assign_stores (thn (he pins s σ H _ I h) λv s1 ⟨x,H1,I1,r1,q1⟩=>?_) hs hw
 rw[h1]
 exact thn (hg pins s1 σ H1 x v _ I1 r1 q1) λ_ s2 q=>q
theorem ps_set{i:Nat}{x:Str}{e:Expr}{te:TE}{pos':Pos}(hN:X.N.Nodup)(hi:X.N[i]?=some x)(hx:Loc X.env.scope x)(he:PE X e te)(hs:swapsWith e (some (.Name x pos')) pos.line X.env=pure false:=by rfl)(hf:X.fn x=true\/X.env.scope.names.lookup x=some .local:=by first|exact .inl rfl|exact .inr rfl|assumption) :
  PS X (.Assign [.Name x pos'] e pos) (tAsg te (jdi i)):=by
 intro pins s σ H D I h
 refine wpAny_Assign_Name (thn (he pins s σ H _ I h) λv s1 ⟨y,H1,I1,r1,q1⟩=>?_) hs
 exact je5 I1 hN hi hx r1 (λs2 I2=>⟨_,H1,I2,q1⟩) hf
def jkt(c:TT)(tb:TS):TS:=λD σ H=>∃W:Nat->St->Hp->Prop,(∃m,W m σ H)/\∀m σ H,W m σ H ->
 c σ H λb H1=>if b=true then ∃N:St->Hp->Prop,(∀σ' H',N σ' H'->∃m',m'<m/\W m' σ' H')/\tb {D with nx:=N,ct:=N,bk:=D.nx} σ H1 else D.nx σ H1
theorem ps_while{c:Expr}{body:List Stmt}{tc:TT}{tb:TS}(hp:PassesOwn (model X.prog X.w) X.A X.env X.xe)(hc:PT X c tc)(hb:PSs X body tb):PS X (.While c body [] pos) (jkt tc tb):=by
 intro pins s σ H D I h
 obtain⟨W,⟨m0,w0⟩,turn⟩:=h
 refine wpAny_While (codeAny_whileLoop (λn s'=>∃σ' H',Inv X pins σ' H' s'/\W n σ' H') ?_ m0 ⟨σ,H,I,w0⟩)
 rintro n s1 ⟨σ1,H1,I1,w1⟩
 refine Ou hp (thn (hc pins s1 σ1 H1 _ I1 (turn n σ1 H1 w1)) λb s2 ⟨H2,I2,q2⟩=>?_)
 cases b with
 |true =>
  obtain⟨N,hN,q2⟩:=q2
  rw[Ad rfl]
  refine Ou hp (thn (hb pins s2 σ1 H2 _ I2 q2) λf s3 q3=>?_)
  cases f with
  |next =>
   obtain⟨σ3,H3,I3,n3⟩:=q3
   obtain⟨m',hm,w3⟩:=hN σ3 H3 n3
   exact⟨m',hm,σ3,H3,I3,w3⟩
  |cont =>
   obtain⟨σ3,H3,I3,n3⟩:=q3
   obtain⟨m',hm,w3⟩:=hN σ3 H3 n3
   exact⟨m',hm,σ3,H3,I3,w3⟩
  |brk=>exact q3
  |ret v=>exact q3
 |false =>
  rw[Aa A4]
  exact O6 ⟨σ1,H2,I2,q2⟩
end
structure It where
 go:Nat->Hp->Prop
 yld:Nat->Hp->V->Hp->Prop
 stop:Nat->Hp->Prop
def FpOk(X:Cx)(pins:List (Addr×Obj))(H:Hp)(b:Addr):Prop :=
 H b=none/\b≠X.env.locals/\b∉X.fs/\(b∈X.ex\/X.s₀.heap.objs.size<=b)/\(∀x c,X.env.cells.lookup x=some c->c≠b)/\∀p∈X.pn++pins,p.1≠b
theorem Inv.fpOk{X:Cx}{pins:List (Addr×Obj)}{σ:St}{H H':Hp}{s:Shared}{b:Addr}(I:Inv X pins σ H s)(hb:s.heap.objs.size<=b)(hn:H' b=none):FpOk X pins H' b:=by
 refine⟨hn,Nat.ne_of_gt (Aq I.lt hb),I.nofs hb,.inr (Ib I.sz hb),λx c e z=>?_,λp hp z=>?_⟩
 ·obtain⟨v,q⟩:=I.cell x c e
  exact absurd (Aq q.lt (by rw[z];exact hb)) (Oj _)
 ·exact absurd (Aq (Ah (I.pin p hp).1) (by rw[z];exact hb)) (Oj _)
structure Turn(P:Program)(w:World)(K:PySem.W.Frag)(tg:Expr)(J:It)(fp:List Addr)(it:Addr)(tn:Nat->Heap->Prop):Prop where
 mem:it∈fp
 obj:∀i h,tn i h->∀b∈fp,∃o,h.get? b=some o/\∀v,o.data≠.cell v
 keep:∀i h h',tn i h->(∀b∈fp,∀o,h.get? b=some o->h'.get? b=some o)->tn i h'
 item:∀(X:Cx),X.prog=P->X.w=w->X.K=K->X.calm=true->∀(i:Nat)(pins:List (Addr×Obj))(s:Shared)(σ:St)(H:Hp)(E:Value->Shared->Prop),Inv X pins σ H s->(∀b∈fp,FpOk X pins H b)->tn i s.heap->J.go i H ->
  wpAny (model P w) X.A (pyNext (.ref it)) (λr s1=>∃u,r=some u /\
   wpAny (model P w) X.A (letOwnedTupleGo tg (.ref it) u) (λ_ s2=>∃x H',Inv X pins σ H' s2/\RelV x u/\J.yld i H x H'/\tn (i+1) s2.heap/\∀b∈fp,H' b=none) E s1) E s
 done:∀(X:Cx),X.prog=P->X.w=w->X.K=K->X.calm=true->∀(i:Nat)(pins:List (Addr×Obj))(s:Shared)(σ:St)(H:Hp)(E:Value->Shared->Prop),Inv X pins σ H s->(∀b∈fp,FpOk X pins H b)->tn i s.heap->J.stop i H ->
  wpAny (model P w) X.A (pyNext (.ref it)) (λr s1=>r=none/\Inv X pins σ H s1) E s
 self:∀(A:Around)(i:Nat)(s:Shared)(Q:Value->Shared->Prop)(E:Value->Shared->Prop),tn i s.heap->Q (.ref it) s->wpAny (model P w) A (pyIter (.ref it)) Q E s
abbrev TI:=St->Hp->(It->Hp->Prop)->Prop
def PIE(X:Cx)(pins:List (Addr×Obj))(σ:St)(tg:Expr)(R:It->Hp->Prop)(itv:Value)(s2:Shared):Prop :=
 ∃(it:Addr)(fp:List Addr)(tn:Nat->Heap->Prop)(J:It)(H':Hp),itv=.ref it/\Inv X pins σ H' s2/\Turn X.prog X.w X.K tg J fp it tn/\tn 0 s2.heap/\(∀b∈fp,FpOk X pins H' b)/\R J H'
def PI(X:Cx)(tg iter:Expr)(wi:TI):Prop :=
 ∀(pins:List (Addr×Obj))(s:Shared)(σ:St)(H:Hp)(R:It->Hp->Prop),Inv X pins σ H s->wi σ H R ->
  wpAny (model X.prog X.w) X.A (eval iter X.env) (λv s1=>wpAny (model X.prog X.w) X.A (pyIter v) (PIE X pins σ tg R) X.xe s1) X.xe s
theorem jgx{M:Model}{A:Around}{E:Value->Shared->Prop}{s:Shared}{tg:Expr}{it:Addr}{u:Value}{o:Obj}{n:String}{vs:Array Value}{Q:Unit->Shared->Prop}(ho:s.heap.get? it=some o)(hc:o.cls=.type n)(hd:o.data=.fields vs)
  (hn:["enumerate","zip","dict_itemiterator","dict_reverseitemiterator","odict_iterator","itertools.zip_longest","itertools.pairwise"].contains n=false) (hQ:Q () s):wpAny M A (letOwnedTupleGo tg (.ref it) u) Q E s:=by
 unfold letOwnedTupleGo
 cases tg <;> first
  |exact Am hQ
  |(cases u <;> first
    |exact Am hQ
    |(refine Ab (wpAny_load ho ?_)
      rw[hc,hd]
      show wpAny M A (if(["enumerate","zip","dict_itemiterator","dict_reverseitemiterator","odict_iterator","itertools.zip_longest","itertools.pairwise"].contains n && vs[0]? == some (rawInt _))=true then _ else _) Q E s
      rw[Aa (by intro h;rw[hn,Bool.false_and]at h;cases h)]
      exact Am hQ))
def Itl(K:PySem.W.Frag)(a:Addr):It :=
 ⟨λi H=>∃xs x,SqL K H a xs/\xs[i]?=some x,λi H x H'=>H'=H/\∀xs,SqL K H a xs->xs[i]?=some x,λi H=>∃xs,SqL K H a xs/\xs.length<=i⟩
def Itt(K:PySem.W.Frag)(a:Addr):It :=
 ⟨λi H=>∃xs x,SqT K H a xs/\xs[i]?=some x,λi H x H'=>H'=H/\∀xs,SqT K H a xs->xs[i]?=some x,λi H=>∃xs,SqT K H a xs/\xs.length<=i⟩
def Itr(lo:Int)(n:Nat):It:=⟨λi _=>i<n,λi H x H'=>H'=H/\x=.int (lo+i),λi _=>n<=i⟩
theorem jnx{P:Program}{w:World}{K:PySem.W.Frag}{tg:Expr}(a it:Addr):Turn P w K tg (Itl K a) [it] it (λi h=>h.IsListIter it a i) where
 mem:=by simp
 obj:=λi h st b hb=>by
  have e:b=it:=by simpa using hb
  subst e
  obtain⟨o,e,c,d⟩:=st
  exact⟨o,e,λv z=>by rw[d]at z;cases z⟩
 keep:=λi h h' st k=>st.at λo e=>k it (by simp) o e
 item:=by
  intro X hP hw hK hc i pins s σ H E I hf st hg
  subst hP hw hK
  obtain⟨xs,x,hq,hx⟩:=hg
  obtain⟨its,rv,p,hz⟩:=I.list hq
  obtain⟨u,hu,ru⟩:=rv.get hx
  obtain⟨f0,f1,f2,f3,f4,f5⟩:=hf it (by simp)
  refine wpAny_pyNext_list_item st p.isList (x:=u) (by simpa using hu) λh' st' sb=>?_
  have I1:Inv X pins σ H {s with heap:=h'}:=I.turned (t':=s.toks) (λb o hb e=>(sb.2 b hb).trans e) f0 f1 f3 f4 f5
  obtain⟨o,e,c,d⟩:=id st'
  exact⟨u,rfl,jgx (s:={s with heap:=h'}) e c d (by decide) ⟨x,H,I1,ru,⟨rfl,λys hy=>by rw[I.list_inj hy hq];exact hx⟩,st',λb hb=>(hf b hb).1⟩⟩
 done:=by
  intro X hP hw hK hc i pins s σ H E I hf st hg
  subst hP hw hK
  obtain⟨xs,hq,hx⟩:=hg
  obtain⟨its,rv,p,hz⟩:=I.list hq
  obtain⟨f0,f1,f2,f3,f4,f5⟩:=hf it (by simp)
  have hl:=rv.length
  exact wpAny_pyNext_list_end (I.ok.hd hc) st p.isList (by simp;omega) λh' eb=>⟨rfl,I.turned (t':=s.toks) (λb o hb e=>eb b o hb e) f0 f1 f3 f4 f5⟩
 self:=λ_ _ _ _ _ st h=>wpAny_pyIter_listiter st h
theorem jmz{P:Program}{w:World}{K:PySem.W.Frag}{tg:Expr}(a it:Addr):Turn P w K tg (Itt K a) [it] it (λi h=>h.IsTupleIter it a i) where
 mem:=by simp
 obj:=λi h st b hb=>by
  have e:b=it:=by simpa using hb
  subst e
  obtain⟨o,e,c,d⟩:=st
  exact⟨o,e,λv z=>by rw[d]at z;cases z⟩
 keep:=λi h h' st k=>st.at λo e=>k it (by simp) o e
 item:=by
  intro X hP hw hK hc i pins s σ H E I hf st hg
  subst hP hw hK
  obtain⟨xs,x,hq,hx⟩:=hg
  obtain⟨its,rv,p,hz⟩:=I.tuple hq
  obtain⟨u,hu,ru⟩:=rv.get hx
  obtain⟨f0,f1,f2,f3,f4,f5⟩:=hf it (by simp)
  refine wpAny_pyNext_tuple_item st (show s.heap.IsTuple a its.toArray from p) (x:=u) (by simpa using hu) λh' st' sb=>?_
  have I1:Inv X pins σ H {s with heap:=h'}:=I.turned (t':=s.toks) (λb o hb e=>(sb.2 b hb).trans e) f0 f1 f3 f4 f5
  obtain⟨o,e,c,d⟩:=id st'
  exact⟨u,rfl,jgx (s:={s with heap:=h'}) e c d (by decide) ⟨x,H,I1,ru,⟨rfl,λys hy=>by rw[I.tuple_inj hy hq];exact hx⟩,st',λb hb=>(hf b hb).1⟩⟩
 done:=by
  intro X hP hw hK hc i pins s σ H E I hf st hg
  subst hP hw hK
  obtain⟨xs,hq,hx⟩:=hg
  obtain⟨its,rv,p,hz⟩:=I.tuple hq
  obtain⟨f0,f1,f2,f3,f4,f5⟩:=hf it (by simp)
  have hl:=rv.length
  exact wpAny_pyNext_tuple_end (I.ok.hd hc) st (show s.heap.IsTuple a its.toArray from p) (by simp;omega) λh' eb=>⟨rfl,I.turned (t':=s.toks) (λb o hb e=>eb b o hb e) f0 f1 f3 f4 f5⟩
 self:=λ_ _ _ _ _ st h=>wpAny_pyIter_tupleiter st h
theorem jmy{P:Program}{w:World}{K:PySem.W.Frag}{tg:Expr}(it:Addr)(lo:Int)(n:Nat):Turn P w K tg (Itr lo n) [it] it (λi h=>IsRangeIter h it (lo+(i:Nat)*1) ((n:Int)-(i:Nat)) 1) where
 mem:=by simp
 obj:=λi h st b hb=>by
  have e:b=it:=by simpa using hb
  subst e
  exact⟨_,st,λv z=>by
   have z':Data.fields _=Data.cell v:=z
   cases z'⟩
 keep:=λi h h' st k=>k it (by simp) _ st
 item:=by
  intro X hP hw hK hc i pins s σ H E I hf st hg
  subst hP hw hK
  obtain⟨f0,f1,f2,f3,f4,f5⟩:=hf it (by simp)
  have W:=Walks.range (prog:=X.prog) (w:=X.w) (I.ok.hd hc) it lo 1 n
  refine W.item i s _ _ hg st λv h' tk hv st' kk=>?_
  obtain⟨t,rfl⟩:=hv
  have I1:Inv X pins σ H {s with heap:=h',toks:=tk}:=I.turned (λb o hb e=>kk b o (by simpa using hb) e) f0 f1 f3 f4 f5
  refine⟨_,rfl,jgx (s:={s with heap:=h',toks:=tk}) (n:="range_iterator") st' rfl rfl (by decide) ⟨.int (lo+i),H,I1,⟨t,?_⟩,⟨rfl,rfl⟩,st',λb hb=>(hf b hb).1⟩⟩
  rw[Int.mul_one]
 done:=by
  intro X hP hw hK hc i pins s σ H E I hf st hg
  subst hP hw hK
  obtain⟨f0,f1,f2,f3,f4,f5⟩:=hf it (by simp)
  exact wpAny_pyNext_range_end (I.ok.hd hc) st (by have:n<=i:=hg;omega) λh' eb=>⟨rfl,I.turned (t':=s.toks) (λb o hb e=>eb b o hb e) f0 f1 f3 f4 f5⟩
 self:=λ_ _ _ _ _ st h=>wpAny_pyIter_rangeiter st h
section
variable{X:Cx}{tg:Expr}
theorem jko{pins:List (Addr×Obj)}{σ:St}{H:Hp}{s:Shared}{R:It->Hp->Prop}{E:Value->Shared->Prop}{lo hi:Int}{t u v:Tok}{tk:Nat}(I:Inv X pins σ H s)(h1:-(2^62)<=lo)(h2:lo<2^62)(h3:-(2^62)<=hi)(h4:hi<2^62)
  (q:R (Itr lo (hi-lo).toNat) H):wpAny (model X.prog X.w) X.A (pyIter (.ref s.heap.objs.size)) (PIE X pins σ tg R) E {s with heap:=s.heap.push {cls:=.type "range",data:=.fields #[.int lo t,.int hi u,.int 1 v]},toks:=tk}:=by
 refine wpAny_pyIter_range (IsRange.new ..) (small_one h1 h2 h3 h4) ?_
 have I1:Inv X pins σ H {s with heap:=s.heap.push {cls:=.type "range",data:=.fields #[.int lo t,.int hi u,.int 1 v]},toks:=tk}:=I.kept λb o e=>Ac _ e
 refine⟨(s.heap.push {cls:=.type "range",data:=.fields #[.int lo t,.int hi u,.int 1 v]}).objs.size,[(s.heap.push {cls:=.type "range",data:=.fields #[.int lo t,.int hi u,.int 1 v]}).objs.size],_,_,H,rfl,
  I1.kept (t':=tk) λb o e=>Ac _ e,jmy _ lo (hi-lo).toNat,?_,λb hb=>?_,q⟩
 ·have e1:lo+((0:Nat):Int)*1=lo:=by simp
  have e2:(((hi-lo).toNat:Nat):Int)-((0:Nat):Int)=Builtin.Range.rangeSize lo hi 1:=by rw[rangeSize_one];split <;> omega
  show IsRangeIter _ _ (lo+((0:Nat):Int)*1) ((((hi-lo).toNat:Nat):Int)-((0:Nat):Int)) 1
  rw[e1,e2]
  exact Av _ rfl
 ·have e:b=(s.heap.push {cls:=.type "range",data:=.fields #[.int lo t,.int hi u,.int 1 v]}).objs.size:=by simpa using hb
  subst e
  exact I1.fpOk (Af _) (I1.hok.fresh (Af _))
def ji7(ta:TA):TI:=λσ H R=>ta σ H λvs H1=>∃j:Int,vs=[.int j]/\-(2^62)<=j/\j<2^62/\R (Itr 0 j.toNat) H1
def ji8(ta:TA):TI:=λσ H R=>ta σ H λvs H1=>∃i j:Int,vs=[.int i,.int j]/\(-(2^62)<=i/\i<2^62/\-(2^62)<=j/\j<2^62)/\R (Itr i (j-i).toNat) H1
theorem pi_range1{a:Expr}{ta:TA}{p pos:Pos}(hg:Gl X "range")(hm:X.mg "range"=none)(ha:PA X [a] ta)(hs:starEach [a] X.env=[(false,eval a X.env)]:=by rfl):PI X tg (.Call (.Name "range" p) [a] [] pos) (ji7 ta):=by
 intro pins s σ H R I h
 refine Call_ (jdt I hg hm boot_range (Ij (thn (ha pos pins s σ H _ I h) λus s1 ⟨vs,H1,I1,r1,q1⟩=>?_) hs rfl))
 obtain⟨j,e,q1,q2,q⟩:=q1
 subst e
 cases r1 with
 |cons r rr =>
  cases rr
  obtain⟨t,rfl⟩:=r
  exact call_range_1 (jko I1 (by omega) (by omega) q1 q2 (by simpa using q))
theorem pi_range2{a b:Expr}{ta:TA}{p pos:Pos}(hg:Gl X "range")(hm:X.mg "range"=none)(ha:PA X [a,b] ta)(hs:starEach [a,b] X.env=[(false,eval a X.env),(false,eval b X.env)]:=by rfl)(hs2:starEach [b] X.env=[(false,eval b X.env)]:=by rfl) :
  PI X tg (.Call (.Name "range" p) [a,b] [] pos) (ji8 ta):=by
 intro pins s σ H R I h
 refine Call_ (jdt I hg hm boot_range (Ij (thn (ha pos pins s σ H _ I h) λus s1 ⟨vs,H1,I1,r1,q1⟩=>?_) (by rw[hs,hs2]) (by rw[hs2];rfl)))
 obtain⟨i,j,e,⟨q1,q2,q3,q4⟩,q⟩:=q1
 subst e
 cases r1 with
 |cons r rr =>
  cases rr with
  |cons r' rr =>
   cases rr
   obtain⟨t,rfl⟩:=r
   obtain⟨t',rfl⟩:=r'
   exact call_range_2 (jko I1 q1 q2 q3 q4 q)
def tFor(wi:TI)(g:TG)(tb:TS):TS:=λD σ H=>wi σ H λJ H1=>∃W:Nat->Nat->St->Hp->Prop,(∃m,W 0 m σ H1)/\∀i m σ H,W i m σ H ->
 (J.stop i H/\D.nx σ H)\/(J.go i H/\∃N:St->Hp->Prop,(∀σ' H',N σ' H'->∃m',m'<m/\W (i+1) m' σ' H')/\∀x H',J.yld i H x H'->g x σ H' λσ2 H2=>tb {D with nx:=N,ct:=N,bk:=D.nx} σ2 H2)
def jfg(fp:List Addr)(h:Heap):List (Addr×Obj):=fp.filterMap λb=>(h.get? b).map λo=>(b,o)
theorem jdk{fp:List Addr}{h:Heap}{b:Addr}{o:Obj}(hb:b∈fp)(e:h.get? b=some o):(b,o)∈jfg fp h:=Ur.mpr ⟨b,hb,by rw[e];rfl⟩
theorem jnq{fp:List Addr}{h:Heap}{p:Addr×Obj}(hp:p∈jfg fp h):p.1∈fp/\h.get? p.1=some p.2:=by
 obtain⟨b,hb,e⟩:=Ur.mp hp
 cases q:h.get? b with
 |none=>rw[q]at e;cases e
 |some o =>
  rw[q]at e
  have e':(b,o)=p:=Au e
  subst e'
  exact⟨hb,q⟩
theorem Inv.pinned{pins:List (Addr×Obj)}{σ:St}{H:Hp}{s:Shared}{fp:List Addr}(I:Inv X pins σ H s)(hf:∀b∈fp,FpOk X pins H b)(ho:∀b∈fp,∃o,s.heap.get? b=some o/\∀v,o.data≠.cell v):Inv X (pins++jfg fp s.heap) σ H s :=
 I.pins_of λp hp=>(Ie.mp hp).elim (λz=>I.pin p (A5 _ z)) λz=>by
  obtain⟨hb,e⟩:=jnq z
  obtain⟨f0,f1,f2,_⟩:=hf p.1 hb
  obtain⟨o,e',d⟩:=ho p.1 hb
  rw[e]at e';cases e'
  exact⟨e,f0,f1,f2,d⟩
theorem Inv.unpinned{pins pl:List (Addr×Obj)}{σ:St}{H:Hp}{s:Shared}(I:Inv X (pins++pl) σ H s):Inv X pins σ H s:=I.pins_of λp hp=>I.pin p (A5 _ (Og _ hp))
theorem ps_for{iter:Expr}{body:List Stmt}{wi:TI}{g:TG}{tb:TS}{pos:Pos}(hp:PassesOwn (model X.prog X.w) X.A X.env X.xe)(hc:X.calm=true)(hi:PI X tg iter wi)(hg:PG X tg g)(hb:PSs X body tb)
  (hs:∀x,foldedSetIterable iter X.env x=pure x:=by intro _;rfl):PS X (.For tg iter body [] pos) (tFor wi g tb):=by
 intro pins s σ H D I h
 refine wpAny_For (thn (hi pins s σ H _ I h) λv s1 h1=>thn h1 λitv s2 h2=>?_) hs
 obtain⟨it,fp,tn,J,H2,e,I2,T,st2,f2,W,⟨m0,w0⟩,turn⟩:=h2
 subst e
 have stat:∀{H':Hp},(∀b∈fp,H' b=none)->∀b∈fp,FpOk X pins H' b:=λhn b hb=>⟨hn b hb,(f2 b hb).2⟩
 refine codeAny_forLoop_any (λn s'=>∃i σ' H',Inv X pins σ' H' s'/\tn i s'.heap/\(∀b∈fp,H' b=none)/\W i n σ' H') ?_ m0 ⟨0,σ,H2,I2,st2,λb hb=>(f2 b hb).1,w0⟩
 rintro n s3 ⟨i,σ3,H3,I3,st3,fr3,w3⟩
 rcases turn i n σ3 H3 w3 with⟨stop,qn⟩|⟨go,N,hN,step⟩
 ·refine Ou hp (thn (T.done X rfl rfl rfl hc i pins s3 σ3 H3 X.xe I3 (stat fr3) st3 stop) λr s4 ⟨hr,I4⟩=>?_)
  subst hr
  exact O6 ⟨σ3,H3,I4,qn⟩
 ·refine Ou hp (thn (T.item X rfl rfl rfl hc i pins s3 σ3 H3 X.xe I3 (stat fr3) st3 go) λr s4 ⟨u,hr,h4⟩=>?_)
  subst hr
  refine Ou hp (thn h4 λ_ s5 ⟨x,H5,I5,r5,y5,st5,fr5⟩=>?_)
  have I5':=I5.pinned (stat fr5) (T.obj _ _ st5)
  refine Ou hp (thn (hg _ s5 σ3 H5 x u _ I5' r5 (step x H5 y5)) λ_ s6 ⟨σ6,H6,I6,q6⟩=>?_)
  refine Ou hp (thn (hb _ s6 σ6 H6 _ I6 q6) λf s7 q7=>?_)
  have again:∀{σ7:St}{H7:Hp},Inv X (pins++jfg fp s5.heap) σ7 H7 s7->N σ7 H7->∃m,m<n/\∃i σ' H',Inv X pins σ' H' s7/\tn i s7.heap/\(∀b∈fp,H' b=none)/\W i m σ' H':=fun{σ7 H7} I7 n7=>by
   obtain⟨m',hm,w7⟩:=hN σ7 H7 n7
   refine⟨m',hm,i+1,σ7,H7,I7.unpinned,T.keep _ _ _ st5 λb hb o e=>(I7.pin (b,o) (A5 _ (A5 _ (jdk hb e)))).1,λb hb=>?_,w7⟩
   obtain⟨o,e,d⟩:=T.obj _ _ st5 b hb
   exact(I7.pin (b,o) (A5 _ (A5 _ (jdk hb e)))).2.1
  cases f with
  |next=>obtain⟨σ7,H7,I7,n7⟩:=q7;exact again I7 n7
  |cont=>obtain⟨σ7,H7,I7,n7⟩:=q7;exact again I7 n7
  |brk=>obtain⟨σ7,H7,I7,q7⟩:=q7;exact⟨σ7,H7,I7.unpinned,q7⟩
  |ret v=>obtain⟨x7,σ7,H7,I7,r7,q7⟩:=q7;exact⟨x7,σ7,H7,I7.unpinned,r7,q7⟩
end
theorem jn7{K:PySem.W.Frag}{a:Addr}{xs:List V}{g:TG}{tb:TS}{D:Ends}{σ:St}{H:Hp}(Pv:Nat->St->Hp->Prop)(h0:Pv 0 σ H)(hl:∀i σ H,i<=xs.length->Pv i σ H->SqL K H a xs)
  (hs:∀i x σ H,xs[i]?=some x->Pv i σ H->g x σ H λσ2 H2=>tb {D with nx:=Pv (i+1),ct:=Pv (i+1),bk:=D.nx} σ2 H2) (hd:∀σ H,Pv xs.length σ H->D.nx σ H) :
  ∃W:Nat->Nat->St->Hp->Prop,(∃m,W 0 m σ H)/\∀i m σ H,W i m σ H ->
   ((Itl K a).stop i H/\D.nx σ H)\/((Itl K a).go i H/\∃N:St->Hp->Prop,(∀σ' H',N σ' H'->∃m',m'<m/\W (i+1) m' σ' H')/\∀x H',(Itl K a).yld i H x H'->g x σ H' λσ2 H2=>tb {D with nx:=N,ct:=N,bk:=D.nx} σ2 H2):=by
 refine⟨λi m σ H=>m=xs.length-i/\i<=xs.length/\Pv i σ H,⟨xs.length,by simp,Ia _,h0⟩,?_⟩
 rintro i m σ H ⟨rfl,hi,p⟩
 have q:=hl i σ H hi p
 by_cases hlt:i<xs.length
 ·refine .inr ⟨⟨xs,xs[i],q,by simp[hlt]⟩,Pv (i+1),λσ' H' p'=>⟨xs.length-(i+1),by omega,rfl,hlt,p'⟩,λx H' y=>?_⟩
  obtain⟨e,y⟩:=y
  subst e
  exact hs i x σ _ (y xs q) p
 ·have e:i=xs.length:=by omega
  subst e
  exact .inl ⟨⟨xs,q,Af _⟩,hd σ H p⟩
theorem jpk{K:PySem.W.Frag}{a:Addr}{xs:List V}{g:TG}{tb:TS}{D:Ends}{σ:St}{H:Hp}(Pv:Nat->St->Hp->Prop)(h0:Pv 0 σ H)(hl:∀i σ H,i<=xs.length->Pv i σ H->SqT K H a xs)
  (hs:∀i x σ H,xs[i]?=some x->Pv i σ H->g x σ H λσ2 H2=>tb {D with nx:=Pv (i+1),ct:=Pv (i+1),bk:=D.nx} σ2 H2) (hd:∀σ H,Pv xs.length σ H->D.nx σ H) :
  ∃W:Nat->Nat->St->Hp->Prop,(∃m,W 0 m σ H)/\∀i m σ H,W i m σ H ->
   ((Itt K a).stop i H/\D.nx σ H)\/((Itt K a).go i H/\∃N:St->Hp->Prop,(∀σ' H',N σ' H'->∃m',m'<m/\W (i+1) m' σ' H')/\∀x H',(Itt K a).yld i H x H'->g x σ H' λσ2 H2=>tb {D with nx:=N,ct:=N,bk:=D.nx} σ2 H2):=by
 refine⟨λi m σ H=>m=xs.length-i/\i<=xs.length/\Pv i σ H,⟨xs.length,by simp,Ia _,h0⟩,?_⟩
 rintro i m σ H ⟨rfl,hi,p⟩
 have q:=hl i σ H hi p
 by_cases hlt:i<xs.length
 ·refine .inr ⟨⟨xs,xs[i],q,by simp[hlt]⟩,Pv (i+1),λσ' H' p'=>⟨xs.length-(i+1),by omega,rfl,hlt,p'⟩,λx H' y=>?_⟩
  obtain⟨e,y⟩:=y
  subst e
  exact hs i x σ _ (y xs q) p
 ·have e:i=xs.length:=by omega
  subst e
  exact .inl ⟨⟨xs,q,Af _⟩,hd σ H p⟩
theorem jnd{lo:Int}{n:Nat}{g:TG}{tb:TS}{D:Ends}{σ:St}{H:Hp}(Pv:Nat->St->Hp->Prop)(h0:Pv 0 σ H)
  (hs:∀i σ H,i<n->Pv i σ H->g (.int (lo+i)) σ H λσ2 H2=>tb {D with nx:=Pv (i+1),ct:=Pv (i+1),bk:=D.nx} σ2 H2) (hd:∀σ H,Pv n σ H->D.nx σ H) :
  ∃W:Nat->Nat->St->Hp->Prop,(∃m,W 0 m σ H)/\∀i m σ H,W i m σ H ->
   ((Itr lo n).stop i H/\D.nx σ H)\/((Itr lo n).go i H/\∃N:St->Hp->Prop,(∀σ' H',N σ' H'->∃m',m'<m/\W (i+1) m' σ' H')/\∀x H',(Itr lo n).yld i H x H'->g x σ H' λσ2 H2=>tb {D with nx:=N,ct:=N,bk:=D.nx} σ2 H2):=by
 refine⟨λi m σ H=>m=n-i/\i<=n/\Pv i σ H,⟨n,by simp,Ia _,h0⟩,?_⟩
 rintro i m σ H ⟨rfl,hi,p⟩
 by_cases hlt:i<n
 ·refine .inr ⟨hlt,Pv (i+1),λσ' H' p'=>⟨n-(i+1),by omega,rfl,hlt,p'⟩,λx H' y=>?_⟩
  obtain⟨e,y⟩:=y
  subst e y
  exact hs i σ _ hlt p
 ·have e:i=n:=by omega
  subst e
  exact .inl ⟨Af _,hd σ H p⟩
theorem jos{c:TT}{tb:TS}{D:Ends}{σ:St}{H:Hp}(Pv:St->Hp->Prop)(μ:St->Hp->Nat)(h0:Pv σ H)
  (hs:∀σ H,Pv σ H->c σ H λb H1=>if b=true then tb {D with nx:=λσ' H'=>Pv σ' H'/\μ σ' H'<μ σ H,ct:=λσ' H'=>Pv σ' H'/\μ σ' H'<μ σ H,bk:=D.nx} σ H1 else D.nx σ H1)
  (mono:∀σ H Q Q',(∀b H1,Q b H1->Q' b H1)->c σ H Q->c σ H Q'):jkt c tb D σ H:=by
 refine⟨λm σ H=>m=μ σ H/\Pv σ H,⟨_,rfl,h0⟩,?_⟩
 rintro m σ H ⟨rfl,p⟩
 refine mono σ H _ _ (λb H1 q=>?_) (hs σ H p)
 cases b with
 |true=>exact⟨_,λσ' H' ⟨p',l⟩=>⟨_,l,rfl,p'⟩,q⟩
 |false=>exact q
abbrev R2:=V->V->Hp->VK->Prop
def OpR(X:Cx)(f:Value->Value->Sem Value)(r:R2):Prop :=
 ∀(pins:List (Addr×Obj))(s:Shared)(σ:St)(H:Hp)(x y:V)(v u:Value)(Q:VK),Inv X pins σ H s->RelV x v->RelV y u->r x y H Q ->
  wpAny (model X.prog X.w) X.A (f v u) (EP X pins σ Q) X.xe s
def UnR(X:Cx)(f:Value->Sem Value)(r:V->Hp->VK->Prop):Prop :=
 ∀(pins:List (Addr×Obj))(s:Shared)(σ:St)(H:Hp)(x:V)(v:Value)(Q:VK),Inv X pins σ H s->RelV x v->r x H Q ->
  wpAny (model X.prog X.w) X.A (f v) (EP X pins σ Q) X.xe s
def jc1(X:Cx)(f:Value)(r:List V->Hp->VK->Prop):Prop :=
 ∀(pins:List (Addr×Obj))(s:Shared)(σ:St)(H:Hp)(xs:List V)(us:List Value)(Q:VK),Inv X pins σ H s->Vals xs us->r xs H Q ->
  wpAny (model X.prog X.w) X.A (call f us) (EP X pins σ Q) X.xe s
def TruR(X:Cx)(r:V->Hp->(Bool->Hp->Prop)->Prop):Prop :=
 ∀(pins:List (Addr×Obj))(s:Shared)(σ:St)(H:Hp)(x:V)(v:Value)(Q:Bool->Hp->Prop),Inv X pins σ H s->RelV x v->r x H Q ->
  wpAny (model X.prog X.w) X.A (truthy v) (TP X pins σ Q) X.xe s
def tOp(r:R2)(ta tb:TE):TE:=λσ H Q=>ta σ H λx H1=>tb σ H1 λy H2=>r x y H2 Q
def tUn(r:V->Hp->VK->Prop)(ta:TE):TE:=λσ H Q=>ta σ H λx H1=>r x H1 Q
def rI(C:Int->Int->Prop)(g:Int->Int->V):R2:=λx y H Q=>∃i j,x=.int i/\y=.int j/\C i j/\Q (g i j) H
def rI0(g:Int->Int->V):R2:=λx y H Q=>∃i j,x=.int i/\y=.int j/\Q (g i j) H
def rU(g:Int->V):V->Hp->VK->Prop:=λx H Q=>∃i,x=.int i/\Q (g i) H
section
variable{X:Cx}{a b c:Expr}{ta tb tc:TE}{pos:Pos}
theorem binT(ha:PE X a ta)(hb:PE X b tb){pins:List (Addr×Obj)}{s:Shared}{σ:St}{H:Hp}{R:V->V->Hp->Prop}(I:Inv X pins σ H s)
  (h:ta σ H λx H1=>tb σ H1 λy H2=>R x y H2) {Q:Value->Shared->Prop}{f:Value->Value->Sem Value}
  (hf:∀v u s2 x y H2,Inv X pins σ H2 s2->RelV x v->RelV y u->R x y H2->wpAny (model X.prog X.w) X.A (f v u) Q X.xe s2) :
  wpAny (model X.prog X.w) X.A (eval a X.env) (λv s₁=>wpAny (model X.prog X.w) X.A (eval b X.env) (λu s₂=>wpAny (model X.prog X.w) X.A (f v u) Q X.xe s₂) X.xe s₁) X.xe s:=by
 refine thn (ha pins s σ H _ I h) λv s1 ⟨x,H1,I1,r1,q1⟩=>?_
 refine thn (hb pins s1 σ H1 _ I1 q1) λu s2 ⟨y,H2,I2,r2,q2⟩=>?_
 exact hf v u s2 x y H2 I2 r1 r2 q2
theorem pe_op{op:Operator}{r:R2}(ho:OpR X (binaryOp op) r)(ha:PE X a ta)(hb:PE X b tb):PE X (.BinOp a op b pos) (tOp r ta tb):=by
 intro pins s σ H Q I h
 exact wpAny_BinOp (binT ha hb I h λv u s2 x y H2 I2 rx ry q=>ho pins s2 σ H2 x y v u Q I2 rx ry q)
theorem pe_un{op:UnaryOp}{r:V->Hp->VK->Prop}(ho:UnR X (unaryOp op) r)(ha:PE X a ta):PE X (.UnaryOp op a pos) (tUn r ta):=by
 intro pins s σ H Q I h
 exact UnaryOp_ (thn (ha pins s σ H _ I h) λv s1 ⟨x,H1,I1,r1,q1⟩=>ho pins s1 σ H1 x v Q I1 r1 q1)
theorem opI{f:Value->Value->Sem Value}{C:Int->Int->Prop}{g:Int->Int->Int}
  (rule:∀(i j:Int)(t u:Tok)(s:Shared)(Q:Value->Shared->Prop)(E:Value->Shared->Prop),C i j->Q (.int (g i j) s.toks) {s with toks:=s.toks+1}->wpAny (model X.prog X.w) X.A (f (.int i t) (.int j u)) Q E s) :
  OpR X f (rI C λi j=>.int (g i j)):=by
 intro pins s σ H x y v u Q I rx ry h
 obtain⟨i,j,rfl,rfl,hc,q⟩:=h
 obtain⟨t,rfl⟩:=rx
 obtain⟨t',rfl⟩:=ry
 exact rule i j t t' s _ _ hc ⟨.int (g i j),H,I.tok _,⟨_,rfl⟩,q⟩
theorem opI0{f:Value->Value->Sem Value}{g:Int->Int->Int}
  (rule:∀(i j:Int)(t u:Tok)(s:Shared)(Q:Value->Shared->Prop)(E:Value->Shared->Prop),Q (.int (g i j) s.toks) {s with toks:=s.toks+1}->wpAny (model X.prog X.w) X.A (f (.int i t) (.int j u)) Q E s) :
  OpR X f (rI0 λi j=>.int (g i j)):=by
 intro pins s σ H x y v u Q I rx ry h
 obtain⟨i,j,rfl,rfl,q⟩:=h
 obtain⟨t,rfl⟩:=rx
 obtain⟨t',rfl⟩:=ry
 exact rule i j t t' s _ _ ⟨.int (g i j),H,I.tok _,⟨_,rfl⟩,q⟩
theorem opB0{f:Value->Value->Sem Value}{g:Int->Int->Bool}
  (rule:∀(i j:Int)(t u:Tok)(s:Shared)(Q:Value->Shared->Prop)(E:Value->Shared->Prop),Q (.bool (g i j)) s->wpAny (model X.prog X.w) X.A (f (.int i t) (.int j u)) Q E s) :
  OpR X f (rI0 λi j=>.bl (g i j)):=by
 intro pins s σ H x y v u Q I rx ry h
 obtain⟨i,j,rfl,rfl,q⟩:=h
 obtain⟨t,rfl⟩:=rx
 obtain⟨t',rfl⟩:=ry
 exact rule i j t t' s _ _ ⟨.bl (g i j),H,I,rfl,q⟩
def CDiv(i j:Int):Prop:=0<j/\j<1073741824
def CPow(i j:Int):Prop:=0<=j/\j<=1000000/\i.natAbs<2^64
def CMul(i j:Int):Prop:=(-(2^64)<i/\i<2^64)\/(-(2^64)<j/\j<2^64)
theorem CMul.ok{i j:Int}(h:CMul i j):IntMulOk i j:=by
 rcases h with⟨h1,h2⟩|⟨h1,h2⟩
 ·exact .of_left (intBits_le_64 h1 h2)
 ·exact .of_right (intBits_le_64 h1 h2)
theorem op_add:OpR X (binaryOp .Add) (rI0 λi j=>.int (i+j)):=opI0 λ_ _ _ _ _ _ _ q=>add_int q
theorem zk:OpR X (binaryOp .Sub) (rI0 λi j=>.int (i-j)):=opI0 λ_ _ _ _ _ _ _ q=>sub_int q
theorem op_mul:OpR X (binaryOp .Mult) (rI CMul λi j=>.int (i*j)):=opI λ_ _ _ _ _ _ _ hc q=>mul_int q hc.ok
theorem jb5:OpR X (binaryOp .FloorDiv) (rI CDiv λi j=>.int (i / j)):=opI λi j _ _ _ _ _ hc q=>by
 have h1:(0:Int)<j:=hc.1
 have h2:j<1073741824:=hc.2
 exact floordiv_int (by omega) (by rw[Int.fdiv_eq_ediv_of_nonneg i (by omega)];exact q) (.inl (PyProof.noPylong_small (by omega)))
theorem jab:OpR X (binaryOp .Mod) (rI (λ_ j=>0<j) λi j=>.int (i%j)):=opI λi j _ _ _ _ _ hc q=>by
 have h1:(0:Int)<j:=hc
 exact mod_int' (by omega) (by rw[Int.fmod_eq_emod_of_nonneg i (by omega)];exact q)
theorem op_pow:OpR X (binaryOp .Pow) (rI CPow λi j=>.int (i^j.toNat)):=opI λ_ _ _ _ _ _ _ hc q=>pow_int_small hc.1 hc.2.1 hc.2.2 q
theorem unI{f:Value->Sem Value}{g:Int->Int}
  (rule:∀(i:Int)(t:Tok)(s:Shared)(Q:Value->Shared->Prop)(E:Value->Shared->Prop),Q (.int (g i) s.toks) {s with toks:=s.toks+1}->wpAny (model X.prog X.w) X.A (f (.int i t)) Q E s) :
  UnR X f (rU λi=>.int (g i)):=by
 intro pins s σ H x v Q I rx h
 obtain⟨i,rfl,q⟩:=h
 obtain⟨t,rfl⟩:=rx
 exact rule i t s _ _ ⟨.int (g i),H,I.tok _,⟨_,rfl⟩,q⟩
theorem jef:UnR X (unaryOp .USub) (rU λi=>.int (-i)):=unI λ_ _ _ _ _ q=>neg_int q
end
def scal:V->V->Bool
 |.non,.non=>true|.non,.int _=>true|.int _,.non=>true|.non,.bl _=>true|.bl _,.non=>true|.non,.str _=>true|.str _,.non=>true
 |.int _,.int _=>true|.bl _,.bl _=>true|.str _,.str _=>true|.byt _,.byt _=>true
 |.int _,.str _=>true|.str _,.int _=>true|.bl _,.str _=>true|.str _,.bl _=>true
 |_,_=>false
def rEq:R2:=λx y H Q=>scal x y=true/\Q (.bl (decide (x=y))) H
theorem jph{i j:Int}:decide (V.int i=V.int j)=(i == j):=by
 rw[Wb]
 simp
theorem jqn{i j:Bool}:decide (V.bl i=V.bl j)=(i == j):=by
 rw[Wb]
 simp
theorem jpi{i j:Str}:decide (V.str i=V.str j)=(i == j):=by
 rw[Wb]
 simp
theorem jpg{i j:Array UInt8}:decide (V.byt i=V.byt j)=(i.toList == j.toList):=by
 rw[Wb]
 cases i
 cases j
 simp
section
variable{X:Cx}{a b c:Expr}{ta tb tc:TE}{pos:Pos}
theorem jcw{pins:List (Addr×Obj)}{σ:St}{H:Hp}{s:Shared}{Q:VK}{k k':Bool}(I:Inv X pins σ H s)(q:Q (.bl k) H)(e:k=k'):EP X pins σ Q (.bool k') s:=by
 subst e
 exact⟨.bl k,H,I,rfl,q⟩
theorem jbw:OpR X (compareOp .Eq) rEq:=by
 intro pins s σ H x y v u Q I rx ry h
 obtain⟨hs,q⟩:=h
 cases x with
 |non =>
  cases rx
  cases y with
  |non=>cases ry;exact PySem.EqNone.eq_none_none (jcw I q (by simp))
  |bl j=>cases ry;exact PySem.EqNone.eq_none_bool (jcw I q (by simp))
  |int j=>obtain⟨t',rfl⟩:=ry;exact PySem.EqNone.eq_none_int (jcw I q (by simp))
  |str j=>obtain⟨t',rfl⟩:=ry;exact PySem.EqNone.eq_none_str (jcw I q (by simp))
  |_=>exact absurd (show false=true from hs) A4
 |bl i =>
  cases rx
  cases y with
  |non=>cases ry;exact PySem.EqNone.eq_bool_none (jcw I q (by simp))
  |bl j=>cases ry;exact eq_bool (jcw I q jqn)
  |str j=>obtain⟨t',rfl⟩:=ry;exact PySem.EqMixed.eq_bool_str (jcw I q (by simp))
  |_=>exact absurd (show false=true from hs) A4
 |int i =>
  obtain⟨t,rfl⟩:=rx
  cases y with
  |non=>cases ry;exact PySem.EqNone.eq_int_none (jcw I q (by simp))
  |int j=>obtain⟨t',rfl⟩:=ry;exact eq_int (jcw I q jph)
  |str j=>obtain⟨t',rfl⟩:=ry;exact PySem.EqMixed.eq_int_str (jcw I q (by simp))
  |_=>exact absurd (show false=true from hs) A4
 |str i =>
  obtain⟨t,rfl⟩:=rx
  cases y with
  |non=>cases ry;exact PySem.EqNone.eq_str_none (jcw I q (by simp))
  |bl j=>cases ry;exact PySem.EqMixed.eq_str_bool (jcw I q (by simp))
  |int j=>obtain⟨t',rfl⟩:=ry;exact PySem.EqMixed.eq_str_int (jcw I q (by simp))
  |str j=>obtain⟨t',rfl⟩:=ry;exact eq_str (jcw I q jpi)
  |_=>exact absurd (show false=true from hs) A4
 |byt i =>
  obtain⟨t,rfl⟩:=rx
  cases y with
  |byt j=>obtain⟨t',rfl⟩:=ry;exact PySem.W.eq_bytes (jcw I q jpg)
  |_=>exact absurd (show false=true from hs) A4
 |_=>cases y <;> exact absurd (show false=true from hs) A4
theorem op_lt:OpR X (compareOp .Lt) (rI0 λi j=>.bl (decide (i<j))):=opB0 λ_ _ _ _ _ _ _ q=>lt_int q
theorem op_le:OpR X (compareOp .LtE) (rI0 λi j=>.bl (decide (i<=j))):=opB0 λ_ _ _ _ _ _ _ q=>le_int q
theorem ja4:OpR X (compareOp .Gt) (rI0 λi j=>.bl (decide (j<i))):=opB0 λ_ _ _ _ _ _ _ q=>gt_int q
theorem jck:OpR X (compareOp .GtE) (rI0 λi j=>.bl (decide (j<=i))):=opB0 λ_ _ _ _ _ _ _ q=>ge_int q
theorem op_lt_str:OpR X (compareOp .Lt) (λx y H Q=>∃i j,x=.str i/\y=.str j/\Q (.bl (decide (i.cps.toList<j.cps.toList))) H):=by
 intro pins s σ H x y v u Q I rx ry h
 obtain⟨i,j,rfl,rfl,q⟩:=h
 obtain⟨t,rfl⟩:=rx
 obtain⟨t',rfl⟩:=ry
 exact lt_str (jcw I q rfl)
theorem op_in_str:OpR X (compareOp .In) (λx y H Q=>∃i j,x=.str i/\y=.str j/\Q (.bl (!(Builtin.Str.occurrences j i 0 j.length 1).isEmpty)) H):=by
 intro pins s σ H x y v u Q I rx ry h
 obtain⟨i,j,rfl,rfl,q⟩:=h
 obtain⟨t,rfl⟩:=rx
 obtain⟨t',rfl⟩:=ry
 exact in_str (jcw I q rfl)
theorem jw(b:Expr){op:CmpOp}(h:op≠.In:=by decide)(h2:op≠.NotIn:=by decide):behindInMarks op b=false:=by
 have e1:(op == CmpOp.In)=false:=by cases op <;> first|rfl|exact absurd rfl h
 have e2:(op == CmpOp.NotIn)=false:=by cases op <;> first|rfl|exact absurd rfl h2
 cases b <;> simp[behindInMarks,e1,e2]
theorem pe_cmpR{op:CmpOp}{r:R2}(ho:OpR X (compareOp op) r)(ha:PE X a ta)(hb:PE X b tb)(hm:behindInMarks op b=false):PE X (.Compare a [op] [b] pos) (tOp r ta tb):=by
 intro pins s σ H Q I h
 exact wpAny_Compare1 (binT ha hb I h λv u s2 x y H2 I2 rx ry q=>ho pins s2 σ H2 x y v u Q I2 rx ry q) hm
def jjr(t:TE):TT:=λσ H Q=>t σ H λx H'=>∃k,x=.bl k/\Q k H'
theorem pt_cmpR{op:CmpOp}{r:R2}(ho:OpR X (compareOp op) r)(ha:PE X a ta)(hb:PE X b tb)(hm:behindInMarks op b=false):PT X (.Compare a [op] [b] pos) (jjr (tOp r ta tb)):=by
 intro pins s σ H Q I h
 refine wpAny_isTrue_Compare1 (thn (ha pins s σ H _ I h) λv s1 ⟨x,H1,I1,r1,q1⟩=>thn (hb pins s1 σ H1 _ I1 q1) λu s2 ⟨y,H2,I2,r2,q2⟩ =>
  thn (ho pins s2 σ H2 x y v u _ I2 r1 r2 q2) λc s3 ⟨z,H3,I3,r3,k,e,q3⟩=>?_) hm
 subst e
 cases r3
 exact Oa ⟨H3,I3,q3⟩
def jhh(r r':R2)(ta tb tc:TE):TE:=λσ H Q=>ta σ H λx H1=>tb σ H1 λy H2=>r x y H2 λz H3=>∃k,z=.bl k /\
 (if k=true then tc σ H3 λw' H4=>r' y w' H4 Q else Q (.bl false) H3)
theorem pe_chain{op op':CmpOp}{r r':R2}(ho:OpR X (compareOp op) r)(ho':OpR X (compareOp op') r')(ha:PE X a ta)(hb:PE X b tb)(hc:PE X c tc)
  (hm:lastMarks [op,op'] [b,c]=false:=by with_unfolding_all rfl):PE X (.Compare a [op,op'] [b,c] pos) (jhh r r' ta tb tc):=by
 intro pins s σ H Q I h
 refine Compare_chain (thn (ha pins s σ H _ I h) λv s1 ⟨x,H1,I1,r1,q1⟩=>chain_link (thn (hb pins s1 σ H1 _ I1 q1) λu s2 ⟨y,H2,I2,r2,q2⟩ =>
  thn (ho pins s2 σ H2 x y v u _ I2 r1 r2 q2) λd s3 ⟨z,H3,I3,r3,k,e,q3⟩=>?_)) hm
 subst e
 cases r3
 refine Oa ?_
 cases k with
 |false=>exact ite_ff ⟨.bl false,H3,I3,rfl,q3⟩
 |true=>exact ite_tt (chain_last (thn (hc pins s3 σ H3 _ I3 q3) λw' s4 ⟨z',H4,I4,r4,q4⟩=>ho' pins s4 σ H4 y z' u w' Q I4 r2 r4 q4))
def TruV(K:PySem.W.Frag)(x:V)(H:Hp)(k:Bool):Prop :=
 match x with
 |.non=>k=false
 |.bl b=>k=b
 |.int i=>k=(i != 0)
 |.str y=>y.length<=sizeLine/\k=((y.length:Int) != 0)
 |.byt y=>y.size<=sizeLine/\k=((y.size:Int) != 0)
 |.ref p=>(∃xs,SqL K H p xs/\k=!xs.isEmpty)\/(∃xs,SqT K H p xs/\k=!xs.isEmpty)\/∃kvs,H p=some (.dK kvs)/\k=!kvs.isEmpty
 |_=>False
theorem jmh{κ:Type}{kvs:List (κ×V)}{vs:List (κ×Value)}(r:KV kvs vs):(!vs.isEmpty)=!kvs.isEmpty:=by
 cases r <;> rfl
theorem jg1{xs:List V}{its:List Value}(r:Vals xs its):(!its.toArray.isEmpty)=!xs.isEmpty:=by
 cases r <;> simp
theorem jd9:(sizeLine:Nat)<2^63:=by rw[U2];decide
theorem jq7:TruR X (λx H Q=>∃k,TruV X.K x H k/\Q k H):=by
 intro pins s σ H x v Q I rx h
 obtain⟨k,e,q⟩:=h
 have hl:=jd9
 have hs:sizeLine=16777216:=U2
 cases x with
 |non =>
  cases rx
  have e':k=false:=e
  subst e'
  exact truthy_none ⟨H,I,q⟩
 |bl b =>
  cases rx
  have e':k=b:=e
  subst e'
  exact Oa ⟨H,I,q⟩
 |int i =>
  obtain⟨t,rfl⟩:=rx
  have e':k=(i != 0):=e
  subst e'
  exact PySem.P.truthy_int ⟨H,I,q⟩
 |str y =>
  obtain⟨t,rfl⟩:=rx
  obtain⟨hy,e'⟩:y.length<=sizeLine/\k=((y.length:Int) != 0):=e
  subst e'
  exact PySem.P.truthy_str (by omega) ⟨H,I.tok _,q⟩
 |byt y =>
  obtain⟨t,rfl⟩:=rx
  obtain⟨hy,e'⟩:y.size<=sizeLine/\k=((y.size:Int) != 0):=e
  subst e'
  exact PySem.W.truthy_bytes (by omega) ⟨H,I.tok _,q⟩
 |ref p =>
  cases rx
  have e':(∃xs,SqL X.K H p xs/\k=!xs.isEmpty)\/(∃xs,SqT X.K H p xs/\k=!xs.isEmpty)\/∃kvs,H p=some (.dK kvs)/\k=!kvs.isEmpty:=e
  rcases e' with⟨xs,hx,e'⟩|⟨xs,hx,e'⟩|⟨kvs,hx,e'⟩
  ·subst e'
   obtain⟨its,r,pl,hz⟩:=I.list hx
   have hlen:=r.length
   exact wpAny_truthy_list pl.isList (by simp only[Aj];omega) ⟨H,I.tok _,by rw[jg1 r];exact q⟩
  ·subst e'
   obtain⟨its,r,pl,hz⟩:=I.tuple hx
   have hlen:=r.length
   exact truthy_tuple pl (by simp only[Aj];omega) ⟨H,I.tok _,by rw[jg1 r];exact q⟩
  ·subst e'
   obtain⟨hz,hS,vs,r,m⟩:kvs.length<=sizeLine/\(p == sysModules)=false/\∃vs,KV kvs vs/\s.heap.DictOf (jcr X.prog X.w) p vs:=I.hok p _ hx
   have hlen:kvs.length=vs.length:=Ip r
   exact wpAny_truthy_dict hS m (by omega) ⟨H,I.tok _,by rw[jmh r];exact q⟩
 |_=>exact(show False from e).elim
theorem op_add_str:OpR X (binaryOp .Add) (λx y H Q=>∃i j,x=.str i/\y=.str j/\i.length+j.length<=sizeLine/\Q (.str (i++j)) H):=by
 intro pins s σ H x y v u Q I rx ry h
 obtain⟨i,j,rfl,rfl,hz,q⟩:=h
 obtain⟨t,rfl⟩:=rx
 obtain⟨t',rfl⟩:=ry
 exact add_str (λt' tk=>⟨.str (i++j),H,I.tok _,⟨_,rfl⟩,q⟩) hz
theorem jdq{x:V}{us:List Value}(r:Vals [x] us):∃u,us=[u]/\RelV x u:=by
 cases r with
 |cons r1 r2=>cases r2;exact⟨_,rfl,r1⟩
theorem jho{x y:V}{us:List Value}(r:Vals [x,y] us):∃u w',us=[u,w']/\RelV x u/\RelV y w':=by
 cases r with
 |cons r1 r2 =>
  cases r2 with
  |cons r3 r4=>cases r4;exact⟨_,_,rfl,r1,r3⟩
theorem call_min2(hc:X.calm=true):jc1 X (.builtin "min") (λxs H Q=>∃i j,xs=[.int i,.int j]/\Q (.int (if j<i then j else i)) H):=by
 intro pins s σ H xs us Q I r h
 obtain⟨i,j,rfl,q⟩:=h
 obtain⟨u,w',rfl,⟨t,rfl⟩,⟨t',rfl⟩⟩:=jho r
 refine min_two_ints (I.ok.hd hc) λh' tk k=>⟨_,H,I.kept k,?_,q⟩
 by_cases hj:j<i
 ·rw[Ad hj,Ad hj];exact⟨_,rfl⟩
 ·rw[Aa hj,Aa hj];exact⟨_,rfl⟩
theorem jbp:jc1 X (.type "int") (λxs H Q=>(∃i,xs=[.int i]/\Q (.int i) H)\/∃k,xs=[.bl k]/\Q (.int (if k then 1 else 0)) H):=by
 intro pins s σ H xs us Q I r h
 rcases h with⟨i,rfl,q⟩|⟨k,rfl,q⟩
 ·obtain⟨u,rfl,t,rfl⟩:=jdq r
  exact call_int_int ⟨.int i,H,I,⟨_,rfl⟩,q⟩
 ·obtain⟨u,rfl,r1⟩:=jdq r
  cases r1
  exact call_int_bool ⟨.int (if k then 1 else 0),H,I.tok _,⟨_,rfl⟩,q⟩
end
structure ObjM(h:Heap)(x dx C:Addr)(mA:Str->Option Value):Prop where
 obj:h.get? x=some (PySem.W.instObj C dx)
 ns:h.Ns1 dx mA
 ne:dx≠x
theorem jnm{h:Heap}{dx:Addr}{mA:Str->Option Value}(n:h.Ns1 dx mA):∃od,h.get? dx=some od/\∀name,PySem.W.lookIn name od=some (mA name):=by
 obtain⟨o,es,ep,ho,hd,hk,_,hm⟩:=n
 refine⟨o,ho,λname=>?_⟩
 have e:=hm name
 unfold nsFind findBy at e
 rw[<-Array.find?_toList]at e
 unfold PySem.W.lookIn
 rw[hd]
 dsimp only
 split
 ·rename_i y q
  rw[q]at e
  exact O0 some e
 ·rename_i q
  rw[q]at e
  have a:es.toList.any (·.refKey)=false:=by
   rw[List.any_eq_false]
   intro y hy
   obtain⟨z,t,hkey⟩:=hk y (Array.mem_toList_iff.mp hy)
   simp[DictEntry.refKey,hkey]
  have a':¬es.toList.any (·.refKey)=true:=by rw[a];exact A4
  rw[Aa a']
  exact O0 some e
theorem ObjM.look{h:Heap}{x dx C:Addr}{mA:Str->Option Value}(I:ObjM h x dx C mA):∃od,PySem.W.InstAt h x (PySem.W.instObj C dx) C (some od)/\∀name,PySem.W.lookIn name od=some (mA name) :=
 let⟨od,ho,hl⟩:=jnm I.ns
 ⟨od,⟨I.obj,rfl,rfl,ho⟩,hl⟩
section
variable{prog:Program}{w:World}{A:Around}{E:Value->Shared->Prop}{s:Shared}{K:PySem.W.Frag}{x dx C f:Addr}{mA:Str->Option Value}{name:Str}{v:Value}
theorem jpl{expr:Bool}{Q:Value->Shared->Prop}(X:K.In s.heap)(I:ObjM s.heap x dx C mA)(hg:PySem.W.plainGet K C name=true)(hh:PySem.W.hasDictIn K C=true)
  (ha:PySem.W.findIn K (.ref C) name=some none) (hv:mA name=some v) (hv':PySem.W.handedIn v=true) (h:Q v {s with toks:=s.toks+1}) :
  wpAny (model prog w) A (getAttr (.ref x) name expr) Q E s:=by
 obtain⟨od,J,hl⟩:=I.look
 exact PySem.W.get_value X J (Wi hg).1 (PySem.W.findObj_own hh ha rfl (by rw[hl,hv])) hv' h
theorem jn8{pl:Sem Bool}{Q:Value×List Value->Shared->Prop}(X:K.In s.heap)(I:ObjM s.heap x dx C mA)(hg:PySem.W.plainGet K C name=true)
  (hf:PySem.W.findIn K (.ref C) name=some (some (.ref f))) (ht:PySem.W.isFn K (.ref f)=true) (hv:mA name=none) (h:Q (.ref f,[.ref x]) s) :
  wpAny (model prog w) A (getMethod (.ref x) name pl) Q E s:=by
 obtain⟨od,J,hl⟩:=I.look
 exact PySem.W.method_fn X J (Wi hg).1 (Wi hg).2 hf (Uk.mp ht) (by show(PySem.W.lookIn name od).map (·.isSome)=some false;rw[hl,hv];rfl) h
theorem jp6{ns:List Str}{Q:Unit->Shared->Prop}(X:K.In s.heap)(I:ObjM s.heap x dx C mA)
  (hs:PySem.W.findIn K (.ref C) "__setattr__"=some (some (.builtin "object.__setattr__"))) (hp:PySem.W.plainOver K C=true) (ht:PySem.W.takerIn K C name=some none) (hh:PySem.W.hasDictIn K C=true)
  (hw:PySem.Within mA ns) (hsz:ns.length<=sizeLine)
  (h:∀h',ObjM h' x dx C (λy=>if y=name then some v else mA y)->Heap.SameBut dx s.heap h'->Q () {s with heap:=h',toks:=s.toks+2}) :
  wpAny (model prog w) A (setAttr (.ref x) name v) Q E s:=by
 obtain⟨od,J,hl⟩:=I.look
 refine PySem.W.set_plain X J hs (PySem.W.osa_open (s:={s with toks:=s.toks+1}) (r:=none) X J hp ht λb=>?_)
 obtain⟨cd,hc,hd'⟩:=PySem.W.any_some hh
 have hx:s.heap.get? x=some ⟨.ref C,some dx,.plain,#[]⟩:=I.obj
 refine Ab (Am (Ab (Ab (wpAny_loadPart hx (Ab (PySem.W.Looks.here (s:={s with toks:=s.toks+1}) (PySem.W.looks_clsIn X hc) ?_))))))
 rw[hd']
 refine Am (a:=some dx) (Ab (Am (Ab ?_)))
 refine wpAny_nsSet1 (s:={s with toks:=s.toks+1}) I.ns λh' hn2 hs2=>?_
 obtain⟨oD,esD,epD,hoD,hdD,hcD⟩:=hn2.count (PySem.Within.cons name v hw)
 refine Ab (wpAny_lookBehind hoD (by rw[hdD];exact pastItsLine_dict (Ib hcD (by rw[List.length_cons];omega))) ?_)
 exact Am (h _ ⟨(hs2.2 _ (Ix I.ne)).trans I.obj,hn2,I.ne⟩ hs2)
theorem jog{R:Result->Shared->Prop}{vs:List Value}{kw:List (Str×Value)}(X:K.In s.heap)(hm:PySem.W.makesIn K C=true)
  (hi:PySem.W.findIn K (.ref C) "__init__"=some (some (.ref f))) (hf:PySem.W.typeIn K (.ref f)=some (.type "function"))
  (h:codeAny (model prog w) (A.under (.builtin "type.__call__" ⟨.ref C::vs,kw⟩)) (.call (.ref f) ⟨.ref (s.heap.objs.size+1)::vs,kw⟩) (PySem.W.InitBack (s.heap.objs.size+1) R)
   {s with heap:=(s.heap.push PySem.W.emptyDict).push (PySem.W.instObj C s.heap.objs.size)}) :
  codeAny (model prog w) A (.call (.ref C) ⟨vs,kw⟩) R s:=by
 obtain⟨hh,g,d,t,os⟩:=s
 exact PySem.W.make_core (PySem.W.makes_of X hm) (PySem.W.looks_findIn X hi) (λself=>PySem.W.bind_fn X self hf) (.inl rfl) h
end
def putF(f:Str)(v:V):List (Str×V)->List (Str×V)
 |[]=>[(f,v)]
 |(g,x)::r=>if g=f then(g,v)::r else(g,x)::putF f v r
theorem jf8(f g:Str)(v:V):∀fs:List (Str×V),(putF f v fs).lookup g=if g=f then some v else fs.lookup g
 |[]=>by
  show List.lookup g [(f,v)]=_
  by_cases h:g=f
  ·have hb:(g == f)=true:=Uk.mpr h
   simp only[List.lookup,hb,Ad h]
  ·have hb:(g == f)=false:=Ol.mpr h
   simp only[List.lookup,hb,Aa h]
 |(k,x)::r=>by
  have ih:=jf8 f g v r
  rw[show putF f v ((k,x)::r)=(if k=f then(k,v)::r else(k,x)::putF f v r)from rfl]
  by_cases hk:k=f
  ·rw[Ad hk]
   by_cases h:g=k
   ·have hb:(g == k)=true:=Uk.mpr h
    simp only[List.lookup,hb,Ad (h.trans hk)]
   ·have hb:(g == k)=false:=Ol.mpr h
    simp only[List.lookup,hb,Aa (λe:g=f=>h (e.trans hk.symm))]
  ·rw[Aa hk]
   by_cases h:g=k
   ·have hb:(g == k)=true:=Uk.mpr h
    simp only[List.lookup,hb,Aa (λe:g=f=>hk (h.symm.trans e))]
   ·have hb:(g == k)=false:=Ol.mpr h
    simp only[List.lookup,hb]
    exact ih
theorem jfd(f:Str)(v:V):∀fs:List (Str×V),f∈(putF f v fs).map (·.1)/\∀g,g∈fs.map (·.1)->g∈(putF f v fs).map (·.1)
 |[]=>⟨by simp[putF],λg h=>by simp at h⟩
 |(k,x)::r=>by
  obtain⟨i1,i2⟩:=jfd f v r
  rw[show putF f v ((k,x)::r)=(if k=f then(k,v)::r else(k,x)::putF f v r)from rfl]
  by_cases hk:k=f
  ·rw[Ad hk]
   subst hk
   exact⟨by simp,λg h=>by simpa using h⟩
  ·rw[Aa hk]
   refine⟨?_,λg h=>?_⟩
   ·rw[Ax]
    exact Ig _ i1
   ·rw[Ax]at h⊢
    rcases Aw.mp h with e|e
    ·exact Aw.mpr (.inl e)
    ·exact Ig _ (i2 g e)
theorem jf7(f:Str)(v:V):∀fs:List (Str×V),(putF f v fs).length<=fs.length+1
 |[]=>by simp[putF]
 |(k,x)::r=>by
  have ih:=jf7 f v r
  rw[show putF f v ((k,x)::r)=(if k=f then(k,v)::r else(k,x)::putF f v r)from rfl]
  by_cases hk:k=f
  ·rw[Ad hk,List.length_cons,List.length_cons];omega
  ·rw[Aa hk,List.length_cons,List.length_cons];omega
theorem RelO.some_of{v:V}{o:Option Value}(r:RelO (some v) o):∃u,o=some u/\RelV v u:=by
 cases o with
 |none=>exact(show False from r).elim
 |some u=>exact⟨u,rfl,r⟩
theorem RelO.none_of{o:Option Value}(r:RelO none o):o=none:=by
 cases o with
 |none=>rfl
 |some u=>exact(show False from r).elim
theorem jid{v:V}{u:Value}(r:RelV v u):PySem.W.handedIn u=true:=by
 cases v with
 |non=>cases(show u=Value.none from r);rfl
 |bl b=>cases(show u=Value.bool b from r);rfl
 |int i=>obtain⟨t,e⟩:=(show ∃t,u=Value.int i t from r);cases e;rfl
 |str x=>obtain⟨t,e⟩:=(show ∃t,u=Value.str x t from r);cases e;rfl
 |byt b=>obtain⟨t,e⟩:=(show ∃t,u=Value.bytes b t from r);cases e;rfl
 |flt b=>obtain⟨t,e⟩:=(show ∃t,u=Value.float b t from r);cases e;rfl
 |ref a=>cases(show u=Value.ref a from r);rfl
 |ty n=>cases(show u=Value.type n from r);rfl
section
variable{P:Program}{w:World}{H H':Hp}{h h':Heap}{a C dx:Addr}{fs fs':List (Str×V)}
theorem jfv(hok:HOk P w H h)(e:H a=some (.ins C dx fs)):∃mA,ObjM h a dx C mA/\(∀f,RelO (fs.lookup f) (mA f))/\PySem.Within mA (fs.map (·.1))/\fs.length<=1000/\H dx=some (.own a):=by
 obtain⟨d,z,ne,ob,mA,n,r,q⟩:=(show ObjOk P w H h a (.ins C dx fs)from hok a _ e)
 exact⟨mA,⟨ob,n,ne⟩,r,q,z,d⟩
end
structure Cls(K:PySem.W.Frag)(C:Addr):Prop where
 pg:PySem.W.plainGet K C Str.empty=true
 hd:PySem.W.hasDictIn K C=true
 po:PySem.W.plainOver K C=true
 sa:PySem.W.findIn K (.ref C) "__setattr__"=some (some (.builtin "object.__setattr__"))
theorem Cls.get{K:PySem.W.Frag}{C:Addr}(c:Cls K C)(f:Str):PySem.W.plainGet K C f=true:=c.pg
def NoAttr(K:PySem.W.Frag)(C:Addr)(f:Str):Prop:=PySem.W.findIn K (.ref C) f=some none
theorem NoAttr.taker{K:PySem.W.Frag}{C:Addr}{f:Str}(n:NoAttr K C f):PySem.W.takerIn K C f=some none:=by
 unfold PySem.W.takerIn
 rw[show PySem.W.findIn K (.ref C) f=some none from n]
 rfl
structure Meth(K:PySem.W.Frag)(C:Addr)(m:Str)(f:Addr):Prop where
 at_:PySem.W.findIn K (.ref C) m=some (some (.ref f))
 fn:PySem.W.isFn K (.ref f)=true
 kp:PySem.W.keepIn K (.ref f)=true
section
variable{X:Cx}{pins:List (Addr×Obj)}{σ:St}{H:Hp}{s:Shared}{a C dx:Addr}{fs:List (Str×V)}{f:Str}{v:V}{A:Around}{E:Value->Shared->Prop}
theorem jgw{b:Bool}{Q:Value->Shared->Prop}(I:Inv X pins σ H s)(e:H a=some (.ins C dx fs))(c:Cls X.K C)(n:NoAttr X.K C f)(l:fs.lookup f=some v)
  (h:∀u s',Inv X pins σ H s'->RelV v u->Q u s'):wpAny (model X.prog X.w) A (getAttr (.ref a) f b) Q E s:=by
 obtain⟨mA,O,r,_,_,_⟩:=jfv I.hok e
 obtain⟨u,hu,ru⟩:=RelO.some_of (v:=v) (o:=mA f) (by rw[<-l];exact r f)
 exact jpl I.kIn O (c.get f) c.hd n hu (jid ru) (h u _ (I.tok _) ru)
theorem jme{m:Str}{g:Addr}{pl:Sem Bool}{Q:Value×List Value->Shared->Prop}(I:Inv X pins σ H s)(e:H a=some (.ins C dx fs))(c:Cls X.K C)(k:Meth X.K C m g)(l:fs.lookup m=none)
  (h:Q (.ref g,[.ref a]) s):wpAny (model X.prog X.w) A (getMethod (.ref a) m pl) Q E s:=by
 obtain⟨mA,O,r,_,_,_⟩:=jfv I.hok e
 have hn:mA m=none:=RelO.none_of (by rw[<-l];exact r m)
 exact jn8 I.kIn O (c.get m) k.at_ k.fn hn h
theorem jha{y:V}{u:Value}{Q:Unit->Shared->Prop}(I:Inv X pins σ H s)(e:H a=some (.ins C dx fs))(c:Cls X.K C)(n:NoAttr X.K C f)(hl:fs.length<1000)(ry:RelV y u)
  (h:∀s',Inv X pins σ (upd H a (.ins C dx (putF f y fs))) s'->Q () s'):wpAny (model X.prog X.w) A (setAttr (.ref a) f u) Q E s:=by
 obtain⟨mA,O,r,wi,_,ho⟩:=jfv I.hok e
 have hz:(fs.map (·.1)).length<=sizeLine:=by rw[Ae,U2];omega
 refine jp6 I.kIn O c.sa c.po n.taker c.hd wi hz λh' O' sb=>h _ ?_
 have hd:∃o,h'.get? dx=some o:=let⟨o,_,_,e',_⟩:=O'.ns;⟨o,e'⟩
 refine I.write (x:=a) (e:=dx) (by rw[e];exact True.intro) (.inr ho) (λb q hb z=>(sb.2 b hb).trans z) hd ?_
 refine⟨by rw[jd O.ne];exact ho,?_,O.ne,O'.obj,_,O'.ns,λg=>?_,λg hg=>?_⟩
 ·have:=jf7 f y fs;omega
 ·show RelO ((putF f y fs).lookup g) (if g=f then some u else mA g)
  rw[jf8]
  by_cases q:g=f
  ·rw[Ad q,Ad q];exact ry
  ·rw[Aa q,Aa q];exact r g
 ·by_cases q:g=f
  ·rw[q];exact(jfd f y fs).1
  ·refine(jfd f y fs).2 g (wi g λz=>hg ?_)
   show(if g=f then some u else mA g)=none
   rw[Aa q];exact z
theorem Inv.made(I:Inv X pins σ H s):Inv X pins σ (upd (upd H s.heap.objs.size (.own (s.heap.objs.size+1))) (s.heap.objs.size+1) (.ins C s.heap.objs.size []))
  {s with heap:=(s.heap.push PySem.W.emptyDict).push (PySem.W.instObj C s.heap.objs.size)}:=by
 have e1:(s.heap.push PySem.W.emptyDict).get? s.heap.objs.size=some PySem.W.emptyDict:=Av s.heap rfl
 have e2:((s.heap.push PySem.W.emptyDict).push (PySem.W.instObj C s.heap.objs.size)).get? (s.heap.objs.size+1)=some (PySem.W.instObj C s.heap.objs.size):=by
  have:=Av (s.heap.push PySem.W.emptyDict) (o:=PySem.W.instObj C s.heap.objs.size) rfl
  rwa[Heap.size_push]at this
 have e3:(s.heap.push PySem.W.emptyDict).Ns s.heap.objs.size (λ_=>none):=⟨PySem.W.emptyDict,#[],_,e1,rfl,(λe he=>absurd he (by simp)),λ_=>rfl⟩
 have I1:=I.laid (a:=s.heap.objs.size) (o:=.own (s.heap.objs.size+1)) (h':=s.heap.push PySem.W.emptyDict) (t':=s.toks) (λb u q=>Ac _ q) (Af _) ⟨_,e1⟩
 refine I1.laid (a:=s.heap.objs.size+1) (o:=.ins C s.heap.objs.size []) (t':=s.toks) (λb u q=>Ac _ q) (Us (Heap.size_push _ _)) ?_
 have ne:s.heap.objs.size≠s.heap.objs.size+1:=Ar (Nat.lt_succ_self _)
 refine⟨by rw[jd ne,jc],Ia _,ne,e2,λ_=>none,(Heap.Ns1.of_empty e3).at λo q=>Ac _ q,λ_=>True.intro,λy hy=>absurd rfl hy⟩
theorem jlb{prog:Program}{w:World}{env:Env}{e:Expr}{f:Str}{pos:Pos}{s:Shared}{Q:Value->Shared->Prop}(hb:attributeBase e f env (eval e env)=eval e env)
  (h:wpAny (model prog w) A (eval e env) (λo s₁=>wpAny (model prog w) A (getAttr o f true) Q E s₁) E s):wpAny (model prog w) A (eval (.Attribute e f pos) env) Q E s :=
 Attribute_any_ h (by rw[arm_eval_Attribute,hb])
end
def tFld(K:PySem.W.Frag)(ta:TE)(f:Str):TE:=λσ H Q=>ta σ H λx H1=>∃a C dx fs v,x=.ref a/\H1 a=some (.ins C dx fs)/\Cls K C/\NoAttr K C f/\fs.lookup f=some v/\Q v H1
def sFld(K:PySem.W.Frag)(ta tv:TE)(f:Str):TS:=λD σ H=>tv σ H λy H1=>ta σ H1 λx H2=>∃a C dx fs,x=.ref a/\H2 a=some (.ins C dx fs)/\Cls K C/\NoAttr K C f/\fs.length<1000 /\
 D.nx σ (upd H2 a (.ins C dx (putF f y fs)))
def InOp(X:Cx)(op:Operator)(rd:V->V->Hp->VK->Prop):Prop :=
 ∀(pins:List (Addr×Obj))(s:Shared)(σ:St)(H:Hp)(x y:V)(u v:Value)(Q:VK),Inv X pins σ H s->RelV x u->RelV y v->rd x y H Q->wpAny (model X.prog X.w) X.A (inplaceOp op u v) (EP X pins σ Q) X.xe s
def jfx(K:PySem.W.Frag)(ta tv:TE)(rd:V->V->Hp->VK->Prop)(f:Str):TS:=λD σ H=>ta σ H λx H1=>∃a C dx fs v,x=.ref a/\H1 a=some (.ins C dx fs)/\Cls K C/\NoAttr K C f/\fs.lookup f=some v /\
 tv σ H1 λy H2=>rd v y H2 λz H3=>∃dx' fs',H3 a=some (.ins C dx' fs')/\fs'.length<1000/\D.nx σ (upd H3 a (.ins C dx' (putF f z fs')))
section
variable{X:Cx}{o e value:Expr}{f:Str}{pos pos' tpos:Pos}{ta tv:TE}
theorem pe_fld(he:PE X e ta)(hb:attributeBase e f X.env (eval e X.env)=eval e X.env):PE X (.Attribute e f pos) (tFld X.K ta f):=by
 intro pins s σ H Q I h
 refine jlb hb (thn (he pins s σ H _ I h) λu s1 ⟨x,H1,I1,rx,a,C,dx,fs,v,ex,ea,c,n,l,q⟩=>?_)
 subst ex
 obtain rfl:u=Value.ref a:=rx
 exact jgw I1 ea c n l λu' s2 I2 ru=>⟨v,H1,I2,ru,q⟩
theorem ps_fld(ha:PE X o ta)(hv:PE X value tv)(hs:swapsWith value (some (.Attribute o f pos')) pos.line X.env=pure false):PS X (.Assign [.Attribute o f pos'] value pos) (sFld X.K ta tv f):=by
 intro pins s σ H D I h
 refine plainObj_wpAny_Assign_Attribute (thn (hv pins s σ H _ I h) λu s1 ⟨y,H1,I1,ry,q⟩=>thn (ha pins s1 σ H1 _ I1 q) λov s2 ⟨x,H2,I2,rx,a,C,dx,fs,ex,ea,c,n,l,q2⟩=>?_) hs
 subst ex
 obtain rfl:ov=Value.ref a:=rx
 exact jha I2 ea c n l ry λs3 I3=>⟨σ,_,I3,q2⟩
theorem ps_fldaug{op:Operator}{rd:V->V->Hp->VK->Prop}(ha:PE X o ta)(hv:PE X value tv)(hop:InOp X op rd):PS X (.AugAssign (.Attribute o f tpos) op value pos) (jfx X.K ta tv rd f):=by
 intro pins s σ H D I h
 refine wpAny_AugAssign_AttributeAny (thn (ha pins s σ H _ I h) λov s1 ⟨x,H1,I1,rx,a,C,dx,fs,v,ex,ea,c,n,l,q⟩=>?_)
 subst ex
 obtain rfl:ov=Value.ref a:=rx
 refine jgw I1 ea c n l λu s2 I2 ru=>thn (hv pins s2 σ H1 _ I2 q) λw3 s3 ⟨y,H2,I3,ry,q3⟩=>thn (hop pins s3 σ H2 v y u w3 _ I3 ru ry q3) λw4 s4 ⟨z,H3,I4,rz,dx',fs',ea',l',q4⟩=>?_
 exact jha I4 ea' c n l' rz λs5 I5=>⟨σ,_,I5,q4⟩
def rAdd:V->V->Hp->VK->Prop:=λx y H Q=>∃i j,x=.int i/\y=.int j/\Q (.int (i+j)) H
def rSub:V->V->Hp->VK->Prop:=λx y H Q=>∃i j,x=.int i/\y=.int j/\Q (.int (i-j)) H
theorem jqr:InOp X .Add rAdd:=by
 rintro pins s σ H x y u v Q I rx ry ⟨i,j,rfl,rfl,q⟩
 obtain⟨t,rfl⟩:=(show ∃t,u=Value.int i t from rx)
 obtain⟨t',rfl⟩:=(show ∃t',v=Value.int j t' from ry)
 exact PyProof.Rows.iadd_int ⟨.int (i+j),H,I.tok _,⟨_,rfl⟩,q⟩
theorem jqs:InOp X .Sub rSub:=by
 rintro pins s σ H x y u v Q I rx ry ⟨i,j,rfl,rfl,q⟩
 obtain⟨t,rfl⟩:=(show ∃t,u=Value.int i t from rx)
 obtain⟨t',rfl⟩:=(show ∃t',v=Value.int j t' from ry)
 exact PyProof.Rows.isub_int ⟨.int (i-j),H,I.tok _,⟨_,rfl⟩,q⟩
end
section
variable{X:Cx}{pins:List (Addr×Obj)}{σ:St}{H:Hp}{s:Shared}{A:Around}{E:Value->Shared->Prop}{Q:Value->Shared->Prop}{c:Value}{b:Bool}
inductive TyOf (K:PySem.W.Frag) (H:Hp):V->Value->Prop where
 |non:TyOf K H .non (.type "NoneType")
 |bl (x:Bool):TyOf K H (.bl x) (.type "bool")
 |int (i:Int):TyOf K H (.int i) (.type "int")
 |str (x:Str):TyOf K H (.str x) (.type "str")
 |flt (x:UInt64):TyOf K H (.flt x) (.type "float")
 |lst {a:Addr}{xs:List V} (e:H a=some (.lst xs)):TyOf K H (.ref a) (.type "list")
 |frz {a:Addr}{o:Obj}{xs:List V} (e:H a=some (.frz o (.lst xs))):TyOf K H (.ref a) (.type "list")
 |tup {a:Addr}{xs:List V} (e:H a=some (.tup xs)):TyOf K H (.ref a) (.type "tuple")
 |dK {a:Addr}{kvs:List (Key×V)} (e:H a=some (.dK kvs)):TyOf K H (.ref a) (.type "dict")
 |dT {a:Addr}{kvs:List (List Key×V)} (e:H a=some (.dT kvs)):TyOf K H (.ref a) (.type "dict")
 |ins {a C dx:Addr}{fs:List (Str×V)} (e:H a=some (.ins C dx fs)) (cl:Cls K C) (ha:PySem.W.findIn K (.ref C) "__class__"=some (some (.builtin "object.__class__")))
   (hn:PySem.W.specialIn K (.builtin "object.__class__") "__get__"=some (some (.builtin "getset_descriptor.__get__"))) (htk:PySem.W.takesIn K (.builtin "object.__class__")=some true)
   (hm:PySem.W.mroIn K C (.type "object")=some true):TyOf K H (.ref a) (.ref C)
theorem jnh{x:V}{u t:Value}(I:Inv X pins σ H s)(rx:RelV x u)(ty:TyOf X.K H x t)(e:PySem.W.kitOne X.K t c=some b)(h:∀tk,Q (.bool b) {s with toks:=tk}) :
  wpAny (model X.prog X.w) A (call (.builtin "isinstance") [u,c]) Q E s:=by
 cases ty with
 |non=>cases(show u=Value.none from rx);exact Ih PySem.W.kitx_none I.kIn True.intro e (λz=>nomatch z) h
 |bl y=>cases(show u=Value.bool y from rx);exact Ih PySem.W.kitx_bool I.kIn True.intro e (λz=>nomatch z) h
 |int i=>obtain⟨t,q⟩:=(show ∃t,u=Value.int i t from rx);cases q;exact Ih PySem.W.kitx_int I.kIn True.intro e (λz=>nomatch z) h
 |str y=>obtain⟨t,q⟩:=(show ∃t,u=Value.str y t from rx);cases q;exact Ih PySem.W.kitx_str I.kIn True.intro e (λz=>nomatch z) h
 |flt y=>obtain⟨t,q⟩:=(show ∃t,u=Value.float y t from rx);cases q;exact Ih PySem.W.kitx_float I.kIn True.intro e (λz=>nomatch z) h
 |@lst a xs ea =>
  cases(show u=Value.ref a from rx)
  obtain⟨_,_,n,_,h1⟩:=(show ObjOk X.prog X.w H s.heap a (.lst xs)from I.hok a _ ea)
  exact Ih PySem.W.kitx_list I.kIn ⟨_,h1,rfl⟩ e (λz=>nomatch z) h
 |@frz a ob xs ea =>
  cases(show u=Value.ref a from rx)
  obtain⟨_,_,_,n,_,h1⟩:=(show ObjOk X.prog X.w H s.heap a (.frz ob (.lst xs))from I.hok a _ ea)
  exact Ih PySem.W.kitx_list I.kIn ⟨_,h1,rfl⟩ e (λz=>nomatch z) h
 |@tup a xs ea =>
  cases(show u=Value.ref a from rx)
  obtain⟨_,_,_,p⟩:=(show ObjOk X.prog X.w H s.heap a (.tup xs)from I.hok a _ ea)
  obtain⟨o,h1,h2,_⟩:=p
  exact Ih PySem.W.kitx_tuple I.kIn ⟨o,h1,h2⟩ e (λz=>nomatch z) h
 |@dK a kvs ea =>
  cases(show u=Value.ref a from rx)
  obtain⟨_,_,vs,_,p⟩:=(show ObjOk X.prog X.w H s.heap a (.dK kvs)from I.hok a _ ea)
  obtain⟨o,es,ep,h1,h2,_⟩:=p
  exact Ih PySem.W.kitx_dict I.kIn ⟨o,h1,h2.1⟩ e (λz=>nomatch z) h
 |@dT a kvs ea =>
  cases(show u=Value.ref a from rx)
  obtain⟨_,_,xs,_,o,es,ep,h1,h2,_⟩:=(show ObjOk X.prog X.w H s.heap a (.dT kvs)from I.hok a _ ea)
  exact Ih PySem.W.kitx_dict I.kIn ⟨o,h1,h2.1⟩ e (λz=>nomatch z) h
 |@ins a C dx fs ea cl ha hn htk hm =>
  cases(show u=Value.ref a from rx)
  obtain⟨mA,O,_⟩:=jfv I.hok ea
  obtain⟨od,J,_⟩:=O.look
  exact Ih (PySem.W.kitx_own (cl.get _) cl.hd ha hn htk hm) I.kIn J e (λz=>nomatch z) h
end
structure Room(k:Nat)(A:Around):Prop where
 hd:A.handled=none
 dp:A.depth+3*k+5<recursionLimit
 un:A.units+16*k+200<cLine
 gd:A.guards=some []
theorem Room.mono{j k:Nat}{A:Around}(r:Room k A)(h:j<=k):Room j A:=⟨r.hd,by have:=r.dp;omega,by have:=r.un;omega,r.gd⟩
theorem Room.deeper{k:Nat}{A:Around}(r:Room (k+1) A)(env:Env):Room k (A.deeper env) :=
 ⟨r.hd,by have:=r.dp;show A.depth+1+3*k+5<_;omega,by have:=r.un;show A.units+3+16*k+200<_;omega,r.gd⟩
theorem jml{A:Around}{C:Addr}{us:List Value}{kw:List (Str×Value)}:(A.under (.builtin "type.__call__" ⟨.ref C::us,kw⟩)).depth=A.depth+1:=by
 first|rfl|simp[Around.under,Code.weight,Code.isCreation,Code.isGuard,Code.isCaller,Code.frames,Code.isFrame,guardIds]
theorem jmm{A:Around}{C:Addr}{us:List Value}{kw:List (Str×Value)}:(A.under (.builtin "type.__call__" ⟨.ref C::us,kw⟩)).units=A.units+1:=by
 first|rfl|simp[Around.under,Code.cUnits,Code.frames,Code.isFrame]
theorem Room.make{k:Nat}{A:Around}(r:Room (k+1) A)(C:Addr)(us:List Value)(kw:List (Str×Value)):Room k (A.under (.builtin "type.__call__" ⟨.ref C::us,kw⟩)) :=
 ⟨r.hd,by have:=r.dp;rw[jml];omega,by have:=r.un;rw[jmm];omega,by first|exact r.gd|(simpa[Around.under,Code.isGuard,guardIds]using r.gd)⟩
theorem Room.depth{k:Nat}{A:Around}(r:Room k A):A.depth<recursionLimit:=by have:=r.dp;omega
theorem Room.units{k:Nat}{A:Around}(r:Room k A):A.units+64<cLine:=by have:=r.un;omega
def tNil:TA:=λ_ H Q=>Q [] H
def jfy(ta:TE)(tr:TA):TA:=λσ H Q=>ta σ H λx H1=>tr σ H1 λxs H2=>Q (x::xs) H2
section
variable{X:Cx}{e:Expr}{es:List Expr}{te:TE}{t:TA}{pos:Pos}
theorem jcg:PA X [] tNil:=λ_ _ _ _ H Q I h=>Uy ⟨[],H,I,.nil,h⟩
theorem jb6(ha:PE X e te)(hr:PA X es t)(hs:starEach (e::es) X.env=(false,eval e X.env)::starEach es X.env:=by rfl):PA X (e::es) (jfy te t):=by
 intro pos pins s σ H Q I h
 rw[hs]
 show wpAny _ _ (spliced ((false,eval e X.env)::backTo pos (starEach es X.env))) _ _ s
 refine Oq (thn (ha pins s σ H _ I h) λu s1 ⟨x,H1,I1,r1,q1⟩=>?_)
 exact thn (hr pos pins s1 σ H1 _ I1 q1) λus s2 ⟨xs,H2,I2,r2,q2⟩=>⟨x::xs,H2,I2,.cons r1 r2,q2⟩
def tTup(t:TA):TE:=λσ H Q=>t σ H λxs H1=>xs.length<=sizeLine/\∀p,H1 p=none->Q (.ref p) (upd H1 p (.tup xs))
def tLst(t:TA):TE:=λσ H Q=>t σ H λxs H1=>xs.length<=sizeLine/\∀p,H1 p=none->Q (.ref p) (upd H1 p (.lst xs))
theorem pe_tup{x1}(h:PA X es t):PE X (.Tuple es x1 pos) (tTup t):=by
 intro pins s σ H Q I hq
 refine wpAny_Tuple_spliced (thn (h pos pins s σ H _ I hq) λus s1 ⟨xs,H1,I1,r,z,q⟩=>⟨by rw[<-r.length];exact z,?_⟩)
 have hf:H1 s1.heap.objs.size=none:=I1.hok.fresh (Af _)
 refine⟨.ref s1.heap.objs.size,upd H1 s1.heap.objs.size (.tup xs),I1.laid (t':=s1.toks) (λb u e=>Ac _ e) (Af _) ?_,rfl,q _ hf⟩
 exact⟨z,us,r,⟨_,Av _ rfl,rfl,_,rfl⟩⟩
theorem pe_lst(h:PA X es t):PE X (.List es pos) (tLst t):=by
 intro pins s σ H Q I hq
 refine wpAny_List_spliced (thn (h pos pins s σ H _ I hq) λus s1 ⟨xs,H1,I1,r,z,q⟩=>⟨by rw[<-r.length];exact z,?_⟩)
 have hf:H1 s1.heap.objs.size=none:=I1.hok.fresh (Af _)
 refine⟨.ref s1.heap.objs.size,upd H1 s1.heap.objs.size (.lst xs),I1.laid (t':=s1.toks) (λb u e=>Ac _ e) (Af _) ?_,rfl,q _ hf⟩
 exact⟨z,us,0,r,Av _ rfl⟩
end
abbrev Sp:=List V->Hp->VK->XK->Prop
abbrev CXT:=List Env->Hp->Shared->XK->Value->Shared->Prop
structure Env0(P:Program)(w:World)(K:PySem.W.Frag)(mg:Str->Option Value)(base:Heap)(A:Around)(outer:List Env)(s:Shared)(H:Hp):Prop where
 frames:A.frames=some outer
 mod:Mod K mg base
 bs:∀b o,base.get? b=some o->s.heap.get? b=some o/\H b=none
 bsz:base.objs.size<=s.heap.objs.size
 funs:s.heap.FunFrames base outer
 frf:∀b∈frs outer,H b=none
 hok:HOk P w H s.heap
 bare:AllBare s.gens
def CE(outer:List Env)(P:Program)(w:World)(H:Hp)(s:Shared)(Q:VK)(u:Value)(s':Shared):Prop :=
 ∃v H',s'.os=s.os/\AllBare s'.gens/\Un (frs outer) [] H H' s.heap s'.heap/\HOk P w H' s'.heap/\RelV v u/\Q v H'
def CR(CX:CXT)(outer:List Env)(P:Program)(w:World)(H:Hp)(s:Shared)(Q:VK)(E:XK)(r:Result)(s':Shared):Prop :=
 match r with
 |.ok (.ret u)=>CE outer P w H s Q u s'
 |.ok _=>False
 |.error e=>CX outer H s E e s'
structure FnOk(P:Program)(w:World)(K:PySem.W.Frag)(mg:Str->Option Value)(base:Heap)(CX:CXT)(k:Nat)(f:Addr)(fd:FuncData)(ps:List Str)(sp:Sp):Prop where
 len:∀vs H Q E,sp vs H Q E->vs.length=ps.length
 run:∀(A:Around)(outer:List Env)(s:Shared)(H:Hp)(args:Args)(us:List Value)(vs:List V)(Q:VK)(E:XK),Room k A->Env0 P w K mg base A outer s H->BindsTo s fd args (ps.zip us)->Vals vs us->sp vs H Q E ->
  codeAny (model P w) A (.call (.ref f) args) (CR CX outer P w H s Q E) s
theorem FnOk.mono{P:Program}{w:World}{K:PySem.W.Frag}{mg:Str->Option Value}{base:Heap}{CX:CXT}{j k:Nat}{f:Addr}{fd:FuncData}{ps:List Str}{sp:Sp}(F:FnOk P w K mg base CX j f fd ps sp)(h:j<=k) :
  FnOk P w K mg base CX k f fd ps sp:=⟨F.len,λA outer s H args us vs Q E hr=>F.run A outer s H args us vs Q E (hr.mono h)⟩
theorem Env0.make{P:Program}{w:World}{K:PySem.W.Frag}{mg:Str->Option Value}{base:Heap}{A:Around}{outer:List Env}{s:Shared}{H:Hp}(e:Env0 P w K mg base A outer s H)(C:Addr)(us:List Value)(kw:List (Str×Value)) :
  Env0 P w K mg base (A.under (.builtin "type.__call__" ⟨.ref C::us,kw⟩)) outer s H:=⟨by first|exact e.frames|(simpa[Around.under,Code.envs,Code.isFrame,pushEnvs]using e.frames),e.mod,e.bs,e.bsz,e.funs,e.frf,e.hok,e.bare⟩
section
variable{X:Cx}{pins:List (Addr×Obj)}{σ:St}{H:Hp}{s s':Shared}
theorem Inv.env0(I:Inv X pins σ H s):Env0 X.prog X.w X.K X.mg X.base X.A X.stack s H :=
 ⟨I.ok.frames,I.ok.mod,I.bs,Ib I.ok.bsz I.sz,I.stack,I.stkFree,I.hok,I.bare⟩
theorem Inv.after{Q:VK}{u:Value}(I:Inv X pins σ H s)(h:CE X.stack X.prog X.w H s Q u s'):EP X pins σ Q u s':=by
 obtain⟨v,H',os,bare,un,hok,r,q⟩:=h
 obtain⟨hh,g,d,t,os'⟩:=s'
 obtain rfl:os'=s.os:=os
 exact⟨v,H',I.call (h':=hh) (g':=g) (d':=d) (t':=t) (ch:=[]) un hok bare (λb z=>absurd z (by simp)),r,q⟩
end
def jje(sp:Sp)(dvs:List V)(E:XK)(t:TA):TE:=λσ H Q=>t σ H λvs H1=>sp (vs++dvs) H1 Q E
def jjn(C:Addr)(m:Str)(sp:Sp)(dvs:List V)(E:XK)(ta:TE)(t:TA):TE:=λσ H Q=>ta σ H λx H1=>∃a dx fs,x=.ref a/\H1 a=some (.ins C dx fs)/\fs.lookup m=none /\
 t σ H1 λvs H2=>sp (x::(vs++dvs)) H2 Q E
def jjm(C:Addr)(sp:Sp)(dvs:List V)(E:XK)(t:TA):TE:=λσ H Q=>t σ H λvs H1=>∀x dx,H1 x=none->H1 dx=none->dx≠x ->
 sp (.ref x::(vs++dvs)) (upd (upd H1 dx (.own x)) x (.ins C dx [])) (λv H2=>v=.non/\Q (.ref x) H2) E
def Binds(K:PySem.W.Frag)(fd:FuncData)(ps:List Str)(ds:List Value):Prop :=
 ∀(s:Shared)(us:List Value),K.In s.heap->(us++ds).length=ps.length->BindsTo s fd ⟨us,[]⟩ (ps.zip (us++ds))
theorem Binds.all{K:PySem.W.Frag}{fd:FuncData}{ps:List Str}(h:∀us:List Value,us.length=ps.length->bindArgs fd ⟨us,[]⟩=pure (ps.zip us)):Binds K fd ps []:=λs us _ hl=>by
 rw[Ir]at hl⊢
 exact .of_eq (h us hl)
def jds(CX:CXT)(X:Cx)(E:XK):Prop:=∀(pins:List (Addr×Obj))(σ:St)(H:Hp)(s:Shared)(e:Value)(s':Shared),Inv X pins σ H s->CX X.stack H s E e s'->X.xe e s'
section
variable{X:Cx}{CX:CXT}{k:Nat}{f C:Addr}{fd:FuncData}{ps:List Str}{sp:Sp}{dvs:List V}{ds:List Value}{E:XK}{x m:Str}{p pos apos:Pos}{e o:Expr}{es:List Expr}{ta:TE}{t:TA}
theorem jkp{pins:List (Addr×Obj)}{σ:St}{H:Hp}{s:Shared}{Q:VK}{us:List Value}{vs:List V}(F:FnOk X.prog X.w X.K X.mg X.base CX k f fd ps sp)(hr:Room k X.A)(hb:Binds X.K fd ps ds)(hd:Vals dvs ds)(hx:jds CX X E)
  (I:Inv X pins σ H s) (r:Vals vs us) (h:sp (vs++dvs) H Q E):wpAny (model X.prog X.w) X.A (call (.ref f) us) (EP X pins σ Q) X.xe s:=by
 have r2:Vals (vs++dvs) (us++ds):=r.append hd
 have hl:(us++ds).length=ps.length:=by rw[<-r2.length];exact F.len _ _ _ _ h
 refine Uw (Ue (F.run X.A X.stack s H ⟨us,[]⟩ (us++ds) (vs++dvs) Q E hr I.env0 (hb s us I.kIn hl) r2 h) λr s' hq=>?_)
 cases r with
 |error e=>exact hx pins σ H s e s' I hq
 |ok fl =>
  cases fl with
  |ret u=>exact I.after hq
  |next=>exact False.elim hq
  |brk=>exact False.elim hq
  |cont=>exact False.elim hq
theorem pe_call(F:FnOk X.prog X.w X.K X.mg X.base CX k f fd ps sp)(hr:Room k X.A)(hg:Gl X x)(hm:X.mg x=some (.ref f))(hk:PySem.W.keepIn X.K (.ref f)=true)(hb:Binds X.K fd ps ds)(hd:Vals dvs ds)(hx:jds CX X E)
  (ha:PA X (e::es) t) (hdb:(x == ("__debug__":Str))=false:=by decide) (he:starEach (e::es) X.env=(false,eval e X.env)::starEach es X.env:=by rfl) (hpl:(backTo pos (starEach es X.env)).any (·.1)=false:=by rfl) :
  PE X (.Call (.Name x p) (e::es) [] pos) (jje sp dvs E t):=by
 intro pins s σ H Q I h
 refine Ik (jdr I hg hm ?_ hdb)
 refine O7 (h₀:=X.base) I.ok.mod.kin hk (thn (ha pos pins s σ H _ I h) λus s1 ⟨vs,H1,I1,r,q⟩=>⟨I1.kIn,?_⟩) he hpl
 exact jkp F hr hb hd hx I1 r q
theorem pe_meth{pl:Sem Bool}(he:PE X o ta)(c:Cls X.K C)(hm:Meth X.K C m f)(F:FnOk X.prog X.w X.K X.mg X.base CX k f fd ps sp)(hr:Room k X.A)(hb:Binds X.K fd ps ds)(hd:Vals dvs ds)(hx:jds CX X E)(ha:PA X (e::es) t)
  (hst:starEach (e::es) X.env=(false,eval e X.env)::starEach es X.env:=by rfl) (hpl:(backTo pos (starEach es X.env)).any (·.1)=false:=by rfl)
  (ht:eval (.Call (.Attribute o m apos) (e::es) [] pos) X.env=(do
   let ov <-eval o X.env
   standAt apos.atName
   let(f,first) <-holding [ov] (getMethod ov m pl)
   callWith pos f first (backTo pos (starEach (e::es) X.env)) (backToKw pos (keywordEach [] X.env))):=by rfl) :
  PE X (.Call (.Attribute o m apos) (e::es) [] pos) (jjn C m sp dvs E ta t):=by
 intro pins s σ H Q I h
 refine PySem.W.methodCall_KW (pl:=pl) (thn (he pins s σ H _ I h) λu s1 ⟨x,H1,I1,rx,a,dx,fs,ex,ea,l,q⟩=>?_) ht
 subst ex
 obtain rfl:u=Value.ref a:=rx
 refine jme I1 ea c hm l ?_
 refine O7 (first:=[.ref a]) (h₀:=X.base) I.ok.mod.kin hm.kp (thn (ha pos pins s1 σ H1 _ I1 q) λus s2 ⟨vs,H2,I2,r,q2⟩=>⟨I2.kIn,?_⟩) hst hpl
 exact jkp (us:=.ref a::us) (vs:=.ref a::vs) F hr hb hd hx I2 (.cons rfl r) q2
structure Mk(K:PySem.W.Frag)(C f:Addr):Prop where
 makes:PySem.W.makesIn K C=true
 init:PySem.W.findIn K (.ref C) "__init__"=some (some (.ref f))
 fn:PySem.W.isFn K (.ref f)=true
 kp:PySem.W.keepIn K (.ref C)=true
theorem jol{pins:List (Addr×Obj)}{σ:St}{H:Hp}{s:Shared}{Q:VK}{us:List Value}{vs:List V}(M:Mk X.K C f)(F:FnOk X.prog X.w X.K X.mg X.base CX k f fd ps sp)(hr:Room (k+1) X.A)(hb:Binds X.K fd ps ds)(hd:Vals dvs ds)
  (hx:jds CX X E) (I:Inv X pins σ H s) (r:Vals vs us)
  (h:∀x dx,H x=none->H dx=none->dx≠x->sp (.ref x::(vs++dvs)) (upd (upd H dx (.own x)) x (.ins C dx [])) (λv H2=>v=.non/\Q (.ref x) H2) E) :
  wpAny (model X.prog X.w) X.A (call (.ref C) us) (EP X pins σ Q) X.xe s:=by
 have hq:=h (s.heap.objs.size+1) s.heap.objs.size (I.hok.fresh (Nat.le_succ _)) (I.hok.fresh (Af _)) (Ar (Nat.lt_succ_self _))
 have I2:=Inv.made (C:=C) I
 have r2:Vals (V.ref (s.heap.objs.size+1)::(vs++dvs)) (Value.ref (s.heap.objs.size+1)::(us++ds)):=.cons rfl (r.append hd)
 have hl:(Value.ref (s.heap.objs.size+1)::us++ds).length=ps.length:=by
  have e:=r2.length
  rw[F.len _ _ _ _ hq]at e
  exact e.symm
 refine Uw (jog (f:=f) I.kIn M.makes M.init (Uk.mp M.fn) (Ue (F.run _ X.stack _ _ ⟨Value.ref (s.heap.objs.size+1)::us,[]⟩ (Value.ref (s.heap.objs.size+1)::(us++ds)) _ _ E (hr.make C us [])
  (I2.env0.make C us []) (hb _ (Value.ref (s.heap.objs.size+1)::us) I2.kIn hl) r2 hq) λr s' hq'=>?_))
 cases r with
 |error e=>exact hx pins σ _ _ e s' I2 hq'
 |ok fl =>
  cases fl with
  |ret u =>
   obtain⟨v,H',I3,rv,ev,q3⟩:=I2.after hq'
   subst ev
   exact⟨rv,⟨V.ref (s.heap.objs.size+1),H',I3,rfl,q3⟩⟩
  |next=>exact False.elim hq'
  |brk=>exact False.elim hq'
  |cont=>exact False.elim hq'
theorem pe_make0(M:Mk X.K C f)(F:FnOk X.prog X.w X.K X.mg X.base CX k f fd ps sp)(hr:Room (k+1) X.A)(hg:Gl X x)(hm:X.mg x=some (.ref C))(hb:Binds X.K fd ps ds)(hd:Vals dvs ds)(hx:jds CX X E)
  (hdb:(x == ("__debug__":Str))=false:=by decide):PE X (.Call (.Name x p) [] [] pos) (jjm C sp dvs E tNil):=by
 intro pins s σ H Q I h
 refine Ik (jdr I hg hm ?_ hdb)
 exact PySem.W.callWith_K0 I.kIn M.kp (jol (us:=[]) M F hr hb hd hx I .nil h)
end
structure FnScope(N P:List Str)(sc:Scope):Prop where
 kind:sc.kind=.function
 co:sc.isCoroutine=false
 gen:sc.isGenerator=false
 nd:N.Nodup
 pre:N.take P.length=P
 par:∀x∈P,sc.names.lookup x=some .local\/sc.names.lookup x=some .cell
 nofree:∀y∈sc.names,y.2≠.free
theorem jh8{kindOf:Str->Option NameKind}{x:Str}:∀{binds:List (Str×Value)}{m:Str->Option Value},(∀v,(x,v)∉binds)->bindL kindOf binds m x=m x
 |[],_,_=>rfl
 |(n,v)::r,m,h=>by
  unfold bindL
  rw[jh8 λw hw=>h w (Ig _ hw)]
  split
  ·have:x≠n:=by rintro rfl;exact h v Oe
   simp[this]
  ·rfl
theorem jh6{kindOf:Str->Option NameKind}{x:Str}:∀{binds:List (Str×Value)}{m:Str->Option Value},(∀v,(x,v)∉binds)->bindC kindOf binds m x=m x
 |[],_,_=>rfl
 |(n,v)::r,m,h=>by
  unfold bindC
  rw[jh6 λw hw=>h w (Ig _ hw)]
  split
  ·rfl
  ·have:x≠n:=by rintro rfl;exact h v Oe
   simp[this]
theorem jh7{kindOf:Str->Option NameKind}{x:Str}{v:Value}:∀{P:List Str}{vs:List Value}{i:Nat}{m:Str->Option Value},P.Nodup->P[i]?=some x->vs[i]?=some v->kindOf x=some .local ->
  bindL kindOf (P.zip vs) m x=some v
 |[],_,_,_,_,h,_,_=>by simp at h
 |_::_,[],_,_,_,_,h,_=>by simp at h
 |p::P,w::vs,0,m,nd,h1,h2,hk=>by
  simp at h1 h2;subst h1;subst h2
  show bindL kindOf ((p,w)::P.zip vs) m p=_
  unfold bindL
  rw[jh8 λv hv=>(Ov.mp nd).1 (Wc hv).1,Ad hk]
  simp
 |p::P,w::vs,i+1,m,nd,h1,h2,hk=>by
  show bindL kindOf ((p,w)::P.zip vs) m x=_
  unfold bindL
  exact jh7 (i:=i) (Ov.mp nd).2 (by simpa using h1) (by simpa using h2) hk
theorem jh5{kindOf:Str->Option NameKind}{x:Str}{v:Value}:∀{P:List Str}{vs:List Value}{i:Nat}{m:Str->Option Value},P.Nodup->P[i]?=some x->vs[i]?=some v->kindOf x≠some .local ->
  bindC kindOf (P.zip vs) m x=some v
 |[],_,_,_,_,h,_,_=>by simp at h
 |_::_,[],_,_,_,_,h,_=>by simp at h
 |p::P,w::vs,0,m,nd,h1,h2,hk=>by
  simp at h1 h2;subst h1;subst h2
  show bindC kindOf ((p,w)::P.zip vs) m p=_
  unfold bindC
  rw[jh6 λv hv=>(Ov.mp nd).1 (Wc hv).1,Aa hk]
  simp
 |p::P,w::vs,i+1,m,nd,h1,h2,hk=>by
  show bindC kindOf ((p,w)::P.zip vs) m x=_
  unfold bindC
  exact jh5 (i:=i) (Ov.mp nd).2 (by simpa using h1) (by simpa using h2) hk
def start(N:List Str)(vs:List V):St:=vs.map some++List.replicate (N.length-vs.length) none
def cxOf(CX:CXT)(P:Program)(w:World)(K:PySem.W.Frag)(mg:Str->Option Value)(base:Heap)(N:List Str)(qual:Str)(scope:Scope)(f:Addr)(cd:Value)(A:Around)(outer:List Env)(s:Shared)(H:Hp)(E:XK):Cx where
 prog:=P
 w:=w
 K:=K
 mg:=mg
 base:=base
 A:=A.deeper (envOfC qual scope s.heap.objs.size f cd)
 N:=N
 s₀:=s
 H₀:=H
 env:=envOfC qual scope s.heap.objs.size f cd
 outer:=outer
 stack:=envOfC qual scope s.heap.objs.size f cd::outer
 ex:=[]
 calm:=true
 fn:=λ_=>true
 pn:=[]
 xe:=λe s'=>wpAny (model P w) (A.deeper (envOfC qual scope s.heap.objs.size f cd)) (leaving (envOfC qual scope s.heap.objs.size f cd) e) (λ_ s''=>CX outer H s E e s'') (λe' s''=>CX outer H s E e' s'') s'
theorem jjy{sc:Scope}{n:Nat}{x:Str}(h:sc.names.lookup x=some .cell):∃c,(cellsFrom n sc.names []).lookup x=some c:=by
 have q:=PySem.W.cellsFrom_some sc.names n [] (.inl h)
 exact O1.mp q
theorem jnf{CX:CXT}{P:Program}{w:World}{K:PySem.W.Frag}{mg:Str->Option Value}{base:Heap}{N ps:List Str}{qual:Str}{scope:Scope}{f:Addr}{cd:Value}{A:Around}{outer:List Env}{s s1:Shared}{H:Hp}{E:XK}{us:List Value}{vs:List V}
  (S:FnScope N ps scope) (hd:A.handled=none) (e0:Env0 P w K mg base A outer s H) (hl:vs.length=ps.length) (r:Vals vs us)
  (x:InCallC s s.heap.objs.size (bindL (envOfC qual scope s.heap.objs.size f cd).kindOf (ps.zip us) λ_=>none) (cellsFrom (s.heap.objs.size+1) scope.names []) (bindC (envOfC qual scope s.heap.objs.size f cd).kindOf (ps.zip us) λ_=>none) s1) :
  Inv (cxOf CX P w K mg base N qual scope f cd A outer s H E) [] (start N vs) H s1:=by
 have hpl:ps.length<=N.length:=by have:=O0 List.length S.pre;rw[Il]at this;omega
 obtain⟨h1,tk,rfl,hk⟩:=x.done
 have noA:∀b:Addr,b∉(cxOf CX P w K mg base N qual scope f cd A outer s H E).ex:=λb z=>absurd (show b∈([]:List Addr)from z) (by simp)
 refine⟨⟨e0.mod,S.kind,rfl,rfl,Af _,λy z c h1 h2=>?_,λy hy=>?_,λy c _ h=>?_,λ_=>hd,Around.frames_deeper e0.frames,.inr ⟨rfl,rfl⟩,λb z=>absurd z (noA b),e0.bs,e0.bsz,λb _ _=>noA b,λb z=>absurd z (noA b),e0.funs,e0.frf⟩,
  rfl,e0.bare,Un.kept hk,⟨_,x.toInCall.ns,λi y v h1 h2 h3=>?_⟩,λy c h=>⟨_,x.cell y c h⟩,e0.hok.fresh (Af _),λy c h=>?_,λp hp=>absurd (show p∈([]:List (Addr×Obj))from hp) (by simp),e0.hok.kept hk,?_⟩
 ·exact name_of_addr x.apart (Io h1) (Io h2)
 ·have hy:scope.names.lookup y=some .cell\/scope.names.lookup y=some .free:=hy
  rcases hy with hy|hy
  ·exact jjy hy
  ·exact absurd rfl (S.nofree _ (Io hy))
 ·exact U9 (x.above y c (Io h))
 ·have hi:i<vs.length:=by
   unfold start at h2
   by_cases hi:i<vs.length
   ·exact hi
   ·rw[A8 (by simpa using hi)]at h2
    rw[List.getElem?_replicate]at h2
    split at h2 <;> cases h2
  have ha:vs[i]?=some v:=by
   unfold start at h2
   rw[A1 (by simpa using hi),A3]at h2
   cases e:vs[i]? with
   |none=>rw[e]at h2;cases h2
   |some a=>rw[e]at h2;cases h2;rfl
  obtain⟨u,hu,rv⟩:=r.get ha
  have hp:ps[i]?=some y:=by
   rw[<-S.pre,List.getElem?_take_of_lt (by omega)];exact h1
  have ndP:ps.Nodup:=by rw[<-S.pre];exact S.nd.sublist (List.take_sublist _ _)
  refine⟨u,rv,?_⟩
  rcases S.par y (A6 hp)with k|k
  ·exact .inl ⟨k,jh7 ndP hp hu k⟩
  ·obtain⟨c,e⟩:=jjy (n:=s.heap.objs.size+1) k
   refine .inr ⟨.inl k,c,e,?_⟩
   have q:=x.cell y c e
   rw[jh5 ndP hp hu (by show scope.names.lookup y≠_;rw[k];decide)]at q
   exact q
 ·exact e0.hok.fresh (U9 (x.above y c (Io h)))
 ·unfold start
  show _=N.length
  rw[Ay,Ae,List.length_replicate]
  omega
theorem jmd{CX:CXT}{P:Program}{w:World}{K:PySem.W.Frag}{mg:Str->Option Value}{base:Heap}{k:Nat}{f:Addr}{name qual:Str}{params:Arguments}{body:List Stmt}{scope:Scope}{dV kV doc pm cdv ct oc:Value}{an od:Option Addr}
  {osl:Array (Option Value)}{N ps:List Str}{sp:Sp} (lk:K.lookup f=some ⟨oc,od,.func (PySem.W.fnOf name qual params body scope dV kV doc pm an cdv ct),osl⟩) (hcd:PySem.W.codeIn K cdv qual=true) (S:FnScope N ps scope)
  (len:∀vs H Q E,sp vs H Q E->vs.length=ps.length)
  (hbody:∀(A:Around)(outer:List Env)(s:Shared)(H:Hp)(vs:List V)(Q:VK)(E:XK),Room k (A.deeper (envOfC qual scope s.heap.objs.size f cdv))->sp vs H Q E ->
   ∃t,PSs (cxOf CX P w K mg base N qual scope f cdv A outer s H E) body t/\t {nx:=λ_ H'=>Q .non H',rt:=Q} (start N vs) H) :
  FnOk P w K mg base CX (k+1) f (PySem.W.fnOf name qual params body scope dV kV doc pm an cdv ct) ps sp:=by
 refine⟨len,λA outer s H args us vs Q E hr e0 hb r hsp=>?_⟩
 have hl:=len _ _ _ _ hsp
 have KX:K.In s.heap:=e0.mod.kin.keeps λb o e=>(e0.bs b o e).1
 have lim:s.heap.NoLimit:=e0.mod.nolimit.keeps λb o e=>(e0.bs b o e).1
 have hkind:∀y∈ps.zip us,scope.names.lookup y.1=some .local\/(scope.names.lookup y.1=some .cell/\((cellsFrom (s.heap.objs.size+1) scope.names []).lookup y.1).isSome=true):=fun⟨n,v⟩ hy=>by
  rcases S.par n (Wc hy).1 with q|q
  ·exact .inl q
  ·exact .inr ⟨q,PySem.W.cellsFrom_some _ _ _ (.inl q)⟩
 refine codeAny_call_function hr.depth (KX _ _ lk) rfl S.co S.gen rfl (PySem.W.codeRec_of KX hcd) (hb _ _ _ _ ?_)
 refine wpAny_newFunctionEnv_cells S.kind hkind λenv he s1 x=>?_
 subst he
 refine⟨lim.keeps x.toInCall.keep,codeAny_func ?_⟩
 obtain⟨t,ht,hq⟩:=hbody A outer s H vs Q E (hr.deeper _) hsp
 have I:Inv (cxOf CX P w K mg base N qual scope f cdv A outer s H E) [] (start N vs) H s1:=jnf S hr.hd e0 hl r x
 refine Iw (ht [] s1 (start N vs) H _ I hq) (λfl s' hs=>?_) λe s' hs=>hs
 have fin:∀{σ':St}{H':Hp}{v:V}{u:Value},Inv (cxOf CX P w K mg base N qual scope f cdv A outer s H E) [] σ' H' s'->RelV v u->Q v H'->CE outer P w H s Q u s' :=
  fun{σ' H' v u} J rv q=>⟨v,H',J.os,J.bare,J.base,J.hok,rv,q⟩
 cases fl with
 |ret u =>
  obtain⟨v,σ',H',J,rv,q⟩:=hs
  exact fin J rv q
 |next =>
  obtain⟨σ',H',J,q⟩:=hs
  exact fin (v:=V.non) (u:=Value.none) J rfl q
 |brk =>
  obtain⟨_,_,_,q⟩:=hs
  exact False.elim q
 |cont =>
  obtain⟨_,_,_,q⟩:=hs
  exact False.elim q
section
variable{X:Cx}{x:Str}{p pos:Pos}{e:Expr}{es:List Expr}{t:TA}{id T:String}{r:List V->Hp->VK->Prop}
def tCB(r:List V->Hp->VK->Prop)(t:TA):TE:=λσ H Q=>t σ H λvs H1=>r vs H1 Q
theorem pe_callB(hc:jc1 X (.builtin id) r)(hg:Gl X x)(hm:X.mg x=none)(hv:bootBuiltins x=some (.builtin id))(ha:PA X (e::es) t)(hn:x≠"__name__":=by decide)(hdb:(x == ("__debug__":Str))=false:=by decide)
  (he:starEach (e::es) X.env=(false,eval e X.env)::starEach es X.env:=by rfl) (hpl:(backTo pos (starEach es X.env)).any (·.1)=false:=by rfl):PE X (.Call (.Name x p) (e::es) [] pos) (tCB r t):=by
 intro pins s σ H Q I h
 refine Ik (jdt I hg hm hv ?_ hn hdb)
 exact PyProof.Rows.callWith_builtin1 (thn (ha pos pins s σ H _ I h) λus s1 ⟨vs,H1,I1,r1,q1⟩=>hc pins s1 σ H1 vs us Q I1 r1 q1) he hpl
theorem pe_callTy(hc:jc1 X (.type T) r)(hg:Gl X x)(hm:X.mg x=none)(hv:bootBuiltins x=some (.type T))(ha:PA X (e::es) t)(hn:x≠"__name__":=by decide)(hdb:(x == ("__debug__":Str))=false:=by decide)
  (he:starEach (e::es) X.env=(false,eval e X.env)::starEach es X.env:=by rfl) (hpl:(backTo pos (starEach es X.env)).any (·.1)=false:=by rfl):PE X (.Call (.Name x p) (e::es) [] pos) (tCB r t):=by
 intro pins s σ H Q I h
 refine Ik (jdt I hg hm hv ?_ hn hdb)
 exact Ij (thn (ha pos pins s σ H _ I h) λus s1 ⟨vs,H1,I1,r1,q1⟩=>hc pins s1 σ H1 vs us Q I1 r1 q1) he hpl
end
end L2
namespace HT
open PySem PyProof.Rows
section
variable{prog:Program}{w:World}{A:Around}{E:Value->Shared->Prop}{s:Shared}
theorem cat_tup{t b:Addr}{vs ws:List Value}{Q:Value->Shared->Prop}(ht:IsTup s.heap t vs.toArray)(hb:IsTup s.heap b ws.toArray)(hv:vs≠[])
  (h1:ws=[]->Q (.ref t) s) (h2:ws≠[]->Q (.ref s.heap.objs.size) {s with heap:=s.heap.push {cls:=.type "tuple",data:=.seq (vs++ws).toArray}})
  (hsz:vs.length+ws.length<=sizeLine):wpAny (model prog w) A (binaryOp .Add (.ref t) (.ref b)) Q E s:=by
 obtain⟨⟨cls,dd,data,sl⟩,ho,hc,n,hd⟩:=id ht
 obtain⟨⟨cls2,dd2,data2,sl2⟩,ho2,hc2,n2,hd2⟩:=id hb
 simp only at hc hd hc2 hd2
 subst hc hd hc2 hd2
 have e:vs.toArray++ws.toArray=(vs++ws).toArray:=by simp
 by_cases hw:ws=[]
 ·exact concat_meets ⟨_,ho,rfl⟩ ⟨_,ho2,rfl⟩ noFill_tuple_add seq_tuple_add PySem.F.slot_tuple_add PySem.F.entry_tuple_add (PySem.F.args_tuple_add_2 _ _)
   (tuple_addW1 t b vs.toArray ws.toArray n n2 dd dd2 sl sl2 (by simpa using hv) (by simp[hw])) ⟨ho,ho2,h1 hw⟩
 ·refine concat_meets ⟨_,ho,rfl⟩ ⟨_,ho2,rfl⟩ noFill_tuple_add seq_tuple_add PySem.F.slot_tuple_add PySem.F.entry_tuple_add (PySem.F.args_tuple_add_2 _ _)
   (tuple_addW2 t b vs.toArray ws.toArray n n2 dd dd2 sl sl2 (by simpa using hv) (by simpa using hw) (by rw[Aj,Aj];exact hsz)) ⟨ho,ho2,?_⟩
  rw[e]
  exact h2 hw
def sIx(n d:Nat):Option Int->Nat
 |none=>d
 |some v=>if v<0 then(v+(n:Int)).toNat else min v.toNat n
theorem sIx_none(n d:Nat):sIx n d none=d:=rfl
theorem sIx_nat(n d k:Nat):sIx n d (some (k:Int))=min k n:=by
 show(if(k:Int)<0 then((k:Int)+(n:Int)).toNat else min (k:Int).toNat n)=min k n
 rw[Aa (by omega),Int.toNat_natCast]
theorem jq4(n d:Nat)(hd:d<=n)(o:Option Int):sIx n d o<=n:=by
 cases o with
 |none=>exact hd
 |some v =>
  show(if v<0 then(v+(n:Int)).toNat else min v.toNat n)<=n
  by_cases hv:v<0
  ·rw[Ad hv];omega
  ·rw[Aa hv];exact Nat.min_le_right _ _
theorem jle(v:Int)(n d:Nat):(if v<0 then max (v+(n:Int)) 0 else min v (n:Int))=((sIx n d (some v):Nat):Int):=by
 show(if v<0 then max (v+(n:Int)) 0 else min v (n:Int))=(((if v<0 then(v+(n:Int)).toNat else min v.toNat n):Nat):Int)
 by_cases hv:v<0
 ·simp only[Ad hv];omega
 ·simp only[Aa hv];omega
theorem jl4(lo hi:Option Int)(n:Nat):Builtin.Slice.sliceAdjust lo hi 1 (n:Int)=(((sIx n 0 lo:Nat):Int),((sIx n n hi:Nat):Int)):=by
 have h1:¬((1:Int)<0):=by omega
 unfold Builtin.Slice.sliceAdjust
 simp only[h1,On]
 refine Prod.ext ?_ ?_
 ·cases lo with
  |none=>rfl
  |some v=>exact jle v n 0
 ·cases hi with
  |none=>rfl
  |some v=>exact jle v n n
theorem places_gen(i j:Nat):Builtin.Slice.slicePlaces (i:Int) (j:Int) 1=j-i:=by
 unfold Builtin.Slice.slicePlaces
 have h1:(1:Int)>0:=by omega
 simp only[h1,Oo,Int.ediv_one]
 split <;> omega
theorem jhb{v:Value}{o:Option Int}{Q:Option Int->Shared->Prop}(p:IsPart v o)(h:Q o s):wpAny (model prog w) A (Builtin.Slice.slicePartIndex v) Q E s:=by
 cases p with
 |none=>exact slicePart_none h
 |int i t=>exact slicePart_int h
theorem jgn{sl:Addr}{vl vu:Value}{lo hi:Option Int}{n:Nat}{Q:Int×Int×Nat->Shared->Prop}(hs:s.heap.IsSliceOf sl vl vu .none)(pl:IsPart vl lo)(pu:IsPart vu hi)
  (h:Q (((sIx n 0 lo:Nat):Int),1,sIx n n hi-sIx n 0 lo) s):wpAny (model prog w) A (Builtin.Slice.sliceApplied (.ref sl) (pure (n:Int))) Q E s:=by
 obtain⟨os,hos,hcs,hds⟩:=id hs
 unfold Builtin.Slice.sliceApplied Builtin.Slice.sliceFields
 refine Ab (Ab (Ua hos hds (x:=vl) rfl (Ab (Ua hos hds (x:=vu) rfl (Ab (Ua hos hds (x:=.none) rfl (Am ?_)))))))
 refine Ab (slicePart_none ?_)
 show wpAny _ _ (if((1:Int) == 0)=true then _ else _) _ _ s
 rw[Aa (by decide)]
 refine Ab (jhb pl (Ab (jhb pu (Ab (Am ?_)))))
 show wpAny _ _ (match Builtin.Slice.sliceAdjust lo hi 1 (n:Int)with|(lo,hi)=>pure (lo,(1:Int),Builtin.Slice.slicePlaces lo hi 1)) _ _ s
 rw[jl4 lo hi n]
 show wpAny _ _ (pure (((sIx n 0 lo:Nat):Int),(1:Int),Builtin.Slice.slicePlaces ((sIx n 0 lo:Nat):Int) ((sIx n n hi:Nat):Int) 1)) _ _ s
 rw[places_gen]
 exact Am h
theorem pick_gen(xs:Array Value)(i k:Nat):((List.range k).filterMap fun(m:Nat)=>xs[((i:Int)+(m:Int)*1).toNat]?).toArray=((xs.toList.drop i).take k).toArray:=by
 have e:(fun(m:Nat)=>xs[((i:Int)+(m:Int)*1).toNat]?)=λm=>xs[i+m]?:=by
  funext m
  have:((i:Int)+(m:Int)*1).toNat=i+m:=by omega
  rw[this]
 rw[e]
 have:=pick_run xs i k
 rw[List.filterMap_map]at this
 have e2:((λx=>xs[x]?)∘λx=>i+x)=λm=>xs[i+m]?:=rfl
 rw[e2]at this
 rw[this]
theorem getItem_tuple_cut{t sl:Addr}{items:Array Value}{vl vu:Value}{lo hi:Option Int}{Q:Value->Shared->Prop}(ht:IsTup s.heap t items)(hs:s.heap.IsSliceOf sl vl vu .none)(pl:IsPart vl lo)(pu:IsPart vu hi)
  (hw:¬(sIx items.size 0 lo=0/\sIx items.size items.size hi=items.size))
  (h:Q (.ref s.heap.objs.size) {s with heap:=s.heap.push {cls:=.type "tuple",data:=.seq ((items.toList.drop (sIx items.size 0 lo)).take (sIx items.size items.size hi-sIx items.size 0 lo)).toArray}})
  (hsz:items.size<=sizeLine):wpAny (model prog w) A (getItem (.ref t) (.ref sl)) Q E s:=by
 have htake:sizeOk (.seq ((items.toList.drop (sIx items.size 0 lo)).take (sIx items.size items.size hi-sIx items.size 0 lo)).toArray):=by
  show((items.toList.drop (sIx items.size 0 lo)).take (sIx items.size items.size hi-sIx items.size 0 lo)).toArray.size<=sizeLine
  rw[Aj,Il,List.length_drop,Array.length_toList]
  omega
 have hj:sIx items.size items.size hi<=items.size:=jq4 _ _ (Af _) hi
 obtain⟨os,hos,hcs,hds⟩:=id hs
 have hTs:s.TypeIs (.ref sl) "slice":=⟨os,hos,hcs⟩
 unfold getItem
 try with_reducible refine O5 ?_
 first|refine Ab (Am ?_)|skip
 refine Ab (wpAny_sequenceKey ht.typeIs (by decide) ?_)
 refine Ab (Ux (name:=Str.ofString "__getitem__") ht.typeIs O4
  (wpAny_call_entry O4 ht.typeIs entry_tuple_getitem ?_ (args_tuple_getitem _ _)))
 show wpAny _ _ (Builtin.Tuple.tupleItemsOf (.ref t) >>= _) _ _ s
 refine Ab (tupleItemsOf_ ht ?_)
 refine Ab (wpAny_typeOf hTs ?_)
 rw[Ad (by decide)]
 refine Ab (jgn hs pl pu ?_)
 have hno:¬((((sIx items.size 0 lo:Nat):Int) == 0 && (1:Int) == 1 && (sIx items.size items.size hi-sIx items.size 0 lo) == items.size)=true):=by
  intro q
  rw[Od,Od]at q
  have q1:((sIx items.size 0 lo:Nat):Int)=0:=eq_of_beq q.1.1
  have q2:sIx items.size items.size hi-sIx items.size 0 lo=items.size:=eq_of_beq q.2
  exact hw ⟨by omega,by omega⟩
 show wpAny _ _ (if(((sIx items.size 0 lo:Nat):Int) == 0 && (1:Int) == 1 && (sIx items.size items.size hi-sIx items.size 0 lo) == items.size)=true then _ else _) _ _ s
 rw[Aa hno,pick_gen]
 first
  |exact Ab (m:=Builtin.Tuple.tupleExact _) (Oi (Am ⟨_,rfl,Am h⟩) htake)
  |exact Ab (m:=Builtin.Tuple.tupleExact _) (Oi (Ab (Am (Am ⟨_,rfl,Am h⟩))) htake)
  |exact Ab (Ab (m:=Builtin.Tuple.tupleExact _) (Oi (Am (Am ⟨_,rfl,Am h⟩)) htake))
  |exact Ab (Ab (m:=Builtin.Tuple.tupleExact _) (Oi (Am ⟨_,rfl,Am h⟩) htake))
end
end HT
namespace L2
open PySem PySem.Spec PyProof.Rows
abbrev TO:=St->Hp->(Option Int->Hp->Prop)->Prop
def PO(X:Cx)(e:Option Expr)(t:TO):Prop :=
 ∀(pins:List (Addr×Obj))(s:Shared)(σ:St)(H:Hp)(Q:Option Int->Hp->Prop),Inv X pins σ H s->t σ H Q ->
  wpAny (model X.prog X.w) X.A (evalPart e X.env) (λu s'=>∃o H',Inv X pins σ H' s'/\IsPart u o/\Q o H') X.xe s
def jf1:TO:=λ_ H Q=>Q none H
def jjq(t:TE):TO:=λσ H Q=>t σ H λx H1=>∃i,x=.int i/\Q (some i) H1
section
variable{X:Cx}{e:Expr}{te:TE}{lo hi:Option Expr}{tl th:TO}{pos p2:Pos}
theorem po_none:PO X none jf1:=by
 intro pins s σ H Q I h
 rw[evalPart_none]
 exact Am ⟨none,H,I,.none,h⟩
theorem po_some(h:PE X e te):PO X (some e) (jjq te):=by
 intro pins s σ H Q I hw
 rw[evalPart_some]
 refine thn (h pins s σ H _ I hw) λu s1 ⟨x,H1,I1,r1,q1⟩=>?_
 obtain⟨i,rfl,q⟩:=q1
 obtain⟨t,rfl⟩:=r1
 exact⟨some i,H1,I1,.int i t,q⟩
def SlR(X:Cx)(r:V->Option Int->Option Int->Hp->VK->Prop):Prop :=
 ∀(pins:List (Addr×Obj))(s:Shared)(σ:St)(H:Hp)(x:V)(v vl vu:Value)(lo hi:Option Int)(sl:Addr)(Q:VK),Inv X pins σ H s->RelV x v->s.heap.IsSliceOf sl vl vu .none->IsPart vl lo->IsPart vu hi->r x lo hi H Q ->
  ∃T id,typeLookup (.type T) "__getitem__"=pure (some (.builtin id))/\s.TypeIs v T/\wpAny (model X.prog X.w) X.A (getItem v (.ref sl)) (EP X pins σ Q) X.xe s
def tSl(r:V->Option Int->Option Int->Hp->VK->Prop)(te:TE)(tl th:TO):TE:=λσ H Q=>te σ H λx H1=>tl σ H1 λl H2=>th σ H2 λu H3=>r x l u H3 Q
theorem pe_slice{r:V->Option Int->Option Int->Hp->VK->Prop}(hr:SlR X r)(he:PE X e te)(hl:PO X lo tl)(hu:PO X hi th):PE X (.Subscript e (.Slice lo hi none p2) pos) (tSl r te tl th):=by
 intro pins s σ H Q I h
 refine Subscript_ (thn (he pins s σ H _ I h) λv s1 ⟨x,H1,I1,r1,q1⟩=>?_)
 refine wpAny_Slice (thn (hl pins s1 σ H1 _ I1 q1) λvl s2 ⟨l,H2,I2,pl,q2⟩=>thn (hu pins s2 σ H2 _ I2 q2) λvu s3 ⟨u,H3,I3,pu,q3⟩=>?_)
 rw[evalPart_none]
 refine Am ?_
 have I4:Inv X pins σ H3 {s3 with heap:=s3.heap.push {cls:=.type "slice",data:=.fields #[vl,vu,.none]}}:=I3.kept (t':=s3.toks) λb ob q=>Ac _ q
 obtain⟨T,id,hT,ht,hg⟩:=hr pins {s3 with heap:=s3.heap.push {cls:=.type "slice",data:=.fields #[vl,vu,.none]}} σ H3 x v vl vu l u s3.heap.objs.size Q I4 r1 (Heap.IsSliceOf.new ..) pl pu q3
 show wpAny (model X.prog X.w) X.A (subscriptTail e (.Slice lo hi none p2) v (.ref s3.heap.objs.size)) (EP X pins σ Q) X.xe {s3 with heap:=s3.heap.push {cls:=.type "slice",data:=.fields #[vl,vu,.none]}}
 exact tail_any (ops:=[.ref s3.heap.objs.size,v]) ht hT hg (by with_unfolding_all rfl)
def cutV(xs:List V)(lo hi:Option Int):List V:=(xs.drop (HT.sIx xs.length 0 lo)).take (HT.sIx xs.length xs.length hi-HT.sIx xs.length 0 lo)
theorem jem(xs:List V)(lo hi:Option Int):(cutV xs lo hi).length<=xs.length:=by
 unfold cutV
 rw[Il,List.length_drop]
 omega
def rSlT(K:PySem.W.Frag):V->Option Int->Option Int->Hp->VK->Prop:=λx lo hi H Q=>∃a xs,x=.ref a/\SqT K H a xs /\
 ¬(HT.sIx xs.length 0 lo=0/\HT.sIx xs.length xs.length hi=xs.length)/\∀p,H p=none->Q (.ref p) (upd H p (.tup (cutV xs lo hi)))
theorem sl_tup:SlR X (rSlT X.K):=by
 intro pins s σ H x v vl vu lo hi sl Q I rx hs pl pu h
 obtain⟨a,xs,rfl,hx,hw,q⟩:=h
 cases rx
 obtain⟨its,r,ht,hz⟩:=I.tuple hx
 have hlen:its.toArray.size=xs.length:=by rw[Aj];exact r.length.symm
 refine⟨"tuple",_,O4.lookup,ht.typeIs,?_⟩
 refine HT.getItem_tuple_cut ht hs pl pu (by rw[hlen];exact hw) ?_ (by rw[hlen];exact hz)
 rw[hlen]
 refine⟨.ref s.heap.objs.size,_,I.laid (t':=s.toks) (o:=.tup (cutV xs lo hi)) (λb ob q=>Ac _ q) (Af _) ?_,rfl,q _ (I.hok.fresh (Af _))⟩
 exact⟨Ib (jem xs lo hi) hz,_,(r.drop (HT.sIx xs.length 0 lo)).take (HT.sIx xs.length xs.length hi-HT.sIx xs.length 0 lo),IsTup.new _ _⟩
def jro(K:PySem.W.Frag):R2:=λx y H Q=>∃a b xs ys,x=.ref a/\y=.ref b/\SqT K H a xs/\SqT K H b ys/\xs≠[]/\xs.length+ys.length<=sizeLine /\
 (ys=[]->Q (.ref a) H)/\(ys≠[]->∀p,H p=none->Q (.ref p) (upd H p (.tup (xs++ys))))
theorem Vals.nil_iff{xs:List V}{us:List Value}(r:Vals xs us):us=[]↔xs=[]:=by
 cases r with
 |nil=>simp
 |cons _ _=>simp
theorem op_catT:OpR X (binaryOp .Add) (jro X.K):=by
 intro pins s σ H x y v u Q I rx ry h
 obtain⟨a,b,xs,ys,rfl,rfl,ha,hb,hx,hz,q1,q2⟩:=h
 cases rx
 cases ry
 obtain⟨its,r1,p1,_⟩:=I.tuple ha
 obtain⟨its2,r2,p2,_⟩:=I.tuple hb
 refine HT.cat_tup p1 p2 (λz=>hx (r1.nil_iff.mp z)) (λz=>⟨.ref a,H,I,rfl,q1 (r2.nil_iff.mp z)⟩) (λz=>?_) (by rw[<-r1.length,<-r2.length];exact hz)
 refine⟨.ref s.heap.objs.size,_,I.laid (t':=s.toks) (o:=.tup (xs++ys)) (λb ob q=>Ac _ q) (Af _) ?_,rfl,q2 (λw=>z (r2.nil_iff.mpr w)) _ (I.hok.fresh (Af _))⟩
 exact⟨by rw[Ay];exact hz,_,r1.append r2,IsTup.new _ _⟩
end
def ixN(n:Nat)(i:Int):Option Nat:=if 0<=i then(if i<n then some i.toNat else none)else if -(n:Int)<=i then some (i+n).toNat else none
def atI{α:Type}(xs:List α)(i:Int):Option α:=(ixN xs.length i).bind λj=>xs[j]?
theorem jlm{n:Nat}{i:Int}{j:Nat}(h:ixN n i=some j):seqIndex? i n=some j/\j<n/\-(n:Int)<=i/\i<n:=by
 unfold ixN at h
 by_cases h0:0<=i
 ·rw[Ad h0]at h
  by_cases h1:i<n
  ·rw[Ad h1]at h
   have e:i.toNat=j:=Au h
   exact⟨by rw[seqIndex_of h0 h1,e],by omega,by omega,h1⟩
  ·rw[Aa h1]at h;cases h
 ·rw[Aa h0]at h
  by_cases h1:-(n:Int)<=i
  ·rw[Ad h1]at h
   have e:(i+n).toNat=j:=Au h
   exact⟨by rw[seqIndex_neg (by omega) h1,e],by omega,h1,by omega⟩
  ·rw[Aa h1]at h;cases h
theorem jhq{α:Type}{xs:List α}{i:Int}{v:α}(h:atI xs i=some v):∃j,seqIndex? i xs.length=some j/\xs[j]?=some v/\j<xs.length/\-(xs.length:Int)<=i/\i<xs.length:=by
 unfold atI at h
 cases e:ixN xs.length i with
 |none=>rw[e]at h;cases h
 |some j =>
  rw[e]at h
  obtain⟨h1,h2,h3,h4⟩:=jlm e
  exact⟨j,h1,h,h2,h3,h4⟩
theorem jdv{α:Type}{xs:List α}{j:Nat}{v:α}(h:xs[j]?=some v):atI xs (j:Int)=some v:=by
 have hj:j<xs.length:=(Ai.mp h).1
 have e:ixN xs.length (j:Int)=some j:=by
  unfold ixN
  rw[Ad (by omega),Ad (by omega)];simp
 unfold atI;rw[e];exact h
theorem jga{α:Type}(xs:List α)(v:α):atI (xs++[v]) (-1)=some v:=by
 have hl:(xs++[v]).length=xs.length+1:=by simp
 have e:ixN (xs++[v]).length (-1)=some xs.length:=by
  unfold ixN
  rw[hl,Aa (by decide),Ad (by omega)]
  congr 1
  omega
 unfold atI
 rw[e]
 show(xs++[v])[xs.length]?=some v
 simp
def jla(b:Expr):Prop:=∀o i,subscripted b false o i=operate [o,i] (getItem o i)
def IxR(X:Cx)(r:R2):Prop :=
 ∀(value slice:Expr)(pins:List (Addr×Obj))(s:Shared)(σ:St)(H:Hp)(x y:V)(v u:Value)(Q:VK),Inv X pins σ H s->RelV x v->RelV y u->r x y H Q ->
  subscripted slice false v u=operate [v,u] (getItem v u)->wpAny (model X.prog X.w) X.A (subscriptTail value slice v u) (EP X pins σ Q) X.xe s
def MtR(X:Cx)(id:String)(r:V->List V->Hp->VK->Prop):Prop :=
 ∀(pins:List (Addr×Obj))(s:Shared)(σ:St)(H:Hp)(x:V)(xs:List V)(v:Value)(us:List Value)(Q:VK),Inv X pins σ H s->RelV x v->Vals xs us->r x xs H Q ->
  wpAny (model X.prog X.w) X.A (call (.builtin id) (v::us)) (EP X pins σ Q) X.xe s
section
variable{X:Cx}{a b:Expr}{ta tb:TE}{pos:Pos}
theorem IxR.or{r r':R2}(h:IxR X r)(h':IxR X r'):IxR X (λx y H Q=>r x y H Q\/r' x y H Q):=by
 intro value slice pins s σ H x y v u Q I rx ry q hs
 rcases q with q|q
 ·exact h value slice pins s σ H x y v u Q I rx ry q hs
 ·exact h' value slice pins s σ H x y v u Q I rx ry q hs
theorem pe_ix{r:R2}(hr:IxR X r)(ha:PE X a ta)(hb:PE X b tb)(hs:jla b):PE X (.Subscript a b pos) (tOp r ta tb):=by
 intro pins s σ H Q I h
 exact Subscript_ (binT ha hb I h λv u s2 x y H2 I2 rx ry q=>hr a b pins s2 σ H2 x y v u Q I2 rx ry q (hs _ _))
def rIxL(K:PySem.W.Frag):R2:=λx y H Q=>∃p xs i v,x=.ref p/\y=.int i/\SqL K H p xs/\atI xs i=some v/\Q v H
def rIxT(K:PySem.W.Frag):R2:=λx y H Q=>∃p xs i v,x=.ref p/\y=.int i/\SqT K H p xs/\atI xs i=some v/\Q v H
def rIxS:R2:=λx y H Q=>∃z i c,x=.str z/\y=.int i/\z.length<=sizeLine/\atI z.cps.toList i=some c/\Q (.str ⟨#[c]⟩) H
theorem jbk:IxR X (rIxL X.K):=by
 intro value slice pins s σ H x y v u Q I rx ry h hs
 obtain⟨p,xs,i,z,rfl,rfl,hq,he,q⟩:=h
 cases rx
 obtain⟨t,rfl⟩:=ry
 obtain⟨its,r,pl,hz⟩:=I.list hq
 obtain⟨j,h1,h2,h3,h4,h5⟩:=jhq he
 obtain⟨w,ew,rw'⟩:=r.get h2
 have hl:=r.length
 have hn:=jd9
 have fin:EP X pins σ Q w s:=⟨z,H,I,rw',q⟩
 by_cases h0:0<=i
 ·have hj:i.toNat=j:=by
   rw[seqIndex_of h0 h5]at h1
   exact Au h1
  exact item_listR pl.isList h0 (by omega) (by rw[hj];simpa using ew) fin hs
 ·have hj:(i+(its.toArray.size:Int)).toNat=j:=by
   rw[seqIndex_neg (by omega) h4]at h1
   rw[Aj,<-hl]
   exact Au h1
  exact subscriptTail_builtinR (x:=w) pl.isList.typeIs slot_list_getitem.lookup
   (wpAny_getItem_list_neg (Q:=λr s'=>r=w/\EP X pins σ Q r s') pl.isList (by omega) (by rw[Aj] <;> omega) (by omega) (by rw[hj];simpa using ew) ⟨rfl,fin⟩) hs
theorem jcd:IxR X (rIxT X.K):=by
 intro value slice pins s σ H x y v u Q I rx ry h hs
 obtain⟨p,xs,i,z,rfl,rfl,hq,he,q⟩:=h
 cases rx
 obtain⟨t,rfl⟩:=ry
 obtain⟨its,r,pl,hz⟩:=I.tuple hq
 obtain⟨j,h1,h2,h3,h4,h5⟩:=jhq he
 obtain⟨w,ew,rw'⟩:=r.get h2
 have hl:=r.length
 have hn:=jd9
 have fin:EP X pins σ Q w s:=⟨z,H,I,rw',q⟩
 exact subscriptTail_builtinR (x:=w) pl.typeIs slot_tuple_getitem.lookup
  (getItem_tuple (j:=j) (Q:=λr s'=>r=w/\EP X pins σ Q r s') pl (by omega) (by omega) (by rw[Aj,<-hl];exact h1) (by simpa using ew) ⟨rfl,fin⟩) hs
theorem ix_str:IxR X rIxS:=by
 intro value slice pins s σ H x y v u Q I rx ry h hs
 obtain⟨z,i,c,rfl,rfl,hz,he,q⟩:=h
 obtain⟨t,rfl⟩:=rx
 obtain⟨t',rfl⟩:=ry
 obtain⟨j,h1,h2,h3,h4,h5⟩:=jhq he
 have hl:z.cps.toList.length=z.length:=by simp[Str.length]
 rw[hl]at h1 h4 h5
 have hn:=jd9
 exact tail_any (typeIs_str s z t) slot_str_getitem.lookup (getItem_str (c:=c) (by
  have e1:decide (i < -(2^63:Int))=false:=Ic (by omega)
  have e2:decide (i ≥ 2^63)=false:=Ic (by omega)
  rw[e1,e2,Bool.or_false]) (by rw[h1];simpa using h2) ⟨.str ⟨#[c]⟩,H,I.tok _,⟨_,rfl⟩,q⟩) hs
theorem jmn(its:List Value)(n j:Nat)(u:Value):Obj.mapSeq (·.setIfInBounds j u) {cls:=.type "list",data:=.seq its.toArray n}={cls:=.type "list",data:=.seq (its.set j u).toArray n}:=by
 simp[Obj.mapSeq]
theorem Inv.lst{pins:List (Addr×Obj)}{σ:St}{H:Hp}{s:Shared}{p:Addr}{xs:List V}(I:Inv X pins σ H s)(h:H p=some (.lst xs)) :
  ∃(its:List Value)(n:Nat),Vals xs its/\s.heap.get? p=some {cls:=.type "list",data:=.seq its.toArray n}/\xs.length<=sizeLine:=by
 obtain⟨z,its,n,r,e⟩:=I.hok p _ h
 exact⟨its,n,r,e,z⟩
theorem Inv.lstUpd{pins:List (Addr×Obj)}{σ:St}{H:Hp}{s:Shared}{p:Addr}{xs ys:List V}{its its':List Value}{n n':Nat}{f:Obj->Obj}(I:Inv X pins σ H s)(h:H p=some (.lst xs))
  (ho:s.heap.get? p=some {cls:=.type "list",data:=.seq its.toArray n}) (hf:f {cls:=.type "list",data:=.seq its.toArray n}={cls:=.type "list",data:=.seq its'.toArray n'}) (r:Vals ys its') (hz:ys.length<=sizeLine) (t:Nat) :
  Inv X pins σ (upd H p (.lst ys)) {s with heap:=s.heap.update p f,toks:=t}:=by
 have e:(s.heap.update p f).get? p=some {cls:=.type "list",data:=.seq its'.toArray n'}:=by
  rw[Iq f ho (by rw[hf] <;> rfl),hf]
 refine I.write (x:=p) (e:=p) (by rw[h];trivial) (.inl rfl) (λb u hb q=>(Im _ _ (Ix hb)).trans q) ⟨_,e⟩ ?_
 exact⟨hz,its',n',r,e⟩
def jrp:V->V->V->Hp->(Hp->Prop)->Prop:=λo i v H Q=>∃p xs k j,o=.ref p/\i=.int k/\H p=some (.lst xs)/\ixN xs.length k=some j/\Q (upd H p (.lst (xs.set j v)))
theorem jon:PSet X jrp:=by
 intro pins s σ H o i v ov iv u Q I ro ri rv h
 obtain⟨p,xs,k,j,rfl,rfl,hp,hj,q⟩:=h
 cases ro
 obtain⟨t,rfl⟩:=ri
 obtain⟨its,n,r,ho,hz⟩:=I.lst hp
 obtain⟨h1,h2,h3,h4⟩:=jlm hj
 have hl:=r.length
 have hn:=jd9
 have I':Inv X pins σ (upd H p (.lst (xs.set j v))) {s with heap:=s.heap.update p (Obj.mapSeq (·.setIfInBounds j u))} :=
  I.lstUpd hp ho (jmn its n j u) (r.set rv j) (by rw[List.length_set];exact hz) s.toks
 by_cases h0:0<=k
 ·have hk:k.toNat=j:=by
   rw[seqIndex_of h0 h4]at h1
   exact Au h1
  exact PySem.W.ki_setAt ho h0 (by omega) (by rw[Aj,<-hl];exact h4) (by rw[hk];exact⟨_,I',q⟩)
 ·have hk:(k+(its.toArray.size:Int)).toNat=j:=by
   rw[seqIndex_neg (by omega) h3]at h1
   rw[Aj,<-hl]
   exact Au h1
  exact PySem.W.ki_setBack ho (by omega) (by rw[Aj,<-hl];exact h3) (by omega) (by rw[hk];exact⟨_,I',q⟩)
theorem jkr(lo hi:Option Int)(n:Nat):(sliceBounds lo hi none n).1=((HT.sIx n 0 lo:Nat):Int)/\(sliceBounds lo hi none n).2.1=((HT.sIx n n hi:Nat):Int)/\(sliceBounds lo hi none n).2.2=1:=by
 refine⟨?_,?_,rfl⟩
 ·cases lo with
  |none=>simp[sliceBounds,HT.sIx]
  |some i =>
   simp only[sliceBounds,HT.sIx,Option.getD_none,show(1:Int)>0 by decide,Oo]
   by_cases h:i<0
   ·simp only[h,Oo] <;> omega
   ·simp only[h,On] <;> omega
 ·cases hi with
  |none=>simp[sliceBounds,HT.sIx]
  |some i =>
   simp only[sliceBounds,HT.sIx,Option.getD_none,show(1:Int)>0 by decide,Oo]
   by_cases h:i<0
   ·simp only[h,Oo] <;> omega
   ·simp only[h,On] <;> omega
theorem ji1(its:List Value)(lo hi:Option Int):slicePick its.toArray lo hi none=((its.drop (HT.sIx its.length 0 lo)).take (HT.sIx its.length its.length hi-HT.sIx its.length 0 lo)).toArray:=by
 obtain⟨h1,h2,h3⟩:=jkr lo hi its.toArray.size
 unfold slicePick
 rw[h1,h2,h3]
 simp only[sliceRange_one,pick_run,Aj] <;> rfl
def rSlL(K:PySem.W.Frag):V->Option Int->Option Int->Hp->VK->Prop:=λx lo hi H Q=>∃a xs,x=.ref a/\SqL K H a xs/\∀p,H p=none->Q (.ref p) (upd H p (.lst (cutV xs lo hi)))
theorem sl_list:SlR X (rSlL X.K):=by
 intro pins s σ H x v vl vu lo hi sl Q I rx hs pl pu h
 obtain⟨a,xs,rfl,hx,q⟩:=h
 cases rx
 obtain⟨its,r,ht,hz⟩:=I.list hx
 have hlen:=r.length
 refine⟨"list",_,slot_list_getitem.lookup,ht.isList.typeIs,?_⟩
 refine wpAny_getItem_list_slice ht.isList hs pl pu .none (by simp) ?_ (by rw[Aj] <;> omega)
 rw[ji1,<-hlen]
 refine⟨.ref s.heap.objs.size,_,I.laid (t':=s.toks) (o:=.lst (cutV xs lo hi)) (λb ob q=>Ac _ q) (Af _) ?_,rfl,q _ (I.hok.fresh (Af _))⟩
 exact⟨Ib (jem xs lo hi) hz,_,0,(r.drop (HT.sIx xs.length 0 lo)).take (HT.sIx xs.length xs.length hi-HT.sIx xs.length 0 lo),Av _ rfl⟩
def jdo:V->Bool
 |.non=>true
 |.bl _=>true
 |.int _=>true
 |.str _=>true
 |_=>false
def eqV:V->V->Bool
 |.non,.non=>true
 |.bl a,.bl b=>a == b
 |.bl a,.int b=>(if a then 1 else 0) == b
 |.int a,.bl b=>a == (if b then 1 else 0)
 |.int a,.int b=>a == b
 |.str a,.str b=>a == b
 |_,_=>false
theorem jqo{A:Around}{s:Shared}{y x:V}{u v:Value}(ry:RelV y u)(rx:RelV x v)(fy:jdo y=true)(fx:jdo x=true):SeqAt.EqAt A s u v (eqV y x):=by
 cases y with
 |non =>
  cases ry
  cases x with
  |non=>cases rx;exact SeqAt.EqAt.same _
  |bl b=>cases rx;exact SeqAt.EqAt.none_bool b
  |int b=>obtain⟨t,rfl⟩:=rx;exact SeqAt.EqAt.none_int b t
  |str b=>obtain⟨t,rfl⟩:=rx;exact SeqAt.EqAt.none_str b t
  |_=>exact absurd (show false=true from fx) A4
 |bl a =>
  cases ry
  cases x with
  |non=>cases rx;exact SeqAt.EqAt.bool_none a
  |bl b=>cases rx;exact SeqAt.EqAt.bool_bool a b
  |int b=>obtain⟨t,rfl⟩:=rx;exact SeqAt.EqAt.bool_int a b t
  |str b=>obtain⟨t,rfl⟩:=rx;exact SeqAt.EqAt.bool_str a b t
  |_=>exact absurd (show false=true from fx) A4
 |int a =>
  obtain⟨t',rfl⟩:=ry
  cases x with
  |non=>cases rx;exact SeqAt.EqAt.int_none a t'
  |bl b=>cases rx;exact SeqAt.EqAt.int_bool a t' b
  |int b=>obtain⟨t,rfl⟩:=rx;exact SeqAt.EqAt.int_int a t' b t
  |str b=>obtain⟨t,rfl⟩:=rx;exact SeqAt.EqAt.int_str a t' b t
  |_=>exact absurd (show false=true from fx) A4
 |str a =>
  obtain⟨t',rfl⟩:=ry
  cases x with
  |non=>cases rx;exact SeqAt.EqAt.str_none a t'
  |bl b=>cases rx;exact SeqAt.EqAt.str_bool a t' b
  |int b=>obtain⟨t,rfl⟩:=rx;exact SeqAt.EqAt.str_int a t' b t
  |str b=>obtain⟨t,rfl⟩:=rx;exact SeqAt.EqAt.str_str a t' b t
  |_=>exact absurd (show false=true from fx) A4
 |_=>exact absurd (show false=true from fy) A4
def eqU(x:V)(u:Value):Bool:=match u with
 |.none=>eqV .non x
 |.bool b=>eqV (.bl b) x
 |.int i _=>eqV (.int i) x
 |.str z _=>eqV (.str z) x
 |_=>false
theorem jna{x y:V}{u:Value}(r:RelV y u)(f:jdo y=true):eqU x u=eqV y x:=by
 cases y with
 |non=>cases r;rfl
 |bl b=>cases r;rfl
 |int i=>obtain⟨t,rfl⟩:=r;rfl
 |str z=>obtain⟨t,rfl⟩:=r;rfl
 |_=>exact absurd (show false=true from f) A4
theorem jeo{x:V}:∀{xs:List V}{us:List Value},Vals xs us->xs.all jdo=true->us.any (eqU x)=xs.any λy=>eqV y x
 |_,_,.nil,_=>rfl
 |y::xs,u::us,.cons r t,f=>by
  rw[List.all_cons,Od]at f
  rw[List.any_cons,List.any_cons,jna r f.1,jeo t f.2]
theorem jea{A:Around}{s:Shared}{x:V}{v:Value}(rx:RelV x v)(fx:jdo x=true):∀{xs:List V}{us:List Value},Vals xs us->xs.all jdo=true->∀u∈us,SeqAt.EqAt A s u v (eqU x u)
 |_,_,.nil,_=>λu hu=>by cases hu
 |y::xs,u::us,.cons r t,f=>λu' hu=>by
  rw[List.all_cons,Od]at f
  rcases Aw.mp hu with rfl|hu
  ·rw[jna r f.1];exact jqo r rx f.1 fx
  ·exact jea rx fx t f.2 u' hu
def inV(x:V)(xs:List V):Bool:=xs.any λy=>eqV y x
def rIn(K:PySem.W.Frag)(neg:Bool):R2:=λx y H Q=>∃p xs,y=.ref p/\(SqL K H p xs\/SqT K H p xs)/\jdo x=true/\xs.all jdo=true/\Q (.bl (if neg then !inV x xs else inV x xs)) H
theorem op_in_seq:OpR X (compareOp .In) (rIn X.K false):=by
 intro pins s σ H x y v u Q I rx ry h
 obtain⟨p,xs,rfl,hq,fx,fs,q⟩:=h
 cases ry
 rcases hq with hq|hq
 ·obtain⟨its,r,pl,hz⟩:=I.list hq
  refine SeqAt.in_listAt (eqU x) pl.isList (λw hw=>jea rx fx r fs w (by simpa using hw)) ⟨.bl _,H,I,rfl,?_⟩
  rw[show its.toArray.any (eqU x)=its.any (eqU x)by simp,jeo r fs]
  exact q
 ·obtain⟨its,r,pl,hz⟩:=I.tuple hq
  refine SeqAt.in_tupleAt (eqU x) pl (λw hw=>jea rx fx r fs w (by simpa using hw)) ⟨.bl _,H,I,rfl,?_⟩
  rw[show its.toArray.any (eqU x)=its.any (eqU x)by simp,jeo r fs]
  exact q
theorem op_notIn_seq:OpR X (compareOp .NotIn) (rIn X.K true):=by
 intro pins s σ H x y v u Q I rx ry h
 obtain⟨p,xs,rfl,hq,fx,fs,q⟩:=h
 cases ry
 rcases hq with hq|hq
 ·obtain⟨its,r,pl,hz⟩:=I.list hq
  refine SeqAt.notIn_listAt (eqU x) pl.isList (λw hw=>jea rx fx r fs w (by simpa using hw)) ⟨.bl _,H,I,rfl,?_⟩
  rw[show its.toArray.any (eqU x)=its.any (eqU x)by simp,jeo r fs]
  exact q
 ·obtain⟨its,r,pl,hz⟩:=I.tuple hq
  refine SeqAt.notIn_tupleAt (eqU x) pl (λw hw=>jea rx fx r fs w (by simpa using hw)) ⟨.bl _,H,I,rfl,?_⟩
  rw[show its.toArray.any (eqU x)=its.any (eqU x)by simp,jeo r fs]
  exact q
theorem op_notIn_str:OpR X (compareOp .NotIn) (λx y H Q=>∃i j,x=.str i/\y=.str j/\Q (.bl (!(!(Builtin.Str.occurrences j i 0 j.length 1).isEmpty))) H):=by
 intro pins s σ H x y v u Q I rx ry h
 obtain⟨i,j,rfl,rfl,q⟩:=h
 obtain⟨t,rfl⟩:=rx
 obtain⟨t',rfl⟩:=ry
 exact notIn_str ⟨.bl _,H,I,rfl,q⟩
theorem zn:jc1 X (.builtin "len") (λxs H Q=>∃p ys,xs=[.ref p]/\(SqL X.K H p ys\/SqT X.K H p ys)/\Q (.int ys.length) H):=by
 intro pins s σ H xs us Q I r h
 obtain⟨p,ys,rfl,hq,q⟩:=h
 obtain⟨u,rfl,rx⟩:=jdq r
 cases rx
 have hn:=jd9
 rcases hq with hq|hq
 ·obtain⟨its,r',pl,hz⟩:=I.list hq
  have hlen:=r'.length
  exact Calls.call_len_list pl.isList (by simp only[Aj] <;> omega) ⟨.int ys.length,H,I.tok _,⟨s.toks+1,by rw[Aj,hlen]⟩,q⟩
 ·obtain⟨its,r',pl,hz⟩:=I.tuple hq
  have hlen:=r'.length
  exact len_tuple pl (by simp only[Aj] <;> omega) ⟨.int ys.length,H,I.tok _,⟨s.toks+1,by rw[Aj,hlen]⟩,q⟩
theorem call_len_str:jc1 X (.builtin "len") (λxs H Q=>∃z,xs=[.str z]/\z.length<=sizeLine/\Q (.int z.length) H):=by
 intro pins s σ H xs us Q I r h
 obtain⟨z,rfl,hz,q⟩:=h
 obtain⟨u,rfl,t,rfl⟩:=jdq r
 have hn:=jd9
 exact len_str (by omega) ⟨.int z.length,H,I.tok _,⟨_,rfl⟩,q⟩
theorem jbb:jc1 X (.type "list") (λxs H Q=>∃p ys,xs=[.ref p]/\(SqL X.K H p ys\/SqT X.K H p ys)/\∀l,H l=none->Q (.ref l) (upd H l (.lst ys))):=by
 intro pins s σ H xs us Q I r h
 obtain⟨p,ys,rfl,hq,q⟩:=h
 obtain⟨u,rfl,rx⟩:=jdq r
 cases rx
 have fin:∀(its:List Value),Vals ys its->ys.length<=sizeLine->∀(h':Heap)(c':Nat),(∀b o',s.heap.get? b=some o'->h'.get? b=some o') ->
   h'.get? s.heap.objs.size=some {cls:=.type "list",dict:=none,data:=.seq its.toArray c',slots:=#[]}->EP X pins σ Q (.ref s.heap.objs.size) {s with heap:=h'}:=λits r' hz h' c' kp e =>
  ⟨.ref s.heap.objs.size,_,I.laid (t':=s.toks) kp (Af _) (show ObjOk X.prog X.w _ h' _ (.lst ys)from⟨hz,its,c',r',e⟩),rfl,q _ (I.hok.fresh (Af _))⟩
 rcases hq with hq|hq
 ·obtain⟨its,r',pl,hz⟩:=I.list hq
  have hlen:=r'.length
  obtain⟨o,ho,hc,n,hd⟩:=pl.isList
  exact call_list_seq p (.inl rfl) ho hc hd (λh' c' kp e=>fin its r' hz h' c' kp e) (by simp only[Aj] <;> omega)
 ·obtain⟨its,r',pl,hz⟩:=I.tuple hq
  have hlen:=r'.length
  obtain⟨o,ho,hc,n,hd⟩:=pl
  exact call_list_seq p (.inr rfl) ho hc hd (λh' c' kp e=>fin its r' hz h' c' kp e) (by simp only[Aj] <;> omega)
theorem ja6:jc1 X (.type "tuple") (λxs H Q=>∃p ys,xs=[.ref p]/\((SqL X.K H p ys/\∀l,H l=none->Q (.ref l) (upd H l (.tup ys)))\/(SqT X.K H p ys/\Q (.ref p) H))):=by
 intro pins s σ H xs us Q I r h
 obtain⟨p,ys,rfl,h⟩:=h
 obtain⟨u,rfl,rx⟩:=jdq r
 cases rx
 rcases h with⟨hq,q⟩|⟨hq,q⟩
 ·obtain⟨its,r',pl,hz⟩:=I.list hq
  have hlen:=r'.length
  refine call_tuple_list pl.isList (λh' kp=>?_) (by simp only[Aj] <;> omega)
  have I1:Inv X pins σ H {s with heap:=h'}:=I.kept (t':=s.toks) kp
  have I2:Inv X pins σ (upd H h'.objs.size (.tup ys)) {s with heap:=h'.push {cls:=.type "tuple",data:=.seq its.toArray}} :=
   I1.laid (t':=s.toks) (λb o e=>Ac _ e) (Af _) (show ObjOk X.prog X.w _ _ _ (.tup ys)from⟨hz,its,r',IsTup.new _ _⟩)
  exact⟨.ref h'.objs.size,_,I2,rfl,q _ (I1.hok.fresh (Af _))⟩
 ·obtain⟨its,r',pl,hz⟩:=I.tuple hq
  exact call_tuple_same pl ⟨.ref p,H,I,rfl,q⟩
def tyV(K:PySem.W.Frag)(T:String)(x:V)(H:Hp):Prop:=match x with
 |.str _=>T="str"
 |.int _=>T="int"
 |.ref p=>(T="list"/\∃xs,SqL K H p xs)\/(T="tuple"/\∃o,K.lookup p=some o/\o.cls=.type "tuple"/\o.dict=none) \/
   (T="dict"/\((∃kvs,H p=some (.dK kvs))\/∃kvs,H p=some (.dT kvs)))\/(T="set"/\∃S n,H p=some (.set S n))
 |_=>False
theorem jn0{pins:List (Addr×Obj)}{σ:St}{H:Hp}{s:Shared}{T:String}{x:V}{v:Value}(I:Inv X pins σ H s)(r:RelV x v)(ty:tyV X.K T x H) :
  s.TypeIs v T/\∀a,v=.ref a->∃ob,s.heap.get? a=some ob/\ob.dict=none:=by
 cases x with
 |str z =>
  obtain⟨t,rfl⟩:=r
  cases(show T="str"from ty)
  exact⟨typeIs_str s z t,λ_ e=>nomatch e⟩
 |int i =>
  obtain⟨t,rfl⟩:=r
  cases(show T="int"from ty)
  exact⟨typeIs_int s i t,λ_ e=>nomatch e⟩
 |ref p =>
  cases r
  rcases ty with⟨rfl,xs,hq⟩|⟨rfl,o,hk,hc,hd⟩|⟨rfl,hk⟩|⟨rfl,S,n,hk⟩
  ·obtain⟨its,_,pl,_⟩:=I.list hq
   refine⟨pl.isList.typeIs,λa e=>?_⟩
   cases e
   obtain⟨o,n,e,c,hd,_⟩:=pl
   exact⟨o,e,hd⟩
  ·refine⟨⟨o,I.kIn p o hk,hc⟩,λa e=>?_⟩
   cases e
   exact⟨o,I.kIn _ o hk,hd⟩
  ·have z:∃o,s.heap.get? p=some o/\o.ExactDict:=by
    rcases hk with⟨kvs,hk⟩|⟨kvs,hk⟩
    ·obtain⟨_,_,_,_,o,_,_,e,ex,_⟩:=I.hok p _ hk
     exact⟨o,e,ex⟩
    ·obtain⟨_,_,_,_,o,_,_,e,ex,_⟩:=I.hok p _ hk
     exact⟨o,e,ex⟩
   obtain⟨o,e,ex⟩:=z
   refine⟨⟨o,e,ex.1⟩,λa e2=>?_⟩
   cases e2
   exact⟨o,e,ex.2.1⟩
  ·obtain⟨o,_,_,_,e,ex,_⟩:=I.hok p _ hk
   refine⟨⟨o,e,ex.1⟩,λa e2=>?_⟩
   cases e2
   exact⟨o,e,ex.2.1⟩
 |_=>exact False.elim ty
def tBM0(K:PySem.W.Frag)(T:String)(r:V->List V->Hp->VK->Prop)(to:TE):TE:=λσ H Q=>to σ H λx H1=>tyV K T x H1/\r x [] H1 Q
def tBM(K:PySem.W.Frag)(T:String)(r:V->List V->Hp->VK->Prop)(to:TE)(t:TA):TE:=λσ H Q=>to σ H λx H1=>tyV K T x H1/\t σ H1 λxs H2=>r x xs H2 Q
variable{o e:Expr}{es:List Expr}{to:TE}{t:TA}{name:Str}{apos cpos:Pos}{T id:String}{r:V->List V->Hp->VK->Prop}
theorem pe_bm0(pa:PlainAttrs T)(slot:Slot T name id)(hty:typeOf (.builtin id)=pure (.type "method_descriptor"))(hm:MtR X id r)(ho:PE X o to)
  (hbase:attributeBase o name X.env (eval o X.env)=eval o X.env:=by rfl) (hline:(apos.endLine == cpos.line)=true:=by rfl):PE X (.Call (.Attribute o name apos) [] [] cpos) (tBM0 X.K T r to):=by
 intro pins s σ H Q I h
 refine wpAny_Call_method0_late hbase hline (thn (ho pins s σ H _ I h) λv s1 ⟨x,H1,I1,r1,ty,q1⟩=>?_)
 obtain⟨h1,h2⟩:=jn0 I1 r1 ty
 exact⟨T,id,pa,slot,hty,h1,h2,Ub rfl (PySem.evalArgs_none (hm pins s1 σ H1 x [] v [] Q I1 r1 .nil q1))⟩
theorem jcl(pa:PlainAttrs T)(slot:Slot T name id)(hty:typeOf (.builtin id)=pure (.type "method_descriptor"))(hm:MtR X id r)(ho:PE X o to)(ha:PA X (e::es) t)
  (hbase:attributeBase o name X.env (eval o X.env)=eval o X.env:=by rfl)
  (hfew:((backTo cpos (starEach (e::es) X.env)).all (λx=>!x.1) && (backToKw cpos (keywordEach [] X.env)).all (λx=>x.1.isSome)
   && decide ((e::es).length+([]:List Keyword).length+(if([]:List Keyword).isEmpty then 0 else 1)<30))=true:=by rfl)
  (hline:(apos.endLine == cpos.line)=true:=by rfl) (hs:starEach (e::es) X.env=(false,eval e X.env)::starEach es X.env:=by rfl) (hplain:(backTo cpos (starEach es X.env)).any (·.1)=false:=by rfl) :
  PE X (.Call (.Attribute o name apos) (e::es) [] cpos) (tBM X.K T r to t):=by
 intro pins s σ H Q I h
 refine wpAny_Call_method_late hbase hfew hline rfl (thn (ho pins s σ H _ I h) λv s1 ⟨x,H1,I1,r1,ty,q1⟩=>?_)
 obtain⟨h1,h2⟩:=jn0 I1 r1 ty
 refine⟨T,id,pa,slot,hty,h1,h2,?_⟩
 have hA:=ha cpos pins s1 σ H1 _ I1 q1
 rw[hs]at hA⊢
 refine Ub (by show(false || (backTo cpos (starEach es X.env)).any (·.1))=false;rw[hplain] <;> rfl) (Wd ?_)
 exact thn hA λus s2 ⟨vs,H2,I2,r2,q2⟩=>hm pins s2 σ H2 x vs v us Q I2 r1 r2 q2
end
def MtM(X:Cx)(id:String)(r:V->List V->Hp->VK->Prop):Prop :=
 ∀(pins:List (Addr×Obj))(s:Shared)(σ:St)(H:Hp)(x:V)(xs:List V)(v:Value)(us:List Value)(Q:VK),Inv X pins σ H s->RelV x v->Vals xs us->r x xs H Q ->
  wpAny (model X.prog X.w) X.A (call (.builtin id) (v::us)) (EP X pins σ Q) X.xe s
theorem Vals.one{x:V}{us:List Value}(h:Vals [x] us):∃u,us=[u]/\RelV x u:=jdq h
theorem Vals.zero:∀{us:List Value},Vals [] us->us=[]
 |_,.nil=>rfl
theorem Vals.dropLast{xs:List V}{us:List Value}(h:Vals xs us):Vals xs.dropLast us.dropLast:=by
 induction h with
 |nil=>exact .nil
 |cons r t ih =>
  cases t with
  |nil=>exact .nil
  |cons q t'=>exact .cons r ih
theorem Vals.eraseIdx:∀{xs:List V}{us:List Value}(i:Nat),Vals xs us->Vals (xs.eraseIdx i) (us.eraseIdx i)
 |_,_,_,.nil=>.nil
 |_,_,0,.cons _ t=>t
 |_,_,i+1,.cons r t=>.cons r (Vals.eraseIdx i t)
theorem Vals.rep{xs:List V}{us:List Value}(h:Vals xs us):∀k:Nat,Vals (List.replicate k xs).flatten (List.replicate k us).flatten
 |0=>.nil
 |k+1=>by
  rw[List.replicate_succ,List.replicate_succ,List.flatten_cons,List.flatten_cons]
  exact Vals.append h (Vals.rep h k)
theorem jmc{α:Type}(l:List α):l.eraseIdx (l.length-1)=l.dropLast:=by
 induction l with
 |nil=>rfl
 |cons a r ih =>
  cases r with
  |nil=>rfl
  |cons b r =>
   have e:(a::b::r).length-1=((b::r).length-1)+1:=by
    have h1:(a::b::r).length=r.length+2:=rfl
    have h2:(b::r).length=r.length+1:=rfl
    omega
   rw[e,List.eraseIdx_cons_succ,ih]
   all_goals rfl
theorem jig{α:Type}:∀(l:List α)(i:Nat),(l.eraseIdx i).length<=l.length
 |[],_=>Af _
 |_::_,0=>Nat.le_succ _
 |_::r,i+1=>Nat.succ_le_succ (jig r i)
theorem jic(its:List Value):∀(k:Nat)(acc:List Value),
  List.foldl (λx1 x2=>x1++x2) acc.toArray (List.replicate k its.toArray)=(acc++(List.replicate k its).flatten).toArray
 |0,acc=>by simp
 |k+1,acc=>by
  have e:acc.toArray++its.toArray=(acc++its).toArray:=by simp
  have e2:(acc++its)++(List.replicate k its).flatten=acc++(List.replicate (k+1) its).flatten:=by
   rw[List.replicate_succ,List.flatten_cons,Ob]
  rw[<-e2,<-jic its k (acc++its),<-e,List.replicate_succ,List.foldl_cons]
section
variable{X:Cx}{pins:List (Addr×Obj)}{σ:St}{H:Hp}{s:Shared}{l b:Addr}{xs ys zs:List V}
theorem Inv.lset{its its':List Value}{n:Nat}{f:Array Value->Array Value}{t':Nat}(I:Inv X pins σ H s)(hH:H l=some (.lst xs))
  (e:s.heap.get? l=some {cls:=.type "list",data:=.seq its.toArray n}) (hf:f its.toArray=its'.toArray) (hv:Vals ys its') (hz:ys.length<=sizeLine) :
  Inv X pins σ (upd H l (.lst ys)) {s with heap:=s.heap.update l (Obj.mapSeq f),toks:=t'}:=by
 have q:=PySem.IsL.update e f
 rw[hf]at q
 refine I.write (x:=l) (e:=l) (by rw[hH];exact trivial) (.inl rfl) (λb' u hb hu=>(Im s.heap (Obj.mapSeq f) (Ix hb)).trans hu) ⟨_,q⟩ ?_
 exact⟨hz,its',_,hv,q⟩
theorem Inv.lnew{its:List Value}{t':Nat}(I:Inv X pins σ H s)(hv:Vals ys its)(hz:ys.length<=sizeLine) :
  Inv X pins σ (upd H s.heap.objs.size (.lst ys)) {s with heap:=s.heap.push {cls:=.type "list",data:=.seq its.toArray},toks:=t'} :=
 I.laid (λ_ _ q=>Ac _ q) (Af _) ⟨hz,its,0,hv,Av _ rfl⟩
theorem Inv.fresh(I:Inv X pins σ H s):H s.heap.objs.size=none:=I.hok.fresh (Af _)
theorem Inv.lstM(I:Inv X pins σ H s)(hH:H l=some (.lst xs)):xs.length<=sizeLine/\∃(its:List Value)(n:Nat),Vals xs its/\xs.length=its.length/\s.heap.get? l=some {cls:=.type "list",data:=.seq its.toArray n}:=by
 obtain⟨z,its,n,r,e⟩:=I.hok l _ hH
 exact⟨z,its,n,r,r.length,e⟩
theorem jka{n:Nat}(h:n<=sizeLine):Builtin.List.listTooLong n=false:=by
 unfold Builtin.List.listTooLong
 exact Ic (by omega)
end
section
variable{X:Cx}
def jp0:V->List V->Hp->VK->Prop:=λx vs H Q=>∃l xs y,x=.ref l/\vs=[y]/\H l=some (.lst xs)/\xs.length<sizeLine/\Q .non (upd H l (.lst (xs++[y])))
theorem jbc:MtM X "list.append" jp0:=by
 intro pins s σ H x vs v us Q I rx rv h
 obtain⟨l,xs,y,rfl,rfl,hH,hz,q⟩:=h
 cases rx
 obtain⟨u,rfl,ru⟩:=rv.one
 obtain⟨z,its,n,r,hl,e⟩:=I.lstM hH
 refine We F.slot_list_append ⟨_,e,rfl⟩ F.entry_list_append (F.args_list_append_2 _ _) (PySem.list_append l its.toArray n u (by rw[Aj];omega)) ⟨e,?_⟩
 refine⟨.non,_,I.lset (its':=its++[u]) hH e (by simp) (r.append (.cons ru .nil)) ?_,rfl,q⟩
 rw[Ay,List.length_singleton]
 omega
def jp1:V->List V->Hp->VK->Prop:=λx vs H Q=>∃l b xs zs,x=.ref l/\vs=[.ref b]/\H l=some (.lst xs)/\H b=some (.lst zs)/\xs.length+zs.length<=sizeLine/\Q .non (upd H l (.lst (xs++zs)))
theorem mt_extend:MtM X "list.extend" jp1:=by
 intro pins s σ H x vs v us Q I rx rv h
 obtain⟨l,b,xs,zs,rfl,rfl,hH,hB,hz,q⟩:=h
 cases rx
 obtain⟨u,rfl,ru⟩:=rv.one
 cases ru
 obtain⟨z,its,n,r,hl,e⟩:=I.lstM hH
 obtain⟨z2,its2,n2,r2,hl2,e2⟩:=I.lstM hB
 have hsz:its.toArray.size+its2.toArray.size<=sizeLine:=by rw[Aj,Aj];omega
 have hlong:¬(!its.toArray.isEmpty && Builtin.List.listTooLong (its.toArray.size+its2.toArray.size))=true:=by
  rw[jka hsz,Bool.and_false]
  exact A4
 refine We F.slot_list_extend ⟨_,e,rfl⟩ F.entry_list_extend (F.args_list_extend_2 _ _)
  (AutoSeq1.list_extend_list_list_0 l its.toArray n b its2.toArray n2 hlong (by rw[Aj];omega) (by omega)) ⟨e,e2,?_⟩
 refine⟨.non,_,I.lset (its':=its++its2) hH e (by simp) (r.append r2) ?_,rfl,q⟩
 rw[Ay]
 omega
def rPop:V->List V->Hp->VK->Prop:=λx vs H Q=>∃l xs y,x=.ref l/\vs=[]/\H l=some (.lst xs)/\xs[xs.length-1]?=some y/\Q y (upd H l (.lst xs.dropLast))
theorem mt_pop:MtM X "list.pop" rPop:=by
 intro pins s σ H x vs v us Q I rx rv h
 obtain⟨l,xs,y,rfl,rfl,hH,hy,q⟩:=h
 cases rx
 have hus:=rv.zero
 subst hus
 obtain⟨z,its,n,r,hl,e⟩:=I.lstM hH
 obtain⟨u,hu,ru⟩:=r.get hy
 have hy':its.toArray[its.toArray.size-1]?=some u:=by
  show its.toArray[its.length-1]?=some u
  rw[<-Array.getElem?_toList,<-hl]
  exact hu
 refine We F.slot_list_pop ⟨_,e,rfl⟩ F.entry_list_pop (F.args_list_pop_1 _) (MeetsSeq.list_pop_last l its.toArray n u hy' (by rw[Aj];omega)) ⟨e,?_⟩
 refine⟨y,_,I.lset (its':=its.dropLast) hH e ?_ r.dropLast ?_,ru,q⟩
 ·show its.toArray.eraseIdxIfInBounds (its.toArray.size-1)=its.dropLast.toArray
  rw[Aj,List.eraseIdxIfInBounds_toArray,jmc]
 ·rw[List.length_dropLast]
  omega
def jq2:V->List V->Hp->VK->Prop:=λx vs H Q=>∃l xs i k y,x=.ref l/\vs=[.int i]/\H l=some (.lst xs)/\-(2^63)<=i/\i<2^63/\seqIndex? i xs.length=some k/\xs[k]?=some y/\Q y (upd H l (.lst (xs.eraseIdx k)))
theorem mt_popAt:MtM X "list.pop" jq2:=by
 intro pins s σ H x vs v us Q I rx rv h
 obtain⟨l,xs,i,k,y,rfl,rfl,hH,h1,h2,hk,hy,q⟩:=h
 cases rx
 obtain⟨u,rfl,ru⟩:=rv.one
 obtain⟨t,rfl⟩:=ru
 obtain⟨z,its,n,r,hl,e⟩:=I.lstM hH
 obtain⟨w,hw,rw'⟩:=r.get hy
 refine We F.slot_list_pop ⟨_,e,rfl⟩ F.entry_list_pop (F.args_list_pop_2 _ _)
  (MeetsSeq.list_pop_at l its.toArray n i t k w (fitsIndex_both h1 h2) (by rw[Aj,<-hl];exact hk) (by rw[<-Array.getElem?_toList];exact hw) (by rw[Aj];omega)) ⟨e,?_⟩
 refine⟨y,_,I.lset (its':=its.eraseIdx k) hH e ?_ (r.eraseIdx k) ?_,rw',q⟩
 ·show its.toArray.eraseIdxIfInBounds k=(its.eraseIdx k).toArray
  rw[List.eraseIdxIfInBounds_toArray]
 ·have:=jig xs k
  omega
def rCat:R2:=λx y H Q=>∃l b xs zs,x=.ref l/\y=.ref b/\H l=some (.lst xs)/\H b=some (.lst zs)/\xs.length+zs.length<=sizeLine/\∀p,H p=none->Q (.ref p) (upd H p (.lst (xs++zs)))
theorem op_cat:OpR X (binaryOp .Add) rCat:=by
 intro pins s σ H x y v u Q I rx ry h
 obtain⟨l,b,xs,zs,rfl,rfl,hH,hB,hz,q⟩:=h
 cases rx
 cases ry
 obtain⟨z,its,n,r,hl,e⟩:=I.lstM hH
 obtain⟨z2,its2,n2,r2,hl2,e2⟩:=I.lstM hB
 refine PySem.P.add_list e e2 ?_ (by rw[Aj,Aj];omega)
 have ea:its.toArray++its2.toArray=(its++its2).toArray:=by simp
 rw[ea]
 exact⟨.ref _,_,I.lnew (t':=s.toks) (r.append r2) (by rw[Ay];omega),rfl,q _ I.fresh⟩
def rRep:R2:=λx y H Q=>∃l k xs,x=.ref l/\y=.int k/\H l=some (.lst xs)/\-(2^63)<=k/\k<2^63/\xs.length*k.toNat<=sizeLine /\
 ∀p,H p=none->Q (.ref p) (upd H p (.lst (List.replicate k.toNat xs).flatten))
theorem jpt{α:Type}(xs:List α)(k:Nat):(List.replicate k xs).flatten.length=k*xs.length:=by
 induction k with
 |zero=>simp
 |succ k ih=>rw[List.replicate_succ,List.flatten_cons,Ay,ih,Nat.succ_mul,Nat.add_comm]
theorem op_rep:OpR X (binaryOp .Mult) rRep:=by
 intro pins s σ H x y v u Q I rx ry h
 obtain⟨l,k,xs,rfl,rfl,hH,h1,h2,hz,q⟩:=h
 cases rx
 obtain⟨t,rfl⟩:=ry
 obtain⟨z,its,n,r,hl,e⟩:=I.lstM hH
 have hlen:its.toArray.size*k.toNat<=sizeLine:=by rw[Aj,<-hl];exact hz
 have hcap:¬its.toArray.size*k.toNat>(2^63-1) / 8:=by
  have:(sizeLine:Nat)<=(2^63-1) / 8:=by decide
  omega
 have hfit:¬(!Builtin.List.listFitsIndex k)=true:=by
  rw[fitsIndex_both h1 h2]
  exact A4
 have hlong:¬Builtin.List.listTooLong (its.toArray.size*k.toNat)=true:=by
  rw[jka hlen]
  exact A4
 have hnew:List.foldl (λx1 x2=>x1++x2) #[] (List.replicate (if its.toArray.isEmpty=true then 0 else k.toNat) its.toArray)=(List.replicate k.toNat its).flatten.toArray:=by
  have f0:∀m:Nat,List.foldl (λx1 x2=>x1++x2) #[] (List.replicate m its.toArray)=(List.replicate m its).flatten.toArray:=λm=>by
   have:=jic its m []
   rw[List.nil_append]at this
   exact this
  rw[f0]
  cases its with
  |nil=>simp
  |cons a r'=>rw[Aa (by simp)]
 refine wpAny_binaryOp_repeat_ref (T:="list") (U:="int") (by decide) ⟨_,e,rfl⟩ (λs'=>typeIs_int s' k t) noFill_list_mul F.fills_int_mul F.slot_int_rmul repeat_list F.slot_int_index.lookup
  (We F.slot_int_rmul (typeIs_int s k t) F.entry_int_rmul (F.args_int_rmul_2 _ _) (int___rmul___int_list k t l its.toArray n)
   ⟨e,rfl,⟨_,e,rfl⟩,We F.slot_list_mul ⟨_,e,rfl⟩ F.entry_list_mul (F.args_list_mul_2 _ _) (AutoListH.list___mul___list_int_3 l its.toArray n k t hfit hcap hlong) ⟨e,?_⟩⟩)
 rw[hnew]
 exact⟨.ref _,_,I.lnew (t':=s.toks) (r.rep k.toNat) (by rw[jpt,Nat.mul_comm];exact hz),rfl,q _ I.fresh⟩
end
end L2
namespace Att
open PySem PySem.W PySem.Calls PyProof.Rows
theorem jg0{P:Params}{h:Heap}:∀(ns:List Int)(vs:List Value),WellAll P h vs (ns.map WData.int)->IntsAre vs ns:=by
 intro ns
 induction ns with
 |nil =>
  intro vs w
  rw[Uf]at w
  cases w
  exact .nil
 |cons n ns ih =>
  intro vs w
  rw[Ax]at w
  cases w with
  |cons a b =>
   cases a
   exact .cons _ _ (ih _ b)
theorem jnu{l:OpenLaw}{n:Nat}(hn:l.most=some n){P:Params}{h:Heap}{args:List WData}{vals:List Value}
  (hpre:l.row.toRowW.claim.pre args=true) (hwl:WellAll P h vals args) :
  ∃a vs ns,vals=[Value.ref a]/\args=[WData.list (ns.map WData.int)]/\h.get? a=some {cls:=.type "list",data:=.seq vs.toArray}/\IntsAre vs ns/\ns.length<=n:=by
 have hsh:WShape.hasAll [] args [.list .int]=true:=(pre_splitW hpre).1
 have hc:l.pre.holds [] {args:=args}=true:=(pre_splitW hpre).2
 obtain⟨d,r,rfl,h1,h2⟩:=hasAllW_cons hsh
 obtain rfl:=hasAllW_nil h2
 obtain⟨xs,rfl,h3⟩:=hasW_list h1
 obtain⟨ns,rfl⟩:=items_int h3
 have hlen:ns.length<=n:=by
  unfold OpenLaw.pre at hc
  have h4:(WTm.not (.lt (.lit (.int (n:Int))) (.len (.arg 0)))).holds [] {args:=[.list (ns.map .int)]}=true:=by
   have h4:=(holds_andW hc).1
   rw[hn]at h4
   exact h4
  have h5:=condW_of h4 (w_not (w_lt w_lit (w_len_list (w_arg rfl))))
  rw[Ae]at h5
  refine Nat.le_of_not_lt λq=>?_
  have q':(n:Int)<((ns.length:Nat):Int):=by omega
  first
   |(rw[Oy q']at h5;exact absurd h5 (by decide))
   |(simp at h5;omega)
 cases hwl with
 |cons w1 w2 =>
  cases w2
  cases w1 with
  |list ho hall=>exact⟨_,_,ns,rfl,rfl,ho,jg0 ns _ hall,hlen⟩
theorem post_true(l:OpenLaw)(args:List WData):l.row.toRowW.claim.post args (.bool true) args=true :=
 postW_of (r:=l.row.toRowW) (X:=(true == true))
  (show WShape.has [] (.bool true) .bool=true by first|rfl|decide|simp[WShape.has,WShape.arms,WShape.armsAll])
  (show(WTm.eq .res (.lit (.bool true))).value [] {args:=args,res:=some (.bool true),after:=args}=some (.bool (true == true))from w_eq_bool (w_res rfl) w_lit) rfl
theorem attach_call{l:OpenLaw}{n:Nat}{q:Program}{loose:List Str}{XP:(Str->Option Value)->Heap->Prop}{YP:World->Heap->Prop}{d:DefRec}
  (hn:l.most=some n) (hdf:d.params.defaults=[])
  (call:∀(w:World)(s₀ s₁:Shared)(mg mb:Str->Option Value)(fa:Addr)(o:Obj)(pm cd doc:Value)(a:Addr)(vs:List Value)(ns:List Int),
   Ground q loose [] XP w s₀ mg mb s₁.heap->YP w s₁.heap ->
   s₁.heap.get? fa=some o->o.data=.func (docDef d.name d.params d.body d.scope pm cd doc)->s₁.heap.CodeRec cd d.name->mg d.name=some (.ref fa) ->
   s₁.heap.get? a=some {cls:=.type "list",data:=.seq vs.toArray}->IntsAre vs ns->ns.length<=n->s₁.gens=#[] ->
   codeAny (model l.prog w) callerA (.call (.ref fa) ⟨[.ref a],[]⟩) (λr s'=>r=.ok (.ret (.bool true))/\OldK s₁.heap s'.heap/\s'.os=s₁.os/\AllBare s'.gens) s₁) :
  WalkO q loose XP YP l.row.toRowW d [] (λf vs=>PySem.call f vs):=by
 intro w s₀ s₁ mg mb G Y fa o pm cd doc dV kV ho hd hcd hD hmg hg args vals as hpre hlay hrd hwl hlo
 obtain rfl:dV=.none:=Dflts.none hD hdf
 obtain rfl:kV=.none:=Dflts.noKw hD
 obtain⟨a,vs,ns,rfl,rfl,hobj,hints,hlen⟩:=jnu hn hpre hwl
 refine enter_call (Ue (call w s₀ s₁ mg mb fa o pm cd doc a vs ns G Y ho (fd_plain hd) hcd hmg hobj hints hlen hg) λr s' hq=>?_)
 obtain⟨rfl,h2,h3,h4⟩:=hq
 exact⟨.inl ⟨.bool true,.bool true,[],rfl,λ_=>rfl,.bool true,post_true l _,λ_=>⟨List.Pairwise.nil,λ_ hm=>(nomatch hm)⟩⟩,h2,h3,h4⟩
end Att
namespace L2
open PySem PySem.Spec PyProof.Rows
theorem jiz:∀{vs:List Value}{ns:List Int},IntsAre vs ns->Vals (ns.map V.int) vs
 |_,_,.nil=>.nil
 |_,_,.cons n t h=>.cons ⟨t,rfl⟩ (jiz h)
def ju(s:Stmt):Arguments:=match s with
 |.FunctionDef _ a _ _ _ _ _ _ _ _=>a
 |_=>{posonlyargs:=[],args:=[],vararg:=none,kwonlyargs:=[],kw_defaults:=[],kwarg:=none,defaults:=[]}
def jt(s:Stmt):List Stmt:=match s with
 |.FunctionDef _ _ b _ _ _ _ _ _ _=>b
 |_=>[]
def ji(s:Stmt):Scope:=match s with
 |.FunctionDef _ _ _ _ _ _ sc _ _ _=>sc
 |_=>{kind:=.function,names:=[],isGenerator:=false,isCoroutine:=false}
abbrev CX0:CXT:=λ_ _ _ _ _ _=>False
abbrev E0:XK:=λ_ _ _=>False
theorem jo{X:Cx}:jds CX0 X E0:=λ_ _ _ _ _ _ _ h=>h.elim
structure Fun(K:PySem.W.Frag)(x qual:Str)(st:Stmt)(f:Addr)(fd:FuncData):Prop where
 ex:∃(oc:Value)(od:Option Addr)(kV doc pm:Value)(an:Option Addr)(cdv ct:Value)(osl:Array (Option Value)),
  fd=PySem.W.fnOf x qual (ju st) (jt st) (ji st) .none kV doc pm an cdv ct/\K.lookup f=some ⟨oc,od,.func fd,osl⟩/\PySem.W.codeIn K cdv qual=true
 kp:PySem.W.keepIn K (.ref f)=true
section
variable{P:Program}{w:World}{K:PySem.W.Frag}{mg:Str->Option Value}{base:Heap}
theorem Fun.ok{x qual:Str}{st:Stmt}{f:Addr}{fd:FuncData}{N ps:List Str}{k:Nat}{sp:Sp}(F:Fun K x qual st f fd)(S:FnScope N ps (ji st))(len:∀vs H Q E,sp vs H Q E->vs.length=ps.length)
  (hbody:∀(cdv:Value)(A:Around)(outer:List Env)(s:Shared)(H:Hp)(vs:List V)(Q:VK)(E:XK),Room k (A.deeper (envOfC qual (ji st) s.heap.objs.size f cdv))->sp vs H Q E ->
   ∃t,PSs (cxOf CX0 P w K mg base N qual (ji st) f cdv A outer s H E).nox (jt st) t/\t {nx:=λ_ H'=>Q .non H',rt:=Q} (start N vs) H):FnOk P w K mg base CX0 (k+1) f fd ps sp:=by
 obtain⟨oc,od,kV,doc,pm,an,cdv,ct,osl,rfl,lk,hcd⟩:=F.ex
 refine jmd lk hcd S len λA outer s H vs Q E hr hsp=>?_
 obtain⟨t,h,q⟩:=hbody cdv A outer s H vs Q E hr hsp
 exact⟨t,h.nox,q⟩
theorem Fun.binds{x qual:Str}{st:Stmt}{f:Addr}{fd:FuncData}{ps:List Str}(F:Fun K x qual st f fd)
  (h:∀(kV doc pm:Value)(an:Option Addr)(cdv ct:Value)(us:List Value),us.length=ps.length->bindArgs (PySem.W.fnOf x qual (ju st) (jt st) (ji st) .none kV doc pm an cdv ct) ⟨us,[]⟩=pure (ps.zip us)):Binds K fd ps []:=by
 obtain⟨oc,od,kV,doc,pm,an,cdv,ct,osl,rfl,lk,hcd⟩:=F.ex
 exact .all (h kV doc pm an cdv ct)
theorem jcn{x qual:Str}{st:Stmt}{f:Addr}{oc:Value}{od an:Option Addr}{osl:Array (Option Value)}{kV doc pm cdv ct:Value}(l:K.lookup f=some ⟨oc,od,.func (PySem.W.fnOf x qual (ju st) (jt st) (ji st) .none kV doc pm an cdv ct),osl⟩)
  (c:PySem.W.codeIn K cdv qual=true) (k:PySem.W.keepIn K (.ref f)=true):Fun K x qual st f (PySem.W.fnOf x qual (ju st) (jt st) (ji st) .none kV doc pm an cdv ct):=⟨⟨oc,od,kV,doc,pm,an,cdv,ct,osl,rfl,l,c⟩,k⟩
end
theorem jmg{A:Around}{k:Nat}(hr:Room k A):A.units+1<cLine:=Ut (Nat.add_le_add_left (by decide:1<=64) _) hr.units
section
variable{X:Cx}
theorem pv(i:Nat){x:Str}{pos:Pos}(hN:X.N[i]?=some x:=by rfl)(hv:Vis X.env.scope x:=by first|exact Or.inl rfl|exact Or.inr (Or.inl rfl)|exact Or.inr (Or.inr rfl))(hd:(x == ("__debug__":Str))=false:=by decide)
  (hcd:(x == ("__classdict__":Str))=false:=by decide):PE X (.Name x pos) (tVar i):=jci hN hv hd hcd
end
theorem ite2{c A B:Prop}[Decidable c](h1:c->A)(h2:¬c->B):if c then A else B:=by
 by_cases h:c
 ·rw[Ad h]
  exact h1 h
 ·rw[Aa h]
  exact h2 h
section
variable{κ:Type}[DecidableEq κ]
def valV(kvs:List (κ×V))(k:κ):Option V:=(kvs.find? λkv=>decide (kv.1=k)).map (·.2)
def putK(kvs:List (κ×V))(k:κ)(v:V):List (κ×V) :=
 if(kvs.any λkv=>decide (kv.1=k))=true then kvs.map (λkv=>if kv.1=k then(kv.1,v)else kv)else kvs++[(k,v)]
theorem joq{k:κ}:valV ([]:List (κ×V)) k=none:=rfl
theorem jc2{p:κ×V}{r:List (κ×V)}{k:κ}(e:p.1=k):valV (p::r) k=some p.2:=by simp[valV,List.find?_cons,e]
theorem jcx{p:κ×V}{r:List (κ×V)}{k:κ}(e:¬p.1=k):valV (p::r) k=valV r k:=by simp[valV,List.find?_cons,e]
theorem je9(k:κ):∀kvs:List (κ×V),(kvs.any λkv=>decide (kv.1=k))=(valV kvs k).isSome
 |[]=>rfl
 |p::r=>by
  rw[List.any_cons]
  by_cases e:p.1=k
  ·simp only[jc2 e,Oy e,Bool.true_or,Option.isSome_some]
  ·rw[jcx e,Ic e,Bool.false_or];exact je9 k r
theorem jkw(k j:κ)(y:V):∀kvs:List (κ×V),valV (kvs.map λkv=>if kv.1=k then(kv.1,y)else kv) j=(valV kvs j).map λx=>if j=k then y else x
 |[]=>rfl
 |p::r=>by
  have ih:=jkw k j y r
  rw[Ax]
  by_cases h:p.1=k
  ·rw[Ad h]
   by_cases e:p.1=j
   ·rw[jc2 (p:=(p.1,y)) e,jc2 e,Option.map_some,Ad (e.symm.trans h)]
   ·rw[jcx (p:=(p.1,y)) e,jcx e,ih]
  ·rw[Aa h]
   by_cases e:p.1=j
   ·rw[jc2 (p:=p) e,jc2 e,Option.map_some,Aa (λz=>h (e.trans z))]
   ·rw[jcx (p:=p) e,jcx e,ih]
theorem jiy(k j:κ)(y:V):∀kvs:List (κ×V),valV kvs k=none->valV (kvs++[(k,y)]) j=if j=k then some y else valV kvs j
 |[],_=>by
  by_cases e:k=j
  ·rw[Ad e.symm];exact jc2 (p:=(k,y)) e
  ·rw[Aa (λz=>e z.symm)];exact jcx (p:=(k,y)) e
 |p::r,hn=>by
  rw[List.cons_append]
  have hk:¬p.1=k:=λz=>by rw[jc2 z]at hn;cases hn
  rw[jcx hk]at hn
  have ih:=jiy k j y r hn
  by_cases e:p.1=j
  ·rw[jc2 e,jc2 e,Aa (λz=>hk (e.trans z))]
  ·rw[jcx e,jcx e,ih]
theorem jkx(kvs:List (κ×V))(k j:κ)(y:V):valV (putK kvs k y) j=if j=k then some y else valV kvs j:=by
 unfold putK
 by_cases a:(kvs.any λkv=>decide (kv.1=k))=true
 ·rw[Ad a,jkw]
  rw[je9]at a
  by_cases e:j=k
  ·obtain⟨x,hx⟩:=O1.mp a
   rw[Ad e,e,hx,Option.map_some,Ad rfl]
  ·rw[Aa e]
   cases valV kvs j with
   |none=>rfl
   |some x=>rw[Option.map_some,Aa e]
 ·rw[Aa a]
  refine jiy k j y kvs ?_
  rw[je9]at a
  cases q:valV kvs k with
  |none=>rfl
  |some x=>rw[q]at a;exact(a rfl).elim
theorem jdd(kvs:List (κ×V))(k:κ)(v:V):(putK kvs k v).length<=kvs.length+1:=by
 unfold putK
 split
 ·rw[Ae];omega
 ·rw[Ay,List.length_cons,List.length_nil];omega
theorem RelO.isSome_eq{o:Option V}{u:Option Value}(r:RelO o u):o.isSome=u.isSome:=by
 cases o with
 |none=>cases u with
  |none=>rfl
  |some _=>exact(show False from r).elim
 |some _=>cases u with
  |none=>exact(show False from r).elim
  |some _=>rfl
theorem RelO.getD{o:Option V}{u:Option Value}{d:V}{d':Value}(r:RelO o u)(rd:RelV d d'):RelV (o.getD d) (u.getD d'):=by
 cases o with
 |none=>cases u with
  |none=>exact rd
  |some _=>exact(show False from r).elim
 |some _=>cases u with
  |none=>exact(show False from r).elim
  |some _=>exact r
theorem KV.val{kvs:List (κ×V)}{vs:List (κ×Value)}(r:KV kvs vs)(k:κ):RelO (valV kvs k) (valueAt vs k):=by
 unfold KV at r
 induction r with
 |nil=>exact True.intro
 |@cons p q ps qs h t ih =>
  obtain⟨h1,h2⟩:=h
  by_cases e:p.1=k
  ·have e':q.1=k:=h1.symm.trans e
   have b:valueAt (q::qs) k=some q.2:=by simp[valueAt,List.find?_cons,e']
   rw[jc2 e,b];exact h2
  ·have e':¬q.1=k:=λz=>e (h1.trans z)
   have b:valueAt (q::qs) k=valueAt qs k:=by simp[valueAt,List.find?_cons,e']
   rw[jcx e,b];exact ih
theorem KV.any{kvs:List (κ×V)}{vs:List (κ×Value)}(r:KV kvs vs)(k:κ):(kvs.any λkv=>decide (kv.1=k))=vs.any λkv=>decide (kv.1=k):=by
 unfold KV at r
 induction r with
 |nil=>rfl
 |cons h t ih=>rw[List.any_cons,List.any_cons,ih,h.1]
theorem KV.repl{kvs:List (κ×V)}{vs:List (κ×Value)}(r:KV kvs vs)(k:κ){y:V}{u:Value}(ry:RelV y u) :
  KV (kvs.map λkv=>if kv.1=k then(kv.1,y)else kv) (vs.map λkv=>if kv.1=k then(kv.1,u)else kv):=by
 unfold KV at r⊢
 induction r with
 |nil=>exact .nil
 |@cons p q ps qs h t ih =>
  rw[Ax,Ax]
  refine .cons ?_ ih
  obtain⟨h1,h2⟩:=h
  by_cases e:p.1=k
  ·rw[Ad e,Ad (h1.symm.trans e)];exact⟨h1,ry⟩
  ·rw[Aa e,Aa (λz=>e (h1.trans z))];exact⟨h1,h2⟩
theorem KV.put{kvs:List (κ×V)}{vs:List (κ×Value)}(r:KV kvs vs)(k:κ){y:V}{u:Value}(ry:RelV y u):KV (putK kvs k y) (stored vs k u):=by
 unfold putK stored
 rw[r.any k]
 by_cases e:(vs.any λkv=>decide (kv.1=k))=true
 ·rw[Ad e,Ad e];exact r.repl k ry
 ·rw[Aa e,Aa e];exact Wm r ⟨rfl,ry⟩
theorem KV.length{kvs:List (κ×V)}{vs:List (κ×Value)}(r:KV kvs vs):kvs.length=vs.length:=Ip r
end
theorem jei{P:Program}{w:World}{k:Key}{u:Value}(r:RelV (kV k) u):(jcr P w).is k u=true:=by
 cases k with
 |inl i=>obtain⟨t,e⟩:=(show ∃t,u=Value.int i t from r);subst e;exact jk5 P w i t
 |inr x=>obtain⟨t,e⟩:=(show ∃t,u=Value.str x t from r);subst e;exact jk6 P w x t
theorem jie{P:Program}{w:World}:∀{ks:List Key}{us:List Value},Vals (ks.map kV) us->ItemsAre (jcr P w) ks us
 |[],_,r=>by rw[Uf]at r;cases r;exact .nil
 |k::ks,_,r=>by
  rw[Ax]at r
  cases r with
  |cons h t=>exact .cons (jei h) (jie t)
abbrev KT(H:Hp):List (List Key×V)->List (List Key×Addr×Value)->Prop:=Paired λp q=>p.1=q.1/\H q.2.1=some (.tup (p.1.map kV))/\RelV p.2 q.2.2
theorem KT.val{H:Hp}{kvs:List (List Key×V)}{xs:List (List Key×Addr×Value)}(r:KT H kvs xs)(k:List Key):RelO (valV kvs k) ((atKey xs k).map (·.2)):=by
 induction r with
 |nil=>exact True.intro
 |@cons p q ps qs h t ih =>
  obtain⟨h1,_,h2⟩:=h
  by_cases e:p.1=k
  ·have e':q.1=k:=h1.symm.trans e
   have b:atKey (q::qs) k=some q.2:=by simp[atKey,List.find?_cons,e']
   rw[jc2 e,b];exact h2
  ·have e':¬q.1=k:=λz=>e (h1.trans z)
   have b:atKey (q::qs) k=atKey qs k:=by simp[atKey,List.find?_cons,e']
   rw[jcx e,b];exact ih
theorem KT.repl{H:Hp}{kvs:List (List Key×V)}{xs:List (List Key×Addr×Value)}(r:KT H kvs xs)(k:List Key){y:V}{u:Value}(ry:RelV y u) :
  KT H (kvs.map λkv=>if kv.1=k then(kv.1,y)else kv) (xs.map (putAt k u)):=by
 induction r with
 |nil=>exact .nil
 |@cons p q ps qs h t ih =>
  rw[Ax,Ax]
  refine .cons ?_ ih
  obtain⟨h1,h2,h3⟩:=h
  unfold putAt
  by_cases e:p.1=k
  ·rw[Ad e,Ad (h1.symm.trans e)];exact⟨h1,h2,ry⟩
  ·rw[Aa e,Aa (λz=>e (h1.trans z))];exact⟨h1,h2,h3⟩
theorem KT.put{H:Hp}{kvs:List (List Key×V)}{xs:List (List Key×Addr×Value)}(r:KT H kvs xs)(k:List Key){b:Addr}{y:V}{u:Value}(hb:H b=some (.tup (k.map kV)))(ry:RelV y u) :
  KT H (putK kvs k y) (storedH xs k b u):=by
 have e:(kvs.any λkv=>decide (kv.1=k))=(atKey xs k).isSome:=by
  rw[je9,(r.val k).isSome_eq,Option.isSome_map]
 unfold putK storedH
 rw[e]
 by_cases q:(atKey xs k).isSome=true
 ·rw[Ad q,Ad q];exact r.repl k ry
 ·rw[Aa q,Aa q];exact Wm r ⟨rfl,hb,ry⟩
theorem KT.keeps{H H':Hp}{kvs:List (List Key×V)}{xs:List (List Key×Addr×Value)}(r:KT H kvs xs)(ht:∀b ys,H b=some (.tup ys)->H' b=some (.tup ys)):KT H' kvs xs :=
 Paired.mapP r λ_ _ z=>⟨z.1,ht _ _ z.2.1,z.2.2⟩
section
variable{P:Program}{w:World}{H:Hp}{h:Heap}{a:Addr}
theorem jo5{u:HO}(ok:HOk P w H h)(e:Rd H a u):ObjOk P w H h a u:=e.ok ok
theorem jfs{kvs:List (Key×V)}(ok:HOk P w H h)(e:Rd H a (.dK kvs)):kvs.length<=sizeLine/\(a == sysModules)=false/\∃vs,KV kvs vs/\h.DictOf (jcr P w) a vs :=
 show ObjOk P w H h a (.dK kvs)from jo5 ok e
theorem jow{kvs:List (Key×V)}(ok:HOk P w H h)(e:H a=some (.dK kvs)):kvs.length<=sizeLine/\(a == sysModules)=false/\∃vs,KV kvs vs/\h.DictOf (jcr P w) a vs:=jfs ok (.inl e)
theorem jer{ks:List Key}(ok:HOk P w H h)(e:H a=some (.tup (ks.map kV))):(tupleKind (jcr P w)).is h ks a:=by
 obtain⟨_,its,r,o,h1,h2,n,h3⟩:=(show ObjOk P w H h a (.tup (ks.map kV))from ok a _ e)
 exact⟨o,its.toArray,n,h1,h2,h3,by simpa using jie r⟩
theorem jft{kvs:List (List Key×V)}(ok:HOk P w H h)(e:Rd H a (.dT kvs)):kvs.length<=sizeLine/\(a == sysModules)=false /\
  ∃xs,KT H kvs xs/\h.DictOfH (tupleKind (jcr P w)) a xs:=by
 obtain⟨z,y,xs,r,o,es,ep,h1,h2,h3,h4,h5⟩:=(show ObjOk P w H h a (.dT kvs)from jo5 ok e)
 refine⟨z,y,xs,r,o,es,ep,h1,h2,h3,h4,λx hx=>?_,h5⟩
 have all:∀{l:List (List Key×V)}{m:List (List Key×Addr×Value)},KT H l m->∀x∈m,(tupleKind (jcr P w)).is h x.1 x.2.1:=by
  intro l m q
  induction q with
  |nil=>intro x hx;exact nomatch hx
  |@cons p q ps qs hq t ih =>
   intro x hx
   rcases Aw.mp hx with e|hx
   ·subst e
    exact jer ok (by rw[<-hq.1];exact hq.2.1)
   ·exact ih x hx
 exact all r x hx
theorem jox{kvs:List (List Key×V)}(ok:HOk P w H h)(e:H a=some (.dT kvs)):kvs.length<=sizeLine/\(a == sysModules)=false /\
  ∃xs,KT H kvs xs/\h.DictOfH (tupleKind (jcr P w)) a xs:=jft ok (.inl e)
end
def DGet(H:Hp)(a:Addr)(y:V)(r:Option V):Prop :=
 (∃kvs k,Rd H a (.dK kvs)/\y=kV k/\r=valV kvs k)\/∃kvs k b,Rd H a (.dT kvs)/\y=.ref b/\H b=some (.tup (k.map kV))/\r=valV kvs k
def DPut(H:Hp)(a:Addr)(y v:V)(H':Hp):Prop :=
 (∃kvs k,H a=some (.dK kvs)/\y=kV k/\kvs.length<sizeLine/\H'=upd H a (.dK (putK kvs k v))) \/
 ∃kvs k b,H a=some (.dT kvs)/\y=.ref b/\H b=some (.tup (k.map kV))/\kvs.length<sizeLine/\H'=upd H a (.dT (putK kvs k v))
theorem DGet.k{H:Hp}{a:Addr}{kvs:List (Key×V)}{k:Key}(e:H a=some (.dK kvs)):DGet H a (kV k) (valV kvs k):=.inl ⟨kvs,k,.inl e,rfl,rfl⟩
theorem DPut.k{H:Hp}{a:Addr}{kvs:List (Key×V)}{k:Key}{v:V}(e:H a=some (.dK kvs))(hl:kvs.length<sizeLine):DPut H a (kV k) v (upd H a (.dK (putK kvs k v))):=.inl ⟨kvs,k,e,rfl,hl,rfl⟩
section
variable{X:Cx}{pins:List (Addr×Obj)}{σ:St}{H:Hp}{s:Shared}{a:Addr}{y v:V}{u r:Value}{o:Option V}{A:Around}{E:Value->Shared->Prop}
theorem Inv.big(I:Inv X pins σ H s):sysModules<s.heap.objs.size:=by
 have h:mainGlobals<s.heap.objs.size:=(I.mod.glob.keeps I.bk).lt
 exact Nat.lt_trans (by decide) h
theorem jm5{Q:Value->Shared->Prop}(hu:A.units+1<cLine)(I:Inv X pins σ H s)(g:DGet H a y (some v))(ry:RelV y u)(h:∀w' s',Inv X pins σ H s'->RelV v w'->Q w' s') :
  wpAny (model X.prog X.w) A (getItem (.ref a) u) Q E s:=by
 rcases g with⟨kvs,k,e,ey,l⟩|⟨kvs,k,b,e,ey,eb,l⟩
 ·subst ey
  obtain⟨z,hd,vs,rel,dd⟩:=jfs I.hok e
  obtain⟨w',hw,rw'⟩:=RelO.some_of (v:=v) (o:=valueAt vs k) (by rw[l];exact rel.val k)
  exact wpAny_getItem_of (jei ry) dd.mapOf hw (h w' _ (I.tok _) rw')
 ·subst ey
  cases(show u=Value.ref b from ry)
  obtain⟨z,hd,xs,rel,dd⟩:=jft I.hok e
  obtain⟨w',hw,rw'⟩:=RelO.some_of (v:=v) (o:=(atKey xs k).map (·.2)) (by rw[l];exact rel.val k)
  obtain⟨p,hp,hp2⟩:=Op.mp hw
  refine wpAny_getItem_heap (O9 hu) (jer I.hok eb) dd hp ?_
  rw[hp2]
  exact h w' _ (I.tok _) rw'
theorem jpf{Q:Value->Shared->Prop}(hu:A.units+1<cLine)(I:Inv X pins σ H s)(g:DGet H a y o)(ry:RelV y u)(h:∀s',Inv X pins σ H s'->Q (.bool (!o.isSome)) s') :
  wpAny (model X.prog X.w) A (compareOp .NotIn u (.ref a)) Q E s:=by
 rcases g with⟨kvs,k,e,ey,l⟩|⟨kvs,k,b,e,ey,eb,l⟩
 ·subst ey
  obtain⟨z,hd,vs,rel,dd⟩:=jfs I.hok e
  refine wpAny_notIn_of (jei ry) hd dd.mapOf ?_
  rw[<-(rel.val k).isSome_eq,<-l]
  exact h _ (I.tok _)
 ·subst ey
  cases(show u=Value.ref b from ry)
  obtain⟨z,hd,xs,rel,dd⟩:=jft I.hok e
  refine wpAny_notIn_heap (O9 hu) (jer I.hok eb) hd dd ?_
  have q:=(rel.val k).isSome_eq
  rw[Option.isSome_map]at q
  rw[<-q,<-l]
  exact h _ (I.tok _)
theorem jfr{h':Heap}{t':Nat}{ob:HO}(I:Inv X pins σ H s)(mu:Mut (H a))(hs:Heap.SameBut a s.heap h')(he:∃q,h'.get? a=some q)(new:ObjOk X.prog X.w (upd H a ob) h' a ob) :
  Inv X pins σ (upd H a ob) {s with heap:=h',toks:=t'} :=
 I.write (x:=a) (e:=a) mu (.inl rfl) (λb q hb z=>(hs.2 b hb).trans z) he new
theorem jm7{P:Program}{w:World}{H':Hp}{h':Heap}{kvs:List (Key×V)}{vs:List (Key×Value)}(z:kvs.length<=sizeLine)(hd:(a == sysModules)=false)(rel:KV kvs vs)(dd:h'.DictOf (jcr P w) a vs) :
  ObjOk P w H' h' a (.dK kvs):=⟨z,hd,vs,rel,dd⟩
theorem jm6{H':Hp}{Q:Unit->Shared->Prop}(hu:A.units+1<cLine)(I:Inv X pins σ H s)(g:DPut H a y v H')(ry:RelV y u)(rv:RelV v r)(h:∀s',Inv X pins σ H' s'->Q () s') :
  wpAny (model X.prog X.w) A (setItem (.ref a) u r) Q E s:=by
 rcases g with⟨kvs,k,e,ey,l,eH⟩|⟨kvs,k,b,e,ey,eb,l,eH⟩
 ·subst ey eH
  obtain⟨z,hd,vs,rel,dd⟩:=jow I.hok e
  have hz:vs.length<=sizeLine:=by rw[<-rel.length];exact z
  have hl:(putK kvs k v).length<=sizeLine:=by have:=jdd kvs k v;omega
  refine wpAny_setItem_pairs (hsz:=hz) (jei ry) dd λh' dd' hs=>h _ ?_
  have he:∃q,h'.get? a=some q:=let⟨q,_,_,hq,_⟩:=dd';⟨q,hq⟩
  exact jfr I (by rw[e];exact True.intro) hs he (jm7 hl hd (rel.put k rv) dd')
 ·subst ey eH
  cases(show u=Value.ref b from ry)
  obtain⟨z,hd,xs,rel,dd⟩:=jox I.hok e
  have hz:xs.length<=sizeLine:=by rw[<-Ip rel];exact z
  have hl:(putK kvs k v).length<=sizeLine:=by have:=jdd kvs k v;omega
  refine wpAny_setItem_heap (hsz:=hz) (O9 hu) (jer I.hok eb) dd λh' dd' hs=>h _ ?_
  obtain⟨q,es,ep,hq,h2,h3,h4,_,h5⟩:=dd'
  refine jfr I (by rw[e];exact True.intro) hs ⟨q,hq⟩ ⟨hl,hd,_,(rel.put k eb rv).keeps λc ys ec=>?_,q,es,ep,hq,h2,h3,h4,h5⟩
  rw[jd (ji9 ec e (λz=>nomatch z))]
  exact ec
end
def NoSl(i:Expr):Prop:=∀ov iv,subscripted i false ov iv=operate [ov,iv] (getItem ov iv)
theorem jp8{prog:Program}{w:World}{A:Around}{E:Value->Shared->Prop}{s:Shared}{env:Env}{value slice:Expr}{pos:Pos}{T id:String}{Q:Value->Shared->Prop}
  (hl:typeLookup (.type T) "__getitem__"=pure (some (.builtin id))) (hs:NoSl slice)
  (h:wpAny (model prog w) A (eval value env) (λo s₁=>wpAny (model prog w) A (eval slice env) (λi s₂=>s₂.TypeIs o T/\wpAny (model prog w) A (getItem o i) Q E s₂) E s₁) E s) :
  wpAny (model prog w) A (eval (.Subscript value slice pos) env) Q E s:=by
 refine Subscript_ (Iw h (λo s₁ h₁=>Iw h₁ (λi s₂ h₂=>?_) λ_ _ x=>x) λ_ _ x=>x)
 obtain⟨hT,h₂⟩:=h₂
 unfold subscriptTail
 refine Ab ?_
 rw[getitemInPython_of_ne hT.not_modules]
 refine Ab (wpAny_specialOf hT hl ?_)
 have fin:wpAny (model prog w) A (subscripted slice false o i) (λr s₃=>wpAny (model prog w) A (letTemporaryGo value o r >>= λ_=>pure r) Q E s₃) E s₂:=by
  rw[hs o i]
  exact wpAny_operating (Iw h₂ (λr s₃ h₃=>Ab (wpAny_letTemporaryGo (Am h₃))) λ_ _ x=>x)
 first
  |exact Am (Ab fin)
  |exact Ab (Am (Ab fin))
  |exact Ab fin
theorem jk1{X:Cx}{pins:List (Addr×Obj)}{σ:St}{H:Hp}{s:Shared}{a:Addr}{y:V}{o:Option V}(I:Inv X pins σ H s)(g:DGet H a y o):s.TypeIs (.ref a) "dict":=by
 rcases g with⟨kvs,k,e,_,_⟩|⟨kvs,k,b,e,_,_,_⟩
 ·obtain⟨_,_,vs,_,dd⟩:=jfs I.hok e
  exact dd.typeIs
 ·obtain⟨_,_,xs,_,dd⟩:=jft I.hok e
  exact dd.typeIs
def jfz(ty td:TE):TE:=λσ H Q=>ty σ H λy H1=>td σ H1 λx H2=>∃a o,x=.ref a/\DGet H2 a y o/\Q (.bl (!o.isSome)) H2
def jjb(td ty tv:TE):TS:=λD σ H=>tv σ H λv H1=>td σ H1 λx H2=>ty σ H2 λy H3=>∃a H4,x=.ref a/\DPut H3 a y v H4/\D.nx σ H4
section
variable{X:Cx}{o i e value:Expr}{pos pos' tpos:Pos}{td ty tv:TE}
theorem pc_dnotin(hu:X.A.units+1<cLine)(hi:PE X i ty)(ho:PE X o td):PC X .NotIn i o (jfz ty td):=by
 intro pins s σ H Q I h
 refine thn (hi pins s σ H _ I h) λiv s1 ⟨y,H1,I1,ry,q1⟩=>thn (ho pins s1 σ H1 _ I1 q1) λu s2 ⟨x,H2,I2,rx,a,ov,ex,g,q2⟩=>?_
 subst ex
 obtain rfl:u=Value.ref a:=rx
 exact jpf hu I2 g ry λs3 I3=>⟨.bl (!ov.isSome),H2,I3,rfl,q2⟩
theorem ps_dput(hu:X.A.units+1<cLine)(ho:PE X o td)(hi:PE X i ty)(hv:PE X value tv)(hs:swapsWith value (some (.Subscript o i pos')) pos.line X.env=pure false) :
  PS X (.Assign [.Subscript o i pos'] value pos) (jjb td ty tv):=by
 intro pins s σ H D I h
 refine wpAny_Assign_Subscript (thn (hv pins s σ H _ I h) λr s1 ⟨v,H1,I1,rv,q1⟩=>thn (ho pins s1 σ H1 _ I1 q1) λu s2 ⟨x,H2,I2,rx,q2⟩=>thn (hi pins s2 σ H2 _ I2 q2) λiv s3 ⟨y,H3,I3,ry,a,H4,ex,g,q3⟩=>?_) hs
 subst ex
 obtain rfl:u=Value.ref a:=rx
 exact jm6 hu I3 g ry rv λs4 I4=>⟨σ,H4,I4,q3⟩
end
theorem jj3{P:Program}{w:World}{H:Hp}(h:Heap)(hb:sysModules<h.objs.size):ObjOk P w H (h.push {cls:=.type "dict",data:=.dict #[]}) h.objs.size (.dK []) :=
 ⟨Ia _,Ol.mpr (Ix (Ar hb)),[],.nil,Heap.DictOf.new h⟩
theorem jn6{P:Program}{w:World}{H:Hp}(h:Heap)(hb:sysModules<h.objs.size):ObjOk P w H (h.push {cls:=.type "dict",data:=.dict #[]}) h.objs.size (.dT []) :=
 ⟨Ia _,Ol.mpr (Ix (Ar hb)),[],.nil,_,#[],0,Av _ rfl,⟨rfl,rfl,rfl⟩,rfl,rfl,Wk⟩
def jhi:TE:=λ_ H Q=>∀p,H p=none->Q (.ref p) (upd H p (.dT []))
section
variable{X:Cx}{pos:Pos}
theorem pe_dnewT:PE X (.Dict [] [] pos) jhi:=λpins s σ H Q I h =>
 wpAny_Dict_empty ⟨.ref s.heap.objs.size,_,I.laid (a:=s.heap.objs.size) (o:=.dT []) (t':=s.toks) (λ_ _ q=>Ac _ q) (Af _) (jn6 s.heap I.big),rfl,h _ (I.hok.fresh (Af _))⟩
end
def jee:List (TE×TE)->St->Hp->(List (V×V)->Hp->Prop)->Prop
 |[],_,H,Q=>Q [] H
 |(tk,tv)::r,σ,H,Q=>tk σ H λx H1=>tv σ H1 λy H2=>jee r σ H2 λps H3=>Q ((x,y)::ps) H3
abbrev VV:List (V×V)->List (Value×Value)->Prop:=Paired λp q=>RelV p.1 q.1/\RelV p.2 q.2
def PPs(X:Cx)(pos:Pos)(keys:List (Option Expr))(values:List Expr)(trs:List (TE×TE)):Prop :=
 ∀(pins:List (Addr×Obj))(s:Shared)(σ:St)(H:Hp)(Q:List (V×V)->Hp->Prop),Inv X pins σ H s->jee trs σ H Q ->
  wpAny (model X.prog X.w) X.A (evalPairs (pairTrees keys values X.env pos)) (λvs s'=>∃ps H',Inv X pins σ H' s'/\VV ps vs/\Q ps H') X.xe s
theorem pps_nil{X:Cx}{pos:Pos}:PPs X pos [] [] []:=λpins s σ H Q I h=>pairTrees_nil_walk ⟨[],H,I,.nil,h⟩
theorem pps_cons{X:Cx}{pos:Pos}{k v:Expr}{ks:List (Option Expr)}{vs:List Expr}{tk tv:TE}{trs:List (TE×TE)}(hk:PE X k tk)(hv:PE X v tv)(hr:PPs X pos ks vs trs) :
  PPs X pos (some k::ks) (v::vs) ((tk,tv)::trs):=λpins s σ H Q I h =>
 pairTrees_cons_walk (thn (hk pins s σ H _ I h) λu s1 ⟨x,H1,I1,rx,q1⟩=>thn (hv pins s1 σ H1 _ I1 q1) λw2 s2 ⟨y,H2,I2,ry,q2⟩ =>
  thn (hr pins s2 σ H2 _ I2 q2) λws s3 ⟨ps,H3,I3,rel,q3⟩=>⟨(x,y)::ps,H3,I3,.cons ⟨rx,ry⟩ rel,q3⟩)
def jc3(kvs more:List (Key×V)):List (Key×V):=more.foldl (λacc kv=>putK acc kv.1 kv.2) kvs
theorem KV.merge:∀{more:List (Key×V)}{rs:List (Key×Value)}{kvs:List (Key×V)}{vs:List (Key×Value)},KV more rs->KV kvs vs->KV (jc3 kvs more) (merged vs rs):=by
 intro more rs kvs vs r
 unfold KV at r
 induction r generalizing kvs vs with
 |nil=>intro q;exact q
 |@cons p q ps qs h t ih =>
  intro r0
  have e:KV (putK kvs p.1 p.2) (stored vs q.1 q.2):=by
   have:=r0.put p.1 h.2
   rw[<-h.1];exact this
  exact ih e
theorem jfa:∀(more kvs:List (Key×V)),(jc3 kvs more).length<=kvs.length+more.length
 |[],kvs=>by show kvs.length<=kvs.length+0;omega
 |p::r,kvs=>by
  have h1:=jfa r (putK kvs p.1 p.2)
  have h2:=jdd kvs p.1 p.2
  show(jc3 (putK kvs p.1 p.2) r).length<=_
  rw[List.length_cons];omega
theorem jgs{P:Program}{w:World}:∀{kvs:List (Key×V)}{ws:List (Value×Value)},VV (kvs.map λkv=>(kV kv.1,kv.2)) ws->∃rs,Carries (jcr P w) ws rs/\KV kvs rs
 |[],_,r=>by rw[Uf]at r;cases r;exact⟨[],True.intro,.nil⟩
 |p::kvs,_,r=>by
  rw[Ax]at r
  cases r with
  |@cons a b as bs h t =>
   obtain⟨rs,c,q⟩:=jgs (P:=P) (w:=w) t
   obtain⟨b1,b2⟩:=b
   exact⟨(p.1,b2)::rs,⟨jei h.1,rfl,c⟩,.cons ⟨rfl,h.2⟩ q⟩
def jf0(trs:List (TE×TE)):TE:=λσ H Q=>∀p,H p=none->jee trs σ (upd H p (.dK [])) λps H2=>H2 p=some (.dK [])/\∃kvs:List (Key×V),ps=kvs.map (λkv=>(kV kv.1,kv.2))/\kvs.length<=15/\Q (.ref p) (upd H2 p (.dK (jc3 [] kvs)))
theorem pe_disp{X:Cx}{pos:Pos}{keys:List (Option Expr)}{values:List Expr}{trs:List (TE×TE)}(h:PPs X pos keys values trs)(hall:keys.all (·.isSome)=true)(hl:keys.length=values.length)(h0:keys≠[])
  (h15:keys.length<=15):PE X (.Dict keys values pos) (jf0 trs):=by
 intro pins s σ H Q I q
 have hn:=I.hok.fresh (Af s.heap.objs.size)
 have I1:=I.laid (a:=s.heap.objs.size) (o:=.dK []) (h':=s.heap.push {cls:=.type "dict",data:=.dict #[]}) (t':=s.toks) (λ_ _ q=>Ac _ q) (Af _) (jj3 s.heap I.big)
 refine wpAny_Dict_walk (knd:=jcr X.prog X.w) hall hl h0 h15 (thn (h pins _ σ _ _ I1 (q _ hn)) λws s2 ⟨ps,H2,I2,rel,e,kvs,ep,lk,q2⟩=>?_)
 subst ep
 obtain⟨rs,c,rk⟩:=jgs (P:=X.prog) (w:=X.w) rel
 obtain⟨z,hd,vs0,r0,dd⟩:=jow I2.hok e
 cases r0
 refine⟨rs,c,dd,λh' dd' hs=>⟨.ref s.heap.objs.size,_,?_,rfl,q2⟩⟩
 have hz:(jc3 [] kvs).length<=sizeLine:=by
  have h1:=jfa kvs []
  rw[List.length_nil]at h1
  rw[U2];omega
 have he:∃q,h'.get? s.heap.objs.size=some q:=let⟨q,_,_,hq,_⟩:=dd';⟨q,hq⟩
 exact jfr I2 (by rw[e];exact True.intro) hs he (jm7 hz hd (rk.merge .nil) dd')
structure M2(X:Cx)(o:Expr)(m:Str)(apos:Pos)(e f:Expr)(cpos:Pos):Prop where
 base:attributeBase o m X.env (eval o X.env)=eval o X.env
 few:((backTo cpos (starEach [e,f] X.env)).all (λx=>!x.1) && (backToKw cpos (keywordEach [] X.env)).all (λx=>x.1.isSome)
  && decide (([e,f]:List Expr).length+([]:List Keyword).length+(if([]:List Keyword).isEmpty then 0 else 1)<30))=true
 line:(apos.endLine == cpos.line)=true
 trees:backTo cpos (starEach [e,f] X.env)=[(false,eval e X.env),(false,eval f X.env)]
def IsD(H:Hp)(a:Addr):Prop:=(∃kvs,Rd H a (.dK kvs))\/∃kvs,Rd H a (.dT kvs)
theorem jng{X:Cx}{pins:List (Addr×Obj)}{σ:St}{H:Hp}{s:Shared}{a:Addr}(I:Inv X pins σ H s)(d:IsD H a) :
  s.TypeIs (.ref a) "dict"/\(∀b,Value.ref a=.ref b->∃ob,s.heap.get? b=some ob/\ob.dict=none)/\(a == sysModules)=false:=by
 rcases d with⟨kvs,e⟩|⟨kvs,e⟩
 ·obtain⟨_,hd,vs,_,dd⟩:=jfs I.hok e
  refine⟨dd.typeIs,λb q=>?_,hd⟩
  cases q
  obtain⟨ob,_,_,h1,h2,_⟩:=dd
  exact⟨ob,h1,h2.2.1⟩
 ·obtain⟨_,hd,xs,_,dd⟩:=jft I.hok e
  refine⟨dd.typeIs,λb q=>?_,hd⟩
  cases q
  obtain⟨ob,_,_,h1,h2,_⟩:=dd
  exact⟨ob,h1,h2.2.1⟩
section
variable{X:Cx}{pins:List (Addr×Obj)}{σ:St}{H:Hp}{s:Shared}{a:Addr}{y d:V}{u r:Value}{o:Option V}{A:Around}{E:Value->Shared->Prop}
theorem jqm{Q:Value->Shared->Prop}(hu:A.units+1<cLine)(I:Inv X pins σ H s)(g:DGet H a y o)(ry:RelV y u)(rd:RelV d r)(h:∀w' s',Inv X pins σ H s'->RelV (o.getD d) w'->Q w' s') :
  wpAny (model X.prog X.w) A (call (.builtin "dict.get") [.ref a,u,r]) Q E s:=by
 rcases g with⟨kvs,k,e,ey,l⟩|⟨kvs,k,b,e,ey,eb,l⟩
 ·subst ey
  obtain⟨z,hd,vs,rel,dd⟩:=jfs I.hok e
  refine call_meetsIn U6 dd.typeIs PySem.F.entry_dict_get (PySem.F.args_dict_get_3 _ _ _) (meets_dict_get_default (jcr X.prog X.w) a (jei ry) hd r) ⟨_,dd.mapOf,h _ _ (I.tok _) ?_⟩
  rw[l]
  exact(rel.val k).getD rd
 ·subst ey
  cases(show u=Value.ref b from ry)
  obtain⟨z,hd,xs,rel,dd⟩:=jft I.hok e
  refine call_meetsIn U6 dd.typeIs PySem.F.entry_dict_get (PySem.F.args_dict_get_3 _ _ _) (meetsH_dict_get_default (tupleKind (jcr X.prog X.w)) a b hd r) ⟨O9 hu,k,xs,jer I.hok eb,dd,h _ _ (I.tok _) ?_⟩
  rw[l]
  exact(rel.val k).getD rd
end
def jet(td ty tx:TE):TE:=λσ H Q=>td σ H λx H1=>∃a,x=.ref a/\IsD H1 a/\ty σ H1 λy H2=>tx σ H2 λz H3=>∃o,DGet H3 a y o/\Q (o.getD z) H3
section
variable{X:Cx}{o e f:Expr}{apos cpos:Pos}{td ty tx:TE}
theorem pe_dget2(hu:X.A.units+1<cLine)(ho:PE X o td)(he:PE X e ty)(hf:PE X f tx)(m:M2 X o "get" apos e f cpos):PE X (.Call (.Attribute o "get" apos) [e,f] [] cpos) (jet td ty tx):=by
 intro pins s σ H Q I h
 refine wpAny_Call_method m.base m.few m.line PySem.F.plainAttrs_dict U6 PySem.F.type_dict_get (thn (ho pins s σ H _ I h) λu s1 ⟨x,H1,I1,rx,a,ex,d,q1⟩=>?_)
 subst ex
 obtain rfl:u=Value.ref a:=rx
 obtain⟨t1,t2,_⟩:=jng I1 d
 refine⟨t1,t2,?_⟩
 rw[m.trees]
 refine Ub rfl (Wd (Oq (thn (he pins s1 σ H1 _ I1 q1) λiv s2 ⟨y,H2,I2,ry,q2⟩ =>
  Oq (thn (hf pins s2 σ H2 _ I2 q2) λfv s3 ⟨z,H3,I3,rz,ov,g,q3⟩=>Uy ?_))))
 exact jqm hu I3 g ry rz λw' s4 I4 rw'=>⟨_,H3,I4,rw',q3⟩
end
structure Kp(S:List Addr)(H H':Hp):Prop where
 old:∀a o,H a=some o->a∉S->H' a=some o
 tup:∀a xs,H a=some (.tup xs)->H' a=some (.tup xs)
 dom:∀a o,H a=some o->∃o',H' a=some o'
theorem Kp.refl(S:List Addr)(H:Hp):Kp S H H:=⟨λ_ _ e _=>e,λ_ _ e=>e,λ_ o e=>⟨o,e⟩⟩
theorem Kp.trans{S:List Addr}{H H1 H2:Hp}(a:Kp S H H1)(b:Kp S H1 H2):Kp S H H2 :=
 ⟨λc o e n=>b.old c o (a.old c o e n) n,λc xs e=>b.tup c xs (a.tup c xs e),λc o e=>let⟨o',e'⟩:=a.dom c o e;b.dom c o' e'⟩
theorem Kp.mono{S S':List Addr}{H H1:Hp}(a:Kp S H H1)(h:∀x∈S,x∈S'):Kp S' H H1:=⟨λc o e n=>a.old c o e λz=>n (h c z),a.tup,a.dom⟩
theorem Kp.free{S:List Addr}{H H1:Hp}(k:Kp S H H1){p:Addr}(h:H1 p=none):H p=none:=by
 cases e:H p with
 |none=>rfl
 |some o=>obtain⟨o',e'⟩:=k.dom p o e;rw[h]at e';cases e'
theorem Kp.trans'{S S':List Addr}{H H1 H2:Hp}(a:Kp S H H1)(b:Kp S' H1 H2)(h:∀x∈S',x∈S\/H x=none):Kp S H H2 :=
 ⟨λc o e n=>b.old c o (a.old c o e n) λz=>by
  rcases h c z with q|q
  ·exact n q
  ·(rw[q]at e;exact nomatch e),λc xs e=>b.tup c xs (a.tup c xs e),λc o e=>let⟨o',e'⟩:=a.dom c o e;b.dom c o' e'⟩
theorem Kp.new{S:List Addr}{H H1:Hp}(k:Kp S H H1){p:Addr}{o:HO}(h:H1 p=none):Kp S H (upd H1 p o) :=
 ⟨λc u e n=>by rw[jd (jh (k.old c u e n) h)];exact k.old c u e n,λc xs e=>by rw[jd (jh (k.tup c xs e) h)];exact k.tup c xs e,
  λc u e=>by
   obtain⟨o',e'⟩:=k.dom c u e
   exact⟨o',by rw[jd (jh e' h)];exact e'⟩⟩
theorem Kp.set{S:List Addr}{H H1:Hp}(k:Kp S H H1){b:Addr}{xs:List V}{o:HO}(hb:H1 b=some (.lst xs))(h:b∈S\/H b=none):Kp S H (upd H1 b o) :=
 ⟨λc u e n=>by
  have:c≠b:=by
   rintro rfl
   rcases h with h|h
   ·exact n h
   ·rw[h]at e;cases e
  rw[jd this];exact k.old c u e n,
 λc ys e=>by
  have e1:=k.tup c ys e
  rw[jd (ji9 e1 hb (by intro z;cases z))];exact e1,
 λc u e=>by
  obtain⟨o',e'⟩:=k.dom c u e
  by_cases q:c=b
  ·subst q;exact⟨o,jc⟩
  ·exact⟨o',by rw[jd q];exact e'⟩⟩
def jcp:Option HO->Option (List V)
 |some (.lst xs)=>some xs
 |_=>none
def jf2:Option HO->Option (List V)
 |some (.tup xs)=>some xs
 |_=>none
def jdp:Option HO->Option (List V)
 |some (.lst xs)=>some xs
 |some (.tup xs)=>some xs
 |_=>none
theorem jii(xs:List V):jcp (some (.lst xs))=some xs:=rfl
theorem jix(xs:List V):jf2 (some (.tup xs))=some xs:=rfl
theorem jit(xs:List V):jdp (some (.lst xs))=some xs:=rfl
theorem jiu(xs:List V):jdp (some (.tup xs))=some xs:=rfl
theorem jcu{o:Option HO}{xs:List V}(h:jcp o=some xs):o=some (.lst xs):=by
 unfold jcp at h
 split at h
 ·cases h;rfl
 ·cases h
theorem jgj{o:Option HO}{xs:List V}(h:jf2 o=some xs):o=some (.tup xs):=by
 unfold jf2 at h
 split at h
 ·cases h;rfl
 ·cases h
theorem je1{o:Option HO}{xs:List V}(h:jdp o=some xs):o=some (.lst xs)\/o=some (.tup xs):=by
 unfold jdp at h
 split at h
 ·cases h;exact .inl rfl
 ·cases h;exact .inr rfl
 ·cases h
section
variable{X:Cx}
def rLtU:R2:=λx y H Q=>match x,y with
 |.int i,.int j=>Q (.bl (decide (i<j))) H
 |.str i,.str j=>Q (.bl (decide (i.cps.toList<j.cps.toList))) H
 |_,_=>False
theorem jat:OpR X (compareOp .Lt) rLtU:=by
 intro pins s σ H x y v u Q I rx ry h
 cases x with
 |int i=>cases y with
  |int j=>exact op_lt pins s σ H _ _ v u Q I rx ry ⟨i,j,rfl,rfl,h⟩
  |_=>exact False.elim h
 |str i=>cases y with
  |str j=>exact op_lt_str pins s σ H _ _ v u Q I rx ry ⟨i,j,rfl,rfl,h⟩
  |_=>exact False.elim h
 |_=>exact False.elim h
def rLeU:R2:=λx y H Q=>match x,y with
 |.int i,.int j=>Q (.bl (decide (i<=j))) H
 |.str i,.str j=>Q (.bl (!decide (j.cps.toList<i.cps.toList))) H
 |_,_=>False
theorem jcf:OpR X (compareOp .LtE) rLeU:=by
 intro pins s σ H x y v u Q I rx ry h
 cases x with
 |int i=>cases y with
  |int j=>exact op_le pins s σ H _ _ v u Q I rx ry ⟨i,j,rfl,rfl,h⟩
  |_=>exact False.elim h
 |str i=>cases y with
  |str j =>
   obtain⟨t,rfl⟩:=rx
   obtain⟨t',rfl⟩:=ry
   exact PySem.P.le_str (jcw I h (by rfl))
  |_=>exact False.elim h
 |_=>exact False.elim h
def rIxU:R2:=λx y H Q=>match x,y with
 |.str z,.int i=>z.length<=sizeLine/\∃c,atI z.cps.toList i=some c/\Q (.str ⟨#[c]⟩) H
 |.ref p,.int i=>∃xs,jdp (H p)=some xs/\∃v,atI xs i=some v/\Q v H
 |_,_=>False
theorem ix_U:IxR X rIxU:=by
 intro value slice pins s σ H x y v u Q I rx ry h hs
 cases x with
 |str z=>cases y with
  |int i=>obtain⟨h1,c,h2,h3⟩:=h;exact ix_str value slice pins s σ H _ _ v u Q I rx ry ⟨z,i,c,rfl,rfl,h1,h2,h3⟩ hs
  |_=>exact False.elim h
 |ref p=>cases y with
  |int i =>
   obtain⟨xs,e,w,h2,h3⟩:=h
   rcases je1 e with e|e
   ·exact jbk value slice pins s σ H _ _ v u Q I rx ry ⟨p,xs,i,w,rfl,rfl,SqL.of e,h2,h3⟩ hs
   ·exact jcd value slice pins s σ H _ _ v u Q I rx ry ⟨p,xs,i,w,rfl,rfl,SqT.of e,h2,h3⟩ hs
  |_=>exact False.elim h
 |_=>exact False.elim h
theorem jl6{α:Type}(x:α)(r:List α):atI (x::r) 0=some x:=jdv (j:=0) rfl
theorem jl7{α:Type}(x y:α)(r:List α):atI (x::y::r) 1=some y:=jdv (j:=1) rfl
theorem jov{α:Type}(x y z:α)(r:List α):atI (x::y::z::r) 2=some z:=jdv (j:=2) rfl
theorem jcm{α:Type}{xs:List α}{i:Int}{v:α}(h0:0<=i)(h:xs[i.toNat]?=some v):atI xs i=some v:=by
 have:=jdv (xs:=xs) (j:=i.toNat) h
 rwa[Int.toNat_of_nonneg h0]at this
def jo4:V->V->V->Hp->(Hp->Prop)->Prop:=λo i v H Q=>match o,i with
 |.ref p,.int k=>∃xs,jcp (H p)=some xs/\∃j,ixN xs.length k=some j/\Q (upd H p (.lst (xs.set j v)))
 |_,_=>False
theorem jo6:PSet X jo4:=by
 intro pins s σ H o i v ov iv u Q I ro ri rv h
 cases o with
 |ref p=>cases i with
  |int k =>
   obtain⟨xs,e,j,h1,h2⟩:=h
   exact jon pins s σ H _ _ v ov iv u Q I ro ri rv ⟨p,xs,k,j,rfl,rfl,jcu e,h1,h2⟩
  |_=>exact False.elim h
 |_=>exact False.elim h
def jg6:List V->Hp->VK->Prop:=λxs H Q=>match xs with
 |[.str z]=>z.length<=sizeLine/\Q (.int z.length) H
 |[.ref p]=>∃ys,jdp (H p)=some ys/\Q (.int ys.length) H
 |_=>False
theorem j9:jc1 X (.builtin "len") jg6:=by
 intro pins s σ H xs us Q I r h
 unfold jg6 at h
 split at h
 ·rename_i z;exact call_len_str pins s σ H _ us Q I r ⟨z,rfl,h⟩
 ·rename_i p
  obtain⟨ys,e,h⟩:=h
  rcases je1 e with e|e
  ·exact zn pins s σ H _ us Q I r ⟨p,ys,rfl,.inl (SqL.of e),h⟩
  ·exact zn pins s σ H _ us Q I r ⟨p,ys,rfl,.inr (SqT.of e),h⟩
 ·exact h.elim
def jmp:List V->Hp->VK->Prop:=λxs H Q=>match xs with
 |[.int i,.int j]=>Q (.int (if j<i then j else i)) H
 |_=>False
theorem call_minU(hc:X.calm=true):jc1 X (.builtin "min") jmp:=by
 intro pins s σ H xs us Q I r h
 unfold jmp at h
 split at h
 ·rename_i i j;exact call_min2 hc pins s σ H _ us Q I r ⟨i,j,rfl,h⟩
 ·exact h.elim
def jja:List V->Hp->VK->Prop:=λxs H Q=>match xs with
 |[.int i]=>Q (.int i) H
 |[.bl k]=>Q (.int (if k then 1 else 0)) H
 |_=>False
theorem jba:jc1 X (.type "int") jja:=by
 intro pins s σ H xs us Q I r h
 unfold jja at h
 split at h
 ·rename_i i;exact jbp pins s σ H _ us Q I r (.inl ⟨i,rfl,h⟩)
 ·rename_i k;exact jbp pins s σ H _ us Q I r (.inr ⟨k,rfl,h⟩)
 ·exact h.elim
def sgn(z:Str):List V:=z.cps.toList.map λc=>V.str ⟨#[c]⟩
theorem jp7(z:Str):(sgn z).length=z.length:=by simp[sgn,Str.length]
theorem jor{z:Str}{acc:Array Value}(h:ItemsOf (SignAt z) acc z.cps.size):Vals (sgn z) acc.toList:=by
 obtain⟨h1,h2⟩:=h
 have hl:(sgn z).length=acc.toList.length:=by simp[sgn,h1]
 have gen:∀(xs:List V)(us:List Value),xs.length=us.length->(∀(i:Nat)(x:V)(u:Value),xs[i]?=some x->us[i]?=some u->RelV x u)->Vals xs us:=by
  intro xs
  induction xs with
  |nil=>intro us hl _;cases us with
   |nil=>exact .nil
   |cons _ _=>simp at hl
  |cons x xs ih=>intro us hl h;cases us with
   |nil=>simp at hl
   |cons u us=>exact .cons (h 0 x u rfl rfl) (ih us (by simpa using hl) λi a b e1 e2=>h (i+1) a b (by simpa using e1) (by simpa using e2))
 refine gen _ _ hl λi x u e1 e2=>?_
 obtain⟨c,t,hc,hu⟩:=h2 i u (by simpa using e2)
 subst hu
 simp only[sgn,A3]at e1
 have:z.cps.toList[i]?=some c:=by simpa using hc
 rw[this]at e1
 have e1':V.str ⟨#[c]⟩=x:=Au e1
 subst e1'
 exact⟨t,rfl⟩
def jg7:List V->Hp->VK->Prop:=λxs H Q=>match xs with
 |[.str z]=>z.length<=sizeLine/\∀l,H l=none->Q (.ref l) (upd H l (.lst (sgn z)))
 |[.ref p]=>∃ys,jdp (H p)=some ys/\∀l,H l=none->Q (.ref l) (upd H l (.lst ys))
 |_=>False
theorem call_listU(hc:X.calm=true):jc1 X (.type "list") jg7:=by
 intro pins s σ H xs us Q I r h
 unfold jg7 at h
 split at h
 ·rename_i z
  obtain⟨u,rfl,t,rfl⟩:=jdq r
  obtain⟨hz,q⟩:=h
  refine call_list_str (I.ok.hd hc) z t (λh' tk acc c hk hn hi=>?_) hz
  have hf:=I.hok.fresh (Af s.heap.objs.size)
  refine⟨.ref s.heap.objs.size,upd H s.heap.objs.size (.lst (sgn z)),I.laid hk (Af _) ⟨by rw[jp7];exact hz,acc.toList,c,jor hi,by simpa using hn⟩,rfl,q _ hf⟩
 ·rename_i p
  obtain⟨ys,e,h⟩:=h
  rcases je1 e with e|e
  ·exact jbb pins s σ H _ us Q I r ⟨p,ys,rfl,.inl (SqL.of e),h⟩
  ·exact jbb pins s σ H _ us Q I r ⟨p,ys,rfl,.inr (SqT.of e),h⟩
 ·exact h.elim
def jmr:V->List V->Hp->VK->Prop:=λx vs H Q=>match x,vs with
 |.ref l,[.int i]=>∃xs,jcp (H l)=some xs/\0<=i/\∃y,xs[i.toNat]?=some y/\Q y (upd H l (.lst (xs.eraseIdx i.toNat)))
 |_,_=>False
theorem mt_popU:MtM X "list.pop" jmr:=by
 intro pins s σ H x vs v us Q I rx rv h
 unfold jmr at h
 split at h
 ·rename_i l i
  obtain⟨xs,e,h0,y,hy,q⟩:=h
  have e:=jcu e
  have hz:=(I.lstM e).1
  have hlt:i.toNat<xs.length:=(Ai.mp hy).1
  have hs:sizeLine=16777216:=U2
  refine mt_popAt pins s σ H _ _ v us Q I rx rv ⟨l,xs,i,i.toNat,y,rfl,rfl,e,by omega,by omega,?_,hy,q⟩
  exact seqIndex_of h0 (by omega)
 ·exact h.elim
def rIsU(K:PySem.W.Frag):List V->Hp->VK->Prop:=λxs H Q=>match xs with
 |[x,.ty c]=>∃t b,TyOf K H x t/\PySem.W.kitOne K t (.type c)=some b/\Q (.bl b) H
 |_=>False
theorem call_isinstanceU:jc1 X (.builtin "isinstance") (rIsU X.K):=by
 intro pins s σ H xs us Q I r h
 unfold rIsU at h
 split at h
 ·rename_i x c
  obtain⟨t,b,ty,e,q⟩:=h
  obtain⟨u,w',rfl,rx,rc⟩:=jho r
  cases rc
  exact jnh I rx ty e λtk=>⟨.bl b,H,I.tok tk,rfl,q⟩
 ·exact h.elim
def ItS(z:Str):It:=⟨λi _=>i<z.length,λi H x H'=>H'=H/\∃c,z.cps.toList[i]?=some c/\x=.str ⟨#[c]⟩,λi _=>z.length<=i⟩
theorem jny{P:Program}{w:World}{K:PySem.W.Frag}{tg:Expr}(z:Str)(t:Tok)(it:Addr):Turn P w K tg (ItS z) [it] it (λi h=>h.IsStrIter it "str_ascii_iterator" z t i) where
 mem:=by simp
 obj:=λi h st b hb=>by
  have e:b=it:=by simpa using hb
  subst e
  obtain⟨o,e,c,d⟩:=st
  exact⟨o,e,λv z=>by rw[d]at z;cases z⟩
 keep:=λi h h' st k=>let⟨o,ho,r⟩:=st;⟨o,k it (by simp) o ho,r⟩
 item:=by
  intro X hP hw hK hc i pins s σ H E I hf st hg
  subst hP hw hK
  obtain⟨f0,f1,f2,f3,f4,f5⟩:=hf it (by simp)
  have hi:i<z.cps.size:=hg
  refine wpAny_pyNext_ascii_item st (c:=z.cps[i]) (by simp[hi]) λh' st' sb=>?_
  have I1:Inv X pins σ H {s with heap:=h',toks:=s.toks+1}:=I.turned (t':=s.toks+1) (λb o hb e=>(sb.2 b hb).trans e) f0 f1 f3 f4 f5
  obtain⟨o,e,c,d⟩:=id st'
  exact⟨_,rfl,jgx (s:={s with heap:=h',toks:=s.toks+1}) e c d (by decide) ⟨.str ⟨#[z.cps[i]]⟩,H,I1,⟨_,rfl⟩,⟨rfl,_,by simp[hi],rfl⟩,st',λb hb=>(hf b hb).1⟩⟩
 done:=by
  intro X hP hw hK hc i pins s σ H E I hf st hg
  subst hP hw hK
  obtain⟨f0,f1,f2,f3,f4,f5⟩:=hf it (by simp)
  have hi:z.cps.size<=i:=hg
  exact wpAny_pyNext_ascii_end (I.ok.hd hc) st (by simp[hi]) λh' eb=>⟨rfl,I.turned (t':=s.toks) (λb o hb e=>eb b o hb e) f0 f1 f3 f4 f5⟩
 self:=λ_ _ _ _ _ st h=>wpAny_pyIter_striter_ascii st h
theorem jnz{P:Program}{w:World}{K:PySem.W.Frag}{tg:Expr}(z:Str)(t:Tok)(it:Addr):Turn P w K tg (ItS z) [it] it (λi h=>h.IsStrIter it "str_iterator" z t i) where
 mem:=by simp
 obj:=λi h st b hb=>by
  have e:b=it:=by simpa using hb
  subst e
  obtain⟨o,e,c,d⟩:=st
  exact⟨o,e,λv z=>by rw[d]at z;cases z⟩
 keep:=λi h h' st k=>let⟨o,ho,r⟩:=st;⟨o,k it (by simp) o ho,r⟩
 item:=by
  intro X hP hw hK hc i pins s σ H E I hf st hg
  subst hP hw hK
  obtain⟨f0,f1,f2,f3,f4,f5⟩:=hf it (by simp)
  have hi:i<z.cps.size:=hg
  refine wpAny_pyNext_wide_item st (c:=z.cps[i]) (by simp[hi]) λh' st' sb=>?_
  have I1:Inv X pins σ H {s with heap:=h',toks:=s.toks+1}:=I.turned (t':=s.toks+1) (λb o hb e=>(sb.2 b hb).trans e) f0 f1 f3 f4 f5
  obtain⟨o,e,c,d⟩:=id st'
  exact⟨_,rfl,jgx (s:={s with heap:=h',toks:=s.toks+1}) e c d (by decide) ⟨.str ⟨#[z.cps[i]]⟩,H,I1,⟨_,rfl⟩,⟨rfl,_,by simp[hi],rfl⟩,st',λb hb=>(hf b hb).1⟩⟩
 done:=by
  intro X hP hw hK hc i pins s σ H E I hf st hg
  subst hP hw hK
  obtain⟨f0,f1,f2,f3,f4,f5⟩:=hf it (by simp)
  have hi:z.cps.size<=i:=hg
  exact wpAny_pyNext_wide_end (I.ok.hd hc) st (by simp[hi]) λh' eb=>⟨rfl,I.turned (t':=s.toks) (λb o hb e=>eb b o hb e) f0 f1 f3 f4 f5⟩
 self:=λ_ _ _ _ _ st h=>wpAny_pyIter_striter_wide st h
def iAny(K:PySem.W.Frag)(t:TE):TI:=λσ H R=>t σ H λx H1=>match x with
 |.str z=>R (ItS z) H1
 |.ref a=>match H1 a with
  |some (.lst _)=>R (Itl K a) H1
  |some (.tup _)=>R (Itt K a) H1
  |_=>False
 |_=>False
theorem pi_any{tg l:Expr}{tl:TE}(hl:PE X l tl):PI X tg l (iAny X.K tl):=by
 intro pins s σ H R I h
 refine thn (hl pins s σ H _ I h) λv s1 ⟨x,H1,I1,r1,q1⟩=>?_
 cases x with
 |str z =>
  obtain⟨t,rfl⟩:=r1
  have fr:∀b∈[s1.heap.objs.size],FpOk X pins H1 b:=λb hb=>by
   have e:b=s1.heap.objs.size:=by simpa using hb
   subst e
   exact I1.fpOk (Af _) (I1.hok.fresh (Af _))
  cases ha:z.cps.all (·<128)
  ·exact wpAny_pyIter_wide ha ⟨s1.heap.objs.size,[s1.heap.objs.size],_,_,H1,rfl,I1.kept (t':=s1.toks) λb o e=>Ac _ e,jnz z t _,⟨_,Av _ rfl,rfl,rfl⟩,fr,q1⟩
  ·exact wpAny_pyIter_ascii ha ⟨s1.heap.objs.size,[s1.heap.objs.size],_,_,H1,rfl,I1.kept (t':=s1.toks) λb o e=>Ac _ e,jny z t _,⟨_,Av _ rfl,rfl,rfl⟩,fr,q1⟩
 |ref a =>
  cases r1
  have fr:∀b∈[s1.heap.objs.size],FpOk X pins H1 b:=λb hb=>by
   have e:b=s1.heap.objs.size:=by simpa using hb
   subst e
   exact I1.fpOk (Af _) (I1.hok.fresh (Af _))
  simp only at q1
  split at q1
  ·rename_i xs e
   obtain⟨its,rv,p,hz⟩:=I1.list (SqL.of e)
   exact wpAny_pyIter_list p.isList ⟨s1.heap.objs.size,[s1.heap.objs.size],_,_,H1,rfl,I1.kept (t':=s1.toks) λb o e=>Ac _ e,jnx a _,⟨_,Av _ rfl,rfl,rfl⟩,fr,q1⟩
  ·rename_i xs e
   obtain⟨its,rv,p,hz⟩:=I1.tuple (SqT.of e)
   exact wpAny_pyIter_tuple (show s1.heap.IsTuple a its.toArray from p) ⟨s1.heap.objs.size,[s1.heap.objs.size],_,_,H1,rfl,I1.kept (t':=s1.toks) λb o e=>Ac _ e,jmz a _,⟨_,Av _ rfl,rfl,rfl⟩,fr,q1⟩
  ·exact q1.elim
 |_=>exact False.elim q1
theorem jpj{z:Str}{g:TG}{tb:TS}{D:Ends}{σ:St}{H:Hp}(Pv:Nat->St->Hp->Prop)(h0:Pv 0 σ H)
  (hs:∀i c σ H,z.cps.toList[i]?=some c->Pv i σ H->g (.str ⟨#[c]⟩) σ H λσ2 H2=>tb {D with nx:=Pv (i+1),ct:=Pv (i+1),bk:=D.nx} σ2 H2) (hd:∀σ H,Pv z.length σ H->D.nx σ H) :
  ∃W:Nat->Nat->St->Hp->Prop,(∃m,W 0 m σ H)/\∀i m σ H,W i m σ H ->
   ((ItS z).stop i H/\D.nx σ H)\/((ItS z).go i H/\∃N:St->Hp->Prop,(∀σ' H',N σ' H'->∃m',m'<m/\W (i+1) m' σ' H')/\∀x H',(ItS z).yld i H x H'->g x σ H' λσ2 H2=>tb {D with nx:=N,ct:=N,bk:=D.nx} σ2 H2):=by
 refine⟨λi m σ H=>m=z.length-i/\i<=z.length/\Pv i σ H,⟨z.length,by simp,Ia _,h0⟩,?_⟩
 rintro i m σ H ⟨rfl,hi,p⟩
 by_cases hlt:i<z.length
 ·refine .inr ⟨hlt,Pv (i+1),λσ' H' p'=>⟨z.length-(i+1),by omega,rfl,hlt,p'⟩,λx H' y=>?_⟩
  obtain⟨e,c,e1,e2⟩:=y
  subst e e2
  exact hs i c σ _ e1 p
 ·have e:i=z.length:=by omega
  subst e
  exact .inl ⟨Af _,hd σ H p⟩
mutual
def Rep(H:Hp):V->PyData->Prop
 |v,.none=>v=.non
 |v,.bool b=>v=.bl b
 |v,.int i=>v=.int i
 |v,.str x=>v=.str x
 |v,.list ds=>∃a vs,v=.ref a/\H a=some (.lst vs)/\Reps H vs ds
 |v,.tuple ds=>∃a vs,v=.ref a/\H a=some (.tup vs)/\Reps H vs ds
 |_,.dict _=>False
def Reps(H:Hp):List V->List PyData->Prop
 |[],[]=>True
 |v::vs,d::ds=>Rep H v d/\Reps H vs ds
 |_,_=>False
end
section
variable{pins:List (Addr×Obj)}{σ:L2.St}{H:Hp}{s:Shared}
mutual
theorem Rep.reads(I:Inv X pins σ H s):∀{d:PyData}{v:V}{u:Value},Rep H v d->RelV v u->∃as,Reads s.heap u d as
 |.none,v,u,h,r=>by simp only[Rep]at h;subst h;cases r;exact⟨_,.none⟩
 |.bool b,v,u,h,r=>by simp only[Rep]at h;subst h;cases r;exact⟨_,.bool b⟩
 |.int i,v,u,h,r=>by simp only[Rep]at h;subst h;obtain⟨t,rfl⟩:=r;exact⟨_,.int i t⟩
 |.str x,v,u,h,r=>by simp only[Rep]at h;subst h;obtain⟨t,rfl⟩:=r;exact⟨_,.str x t⟩
 |.list ds,v,u,h,r=>by
  simp only[Rep]at h
  obtain⟨a,vs,rfl,e,h⟩:=h
  cases r
  obtain⟨its,rv,⟨o,n,e1,e2,e3,e4⟩,hz⟩:=I.list (SqL.of e)
  obtain⟨as,q⟩:=Reps.reads I h rv
  exact⟨_,reads_list_at e1 e2 e4 (by simpa using q)⟩
 |.tuple ds,v,u,h,r=>by
  simp only[Rep]at h
  obtain⟨a,vs,rfl,e,h⟩:=h
  cases r
  obtain⟨its,rv,⟨o,e1,e2,n,e4⟩,hz⟩:=I.tuple (SqT.of e)
  obtain⟨as,q⟩:=Reps.reads I h rv
  exact⟨_,reads_tuple_at e1 e2 e4 (by simpa using q)⟩
 |.dict _,v,u,h,r=>by simp only[Rep]at h
theorem Reps.reads(I:Inv X pins σ H s):∀{ds:List PyData}{vs:List V}{us:List Value},Reps H vs ds->Vals vs us->∃as,ReadsAll s.heap us ds as
 |[],[],us,h,r=>by cases r;exact⟨_,.nil⟩
 |[],v::vs,us,h,r=>by simp only[Reps]at h
 |d::ds,[],us,h,r=>by simp only[Reps]at h
 |d::ds,v::vs,us,h,r=>by
  simp only[Reps]at h
  cases r with
  |cons r1 r2 =>
   obtain⟨as,q⟩:=Rep.reads I h.1 r1
   obtain⟨bs,q2⟩:=Reps.reads I h.2 r2
   exact⟨_,.cons q q2⟩
end
end
def rEqD:R2:=λx y H Q=>∃d e,Rep H x d/\Rep H y e/\SeqAt.shaped d=true/\SeqAt.shaped e=true/\Q (.bl (PyData.eqv d e)) H
theorem op_eqD(hu:X.A.units+64<cLine):OpR X (compareOp .Eq) rEqD:=by
 intro pins s σ H x y v u Q I rx ry h
 obtain⟨d,e,hd,he,sd,se,q⟩:=h
 obtain⟨as,r1⟩:=hd.reads I rx
 obtain⟨bs,r2⟩:=he.reads I ry
 exact eq_dataH r1 r2 sd se hu ⟨.bl _,H,I,rfl,q⟩
end
theorem ku:bootBuiltins "len"=some (.builtin "len"):=by decide +kernel
theorem bt_min:bootBuiltins "min"=some (.builtin "min"):=by decide +kernel
theorem kh:bootBuiltins "isinstance"=some (.builtin "isinstance"):=by decide +kernel
theorem bt_sum:bootBuiltins "sum"=some (.builtin "sum"):=by decide +kernel
theorem ja9:bootBuiltins "int"=some (.type "int"):=by decide +kernel
theorem jbj:bootBuiltins "list"=some (.type "list"):=by decide +kernel
theorem jae:bootBuiltins "tuple"=some (.type "tuple"):=by decide +kernel
theorem jcc:bootBuiltins "str"=some (.type "str"):=by decide +kernel
theorem bt_bool:bootBuiltins "bool"=some (.type "bool"):=by decide +kernel
theorem ja8:bootBuiltins "enumerate"=some (.type "enumerate"):=by decide +kernel
section
variable{X:Cx}
def isL(x:V)(H:Hp):Prop:=match x with
 |.ref p=>(jcp (H p)).isSome=true
 |_=>False
def tBML(r:V->List V->Hp->VK->Prop)(to:TE)(t:TA):TE:=λσ H Q=>to σ H λx H1=>isL x H1/\t σ H1 λxs H2=>r x xs H2 Q
theorem isL.ty{K:PySem.W.Frag}{x:V}{H:Hp}(h:isL x H):tyV K "list" x H:=by
 unfold isL at h
 split at h
 ·rename_i p
  cases e:jcp (H p)with
  |none=>rw[e]at h;cases h
  |some ys=>exact .inl ⟨rfl,ys,SqL.of (jcu e)⟩
 ·exact h.elim
variable{o e:Expr}{es:List Expr}{to:TE}{t:TA}{name:Str}{apos cpos:Pos}{id:String}{r:V->List V->Hp->VK->Prop}
theorem PE.imp{e:Expr}{t t':TE}(h:PE X e t)(hi:∀σ H Q,t' σ H Q->t σ H Q):PE X e t':=λpins s σ H Q I hw=>h pins s σ H Q I (hi σ H Q hw)
theorem pe_bmL(slot:Slot "list" name id)(hty:typeOf (.builtin id)=pure (.type "method_descriptor"))(hm:MtM X id r)(ho:PE X o to)(ha:PA X (e::es) t)(mono:∀σ H Q Q',(∀v H',Q v H'->Q' v H')->to σ H Q->to σ H Q')
  (hbase:attributeBase o name X.env (eval o X.env)=eval o X.env:=by rfl)
  (hfew:((backTo cpos (starEach (e::es) X.env)).all (λx=>!x.1) && (backToKw cpos (keywordEach [] X.env)).all (λx=>x.1.isSome)
   && decide ((e::es).length+([]:List Keyword).length+(if([]:List Keyword).isEmpty then 0 else 1)<30))=true:=by rfl)
  (hline:(apos.endLine == cpos.line)=true:=by rfl) (hs:starEach (e::es) X.env=(false,eval e X.env)::starEach es X.env:=by rfl) (hplain:(backTo cpos (starEach es X.env)).any (·.1)=false:=by rfl) :
  PE X (.Call (.Attribute o name apos) (e::es) [] cpos) (tBML r to t) :=
 (jcl PySem.F.plainAttrs_list slot hty hm ho ha hbase hfew hline hs hplain).imp λσ H Q h=>mono σ H _ _ (λv H' q=>⟨q.1.ty,q.2⟩) h
def jjd(r:V->List V->Hp->VK->Prop)(to:TE):TE:=λσ H Q=>to σ H λx H1=>isL x H1/\r x [] H1 Q
theorem pe_bmL0(slot:Slot "list" name id)(hty:typeOf (.builtin id)=pure (.type "method_descriptor"))(hm:MtM X id r)(ho:PE X o to)(mono:∀σ H Q Q',(∀v H',Q v H'->Q' v H')->to σ H Q->to σ H Q')
  (hbase:attributeBase o name X.env (eval o X.env)=eval o X.env:=by rfl) (hline:(apos.endLine == cpos.line)=true:=by rfl):PE X (.Call (.Attribute o name apos) [] [] cpos) (jjd r to) :=
 (pe_bm0 PySem.F.plainAttrs_list slot hty hm ho hbase hline).imp λσ H Q h=>mono σ H _ _ (λv H' q=>⟨q.1.ty,q.2⟩) h
theorem jct{i:Nat}:∀σ H Q Q',(∀v H',Q v H'->Q' v H')->tVar i σ H Q->tVar i σ H Q':=λ_ _ _ _ h ⟨v,e,q⟩=>⟨v,e,h v _ q⟩
def je2:V->List V->Hp->VK->Prop:=λx vs H Q=>match x,vs with
 |.ref l,[y]=>∃xs,jcp (H l)=some xs/\xs.length<sizeLine/\Q .non (upd H l (.lst (xs++[y])))
 |_,_=>False
theorem kc:MtM X "list.append" je2:=by
 intro pins s σ H x vs v us Q I rx rv h
 unfold je2 at h
 split at h
 ·rename_i l y
  obtain⟨xs,e,h⟩:=h
  exact jbc pins s σ H _ _ v us Q I rx rv ⟨l,xs,y,rfl,rfl,jcu e,h⟩
 ·exact h.elim
def jgl:V->List V->Hp->VK->Prop:=λx vs H Q=>match x,vs with
 |.ref l,[.ref b]=>∃xs,jcp (H l)=some xs/\∃zs,jcp (H b)=some zs/\xs.length+zs.length<=sizeLine/\Q .non (upd H l (.lst (xs++zs)))
 |_,_=>False
theorem mt_extendU:MtM X "list.extend" jgl:=by
 intro pins s σ H x vs v us Q I rx rv h
 unfold jgl at h
 split at h
 ·rename_i l b
  obtain⟨xs,e1,zs,e2,h⟩:=h
  exact mt_extend pins s σ H _ _ v us Q I rx rv ⟨l,b,xs,zs,rfl,rfl,jcu e1,jcu e2,h⟩
 ·exact h.elim
def rEqU:R2:=λx y H Q=>match x,y with
 |.int i,.int j=>Q (.bl (decide (i=j))) H
 |.bl i,.bl j=>Q (.bl (decide (i=j))) H
 |.str i,.str j=>Q (.bl (decide (i=j))) H
 |.ref a,.ref b=>rEqD (.ref a) (.ref b) H Q
 |x,y=>scal x y=true/\Q (.bl (decide (x=y))) H
theorem ke(hu:X.A.units+64<cLine):OpR X (compareOp .Eq) rEqU:=by
 intro pins s σ H x y v u Q I rx ry h
 unfold rEqU at h
 split at h
 ·exact jbw pins s σ H _ _ v u Q I rx ry ⟨rfl,by simpa using h⟩
 ·exact jbw pins s σ H _ _ v u Q I rx ry ⟨rfl,by simpa using h⟩
 ·exact jbw pins s σ H _ _ v u Q I rx ry ⟨rfl,by simpa using h⟩
 ·exact op_eqD hu pins s σ H _ _ v u Q I rx ry h
 ·exact jbw pins s σ H _ _ v u Q I rx ry h
theorem jki(H:Hp)(Q:VK)(i j:Int):rLtU (.int i) (.int j) H Q=(Q (.bl (decide (i<j))) H):=rfl
theorem jkj(H:Hp)(Q:VK)(i j:Str):rLtU (.str i) (.str j) H Q=(Q (.bl (decide (i.cps.toList<j.cps.toList))) H):=rfl
theorem jkg(H:Hp)(Q:VK)(i j:Int):rLeU (.int i) (.int j) H Q=(Q (.bl (decide (i<=j))) H):=rfl
theorem jkh(H:Hp)(Q:VK)(i j:Str):rLeU (.str i) (.str j) H Q=(Q (.bl (!decide (j.cps.toList<i.cps.toList))) H):=rfl
theorem jgm(H:Hp)(Q:VK)(z:Str)(i:Int):rIxU (.str z) (.int i) H Q=(z.length<=sizeLine/\∃c,atI z.cps.toList i=some c/\Q (.str ⟨#[c]⟩) H):=rfl
theorem jec(H:Hp)(Q:VK)(p:Addr)(i:Int):rIxU (.ref p) (.int i) H Q=(∃xs,jdp (H p)=some xs/\∃v,atI xs i=some v/\Q v H):=rfl
theorem jfl(H:Hp)(Q:VK)(z:Str):jg6 [.str z] H Q=(z.length<=sizeLine/\Q (.int z.length) H):=rfl
theorem jfk(H:Hp)(Q:VK)(p:Addr):jg6 [.ref p] H Q=(∃ys,jdp (H p)=some ys/\Q (.int ys.length) H):=rfl
theorem jim(H:Hp)(Q:VK)(i j:Int):jmp [.int i,.int j] H Q=(Q (.int (if j<i then j else i)) H):=rfl
theorem jil(H:Hp)(Q:VK)(i:Int):jja [.int i] H Q=(Q (.int i) H):=rfl
theorem jke(H:Hp)(Q:VK)(k:Bool):jja [.bl k] H Q=(Q (.int (if k then 1 else 0)) H):=rfl
theorem jg9(H:Hp)(Q:VK)(z:Str):jg7 [.str z] H Q=(z.length<=sizeLine/\∀l,H l=none->Q (.ref l) (upd H l (.lst (sgn z)))):=rfl
theorem jg8(H:Hp)(Q:VK)(p:Addr):jg7 [.ref p] H Q=(∃ys,jdp (H p)=some ys/\∀l,H l=none->Q (.ref l) (upd H l (.lst ys))):=rfl
theorem jip(H:Hp)(Q:VK)(l:Addr)(i:Int):jmr (.ref l) [.int i] H Q=(∃xs,jcp (H l)=some xs/\0<=i/\∃y,xs[i.toNat]?=some y/\Q y (upd H l (.lst (xs.eraseIdx i.toNat)))):=rfl
theorem jc5(H:Hp)(Q:VK)(l:Addr)(y:V):je2 (.ref l) [y] H Q=(∃xs,jcp (H l)=some xs/\xs.length<sizeLine/\Q .non (upd H l (.lst (xs++[y])))):=rfl
theorem jfj(H:Hp)(Q:VK)(l b:Addr):jgl (.ref l) [.ref b] H Q=(∃xs,jcp (H l)=some xs/\∃zs,jcp (H b)=some zs/\xs.length+zs.length<=sizeLine/\Q .non (upd H l (.lst (xs++zs)))):=rfl
theorem jkb(H:Hp)(Q:VK)(i j:Int):rEqU (.int i) (.int j) H Q=(Q (.bl (decide (i=j))) H):=rfl
theorem jlp(H:Hp)(Q:VK)(i j:Bool):rEqU (.bl i) (.bl j) H Q=(Q (.bl (decide (i=j))) H):=rfl
theorem je3(H:Hp)(Q:VK)(i j:Str):rEqU (.str i) (.str j) H Q=(Q (.bl (decide (i=j))) H):=rfl
theorem jkc(H:Hp)(Q:VK)(i j:Addr):rEqU (.ref i) (.ref j) H Q=(rEqD (.ref i) (.ref j) H Q):=rfl
theorem jlq(K:PySem.W.Frag)(x:V)(c:String)(H:Hp)(Q:VK):rIsU K [x,.ty c] H Q=(∃t b,TyOf K H x t/\PySem.W.kitOne K t (.type c)=some b/\Q (.bl b) H):=rfl
theorem jiq(p:Addr)(k:Int)(v:V)(H:Hp)(Q:Hp->Prop):jo4 (.ref p) (.int k) v H Q=(∃xs,jcp (H p)=some xs/\∃j,ixN xs.length k=some j/\Q (upd H p (.lst (xs.set j v)))):=rfl
theorem jlk(p:Addr)(H:Hp):isL (.ref p) H=((jcp (H p)).isSome=true):=rfl
def jc4(J:It)(g:TG)(tb:TS)(D:Ends)(σ:L2.St)(H1:Hp):Prop:=∃W:Nat->Nat->L2.St->Hp->Prop,(∃m,W 0 m σ H1)/\∀i m σ H,W i m σ H ->
 (J.stop i H/\D.nx σ H)\/(J.go i H/\∃N:L2.St->Hp->Prop,(∀σ' H',N σ' H'->∃m',m'<m/\W (i+1) m' σ' H')/\∀x H',J.yld i H x H'->g x σ H' λσ2 H2=>tb {D with nx:=N,ct:=N,bk:=D.nx} σ2 H2)
theorem jlz(wi:TI)(g:TG)(tb:TS)(D:Ends)(σ:L2.St)(H:Hp):tFor wi g tb D σ H=wi σ H λJ H1=>jc4 J g tb D σ H1:=rfl
theorem jdj{lo:Int}{n:Nat}{g:TG}{tb:TS}{D:Ends}{σ:L2.St}{H:Hp}(Pv:Nat->L2.St->Hp->Prop)(h0:Pv 0 σ H)
  (hs:∀i σ H,i<n->Pv i σ H->g (.int (lo+i)) σ H λσ2 H2=>tb {D with nx:=Pv (i+1),ct:=Pv (i+1),bk:=D.nx} σ2 H2) (hd:∀σ H,Pv n σ H->D.nx σ H):jc4 (Itr lo n) g tb D σ H:=jnd Pv h0 hs hd
theorem jof{z:Str}{g:TG}{tb:TS}{D:Ends}{σ:L2.St}{H:Hp}(Pv:Nat->L2.St->Hp->Prop)(h0:Pv 0 σ H)
  (hs:∀i c σ H,z.cps.toList[i]?=some c->Pv i σ H->g (.str ⟨#[c]⟩) σ H λσ2 H2=>tb {D with nx:=Pv (i+1),ct:=Pv (i+1),bk:=D.nx} σ2 H2) (hd:∀σ H,Pv z.length σ H->D.nx σ H):jc4 (ItS z) g tb D σ H:=jpj Pv h0 hs hd
theorem jih{K:PySem.W.Frag}{a:Addr}{xs:List V}{g:TG}{tb:TS}{D:Ends}{σ:L2.St}{H:Hp}(Pv:Nat->L2.St->Hp->Prop)(h0:Pv 0 σ H)(hl:∀i σ H,i<=xs.length->Pv i σ H->H a=some (.lst xs))
  (hs:∀i x σ H,xs[i]?=some x->Pv i σ H->g x σ H λσ2 H2=>tb {D with nx:=Pv (i+1),ct:=Pv (i+1),bk:=D.nx} σ2 H2) (hd:∀σ H,Pv xs.length σ H->D.nx σ H):jc4 (Itl K a) g tb D σ H :=
 jn7 Pv h0 (λi σ H h p=>SqL.of (hl i σ H h p)) hs hd
theorem jgh{K:PySem.W.Frag}{a:Addr}{xs:List V}{g:TG}{tb:TS}{D:Ends}{σ:L2.St}{H:Hp}(Pv:Nat->L2.St->Hp->Prop)(h0:Pv 0 σ H)(hl:∀i σ H,i<=xs.length->Pv i σ H->H a=some (.tup xs))
  (hs:∀i x σ H,xs[i]?=some x->Pv i σ H->g x σ H λσ2 H2=>tb {D with nx:=Pv (i+1),ct:=Pv (i+1),bk:=D.nx} σ2 H2) (hd:∀σ H,Pv xs.length σ H->D.nx σ H):jc4 (Itt K a) g tb D σ H :=
 jpk Pv h0 (λi σ H h p=>SqT.of (hl i σ H h p)) hs hd
end
def clOf(env:Env):List (Str×NameKind)->List (Str×Addr)->List (Str×Addr)
 |[],cs=>cs
 |(n,k)::r,cs=>clOf env r (if k == .free then(n,(env.cells.lookup n).getD 0)::cs else cs)
theorem jey{env:Env}{scope:Scope}(h:∀y∈scope.names,y.2=.free->∃c,env.cells.lookup y.1=some c):closureFor scope env=pure (clOf env scope.names []):=by
 have gen:∀(l:List (Str×NameKind))(cs:List (Str×Addr)),(∀y∈l,y.2=.free->∃c,env.cells.lookup y.1=some c) ->
   (forIn l cs λx r=>(match x with|(name,kind)=>if(kind == NameKind.free)=true then do let c <-cellOf env name;pure (ForInStep.yield ((name,c)::r))else pure (ForInStep.yield r)):Sem (List (Str×Addr)))=pure (clOf env l cs):=by
  intro l
  induction l with
  |nil=>intro cs _;rfl
  |cons y l ih =>
   intro cs hy
   obtain⟨n,k⟩:=y
   rw[List.forIn_cons]
   have hr:=λz hz=>hy z (Ig _ hz)
   by_cases hk:k=.free
   ·subst hk
    obtain⟨c,hc⟩:=hy _ (Oe ..) rfl
    have hc':env.cells.lookup n=some c:=hc
    have e:cellOf env n=pure c:=by unfold cellOf;rw[hc']
    simp only[Ul,Oo,e,pure_bind]
    rw[ih _ hr]
    simp[clOf,hc']
   ·have hb:(k == NameKind.free)=false:=by simpa using hk
    simp only[hb,Iu,On,pure_bind]
    rw[ih _ hr]
    simp[clOf,hb]
 exact(O0 (· >>= λs=>pure s) (gen scope.names [] h)).trans (by rfl)
theorem jgd{env:Env}:∀(l:List (Str×NameKind))(cs:List (Str×Addr))(x:Str)(c:Addr),(∀y∈l,y.2=.free->∃c,env.cells.lookup y.1=some c)->(∀x c,cs.lookup x=some c->env.cells.lookup x=some c) ->
  (clOf env l cs).lookup x=some c->env.cells.lookup x=some c
 |[],cs,x,c,_,hc,h=>hc x c h
 |(n,k)::r,cs,x,c,hl,hc,h=>by
  unfold clOf at h
  refine jgd r _ x c (λy hy=>hl y (Ig _ hy)) (λz d hz=>?_) h
  split at hz
  ·rename_i hk
   rw[List.lookup_cons]at hz
   cases hzn:z == n with
   |true =>
    rw[hzn]at hz
    obtain⟨c',hc'⟩:=hl _ (Oe ..) (by simpa using hk)
    have hc'':env.cells.lookup n=some c':=hc'
    have ez:z=n:=by simpa using hzn
    subst ez
    rw[hc'']at hz
    rw[hc'']
    exact hz
   |false=>rw[hzn]at hz;exact hc z d hz
  ·exact hc z d hz
theorem jh9{env:Env}:∀(l:List (Str×NameKind))(cs:List (Str×Addr))(x:Str),(∃c,cs.lookup x=some c)->∃c,(clOf env l cs).lookup x=some c
 |[],cs,x,h=>h
 |(n,k)::r,cs,x,h=>by
  unfold clOf
  refine jh9 r _ x ?_
  split
  ·rw[List.lookup_cons]
   cases x == n with
   |true=>exact⟨_,rfl⟩
   |false=>exact h
  ·exact h
theorem jgc{env:Env}:∀(l:List (Str×NameKind))(cs:List (Str×Addr))(x:Str),(x,NameKind.free)∈l->∃c,(clOf env l cs).lookup x=some c
 |(n,k)::r,cs,x,h=>by
  unfold clOf
  rcases Aw.mp h with h|h
  ·cases h
   refine jh9 r _ _ ?_
   simp[List.lookup_cons]
  ·exact jgc r _ x h
abbrev Cx.comp(X:Cx)(scope:Scope)(C:Addr)(Nc:List Str)(s3:Shared)(H3:Hp)(fp:List Addr):Cx :=
 {X with N:=Nc,s₀:=s3,H₀:=H3,env:=compEnvC scope (clOf X.env scope.names []) C X.env,outer:=X.stack,stack:=X.stack,ex:=fp,fn:=λ_=>false,pn:=[],xe:=λ_ _=>False}
def jdl(js:List (Option Nat))(σ:L2.St):L2.St:=js.map λo=>o.bind λj=>(σ[j]?).getD none
def jhl(D:Addr)(te:TE):TS:=λE σ H=>te σ H λv H1=>∃ys,jcp (H1 D)=some ys/\ys.length<sizeLine/\E.nx σ (upd H1 D (.lst (ys++[v])))
def jjf(wi:TI)(g:TG)(js:List (Option Nat))(te:TE):TE:=λσ H Q=>wi σ H λJ H1=>∀D,H1 D=none ->
 jc4 J g (jhl D te) {nx:=λ_ H'=>Q (.ref D) H',rt:=λ_ _=>False} (jdl js σ) (upd H1 D (.lst []))
structure CompOk(X:Cx)(scope:Scope)(Nc:List Str)(js:List (Option Nat)):Prop where
 kind:scope.kind=.function
 nocell:∀y∈scope.names,y.2≠.cell
 loc:∀y∈scope.names,y.2=.local->scope.names.lookup y.1=some .local
 free:∀y∈scope.names,y.2=.free->X.env.kindOf y.1=some .cell\/X.env.kindOf y.1=some .free
 len:js.length=Nc.length
 nol:∀x,(x,NameKind.free)∈scope.names->scope.names.lookup x≠some .local
 see:∀(i j:Nat)(x:Str),js[i]?=some (some j)->Nc[i]?=some x->X.N[j]?=some x/\(x,NameKind.free)∈scope.names
section
variable{X:Cx}{pins:List (Addr×Obj)}{σ:L2.St}{H:Hp}{s:Shared}{scope:Scope}{Nc:List Str}{js:List (Option Nat)}{fp:List Addr}
theorem CompOk.has(c:CompOk X scope Nc js)(I:Inv X pins σ H s):∀y∈scope.names,y.2=.free->∃a,X.env.cells.lookup y.1=some a:=λy hy hf=>I.ok.has _ (c.free y hy hf)
theorem jfm{env:Env}{x:Str}:∀{l:List (Str×NameKind)},(∀y∈l,y.2≠.cell) ->
  ((l.map fun(n,k)=>if(k == NameKind.free && env.scope.kind == .function && env.kindOf n == some .cell)then(n,NameKind.cell)else(n,k)).lookup x=some .cell \/
   (l.map fun(n,k)=>if(k == NameKind.free && env.scope.kind == .function && env.kindOf n == some .cell)then(n,NameKind.cell)else(n,k)).lookup x=some .free)->(x,NameKind.free)∈l
 |[],_,h=>by simp at h
 |(n,k)::r,hc,h=>by
  rw[Ax]at h
  by_cases hx:x=n
  ·subst hx
   have hk:k=.free:=by
    have hk':k≠.cell:=hc _ (Oe ..)
    by_cases hcond:(k == NameKind.free && env.scope.kind == .function && env.kindOf x == some .cell)=true
    ·rw[Od,Od]at hcond
     simpa using hcond.1.1
    ·simp only[hcond,Iu,On,List.lookup_cons,Ul]at h
     rcases h with h|h
     ·exact absurd (Au h) hk'
     ·exact Au h
   subst hk
   exact Oe ..
  ·refine Ig _ (jfm (env:=env) (λy hy=>hc y (Ig _ hy)) ?_)
   have hxn:(x == n)=false:=by simpa using hx
   by_cases hcond:(k == NameKind.free && env.scope.kind == .function && env.kindOf n == some .cell)=true
   ·simpa only[hcond,Oo,List.lookup_cons,hxn]using h
   ·simpa only[hcond,Iu,On,List.lookup_cons,hxn]using h
theorem jf9{env:Env}{x:Str}:∀{l:List (Str×NameKind)},
  (l.map fun(n,k)=>if(k == NameKind.free && env.scope.kind == .function && env.kindOf n == some .cell)then(n,NameKind.cell)else(n,k)).lookup x=some .local->l.lookup x=some .local
 |[],h=>by simp at h
 |(n,k)::r,h=>by
  rw[Ax]at h
  by_cases hx:x=n
  ·subst hx
   by_cases hcond:(k == NameKind.free && env.scope.kind == .function && env.kindOf x == some .cell)=true
   ·simp only[hcond,Oo,List.lookup_cons,Ul]at h
    cases h
   ·simp only[hcond,Iu,On,List.lookup_cons,Ul]at h
    simp only[List.lookup_cons,Ul]
    exact h
  ·have hxn:(x == n)=false:=by simpa using hx
   rw[List.lookup_cons,hxn]
   refine jf9 (env:=env) ?_
   by_cases hcond:(k == NameKind.free && env.scope.kind == .function && env.kindOf n == some .cell)=true
   ·simpa only[hcond,Oo,List.lookup_cons,hxn]using h
   ·simpa only[hcond,Iu,On,List.lookup_cons,hxn]using h
theorem jpe(c:CompOk X scope Nc js)(I:Inv X pins σ H s)(hf:∀b∈fp,FpOk X pins H b)(ho:∀b∈fp,∃o,s.heap.get? b=some o):(X.comp scope s.heap.objs.size Nc s H fp).Ok:=by
 have hs:=c.has I
 have sub:∀x a,(clOf X.env scope.names []).lookup x=some a->X.env.cells.lookup x=some a:=λx a=>jgd _ _ x a hs (λ_ _ z=>nomatch z)
 refine⟨I.ok.mod,c.kind,I.ok.glob,I.ok.blt,Af _,λx y a e1 e2=>I.ok.inj x y a (sub x a e1) (sub y a e2),λx h=>jgc _ _ x (jfm (env:=X.env) c.nocell h),(λx a h=>nomatch h),I.ok.hd,I.ok.frames,.inl rfl,λb hb=>⟨?_,λx a e=>?_⟩,I.bs,
  Ib I.ok.bsz I.sz,λb o e hb=>?_,λb hb hb'=>?_,I.stack,I.stkFree⟩
 ·obtain⟨o,e⟩:=ho b hb
  exact Ar (Ah e)
 ·exact(hf b hb).2.2.2.2.1 x a (sub x a e)
 ·rcases(hf b hb).2.2.2.1 with z|z
  ·exact I.ok.noex b o e z
  ·exact absurd (Aq (Ah (I.ok.bs b o e).1) z) (Oj _)
 ·rcases Aw.mp (I.stkSub b hb')with z|z
  ·exact(hf b hb).2.1 z
  ·exact(hf b hb).2.2.1 z
theorem jj2(c:CompOk X scope Nc js)(I:Inv X pins σ H s)(hf:∀b∈fp,FpOk X pins H b)(ho:∀b∈fp,∃o,s.heap.get? b=some o){h':Heap}{m:Str->Option Value}{tk:Nat}(hn:h'.Ns s.heap.objs.size m)
  (hk:∀b o,s.heap.get? b=some o->h'.get? b=some o):Inv (X.comp scope s.heap.objs.size Nc s H fp) [] (jdl js σ) H {s with heap:=h',toks:=tk}:=by
 have hs:=c.has I
 have sub:∀x a,(clOf X.env scope.names []).lookup x=some a->X.env.cells.lookup x=some a:=λx a=>jgd _ _ x a hs (λ_ _ z=>nomatch z)
 refine⟨jpe c I hf ho,rfl,I.bare,Un.kept hk,⟨m,hn,λi x v e1 e2 e3=>?_⟩,λx a e=>?_,I.hok.fresh (Af _),λx a e=>I.freeC x a (sub x a e),(λp hp=>nomatch hp),I.hok.kept hk,by simp only[jdl,Ae];exact c.len⟩
 ·have e2':(jdl js σ)[i]?=some (some v):=e2
  unfold jdl at e2'
  rw[A3]at e2'
  cases ej:js[i]? with
  |none=>rw[ej]at e2';cases e2'
  |some o =>
   rw[ej]at e2'
   cases o with
   |none=>cases e2'
   |some j =>
    have e4:(σ[j]?).getD none=some v:=Au e2'
    have e5:σ[j]?=some (some v):=by
     cases q:σ[j]? with
     |none=>rw[q]at e4;cases e4
     |some w=>rw[q]at e4;exact O0 some e4
    obtain⟨n1,n2⟩:=c.see i j x ej e1
    have hkd:=c.free _ n2 rfl
    obtain⟨a,ha⟩:=jgc (env:=X.env) scope.names [] x n2
    obtain⟨m0,_,hl⟩:=I.loc
    obtain⟨u,r,l⟩:=hl j x v n1 e5 (by
     rcases hkd with z|z
     ·exact .inr (.inl z)
     ·exact .inr (.inr z))
    refine⟨u,r,?_⟩
    rcases l with⟨k,_⟩|⟨_,a',ha',hcell⟩
    ·rcases hkd with z|z
     ·rw[z]at k;cases k
     ·rw[z]at k;cases k
    ·have:a'=a:=Au (ha'.symm.trans (sub x a ha))
     subst this
     refine .inr ⟨?_,a',ha,?_⟩
     ·rcases e3 with z|z|z
      ·exfalso
       have q:(relabel scope X.env).names.lookup x=some .local:=z
       exact c.nol x n2 (jf9 q)
      ·exact .inl z
      ·exact .inr z
     ·obtain⟨o,q,d⟩:=hcell
      exact⟨o,hk _ o q,d⟩
 ·obtain⟨v,o,q,d⟩:=I.cell x a (sub x a e)
  exact⟨v,o,hk _ o q,d⟩
theorem jez(I:Inv X pins σ H s)(hf:∀b∈fp,FpOk X pins H b){σ':L2.St}{H':Hp}{s':Shared}{h'':Heap}(J:Inv (X.comp scope s.heap.objs.size Nc s H fp) [] σ' H' s')(hs:Heap.SameBut s.heap.objs.size s'.heap h'') :
  Inv X pins σ H' {s' with heap:=h''}:=by
 have ne:∀b o,s.heap.get? b=some o->b≠s.heap.objs.size:=λb o e=>Ar (Ah e)
 have u:Un (frs X.stack) fp H H' s.heap s'.heap:=J.base
 refine I.call' (s':={s' with heap:=h''}) (ch:=fp) J.os ⟨λb o e n hb hx=>?_,λb o e n hb hx=>?_,u.free,λb o e hx=>?_,u.tups,u.frzs,u.tbls⟩ (λb o e=>?_) J.bare λb hb=>?_
 ·exact(hs.2 b (ne b o e)).trans (u.keep b o e n hb hx)
 ·obtain⟨sl,q⟩:=u.slot b o e n hb hx
  exact⟨sl,(hs.2 b (ne b o e)).trans q⟩
 ·obtain⟨o',q⟩:=u.there b o e hx
  exact⟨o',(hs.2 b (ne b o e)).trans q⟩
 ·have hC:H' s.heap.objs.size=none:=J.free
  refine(J.hok b o e).stay (λd v hd q=>(hs.2 d ?_).trans q) (λ_ q=>q) λ_ _ q=>q
  rintro rfl
  rcases hd with z|z
  ·rw[<-z,hC]at e;cases e
  ·rw[hC]at z;cases z
 ·obtain⟨_,f1,_,f3,f4,f5⟩:=hf b hb
  exact⟨f3,f1,f4,f5⟩
end
section
variable{X:Cx}{scope:Scope}{Nc:List Str}{js:List (Option Nat)}{elt tg iter:Expr}{pos:Pos}{wi:TI}{g:TG}{te:TE}
theorem jm3(hc:X.calm=true)(c:CompOk X scope Nc js)(hi:PI X tg iter wi)(hg:∀C s3 H3 fp,PG (X.comp scope C Nc s3 H3 fp) tg g)(he:∀C s3 H3 fp,PE (X.comp scope C Nc s3 H3 fp) elt te)
  {pins:List (Addr×Obj)}{s:Shared}{σ:L2.St}{H:Hp} (I:Inv X pins σ H s) {RR:Value->Addr->Result->Shared->Prop}{NX:Addr->Hp->Prop}
  (h:wi σ H λJ H1=>∀D,H1 D=none->jc4 J g (jhl D te) {nx:=λ_ H'=>NX D H',rt:=λ_ _=>False} (jdl js σ) (upd H1 D (.lst [])))
  (fin:∀D H3 s3 fp σ5 H5 s6,Inv X pins σ H3 s3->(∀b∈fp,FpOk X pins H3 b)->Inv (X.comp scope s3.heap.objs.size Nc s3 H3 fp) [] σ5 H5 s6->NX D H5->RR (.ref D) s3.heap.objs.size (.ok .next) s6) :
  wpAny (model X.prog X.w) X.A (eval iter X.env) (λx s₁=>wpAny (model X.prog X.w) X.A (pyIter x) (λit s₂=>wpAny (model X.prog X.w) X.A (newList []) (λacc s₃ =>
   wpAny (model X.prog X.w) X.A (newFunctionEnv scope X.env.globals (clOf X.env scope.names []) [] X.env.qual none .none (some X.env)) (λcenv s₄ =>
    codeAny (model X.prog X.w) X.A (.compStart (.ListComp elt [⟨tg,iter,[],0⟩] scope pos) 0 it acc {cenv with scope:=relabel scope X.env}) (RR acc cenv.locals) s₄) X.xe s₃) X.xe s₂) X.xe s₁) X.xe s:=by
 refine thn (hi pins s σ H _ I h) λv s1 h1=>thn h1 λitv s2 h2=>?_
 obtain⟨it,fp,tn,J,H2,rfl,I2,T,st2,f2,h2⟩:=h2
 refine Oi ?_ (by show 0<=sizeLine;decide)
 have hD:H2 s2.heap.objs.size=none:=I2.hok.fresh (Af _)
 have I3:Inv X pins σ (upd H2 s2.heap.objs.size (.lst [])) {s2 with heap:=s2.heap.push {cls:=.type "list",data:=.seq ([]:List Value).toArray}} :=
  I2.laid (t':=s2.toks) (λb u e=>Ac _ e) (Af _) ⟨by show 0<=sizeLine;decide,[],0,.nil,Av _ rfl⟩
 have f3:∀b∈fp,FpOk X pins (upd H2 s2.heap.objs.size (.lst [])) b:=λb hb=>by
  obtain⟨q0,q⟩:=f2 b hb
  obtain⟨o,e,_⟩:=T.obj _ _ st2 b hb
  exact⟨by rw[jd (Ar (Ah e))];exact q0,q⟩
 have o3:∀b∈fp,∃o,(s2.heap.push {cls:=.type "list",data:=.seq ([]:List Value).toArray}).get? b=some o:=λb hb=>by
  obtain⟨o,e,_⟩:=T.obj _ _ st2 b hb
  exact⟨o,Ac _ e⟩
 have st3:tn 0 (s2.heap.push {cls:=.type "list",data:=.seq ([]:List Value).toArray}):=T.keep _ _ _ st2 λb _ o e=>Ac _ e
 generalize hh3:s2.heap.push {cls:=.type "list",data:=.seq ([]:List Value).toArray}=h3 at I3 o3 st3⊢
 refine Wf c.nocell (by intro y hy;simp at hy) (λh4 hn4 hs4=>?_) c.kind
 have k4:∀b o,h3.get? b=some o->h4.get? b=some o:=λb o e=>(hs4.2 b (Ar (Ah e))).trans (Ac _ e)
 have I4:=jj2 (tk:=s2.toks+([]:List (Str×Value)).length) c I3 f3 o3 hn4 k4
 have st4:tn 0 h4:=T.keep _ _ _ st3 λb _ o e=>k4 b o e
 obtain⟨W,⟨m0,w0⟩,turn⟩:=h2 _ hD
 let s3:Shared:={s2 with heap:=h3}
 let Y:Cx:=X.comp scope h3.objs.size Nc s3 (upd H2 s2.heap.objs.size (.lst [])) fp
 have stat:∀{H':Hp},(∀b∈fp,H' b=none)->∀b∈fp,FpOk Y [] H' b:=λhn b hb=>⟨hn b hb,(I4.ok.exf b hb).1,I4.ok.exfs b hb,.inl hb,(I4.ok.exf b hb).2,(λp hp=>nomatch hp)⟩
 have loop:codeAny (model X.prog X.w) X.A (.compLoop (.ListComp elt [⟨tg,iter,[],0⟩] scope pos) 0 (.ref it) (.ref s2.heap.objs.size) Y.env)
   (RR (.ref s2.heap.objs.size) h3.objs.size) {s2 with heap:=h4,toks:=s2.toks+([]:List (Str×Value)).length}:=by
  refine codeAny_loop rfl (λn s'=>∃i σ' H',Inv Y [] σ' H' s'/\tn i s'.heap/\(∀b∈fp,H' b=none)/\W i n σ' H') (λn s5 hI=>?_) m0 ⟨0,_,_,I4,st4,λb hb=>(f3 b hb).1,w0⟩
  obtain⟨i,σ5,H5,I5,st5,fr5,w5⟩:=hI
  show wpAny _ X.A ((compTurn (.ListComp elt [⟨tg,iter,[],0⟩] scope pos) 0 (.ref it) (.ref s2.heap.objs.size) Y.env).onRaise (λx=>do noteFrame x Y.env;theTreesLotGoes x)) _ _ s5
  refine wpAny_noted (Iw (E:=λ_ _=>False) ?_ (λ_ _ q=>q) λ_ _ z=>z.elim)
  rw[compTurn_list1]
  refine Ab (Uq (Ab ?_))
  rcases turn i n σ5 H5 w5 with⟨stop,qn⟩|⟨go,N,hN,step⟩
  ·refine thn (T.done Y rfl rfl rfl hc i [] s5 σ5 H5 _ I5 (stat fr5) st5 stop) λr s6 ⟨hr,I6⟩=>?_
   subst hr
   refine Am ?_
   exact fin _ _ s3 fp σ5 H5 s6 I3 f3 I6 qn
  ·refine thn (T.item Y rfl rfl rfl hc i [] s5 σ5 H5 _ I5 (stat fr5) st5 go) λr s6 ⟨u,hr,h6⟩=>?_
   subst hr
   refine Ab (thn h6 λ_ s7 ⟨x,H7,I7,r7,y7,st7,fr7⟩=>?_)
   have I7':=I7.pinned (stat fr7) (T.obj _ _ st7)
   refine Ab (thn (hg _ _ _ _ _ s7 σ5 H7 x u _ I7' r7 (step x H7 y7)) λ_ s8 ⟨σ8,H8,I8,q8⟩=>?_)
   refine Ab (Ab (thn (he _ _ _ _ _ s8 σ8 H8 _ I8 q8) λv s9 ⟨y,H9,I9,r9,ys,e9,z9,n9⟩=>?_))
   refine Ab (thn (jbc (X:=Y) _ s9 σ8 H9 (.ref s2.heap.objs.size) [y] (.ref s2.heap.objs.size) [v] (λw H'=>N σ8 H') I9 rfl (.cons r9 .nil) ⟨_,ys,y,rfl,rfl,jcu e9,z9,n9⟩) λw s10 ⟨_,H10,I10,_,n10⟩=>?_)
   refine Am (Am ⟨rfl,?_⟩)
   obtain⟨m',hm,w10⟩:=hN σ8 H10 n10
   refine⟨m',hm,i+1,σ8,H10,I10.unpinned,T.keep _ _ _ st7 λb hb o e=>(I10.pin (b,o) (A5 _ (A5 _ (jdk hb e)))).1,λb hb=>?_,w10⟩
   obtain⟨o,e,d⟩:=T.obj _ _ st7 b hb
   exact(I10.pin (b,o) (A5 _ (A5 _ (jdk hb e)))).2.1
 exact codeAny_compStart_list loop (T.self _ 0 _ _ _ st4 loop)
theorem pe_comp(hc:X.calm=true)(c:CompOk X scope Nc js)(hi:PI X tg iter wi)(hg:∀C s3 H3 fp,PG (X.comp scope C Nc s3 H3 fp) tg g)(he:∀C s3 H3 fp,PE (X.comp scope C Nc s3 H3 fp) elt te)
  (hs:∀x,foldedSetIterable iter X.env x=pure x:=by intro _;rfl):PE X (.ListComp elt [⟨tg,iter,[],0⟩] scope pos) (jjf wi g js te):=by
 intro pins s σ H Q I h
 rw[eval_ListComp]
 refine Uu (use:=none) (g:=⟨tg,iter,[],0⟩) (gs:=[]) rfl hs (jey (c.has I)) c.kind c.loc
  (jm3 (RR:=λacc C=>compPost (model X.prog X.w) X.A X.xe none (EP X pins σ Q) acc C) (NX:=λD H'=>Q (.ref D) H') hc c hi hg he I h λD H3 s3 fp σ5 H5 s6 I3 f3 I6 qn=>?_)
 obtain⟨m,hn,_⟩:=I6.loc
 exact⟨m,hn,λh' hs'=>⟨.ref D,H5,jez I3 f3 I6 hs',rfl,qn⟩⟩
end
section
variable{X:Cx}
def jh1:List V->Hp->VK->Prop:=λxs H Q=>match xs with
 |[.ref p]=>(∃ys,jcp (H p)=some ys/\∀l,H l=none->Q (.ref l) (upd H l (.tup ys)))\/(∃ys,jf2 (H p)=some ys/\Q (.ref p) H)
 |_=>False
theorem zt:jc1 X (.type "tuple") jh1:=by
 intro pins s σ H xs us Q I r h
 unfold jh1 at h
 split at h
 ·rename_i p
  rcases h with⟨ys,e,h⟩|⟨ys,e,h⟩
  ·exact ja6 pins s σ H _ us Q I r ⟨p,ys,rfl,.inl ⟨SqL.of (jcu e),h⟩⟩
  ·exact ja6 pins s σ H _ us Q I r ⟨p,ys,rfl,.inr ⟨SqT.of (jgj e),h⟩⟩
 ·exact h.elim
theorem jdm{p:Addr}{H:Hp}{Q:VK}{ys:List V}(e:H p=some (.lst ys))(h:∀l,H l=none->Q (.ref l) (upd H l (.tup ys))):jh1 [.ref p] H Q:=.inl ⟨ys,by rw[e];rfl,h⟩
def jmq:R2:=λx y H Q=>match x,y with
 |.int i,.int j=>CMul i j/\Q (.int (i*j)) H
 |.ref l,.int k=>∃xs,jcp (H l)=some xs/\0<=k/\k<2^62/\xs.length*k.toNat<=sizeLine/\∀p,H p=none->Q (.ref p) (upd H p (.lst (List.replicate k.toNat xs).flatten))
 |_,_=>False
theorem z0:OpR X (binaryOp .Mult) jmq:=by
 intro pins s σ H x y v u Q I rx ry h
 cases x with
 |int i=>cases y with
  |int j=>exact op_mul pins s σ H _ _ v u Q I rx ry ⟨i,j,rfl,rfl,h⟩
  |_=>exact False.elim h
 |ref l=>cases y with
  |int k =>
   obtain⟨xs,e,k0,k1,h⟩:=h
   exact op_rep pins s σ H _ _ v u Q I rx ry ⟨l,k,xs,rfl,rfl,jcu e,by omega,by omega,h⟩
  |_=>exact False.elim h
 |_=>exact False.elim h
theorem jin(H:Hp)(Q:VK)(i j:Int):jmq (.int i) (.int j) H Q=(CMul i j/\Q (.int (i*j)) H):=rfl
theorem jio(H:Hp)(Q:VK)(l:Addr)(k:Int):jmq (.ref l) (.int k) H Q=(∃xs,jcp (H l)=some xs/\0<=k/\k<2^62/\xs.length*k.toNat<=sizeLine/\∀p,H p=none->Q (.ref p) (upd H p (.lst (List.replicate k.toNat xs).flatten))):=rfl
def isS(x:V):Prop:=match x with
 |.str _=>True
 |_=>False
def tBMS(r:V->List V->Hp->VK->Prop)(to:TE)(t:TA):TE:=λσ H Q=>to σ H λx H1=>isS x/\t σ H1 λxs H2=>r x xs H2 Q
theorem isS.ty{K:PySem.W.Frag}{x:V}{H:Hp}(h:isS x):tyV K "str" x H:=by
 unfold isS at h
 split at h
 ·rfl
 ·exact h.elim
theorem jll(z:Str):isS (.str z)=True:=rfl
theorem jnp{v:V}:∀σ H Q Q',(∀v H',Q v H'->Q' v H')->tC v σ H Q->tC v σ H Q':=λ_ _ _ _ h q=>h _ _ q
variable{o e:Expr}{es:List Expr}{to:TE}{t:TA}{name:Str}{apos cpos:Pos}{id:String}{r:V->List V->Hp->VK->Prop}
theorem pe_bmS(slot:Slot "str" name id)(hty:typeOf (.builtin id)=pure (.type "method_descriptor"))(hm:MtM X id r)(ho:PE X o to)(ha:PA X (e::es) t)(mono:∀σ H Q Q',(∀v H',Q v H'->Q' v H')->to σ H Q->to σ H Q')
  (hbase:attributeBase o name X.env (eval o X.env)=eval o X.env:=by rfl)
  (hfew:((backTo cpos (starEach (e::es) X.env)).all (λx=>!x.1) && (backToKw cpos (keywordEach [] X.env)).all (λx=>x.1.isSome)
   && decide ((e::es).length+([]:List Keyword).length+(if([]:List Keyword).isEmpty then 0 else 1)<30))=true:=by rfl)
  (hline:(apos.endLine == cpos.line)=true:=by rfl) (hs:starEach (e::es) X.env=(false,eval e X.env)::starEach es X.env:=by rfl) (hplain:(backTo cpos (starEach es X.env)).any (·.1)=false:=by rfl) :
  PE X (.Call (.Attribute o name apos) (e::es) [] cpos) (tBMS r to t) :=
 (jcl PySem.F.plainAttrs_str slot hty hm ho ha hbase hfew hline hs hplain).imp λσ H Q h=>mono σ H _ _ (λv H' q=>⟨q.1.ty,q.2⟩) h
theorem jhd:∀{ys:List Str}{us:List Value},Vals (ys.map V.str) us->StrsAre us ys
 |[],us,r=>by rw[Uf]at r;cases r;exact .nil
 |y::ys,us,r=>by
  rw[Ax]at r
  cases r with
  |cons r1 r2 =>
   obtain⟨t,rfl⟩:=r1
   exact .cons y t (jhd r2)
def jns:V->List V->Hp->VK->Prop:=λx vs H Q=>match x,vs with
 |.str z,[.ref p]=>∃ys:List Str,H p=some (.lst (ys.map V.str))/\(ys.map (·.length)).sum+ys.length*z.length<=16777216/\Q (.str (Txt.join z ys)) H
 |_,_=>False
theorem jbx:MtM X "str.join" jns:=by
 intro pins s σ H x vs v us Q I rx rv h
 unfold jns at h
 split at h
 ·rename_i z p
  obtain⟨ys,e,hz,q⟩:=h
  obtain⟨t,rfl⟩:=rx
  obtain⟨u,rfl,ru⟩:=rv.one
  cases ru
  obtain⟨its,rr,pl,_⟩:=I.list (SqL.of e)
  exact join_list pl.isList (by simpa using jhd rr) hz λt' k=>⟨.str _,H,I.tok k,⟨_,rfl⟩,q⟩
 ·exact h.elim
def cutS(z:Str)(lo hi:Option Int):Str:=⟨((z.cps.toList.drop (HT.sIx z.length 0 lo)).take (HT.sIx z.length z.length hi-HT.sIx z.length 0 lo)).toArray⟩
theorem jks(lo hi:Option Int)(n:Nat):Builtin.Str.strSliceIndices lo hi 1 n=(List.range (HT.sIx n n hi-HT.sIx n 0 lo)).map (HT.sIx n 0 lo+·):=by
 rw[<-sliceRange_one]
 unfold Builtin.Str.strSliceIndices
 have e1:(match lo with|none=>(if(1:Int)>0 then(0:Int)else(n:Int)-1)|some i=>let i:=if i<0 then i+(n:Int)else i;if(1:Int)>0 then max 0 (min i (n:Int))else max (-1) (min i ((n:Int)-1)))=((HT.sIx n 0 lo:Nat):Int):=by
  cases lo with
  |none=>simp[HT.sIx]
  |some v =>
   simp only[show(1:Int)>0 by decide,Oo,HT.sIx]
   by_cases h:v<0
   ·simp only[h,Oo];omega
   ·simp only[h,On];omega
 have e2:(match hi with|none=>(if(1:Int)>0 then(n:Int)else -1)|some i=>let i:=if i<0 then i+(n:Int)else i;if(1:Int)>0 then max 0 (min i (n:Int))else max (-1) (min i ((n:Int)-1)))=((HT.sIx n n hi:Nat):Int):=by
  cases hi with
  |none=>simp[HT.sIx]
  |some v =>
   simp only[show(1:Int)>0 by decide,Oo,HT.sIx]
   by_cases h:v<0
   ·simp only[h,Oo];omega
   ·simp only[h,On];omega
 have key:∀a b a' b':Int,a=a'->b=b'->sliceRange a b 1=sliceRange a' b' 1:=by
  intro a b a' b' h1 h2
  rw[h1,h2]
 exact key _ _ _ _ e1 e2
theorem jlg(z:Str)(lo hi:Option Int):Txt.slice z lo hi=cutS z lo hi:=by
 have e:(Builtin.Str.strSliceIndices lo hi 1 z.length).filterMap (z.cps[·]?)=(z.cps.toList.drop (HT.sIx z.length 0 lo)).take (HT.sIx z.length z.length hi-HT.sIx z.length 0 lo):=by
  rw[jks,pick_run]
 unfold Txt.slice cutS
 split
 ·rename_i h
  have h2:((Builtin.Str.strSliceIndices lo hi 1 z.length).length == z.length)=true:=by simpa using h
  have h3:(Builtin.Str.strSliceIndices lo hi 1 z.length).length=z.length:=eq_of_beq h2
  rw[jks,Ae,List.length_range]at h3
  have hl:z.cps.toList.length=z.length:=by simp[Str.length]
  have q:((z.cps.toList.drop (HT.sIx z.length 0 lo)).take (HT.sIx z.length z.length hi-HT.sIx z.length 0 lo))=z.cps.toList:=by
   have hb:HT.sIx z.length z.length hi<=z.length:=by
    cases hi with
    |none=>exact Af _
    |some v=>simp only[HT.sIx];split <;> omega
   by_cases h0:z.length=0
   ·have:z.cps.toList=[]:=List.length_eq_zero_iff.mp (by omega)
    rw[this];simp
   ·have ha:HT.sIx z.length 0 lo=0:=by omega
    rw[h3,ha,List.drop_zero]
    exact Iv (by omega)
  rw[q]
 ·rw[e]
def rSlS:V->Option Int->Option Int->Hp->VK->Prop:=λx lo hi H Q=>∃z,x=.str z/\z.length<=sizeLine/\Q (.str (cutS z lo hi)) H
theorem sl_str:SlR X rSlS:=by
 intro pins s σ H x v vl vu lo hi sl Q I rx hs pl pu h
 obtain⟨z,rfl,hz,q⟩:=h
 obtain⟨t,rfl⟩:=rx
 have gen:∀(l u:Option (Int×Tok)),vl=partValue l->vu=partValue u->lo=l.map (·.1)->hi=u.map (·.1) ->
   wpAny (model X.prog X.w) X.A (getItem (.str z t) (.ref sl)) (EP X pins σ Q) X.xe s:=by
  intro l u e1 e2 e3 e4
  subst e1 e2 e3 e4
  refine wpAny_getItem_str_slice (l:=l) (u:=u) (st:=none) hs (by rfl) ?_
  have e:(if((((none:Option (Int×Tok)).map (·.1)).getD 1 == 1 && (slicePicked z l u none).length == z.length)=true)then z else⟨((slicePicked z l u none).filterMap (z.cps[·]?)).toArray⟩)=cutS z (l.map (·.1)) (u.map (·.1)):=by
   rw[<-jlg];rfl
  refine post_val_or_str ⟨?_,λt' c=>⟨.str (cutS z (l.map (·.1)) (u.map (·.1))),H,I.tok c,⟨t',O0 (Value.str · t') e⟩,q⟩⟩
  rw[e,<-jlg]
  exact Ib (Txt.slice_le _ _ _) hz
 refine⟨"str",_,F.slot_str_getitem.lookup,typeIs_str _ _ _,?_⟩
 cases pl with
 |none=>cases pu with
  |none=>exact gen none none rfl rfl rfl rfl
  |int j tj=>exact gen none (some (j,tj)) rfl rfl rfl rfl
 |int i ti=>cases pu with
  |none=>exact gen (some (i,ti)) none rfl rfl rfl rfl
  |int j tj=>exact gen (some (i,ti)) (some (j,tj)) rfl rfl rfl rfl
def jlf(sc:Scope)(N:List Str)(scope:Scope)(Nc:List Str)(js:List (Option Nat)):Bool :=
 (scope.kind == .function) && scope.names.all (λy=>!(y.2 == .cell)) && scope.names.all (λy=>!(y.2 == .local) || scope.names.lookup y.1 == some .local) &&
 scope.names.all (λy=>!(y.2 == .free) || ((sc.names.lookup y.1 == some .cell || sc.names.lookup y.1 == some .free) && !(scope.names.lookup y.1 == some .local))) && (js.length == Nc.length) &&
 (List.range js.length).all (λi=>match js[i]? with
  |some (some j)=>(N[j]? == Nc[i]?) && (match Nc[i]? with|some x=>scope.names.any (λy=>y.1 == x && y.2 == .free)|none=>true)
  |_=>true)
theorem jd1{sc scope:Scope}{N Nc:List Str}{js:List (Option Nat)}(hd:jlf sc N scope Nc js=true)(hsc:X.env.scope=sc:=by rfl)(hN:X.N=N:=by rfl):CompOk X scope Nc js:=by
 simp only[jlf,Od,List.all_eq_true,Bool.or_eq_true,Bool.not_eq_true',Uk,Ud]at hd
 obtain⟨⟨⟨⟨⟨h1,h2⟩,h3⟩,h4⟩,h5⟩,h6⟩:=hd
 have kk:∀x,X.env.kindOf x=sc.names.lookup x:=λx=>by rw[<-hsc];rfl
 refine⟨h1,λy hy e=>?_,λy hy e=>?_,λy hy e=>?_,h5,λx hx=>?_,λi j x e1 e2=>?_⟩
 ·have:=h2 y hy
  rw[e]at this;cases this
 ·rcases h3 y hy with q|q
  ·rw[e]at q;cases q
  ·exact q
 ·rcases h4 y hy with q|q
  ·rw[e]at q;cases q
  ·rw[kk]
   exact q.1
 ·rcases h4 _ hx with q|q
  ·cases q
  ·intro z
   have q2:=q.2
   rw[z]at q2
   cases q2
 ·have hi:i<js.length:=(Ai.mp e1).1
  have q:=h6 i hi
  rw[e1,e2]at q
  simp only[Od,Uk,List.any_eq_true]at q
  refine⟨by rw[hN];exact q.1,?_⟩
  obtain⟨y,hy,hy1,hy2⟩:=q.2
  obtain⟨a,b⟩:=y
  simp only at hy1 hy2
  subst hy1 hy2
  exact hy
end
def ItT(n:Nat)(vals:Nat->List V):It:=⟨λi _=>i<n,λi H x H'=>∃T,H T=none/\x=.ref T/\H'=upd H T (.tup (vals i)),λi _=>i=n⟩
theorem Inv.turnedNew{X:Cx}{pins:List (Addr×Obj)}{σ:L2.St}{H:Hp}{s:Shared}{h':Heap}{t':Nat}{fp wr:List Addr}{T:Addr}{xs:List V}{vs:List Value}(I:Inv X pins σ H s)(hf:∀b∈wr,FpOk X pins H b)
  (k:∀b o,b∉wr->s.heap.get? b=some o->h'.get? b=some o) (hT:s.heap.objs.size<=T) (tup:IsTup h' T vs.toArray) (r:Vals xs vs) (hz:xs.length<=sizeLine) (there:∀b∈wr,∃o,h'.get? b=some o) :
  Inv X pins σ (upd H T (.tup xs)) {s with heap:=h',toks:=t'}:=by
 have neT:∀b u,H b=some u->b≠T:=λb u e=>Ar (Aq (I.hok.lt e) hT)
 have nw:∀b u,H b=some u->b∉wr:=λb u e hb=>by rw[(hf b hb).1]at e;cases e
 refine I.step (g':=s.gens) (d':=s.drawn) (ch:=wr) (λb hb=>?_) (λb o _ _ hc e _=>k b o hc e) (λb o _ _ hc e _=>⟨o.slots,k b o hc e⟩) (λb o hc e n=>?_) (λb o hc e=>⟨o,k b o hc e⟩)
  (λb ys e=>by rw[jd (neT b _ e)];exact e) (λb o u e=>by rw[jd (neT b _ e)];exact e) (λb ps e=>⟨#[],by rw[jd (neT b _ e),e];simp⟩) (λm hm=>?_) (λb u e=>?_) I.bare
 ·obtain⟨_,f1,_,f3,f4,f5⟩:=hf b hb
  exact⟨f3,f1,f4,f5⟩
 ·rw[jd (Ar (Aq (Ah e) hT))];exact n
 ·obtain⟨o,es,ep,ho,rr⟩:=hm
  exact⟨o,es,ep,k _ o (λz=>(hf _ z).2.1 rfl) ho,rr⟩
 ·by_cases hb:b=T
  ·subst hb
   rw[jc]at e
   cases e
   exact⟨hz,vs,r,tup⟩
  ·rw[jd hb]at e
   refine(I.hok b u e).stay (λd v hd q=>k d v ?_ q) (λd q=>by rw[jd (neT d _ q)];exact q) λd ys q=>by rw[jd (neT d _ q)];exact q
   rcases hd with rfl|hd
   ·exact nw _ _ e
   ·exact nw _ _ hd
theorem jqd{P:Program}{w:World}{K:PySem.W.Frag}{elts:List Expr}{kk:Nat}{pos:Pos}{it:Addr}{fp wr:List Addr}{n:Nat}{Pt:Nat->Array Value->Prop}{St:Nat->Heap->Prop}{Mid:Nat->Addr->Heap->Prop}{vals:Nat->List V}
  (W:∀A:Around,A.handled=none->WalksT P w A it fp wr n Pt St Mid) (hI:it∈fp) (obj:∀i h,St i h->∀b∈fp,∃o,h.get? b=some o/\∀v,o.data≠.cell v)
  (hself:∀(A:Around)(i:Nat)(s:Shared)(Q:Value->Shared->Prop)(E:Value->Shared->Prop),St i s.heap->Q (.ref it) s->wpAny (model P w) A (pyIter (.ref it)) Q E s)
  (hv:∀i vs,Pt i vs->Vals (vals i) vs.toList) (hz:∀i,(vals i).length<=sizeLine):Turn P w K (.Tuple elts kk pos) (ItT n vals) fp it St where
 mem:=hI
 obj:=obj
 keep:=λi h h' st k=>by
  obtain⟨A,hA⟩:∃A:Around,A.handled=none:=⟨callerA,rfl⟩
  exact(W A hA).frame i h h' st k
 item:=by
  intro X hP hw hK hc i pins s σ H E I hf st hg
  subst hP hw hK
  have WA:=W X.A (I.ok.hd hc)
  refine WA.item i s _ _ hg st λT vs h' tk hp hT htup mid kk'=>⟨_,rfl,?_⟩
  have nTw:=WA.apart _ _ _ mid
  refine WA.go _ _ _ i T {s with heap:=h',toks:=tk} _ _ mid λh'' st'' k''=>?_
  have fw:∀b∈wr,FpOk X pins H b:=λb hb=>hf b (WA.sub b hb)
  have tup':IsTup h'' T vs:=by
   obtain⟨o,e,r⟩:=htup
   exact⟨o,k'' T o nTw e,r⟩
  refine⟨.ref T,upd H T (.tup (vals i)),?_,rfl,⟨T,I.hok.fresh hT,rfl,rfl⟩,st'',λb hb=>?_⟩
  ·exact I.turnedNew (fp:=fp) fw (λb o hb e=>k'' b o hb (kk' b o hb e)) hT (by simpa using tup') (hv i vs hp) (hz i) λb hb=>let⟨o,e,_⟩:=obj _ _ st'' b (WA.sub b hb);⟨o,e⟩
  ·have hlt:b<s.heap.objs.size:=by
    obtain⟨o,e,_⟩:=obj _ _ st b hb
    exact Ah e
   rw[jd (Ar (Aq hlt hT))]
   exact(hf b hb).1
 done:=by
  intro X hP hw hK hc i pins s σ H E I hf st hg
  subst hP hw hK
  have hi:i=n:=hg
  subst hi
  have WA:=W X.A (I.ok.hd hc)
  refine WA.done s _ _ st λh' tk kk'=>⟨rfl,?_⟩
  have fw:∀b∈wr,FpOk X pins H b:=λb hb=>hf b (WA.sub b hb)
  have nw:∀b u,H b=some u->b∉wr:=λb u e hb=>by rw[(fw b hb).1]at e;cases e
  refine I.step (g':=s.gens) (d':=s.drawn) (ch:=wr) (λb hb=>?_) (λb o _ _ hc e _=>kk' b o hc e) (λb o _ _ hc e _=>⟨o.slots,kk' b o hc e⟩) (λb o hc e n=>n) (λb o hc e=>⟨o,kk' b o hc e⟩)
   (λ_ _ e=>e) (λ_ _ _ e=>e) (λb ps e=>⟨#[],by rw[e];simp⟩) (λm hm=>?_) (λb u e=>?_) I.bare
  ·obtain⟨_,f1,_,f3,f4,f5⟩:=fw b hb
   exact⟨f3,f1,f4,f5⟩
  ·obtain⟨o,es,ep,ho,rr⟩:=hm
   exact⟨o,es,ep,kk' _ o (λz=>(fw _ z).2.1 rfl) ho,rr⟩
  ·refine(I.hok b u e).stay (λd v hd q=>kk' d v ?_ q) (λ_ q=>q) λ_ _ q=>q
   rcases hd with rfl|hd
   ·exact nw _ _ e
   ·exact nw _ _ hd
 self:=hself
theorem jnn{n:Nat}{vals:Nat->List V}{g:TG}{tb:TS}{D:Ends}{σ:L2.St}{H:Hp}(Pv:Nat->L2.St->Hp->Prop)(h0:Pv 0 σ H)
  (hs:∀i σ H T,i<n->Pv i σ H->H T=none->g (.ref T) σ (upd H T (.tup (vals i))) λσ2 H2=>tb {D with nx:=Pv (i+1),ct:=Pv (i+1),bk:=D.nx} σ2 H2) (hd:∀σ H,Pv n σ H->D.nx σ H):jc4 (ItT n vals) g tb D σ H:=by
 refine⟨λi m σ H=>m=n-i/\i<=n/\Pv i σ H,⟨n,by simp,Ia _,h0⟩,?_⟩
 rintro i m σ H ⟨rfl,hi,p⟩
 by_cases hlt:i<n
 ·refine .inr ⟨hlt,Pv (i+1),λσ' H' p'=>⟨n-(i+1),by omega,rfl,hlt,p'⟩,λx H' y=>?_⟩
  obtain⟨T,hT,e1,e2⟩:=y
  subst e1 e2
  exact hs i σ H T hlt p hT
 ·have e:i=n:=by omega
  subst e
  exact .inl ⟨rfl,hd σ H p⟩
def jd3(z:Str)(i:Nat):List V:=[.int (i:Int),.str ⟨#[z.cps.toList.getD i 0]⟩]
section
variable{X:Cx}
def jgy(ta:TA):TI:=λσ H R=>ta σ H λvs H1=>∃z,vs=[.str z]/\R (ItT z.length (jd3 z)) H1
theorem jmw{P:Program}{w:World}{K:PySem.W.Frag}{elts:List Expr}{kk:Nat}{pos:Pos}(z:Str)(t:Tok)(e it:Addr)(ne:e≠it) :
  Turn P w K (.Tuple elts kk pos) (ItT z.length (jd3 z)) [e,it] e (λi h=>(∃old,IsEnum h e it i old)/\h.IsStrIter it (strIterType z) z t i):=by
 have D:∀A:Around,A.handled=none->Draws P w A.in1 it [it] z.cps.size (λi v=>∃c u,z.cps[i]?=some c/\v=.str ⟨#[c]⟩ u) (λi h=>h.IsStrIter it (strIterType z) z t i):=λA hA=>by
  unfold strIterType
  split
  ·exact Draws.strAscii (A:=A.in1) (show A.in1.handled=none from hA) it z t
  ·exact Draws.strWide (A:=A.in1) (show A.in1.handled=none from hA) it z t
 refine jqd (wr:=[e,it]) (λA hA=>WalksT.enumerateD (D A hA) e ne (by simpa using ne) (by simp)) (by simp) (λi h st b hb=>?_) (λA i s Q E st q=>?_) (λi vs hp=>?_) (λi=>by show 2<=sizeLine;decide)
 ·obtain⟨⟨old,he⟩,⟨o,ho,hc,hd⟩⟩:=st
  rcases Aw.mp hb with rfl|hb
  ·exact⟨_,he,λv z=>by cases z⟩
  ·rw[Ak.mp hb]
   exact⟨o,ho,λv z=>by rw[hd]at z;cases z⟩
 ·obtain⟨⟨old,he⟩,_⟩:=st
  exact Uz he q
 ·obtain⟨t',x,⟨c,u,hc,rfl⟩,rfl⟩:=hp
  have e1:z.cps.toList.getD i 0=c:=by
   have:z.cps.toList[i]?=some c:=by simpa using hc
   rw[Ag,this];rfl
  refine .cons ⟨t',rfl⟩ (.cons ⟨u,?_⟩ .nil)
  rw[e1]
theorem pi_enumerate{a:Expr}{ta:TA}{p pos tpos:Pos}{elts:List Expr}{kk:Nat}(hg:Gl X "enumerate")(hm:X.mg "enumerate"=none)(ha:PA X [a] ta)(hs:starEach [a] X.env=[(false,eval a X.env)]:=by rfl) :
  PI X (.Tuple elts kk tpos) (.Call (.Name "enumerate" p) [a] [] pos) (jgy ta):=by
 intro pins s σ H R I h
 refine Call_ (jdt I hg hm ja8 (Ij (thn (ha pos pins s σ H _ I h) λus s1 ⟨vs,H1,I1,r1,q1⟩=>?_) hs rfl))
 obtain⟨z,e,q⟩:=q1
 subst e
 obtain⟨u,rfl,t,rfl⟩:=jdq r1
 refine call_enumerate_str λh' he hi hz hk=>?_
 have I2:Inv X pins σ H1 {s1 with heap:=h'}:=I1.kept (t':=s1.toks) hk
 refine Uz he ⟨s1.heap.objs.size+1,[s1.heap.objs.size+1,s1.heap.objs.size],_,_,H1,rfl,I2,jmw z t (s1.heap.objs.size+1) s1.heap.objs.size (Nat.succ_ne_self _),⟨⟨.none,he⟩,hi⟩,λb hb=>?_,q⟩
 have hb':s1.heap.objs.size<=b:=by
  rcases Aw.mp hb with rfl|hb
  ·omega
  ·rw[Ak.mp hb];exact Af _
 obtain⟨f0,f1,f2,f3,f4,f5⟩:=I1.fpOk (H':=H1) hb' (I1.hok.fresh hb')
 exact⟨f0,f1,f2,f3,f4,f5⟩
end
section
variable{X:Cx}
theorem jqe{xs:List V}{us:List Value}(hl:xs.length=us.length)(h:∀(i:Nat) (x:V) (u:Value),xs[i]?=some x->us[i]?=some u->RelV x u):Vals xs us:=by
 induction xs generalizing us with
 |nil=>cases us with
  |nil=>exact .nil
  |cons _ _=>simp at hl
 |cons x xs ih=>cases us with
  |nil=>simp at hl
  |cons u us=>exact .cons (h 0 x u rfl rfl) (ih (by simpa using hl) λi a b e1 e2=>h (i+1) a b (by simpa using e1) (by simpa using e2))
def rAddW:R2:=λx y H Q=>match x,y with
 |.int i,.int j=>Q (.int (i+j)) H
 |.str i,.str j=>i.length+j.length<=sizeLine/\Q (.str (i++j)) H
 |.ref l,.ref b=>(∃xs zs,jcp (H l)=some xs/\jcp (H b)=some zs/\xs.length+zs.length<=sizeLine/\∀p,H p=none->Q (.ref p) (upd H p (.lst (xs++zs)))) \/
   (∃xs zs,jf2 (H l)=some xs/\jf2 (H b)=some zs/\xs≠[]/\zs≠[]/\xs.length+zs.length<=sizeLine/\∀p,H p=none->Q (.ref p) (upd H p (.tup (xs++zs))))
 |_,_=>False
theorem jx:OpR X (binaryOp .Add) rAddW:=by
 intro pins s σ H x y v u Q I rx ry h
 cases x with
 |int i=>cases y with
  |int j=>exact op_add pins s σ H _ _ v u Q I rx ry ⟨i,j,rfl,rfl,h⟩
  |_=>exact False.elim h
 |str i=>cases y with
  |str j=>exact op_add_str pins s σ H _ _ v u Q I rx ry ⟨i,j,rfl,rfl,h⟩
  |_=>exact False.elim h
 |ref l=>cases y with
  |ref b =>
   rcases h with⟨xs,zs,e1,e2,h⟩|⟨xs,zs,e1,e2,n1,n2,hz,h⟩
   ·exact op_cat pins s σ H _ _ v u Q I rx ry ⟨l,b,xs,zs,rfl,rfl,jcu e1,jcu e2,h⟩
   ·exact op_catT pins s σ H _ _ v u Q I rx ry ⟨l,b,xs,zs,rfl,rfl,SqT.of (jgj e1),SqT.of (jgj e2),n1,hz,λz=>absurd z n2,λ_=>h⟩
  |_=>exact False.elim h
 |_=>exact False.elim h
theorem jfi(H:Hp)(Q:VK)(i j:Int):rAddW (.int i) (.int j) H Q=(Q (.int (i+j)) H):=rfl
theorem jd2(H:Hp)(Q:VK)(i j:Str):rAddW (.str i) (.str j) H Q=(i.length+j.length<=sizeLine/\Q (.str (i++j)) H):=rfl
theorem rAddW.lst{H:Hp}{Q:VK}{l b:Addr}{xs zs:List V}(e1:H l=some (.lst xs))(e2:H b=some (.lst zs))(hz:xs.length+zs.length<=sizeLine)
  (h:∀p,H p=none->Q (.ref p) (upd H p (.lst (xs++zs)))):rAddW (.ref l) (.ref b) H Q:=.inl ⟨xs,zs,by rw[e1];rfl,by rw[e2];rfl,hz,h⟩
end
section
variable{X:Cx}
def rSlU(K:PySem.W.Frag):V->Option Int->Option Int->Hp->VK->Prop:=λx lo hi H Q=>match x with
 |.str z=>z.length<=sizeLine/\Q (.str (cutS z lo hi)) H
 |.ref a=>(∃xs,SqL K H a xs/\∀p,H p=none->Q (.ref p) (upd H p (.lst (cutV xs lo hi)))) \/
   ∃xs,SqT K H a xs/\¬(HT.sIx xs.length 0 lo=0/\HT.sIx xs.length xs.length hi=xs.length)/\∀p,H p=none->Q (.ref p) (upd H p (.tup (cutV xs lo hi)))
 |_=>False
theorem sl_U:SlR X (rSlU X.K):=by
 intro pins s σ H x v vl vu lo hi sl Q I rx hs pl pu h
 unfold rSlU at h
 split at h
 ·rename_i z
  exact sl_str pins s σ H (.str z) v vl vu lo hi sl Q I rx hs pl pu ⟨z,rfl,h⟩
 ·rename_i a
  rcases h with⟨xs,hx,q⟩|⟨xs,hx,nw,q⟩
  ·exact sl_list pins s σ H (.ref a) v vl vu lo hi sl Q I rx hs pl pu ⟨a,xs,rfl,hx,q⟩
  ·exact sl_tup pins s σ H (.ref a) v vl vu lo hi sl Q I rx hs pl pu ⟨a,xs,rfl,hx,nw,q⟩
 ·exact h.elim
theorem jkm(K:PySem.W.Frag)(H:Hp)(Q:VK)(z:Str)(lo hi:Option Int):rSlU K (.str z) lo hi H Q=(z.length<=sizeLine/\Q (.str (cutS z lo hi)) H):=rfl
theorem rSlU.sq{K:PySem.W.Frag}{H:Hp}{Q:VK}{a:Addr}{xs:List V}{lo hi:Option Int}(e:SqL K H a xs)(h:∀p,H p=none->Q (.ref p) (upd H p (.lst (cutV xs lo hi)))):rSlU K (.ref a) lo hi H Q:=.inl ⟨xs,e,h⟩
theorem rSlU.tup{K:PySem.W.Frag}{H:Hp}{Q:VK}{a:Addr}{xs:List V}{lo hi:Option Int}(e:H a=some (.tup xs))(nw:¬(HT.sIx xs.length 0 lo=0/\HT.sIx xs.length xs.length hi=xs.length))(h:∀p,H p=none->Q (.ref p) (upd H p (.tup (cutV xs lo hi)))):rSlU K (.ref a) lo hi H Q:=.inr ⟨xs,SqT.of e,nw,h⟩
end
section
variable{X:Cx}
def hasS(z y:Str):Bool:=!(Builtin.Str.occurrences z y 0 z.length 1).isEmpty
def rInU(K:PySem.W.Frag)(neg:Bool):R2:=λx y H Q=>match x,y with
 |.str i,.str j=>Q (.bl (if neg then !hasS j i else hasS j i)) H
 |x,.ref p=>∃xs,(SqL K H p xs\/SqT K H p xs)/\jdo x=true/\xs.all jdo=true/\Q (.bl (if neg then !inV x xs else inV x xs)) H
 |_,_=>False
theorem jkd(K:PySem.W.Frag)(neg:Bool)(H:Hp)(Q:VK)(i j:Str):rInU K neg (.str i) (.str j) H Q=Q (.bl (if neg then !hasS j i else hasS j i)) H:=rfl
theorem jce{K:PySem.W.Frag}(hK:X.K=K):OpR X (compareOp .In) (rInU K false):=by
 subst hK
 intro pins s σ H x y v u Q I rx ry h
 unfold rInU at h
 split at h
 ·rename_i i j
  exact op_in_str pins s σ H _ _ v u Q I rx ry ⟨i,j,rfl,rfl,h⟩
 ·rename_i p
  obtain⟨xs,h⟩:=h
  exact op_in_seq pins s σ H _ _ v u Q I rx ry ⟨p,xs,rfl,h⟩
 ·exact h.elim
theorem jbq{K:PySem.W.Frag}(hK:X.K=K):OpR X (compareOp .NotIn) (rInU K true):=by
 subst hK
 intro pins s σ H x y v u Q I rx ry h
 unfold rInU at h
 split at h
 ·rename_i i j
  exact op_notIn_str pins s σ H _ _ v u Q I rx ry ⟨i,j,rfl,rfl,h⟩
 ·rename_i p
  obtain⟨xs,h⟩:=h
  exact op_notIn_seq pins s σ H _ _ v u Q I rx ry ⟨p,xs,rfl,h⟩
 ·exact h.elim
theorem jge(z:Str)(c:Nat):hasS z ⟨#[c]⟩=decide (c∈z.cps.toList):=PySem.StrLaws.found_one z c
theorem rInU.tupS{K:PySem.W.Frag}{neg:Bool}{H:Hp}{Q:VK}{x:V}{p:Addr}{xs:List V}(e:SqT K H p xs)(fx:jdo x=true)(fs:xs.all jdo=true)(q:Q (.bl (if neg then !inV x xs else inV x xs)) H):rInU K neg x (.ref p) H Q:=by
 cases x <;> exact⟨xs,.inr e,fx,fs,q⟩
theorem jpo{s:Shared}{h':Heap}{o:Obj}(hk:∀b x,b∉[s.heap.objs.size]->(s.heap.push o).get? b=some x->h'.get? b=some x):∀b x,s.heap.get? b=some x->h'.get? b=some x :=
 λb x e=>hk b x (λhm=>by rw[Ak.mp hm]at e;exact Oj _ (Ah e)) (Ac _ e)
end
theorem jju{H:Hp}{D:Addr}{a b:HO}:upd (upd H D a) D b=upd H D b:=jf5
section
variable{D:Addr}{te:TE}{E:Ends}{r:L2.St}{H:Hp}
theorem jm4{K:PySem.W.Frag}{a:Addr}{xs:List V}(f:V->V)(ha:H a=some (.lst xs))(hD:H D=none)(hz:xs.length<=sizeLine)(he:∀x∈xs,∀l Q,Q (f x) (upd H D (.lst l))->te (some x::r) (upd H D (.lst l)) Q)
  (hn:∀v,E.nx (v::r) (upd H D (.lst (xs.map f)))):jc4 (Itl K a) (jdi 0) (jhl D te) E (none::r) (upd H D (.lst [])):=by
 have ne:a≠D:=jh ha hD
 refine jih (xs:=xs) (λi σ H'=>∃v:Option V,σ=v::r/\H'=upd H D (.lst ((xs.take i).map f))) ⟨none,rfl,rfl⟩ ?_ ?_ ?_
 ·rintro i σ H' _ ⟨v,_,rfl⟩
  rw[jd ne];exact ha
 ·rintro i x σ H' hx ⟨v,rfl,rfl⟩
  have hl:i<xs.length:=(Ai.mp hx).1
  refine he x (A6 hx) _ _ ⟨_,by rw[jc];rfl,by simp;omega,some x,rfl,?_⟩
  rw[jju,Oz,hx]
  simp
 ·rintro σ H' ⟨v,rfl,rfl⟩
  rw[Iv (Af _)]
  exact hn v
theorem jn3{K:PySem.W.Frag}{a:Addr}{xs:List V}(f:V->V)(ha:H a=some (.tup xs))(hD:H D=none)(hz:xs.length<=sizeLine)(he:∀x∈xs,∀l Q,Q (f x) (upd H D (.lst l))->te (some x::r) (upd H D (.lst l)) Q)
  (hn:∀v,E.nx (v::r) (upd H D (.lst (xs.map f)))):jc4 (Itt K a) (jdi 0) (jhl D te) E (none::r) (upd H D (.lst [])):=by
 have ne:a≠D:=jh ha hD
 refine jgh (xs:=xs) (λi σ H'=>∃v:Option V,σ=v::r/\H'=upd H D (.lst ((xs.take i).map f))) ⟨none,rfl,rfl⟩ ?_ ?_ ?_
 ·rintro i σ H' _ ⟨v,_,rfl⟩
  rw[jd ne];exact ha
 ·rintro i x σ H' hx ⟨v,rfl,rfl⟩
  have hl:i<xs.length:=(Ai.mp hx).1
  refine he x (A6 hx) _ _ ⟨_,by rw[jc];rfl,by simp;omega,some x,rfl,?_⟩
  rw[jju,Oz,hx]
  simp
 ·rintro σ H' ⟨v,rfl,rfl⟩
  rw[Iv (Af _)]
  exact hn v
end
end L2
set_option autoImplicit true
set_option relaxedAutoImplicit true
namespace L2
open PySem PySem.Spec PyProof.Rows
structure QE(X:Cx)(e:Expr)(t:TE):Prop where
 h:PE X e t
structure QT(X:Cx)(e:Expr)(t:TT):Prop where
 h:PT X e t
structure QW(X:Cx)(e:Expr)(t:TT):Prop where
 h:PW X e t
structure QA(X:Cx)(es:List Expr)(t:TA):Prop where
 h:PA X es t
structure QS(X:Cx)(st:Stmt)(t:TS):Prop where
 h:PS X st t
structure QSs(X:Cx)(st:List Stmt)(t:TS):Prop where
 h:PSs X st t
structure QG(X:Cx)(e:Expr)(t:TG):Prop where
 h:PG X e t
structure QGs(X:Cx)(es:List Expr)(t:TGs):Prop where
 h:PGs X es t
structure QI(X:Cx)(tg iter:Expr)(wi:TI):Prop where
 h:PI X tg iter wi
structure QO(X:Cx)(e:Option Expr)(t:TO):Prop where
 h:PO X e t
structure QC(X:Cx)(op:CmpOp)(a b:Expr)(t:TE):Prop where
 h:PC X op a b t
theorem j7:QSs X [] jjo:=⟨pss_nil⟩
theorem jg(h1:QS X stm t):QSs X [stm] t:=⟨pss_one h1.h⟩
theorem je(h1:QS X stm t)(h2:QSs X rst u):QSs X (stm::rst) (tSeq t u):=⟨pss_cons h1.h h2.h⟩
theorem qpv(i:Nat){x:Str}{pos:Pos}(hN:X.N[i]?=some x:=by rfl)(hv:Vis X.env.scope x:=by first|exact Or.inl rfl|exact Or.inr (Or.inl rfl)|exact Or.inr (Or.inr rfl))
  (hd:(x == ("__debug__":Str))=false:=by decide) (hcd:(x == ("__classdict__":Str))=false:=by decide):QE X (.Name x pos) (tVar i):=⟨pv i hN hv hd hcd⟩
theorem jf:QE X (.Constant (.int i) j pos) (tC (.int i)):=⟨pe_int⟩
theorem zu:QE X (.Constant (.bool b) j pos) (tC (.bl b)):=⟨pe_bl⟩
theorem jj:QE X (.Constant (.str x) j pos) (tC (.str x)):=⟨pe_str⟩
theorem j8{x:Str}{v:V}{u:Value}{pos:Pos}(hg:Gl X x)(hm:X.mg x=some u)(r:RelV v u)(hd:(x == ("__debug__":Str))=false:=by decide):QE X (.Name x pos) (tC v):=⟨pe_glob hg hm r hd⟩
theorem zo{x:Str}{v:V}{u:Value}{pos:Pos}(hg:Gl X x)(hm:X.mg x=none)(hv:bootBuiltins x=some u)(r:RelV v u)(hn:x≠"__name__":=by decide)(hd:(x == ("__debug__":Str))=false:=by decide) :
  QE X (.Name x pos) (tC v):=⟨pe_bltn hg hm hv r hn hd⟩
theorem jn(ho:OpR X (binaryOp op) r)(ha:QE X a ta)(hb:QE X b tb):QE X (.BinOp a op b pos) (tOp r ta tb):=⟨pe_op ho ha.h hb.h⟩
theorem ja2(ha:QE X a ta):QE X (.UnaryOp .Not a pos) (jjp ta):=⟨pe_not ha.h⟩
theorem jau(ho:UnR X (unaryOp op) r)(ha:QE X a ta):QE X (.UnaryOp op a pos) (tUn r ta):=⟨pe_un ho ha.h⟩
theorem zx(ho:OpR X (compareOp op) r)(ha:QE X a ta)(hb:QE X b tb)(hm:behindInMarks op b=false):QE X (.Compare a [op] [b] pos) (tOp r ta tb):=⟨pe_cmpR ho ha.h hb.h hm⟩
theorem jq(ho:OpR X (compareOp op) r)(ha:QE X a ta)(hb:QE X b tb)(hm:behindInMarks op b=false):QT X (.Compare a [op] [b] pos) (jjr (tOp r ta tb)):=⟨pt_cmpR ho ha.h hb.h hm⟩
theorem qpe_chain(ho:OpR X (compareOp op) r)(ho':OpR X (compareOp op') r')(ha:QE X a ta)(hb:QE X b tb)(hc:QE X c tc)(hm:lastMarks [op,op'] [b,c]=false:=by with_unfolding_all rfl) :
  QE X (.Compare a [op,op'] [b,c] pos) (jhh r r' ta tb tc):=⟨pe_chain ho ho' ha.h hb.h hc.h hm⟩
theorem jbo(h:QC X op a b t)(h1:behindInMarks op b=false:=by first|exact nobehind _ (by decide) (by decide)|rfl):QT X (.Compare a [op] [b] pos) (tB t):=⟨pt_cmp h.h h1⟩
theorem qpc_dnotin(hu:X.A.units+1<cLine)(hi:QE X i ty)(ho:QE X o td):QC X .NotIn i o (jfz ty td):=⟨pc_dnotin hu hi.h ho.h⟩
theorem jar(ha:QT X a tA):QT X (.UnaryOp .Not a pos) (tNot tA):=⟨pt_not ha.h⟩
theorem QW.pt(h:QW X e t):QT X e t:=⟨PW.pt h.h⟩
theorem jca(ha:QT X a tA)(hb:QW X (.BoolOp .And (b::rst) pos) tB'):QW X (.BoolOp .And (a::b::rst) pos) (tAnd tA tB'):=⟨pw_and ha.h hb.h⟩
theorem jav(ha:QT X a tA)(hb:QW X (.BoolOp .Or (b::rst) pos) tB'):QW X (.BoolOp .Or (a::b::rst) pos) (tOr tA tB'):=⟨pw_or ha.h hb.h⟩
theorem jb4(ha:QT X a tA):QW X (.BoolOp .And [a] pos) tA:=⟨pw_and1 ha.h⟩
theorem jas(ha:QT X a tA):QW X (.BoolOp .Or [a] pos) tA:=⟨pw_or1 ha.h⟩
theorem y0{e:Expr}(h:QE X e t)(he:∀whole,isTrue e X.env whole=(do let v <-whole;standAt e.pos;holding [v] (truthy v)):=by intro _;rfl):QT X e (tB t):=⟨pt_val h.h he⟩
theorem jai(h:QE X a t):QE X (.BoolOp op [a] pos) t:=⟨pe_one h.h⟩
theorem jag(ha:QE X a ta)(hb:QE X (.BoolOp .And (b::rst) pos) tb):QE X (.BoolOp .And (a::b::rst) pos) (jjc ta tb):=⟨pe_and ha.h hb.h⟩
theorem jcj(ha:QE X a ta)(hb:QE X (.BoolOp .Or (b::rst) pos) tb):QE X (.BoolOp .Or (a::b::rst) pos) (tOrV ta tb):=⟨pe_or ha.h hb.h⟩
theorem jbu(hc:QT X c tA)(ha:QE X a ta)(hb:QE X b tb):QE X (.IfExp c a b pos) (tIf tA ta tb):=⟨pe_ifExp hc.h ha.h hb.h⟩
theorem j6(h:QA X es t):QE X (.List es pos) (tLst t):=⟨pe_lst h.h⟩
theorem km(h:QA X es t):QE X (.Tuple es x1 pos) (tTup t):=⟨pe_tup h.h⟩
theorem y3(hr:SlR X r)(he:QE X e te)(hl:QO X lw tl)(hu:QO X hi th):QE X (.Subscript e (.Slice lw hi none p2) pos) (tSl r te tl th):=⟨pe_slice hr he.h hl.h hu.h⟩
theorem zp:QO X none jf1:=⟨po_none⟩
theorem zd(h:QE X e te):QO X (some e) (jjq te):=⟨po_some h.h⟩
theorem jv(hr:IxR X r)(ha:QE X a ta)(hb:QE X b tb)(hs:jla b):QE X (.Subscript a b pos) (tOp r ta tb):=⟨pe_ix hr ha.h hb.h hs⟩
theorem jbz(hc:X.calm=true)(c:CompOk X scope Nc js)(hi:QI X tg iter wi)(hg:∀C s3 H3 fp,QG (X.comp scope C Nc s3 H3 fp) tg g)(he:∀C s3 H3 fp,QE (X.comp scope C Nc s3 H3 fp) elt te)
  (hs:∀x,foldedSetIterable iter X.env x=pure x:=by intro _;rfl):QE X (.ListComp elt [⟨tg,iter,[],0⟩] scope pos) (jjf wi g js te):=⟨pe_comp hc c hi.h (λC s H f=>(hg C s H f).h) (λC s H f=>(he C s H f).h) hs⟩
theorem jk(F:FnOk X.prog X.w X.K X.mg X.base CX k f fd ps sp)(hr:Room k X.A)(hg:Gl X x)(hm:X.mg x=some (.ref f))(hk:PySem.W.keepIn X.K (.ref f)=true)(hb:Binds X.K fd ps ds)(hd:Vals dvs ds)(hx:jds CX X E)
  (ha:QA X (e::es) t) (hdb:(x == ("__debug__":Str))=false:=by decide) (he:starEach (e::es) X.env=(false,eval e X.env)::starEach es X.env:=by rfl) (hpl:(backTo pos (starEach es X.env)).any (·.1)=false:=by rfl) :
  QE X (.Call (.Name x p) (e::es) [] pos) (jje sp dvs E t):=⟨pe_call F hr hg hm hk hb hd hx ha.h hdb he hpl⟩
theorem yr(hc:jc1 X (.type T) r)(hg:Gl X x)(hm:X.mg x=none)(hv:bootBuiltins x=some (.type T))(ha:QA X (e::es) t)(hn:x≠"__name__":=by decide)(hdb:(x == ("__debug__":Str))=false:=by decide)
  (he:starEach (e::es) X.env=(false,eval e X.env)::starEach es X.env:=by rfl) (hpl:(backTo pos (starEach es X.env)).any (·.1)=false:=by rfl):QE X (.Call (.Name x p) (e::es) [] pos) (tCB r t):=⟨pe_callTy hc hg hm hv ha.h hn hdb he hpl⟩
theorem jr(hc:jc1 X (.builtin idn) r)(hg:Gl X x)(hm:X.mg x=none)(hv:bootBuiltins x=some (.builtin idn))(ha:QA X (e::es) t)(hn:x≠"__name__":=by decide)(hdb:(x == ("__debug__":Str))=false:=by decide)
  (he:starEach (e::es) X.env=(false,eval e X.env)::starEach es X.env:=by rfl) (hpl:(backTo pos (starEach es X.env)).any (·.1)=false:=by rfl):QE X (.Call (.Name x p) (e::es) [] pos) (tCB r t):=⟨pe_callB hc hg hm hv ha.h hn hdb he hpl⟩
theorem yb(slot:Slot "list" name idn)(hty:typeOf (.builtin idn)=pure (.type "method_descriptor"))(hm:MtM X idn r)(ho:QE X o to)(ha:QA X (e::es) t)(mono:∀σ H Q Q',(∀v H',Q v H'->Q' v H')->to σ H Q->to σ H Q')
  (hbase:attributeBase o name X.env (eval o X.env)=eval o X.env:=by rfl)
  (hfew:((backTo cpos (starEach (e::es) X.env)).all (λx=>!x.1) && (backToKw cpos (keywordEach [] X.env)).all (λx=>x.1.isSome)
   && decide ((e::es).length+([]:List Keyword).length+(if([]:List Keyword).isEmpty then 0 else 1)<30))=true:=by rfl)
  (hline:(apos.endLine == cpos.line)=true:=by rfl) (hs:starEach (e::es) X.env=(false,eval e X.env)::starEach es X.env:=by rfl) (hplain:(backTo cpos (starEach es X.env)).any (·.1)=false:=by rfl) :
  QE X (.Call (.Attribute o name apos) (e::es) [] cpos) (tBML r to t):=⟨pe_bmL slot hty hm ho.h ha.h mono hbase hfew hline hs hplain⟩
theorem jb7(slot:Slot "str" name idn)(hty:typeOf (.builtin idn)=pure (.type "method_descriptor"))(hm:MtM X idn r)(ho:QE X o to)(ha:QA X (e::es) t)(mono:∀σ H Q Q',(∀v H',Q v H'->Q' v H')->to σ H Q->to σ H Q')
  (hbase:attributeBase o name X.env (eval o X.env)=eval o X.env:=by rfl)
  (hfew:((backTo cpos (starEach (e::es) X.env)).all (λx=>!x.1) && (backToKw cpos (keywordEach [] X.env)).all (λx=>x.1.isSome)
   && decide ((e::es).length+([]:List Keyword).length+(if([]:List Keyword).isEmpty then 0 else 1)<30))=true:=by rfl)
  (hline:(apos.endLine == cpos.line)=true:=by rfl) (hs:starEach (e::es) X.env=(false,eval e X.env)::starEach es X.env:=by rfl) (hplain:(backTo cpos (starEach es X.env)).any (·.1)=false:=by rfl) :
  QE X (.Call (.Attribute o name apos) (e::es) [] cpos) (tBMS r to t):=⟨pe_bmS slot hty hm ho.h ha.h mono hbase hfew hline hs hplain⟩
theorem jah(slot:Slot "list" name idn)(hty:typeOf (.builtin idn)=pure (.type "method_descriptor"))(hm:MtM X idn r)(ho:QE X o to)(mono:∀σ H Q Q',(∀v H',Q v H'->Q' v H')->to σ H Q->to σ H Q')
  (hbase:attributeBase o name X.env (eval o X.env)=eval o X.env:=by rfl) (hline:(apos.endLine == cpos.line)=true:=by rfl):QE X (.Call (.Attribute o name apos) [] [] cpos) (jjd r to):=⟨pe_bmL0 slot hty hm ho.h mono hbase hline⟩
theorem jb:QA X [] tNil:=⟨jcg⟩
theorem ja(ha:QE X e te)(hr:QA X es t)(hs:starEach (e::es) X.env=(false,eval e X.env)::starEach es X.env:=by rfl):QA X (e::es) (jfy te t):=⟨jb6 ha.h hr.h hs⟩
theorem kj{i:Nat}{x:Str}(hN:X.N.Nodup)(hi:X.N[i]?=some x)(hx:Loc X.env.scope x)(hf:X.fn x=true\/X.env.scope.names.lookup x=some .local:=by first|exact .inl rfl|exact .inr rfl|assumption):QG X (.Name x pos) (jdi i):=⟨pg_name hN hi hx hf⟩
theorem jbn{es:List Expr}{t:TGs}{n:Nat}{K:PySem.W.Frag}(hc:X.calm=true)(h:QGs X es t)(hK:X.K=K)(hn:(assignEach es X.env).length=n:=by rfl)(hst:(assignEach es X.env).findIdx? (·.1)=none:=by rfl) :
  QG X (.Tuple es k pos) (gTup K n t):=by subst hK;exact⟨pg_tup hc h.h hn hst⟩
theorem jbf:QGs X [] gNil:=⟨pgs_nil⟩
theorem z4{e:Expr}{es:List Expr}(h1:QG X e t)(h2:QGs X es u)(hs:(assignEach (e::es) X.env).map (·.2)=assign e X.env::(assignEach es X.env).map (·.2):=by rfl):QGs X (e::es) (joy t u):=⟨pgs_cons h1.h h2.h hs⟩
theorem jb8{o i:Expr}(ho:QE X o to)(hi:QE X i ti)(hs:PSet X t)
  (ha:∀v,assign (.Subscript o i pos) X.env v=(do
   let ov <-holding [v] (eval o X.env)
   let iv <-holding [v,ov] (eval i X.env)
   standAt pos
   holding [v,ov,iv] (setItem ov iv v)
   release [v,ov,iv] []):=by intro _;rfl):QG X (.Subscript o i pos) (gSub to ti t):=⟨pg_sub ho.h hi.h hs ha⟩
theorem jm{i:Nat}{x:Str}{e:Expr}{te:TE}{pos':Pos}(hN:X.N.Nodup)(hi:X.N[i]?=some x)(hx:Loc X.env.scope x)(he:QE X e te)(hs:swapsWith e (some (.Name x pos')) pos.line X.env=pure false:=by rfl)
  (hf:X.fn x=true\/X.env.scope.names.lookup x=some .local:=by first|exact .inl rfl|exact .inr rfl|assumption):QS X (.Assign [.Name x pos'] e pos) (tAsg te (jdi i)):=⟨ps_set hN hi hx he.h hs hf⟩
theorem jb9{tg e:Expr}(he:QE X e te)(hg:QG X tg g)(hs:swapsWithSole [tg] e pos.line X.env=pure false:=by rfl)(hw:swappedStores [tg] e X.env=pure none:=by rfl)
  (h1:(assignEach [tg] X.env).map (·.2)=[assign tg X.env]:=by rfl):QS X (.Assign [tg] e pos) (tAsg te g):=⟨ps_asg he.h hg.h hs hw h1⟩
theorem qps_dput(hu:X.A.units+1<cLine)(ho:QE X o td)(hi:QE X i ty)(hv:QE X value tv)(hs:swapsWith value (some (.Subscript o i pos')) pos.line X.env=pure false) :
  QS X (.Assign [.Subscript o i pos'] value pos) (jjb td ty tv):=⟨ps_dput hu ho.h hi.h hv.h hs⟩
theorem jp(he:QE X e te):QS X (.Return (some e) pos) (tRet te):=⟨ps_ret he.h⟩
theorem jz(he:QE X e te)(hs:swapsWith e none pos.line X.env=pure false:=by rfl):QS X (.Expr e pos) (jjh te):=⟨ps_expr he.h hs⟩
theorem jy(hc:QT X c tc)(ha:QSs X a t)(hb:QSs X b u):QS X (.If c a b pos) (tIfS tc t u):=⟨ps_if hc.h ha.h hb.h⟩
theorem zm{iter:Expr}(hp:PassesOwn (model X.prog X.w) X.A X.env X.xe)(hc:X.calm=true)(hi:QI X tg iter wi)(hg:QG X tg g)(hb:QSs X body tb)(hs:∀x,foldedSetIterable iter X.env x=pure x:=by intro _;rfl) :
  QS X (.For tg iter body [] pos) (tFor wi g tb):=⟨ps_for hp hc hi.h hg.h hb.h hs⟩
theorem jaz(hp:PassesOwn (model X.prog X.w) X.A X.env X.xe)(hc:QT X c tc)(hb:QSs X body tb):QS X (.While c body [] pos) (jkt tc tb):=⟨ps_while hp hc.h hb.h⟩
theorem qps_continue:QS X (.Continue pos) jjg:=⟨ps_continue⟩
theorem jac{a:Expr}{ta:TA}{p pos:Pos}(hg:Gl X "range")(hm:X.mg "range"=none)(ha:QA X [a] ta)(hs:starEach [a] X.env=[(false,eval a X.env)]:=by rfl):QI X tg (.Call (.Name "range" p) [a] [] pos) (ji7 ta):=⟨pi_range1 hg hm ha.h hs⟩
theorem qpi_range2{a b:Expr}{ta:TA}{p pos:Pos}(hg:Gl X "range")(hm:X.mg "range"=none)(ha:QA X [a,b] ta)(hs:starEach [a,b] X.env=[(false,eval a X.env),(false,eval b X.env)]:=by rfl)(hs2:starEach [b] X.env=[(false,eval b X.env)]:=by rfl) :
  QI X tg (.Call (.Name "range" p) [a,b] [] pos) (ji8 ta):=⟨pi_range2 hg hm ha.h hs hs2⟩
theorem ja7{a:Expr}{ta:TA}{p pos tpos:Pos}(hg:Gl X "enumerate")(hm:X.mg "enumerate"=none)(ha:QA X [a] ta)(hs:starEach [a] X.env=[(false,eval a X.env)]:=by rfl) :
  QI X (.Tuple elts kk tpos) (.Call (.Name "enumerate" p) [a] [] pos) (jgy ta):=⟨pi_enumerate hg hm ha.h hs⟩
theorem jaq{K:PySem.W.Frag}(hl:QE X l tl)(hK:X.K=K):QI X tg l (iAny K tl):=by subst hK;exact⟨pi_any hl.h⟩
def jev(D:Addr)(tt:TT)(te:TE):TS:=λE σ H=>tt σ H λb H1=>if b=true then jhl D te E σ H1 else E.nx σ H1
def jd7(wi:TI)(g:TG)(js:List (Option Nat))(tt:TT)(te:TE):TE:=λσ H Q=>wi σ H λJ H1=>∀D,H1 D=none ->
 jc4 J g (jev D tt te) {nx:=λ_ H'=>Q (.ref D) H',rt:=λ_ _=>False} (jdl js σ) (upd H1 D (.lst []))
theorem jj1(elt target iter cd:Expr)(scope:Scope)(pos:Pos)(it acc:Value)(env:Env) :
  compTurn (.ListComp elt [⟨target,iter,[cd],0⟩] scope pos) 0 it acc env=(standAt iter.pos >>= λ_=>pyNext it >>= λr=>match r with
   |none=>pure (.done .next)
   |some v=>letOwnedTupleGo target it v >>= λ_=>assign target env v >>= λ_ =>
    (forIn [cd] true λc ok=>if ok=true then(isTrue c env (eval c env) >>= λb=>pure (ForInStep.yield b))else pure (ForInStep.yield ok)) >>= λok =>
    if ok=true then((eval elt env >>= λx=>call (.builtin "list.append") [acc,x] >>= λ_=>pure ()) >>= λ_=>again (.compLoop (.ListComp elt [⟨target,iter,[cd],0⟩] scope pos) 0 it acc env))
    else again (.compLoop (.ListComp elt [⟨target,iter,[cd],0⟩] scope pos) 0 it acc env)):=by rfl
section
variable{X:Cx}{scope:Scope}{Nc:List Str}{js:List (Option Nat)}{elt tg iter cd:Expr}{pos:Pos}{wi:TI}{g:TG}{te:TE}{tt:TT}
theorem jf6(hc:X.calm=true)(c:CompOk X scope Nc js)(hi:PI X tg iter wi)(hg:∀C s3 H3 fp,PG (X.comp scope C Nc s3 H3 fp) tg g)(ht:∀C s3 H3 fp,PT (X.comp scope C Nc s3 H3 fp) cd tt)(he:∀C s3 H3 fp,PE (X.comp scope C Nc s3 H3 fp) elt te)
  {pins:List (Addr×Obj)}{s:Shared}{σ:L2.St}{H:Hp} (I:Inv X pins σ H s) {RR:Value->Addr->Result->Shared->Prop}{NX:Addr->Hp->Prop}
  (h:wi σ H λJ H1=>∀D,H1 D=none->jc4 J g (jev D tt te) {nx:=λ_ H'=>NX D H',rt:=λ_ _=>False} (jdl js σ) (upd H1 D (.lst [])))
  (fin:∀D H3 s3 fp σ5 H5 s6,Inv X pins σ H3 s3->(∀b∈fp,FpOk X pins H3 b)->Inv (X.comp scope s3.heap.objs.size Nc s3 H3 fp) [] σ5 H5 s6->NX D H5->RR (.ref D) s3.heap.objs.size (.ok .next) s6) :
  wpAny (model X.prog X.w) X.A (eval iter X.env) (λx s₁=>wpAny (model X.prog X.w) X.A (pyIter x) (λit s₂=>wpAny (model X.prog X.w) X.A (newList []) (λacc s₃ =>
   wpAny (model X.prog X.w) X.A (newFunctionEnv scope X.env.globals (clOf X.env scope.names []) [] X.env.qual none .none (some X.env)) (λcenv s₄ =>
    codeAny (model X.prog X.w) X.A (.compStart (.ListComp elt [⟨tg,iter,[cd],0⟩] scope pos) 0 it acc {cenv with scope:=relabel scope X.env}) (RR acc cenv.locals) s₄) X.xe s₃) X.xe s₂) X.xe s₁) X.xe s:=by
 refine thn (hi pins s σ H _ I h) λv s1 h1=>thn h1 λitv s2 h2=>?_
 obtain⟨it,fp,tn,J,H2,rfl,I2,T,st2,f2,h2⟩:=h2
 refine Oi ?_ (by show 0<=sizeLine;decide)
 have hD:H2 s2.heap.objs.size=none:=I2.hok.fresh (Af _)
 have I3:Inv X pins σ (upd H2 s2.heap.objs.size (.lst [])) {s2 with heap:=s2.heap.push {cls:=.type "list",data:=.seq ([]:List Value).toArray}} :=
  I2.laid (t':=s2.toks) (λb u e=>Ac _ e) (Af _) ⟨by show 0<=sizeLine;decide,[],0,.nil,Av _ rfl⟩
 have f3:∀b∈fp,FpOk X pins (upd H2 s2.heap.objs.size (.lst [])) b:=λb hb=>by
  obtain⟨q0,q⟩:=f2 b hb
  obtain⟨o,e,_⟩:=T.obj _ _ st2 b hb
  exact⟨by rw[jd (Ar (Ah e))];exact q0,q⟩
 have o3:∀b∈fp,∃o,(s2.heap.push {cls:=.type "list",data:=.seq ([]:List Value).toArray}).get? b=some o:=λb hb=>by
  obtain⟨o,e,_⟩:=T.obj _ _ st2 b hb
  exact⟨o,Ac _ e⟩
 have st3:tn 0 (s2.heap.push {cls:=.type "list",data:=.seq ([]:List Value).toArray}):=T.keep _ _ _ st2 λb _ o e=>Ac _ e
 generalize hh3:s2.heap.push {cls:=.type "list",data:=.seq ([]:List Value).toArray}=h3 at I3 o3 st3⊢
 refine Wf c.nocell (by intro y hy;simp at hy) (λh4 hn4 hs4=>?_) c.kind
 have k4:∀b o,h3.get? b=some o->h4.get? b=some o:=λb o e=>(hs4.2 b (Ar (Ah e))).trans (Ac _ e)
 have I4:=jj2 (tk:=s2.toks+([]:List (Str×Value)).length) c I3 f3 o3 hn4 k4
 have st4:tn 0 h4:=T.keep _ _ _ st3 λb _ o e=>k4 b o e
 obtain⟨W,⟨m0,w0⟩,turn⟩:=h2 _ hD
 let s3:Shared:={s2 with heap:=h3}
 let Y:Cx:=X.comp scope h3.objs.size Nc s3 (upd H2 s2.heap.objs.size (.lst [])) fp
 have stat:∀{H':Hp},(∀b∈fp,H' b=none)->∀b∈fp,FpOk Y [] H' b:=λhn b hb=>⟨hn b hb,(I4.ok.exf b hb).1,I4.ok.exfs b hb,.inl hb,(I4.ok.exf b hb).2,(λp hp=>nomatch hp)⟩
 have loop:codeAny (model X.prog X.w) X.A (.compLoop (.ListComp elt [⟨tg,iter,[cd],0⟩] scope pos) 0 (.ref it) (.ref s2.heap.objs.size) Y.env)
   (RR (.ref s2.heap.objs.size) h3.objs.size) {s2 with heap:=h4,toks:=s2.toks+([]:List (Str×Value)).length}:=by
  refine codeAny_loop rfl (λn s'=>∃i σ' H',Inv Y [] σ' H' s'/\tn i s'.heap/\(∀b∈fp,H' b=none)/\W i n σ' H') (λn s5 hI=>?_) m0 ⟨0,_,_,I4,st4,λb hb=>(f3 b hb).1,w0⟩
  obtain⟨i,σ5,H5,I5,st5,fr5,w5⟩:=hI
  show wpAny _ X.A ((compTurn (.ListComp elt [⟨tg,iter,[cd],0⟩] scope pos) 0 (.ref it) (.ref s2.heap.objs.size) Y.env).onRaise (λx=>do noteFrame x Y.env;theTreesLotGoes x)) _ _ s5
  refine wpAny_noted (Iw (E:=λ_ _=>False) ?_ (λ_ _ q=>q) λ_ _ z=>z.elim)
  rw[jj1]
  refine Ab (Uq (Ab ?_))
  rcases turn i n σ5 H5 w5 with⟨stop,qn⟩|⟨go,N,hN,step⟩
  ·refine thn (T.done Y rfl rfl rfl hc i [] s5 σ5 H5 _ I5 (stat fr5) st5 stop) λr s6 ⟨hr,I6⟩=>?_
   subst hr
   refine Am ?_
   exact fin _ _ s3 fp σ5 H5 s6 I3 f3 I6 qn
  ·refine thn (T.item Y rfl rfl rfl hc i [] s5 σ5 H5 _ I5 (stat fr5) st5 go) λr s6 ⟨u,hr,h6⟩=>?_
   subst hr
   refine Ab (thn h6 λ_ s7 ⟨x,H7,I7,r7,y7,st7,fr7⟩=>?_)
   have I7':=I7.pinned (stat fr7) (T.obj _ _ st7)
   refine Ab (thn (hg _ _ _ _ _ s7 σ5 H7 x u _ I7' r7 (step x H7 y7)) λ_ s8 ⟨σ8,H8,I8,q8⟩=>?_)
   have fin2:∀{H':Hp}{s':Shared},Inv Y ([]++jfg fp s7.heap) σ8 H' s'->N σ8 H'->∃m,m<n/\∃i σ1 H1,Inv Y [] σ1 H1 s'/\tn i s'.heap/\(∀b∈fp,H1 b=none)/\W i m σ1 H1:=fun{H'}{s'} I10 n10=>by
    obtain⟨m',hm,w10⟩:=hN σ8 H' n10
    refine⟨m',hm,i+1,σ8,H',I10.unpinned,T.keep _ _ _ st7 λb hb o e=>(I10.pin (b,o) (A5 _ (A5 _ (jdk hb e)))).1,λb hb=>?_,w10⟩
    obtain⟨o,e,d⟩:=T.obj _ _ st7 b hb
    exact(I10.pin (b,o) (A5 _ (A5 _ (jdk hb e)))).2.1
   rw[List.forIn_cons,Ad rfl]
   refine Ab (Ab (Ab (thn (ht _ _ _ _ _ s8 σ8 H8 _ I8 q8) λok s9 ⟨H9,I9,q9⟩=>Am ?_)))
   simp only[List.forIn_nil]
   refine Am ?_
   cases ok with
   |false =>
    simp only[Iu,On]at q9⊢
    exact Am ⟨rfl,fin2 I9 q9⟩
   |true =>
    simp only[Oo]at q9⊢
    refine Ab (Ab (thn (he _ _ _ _ _ s9 σ8 H9 _ I9 q9) λv s10 ⟨y,H10,I10,r10,ys,e10,z10,n10⟩=>?_))
    refine Ab (thn (jbc (X:=Y) _ s10 σ8 H10 (.ref s2.heap.objs.size) [y] (.ref s2.heap.objs.size) [v] (λw H'=>N σ8 H') I10 rfl (.cons r10 .nil) ⟨_,ys,y,rfl,rfl,jcu e10,z10,n10⟩) λw s11 ⟨_,H11,I11,_,n11⟩=>?_)
    exact Am (Am ⟨rfl,fin2 I11 n11⟩)
 exact codeAny_compStart_list loop (T.self _ 0 _ _ _ st4 loop)
theorem pe_compIf(hc:X.calm=true)(c:CompOk X scope Nc js)(hi:PI X tg iter wi)(hg:∀C s3 H3 fp,PG (X.comp scope C Nc s3 H3 fp) tg g)(ht:∀C s3 H3 fp,PT (X.comp scope C Nc s3 H3 fp) cd tt)(he:∀C s3 H3 fp,PE (X.comp scope C Nc s3 H3 fp) elt te)
  (hs:∀x,foldedSetIterable iter X.env x=pure x:=by intro _;rfl):PE X (.ListComp elt [⟨tg,iter,[cd],0⟩] scope pos) (jd7 wi g js tt te):=by
 intro pins s σ H Q I h
 rw[eval_ListComp]
 refine Uu (use:=none) (g:=⟨tg,iter,[cd],0⟩) (gs:=[]) rfl hs (jey (c.has I)) c.kind c.loc
  (jf6 (RR:=λacc C=>compPost (model X.prog X.w) X.A X.xe none (EP X pins σ Q) acc C) (NX:=λD H'=>Q (.ref D) H') hc c hi hg ht he I h λD H3 s3 fp σ5 H5 s6 I3 f3 I6 qn=>?_)
 obtain⟨m,hn,_⟩:=I6.loc
 exact⟨m,hn,λh' hs'=>⟨.ref D,H5,jez I3 f3 I6 hs',rfl,qn⟩⟩
theorem ps_setcIf{i:Nat}{y:Str}{py spos:Pos}(hN:X.N.Nodup)(hiN:X.N[i]?=some y)(hy:Loc X.env.scope y)(hc:X.calm=true)(c:CompOk X scope Nc js)(hi:PI X tg iter wi)(hg:∀C s3 H3 fp,PG (X.comp scope C Nc s3 H3 fp) tg g)
  (ht:∀C s3 H3 fp,PT (X.comp scope C Nc s3 H3 fp) cd tt) (he:∀C s3 H3 fp,PE (X.comp scope C Nc s3 H3 fp) elt te) (hsw:swapsWith (.ListComp elt [⟨tg,iter,[cd],0⟩] scope pos) (some (.Name y py)) spos.line X.env=pure true:=by rfl)
  (hs:∀x,foldedSetIterable iter X.env x=pure x:=by intro _;rfl) (hf:X.fn y=true\/X.env.scope.names.lookup y=some .local:=by first|exact .inl rfl|exact .inr rfl|assumption) :
  PS X (.Assign [.Name y py] (.ListComp elt [⟨tg,iter,[cd],0⟩] scope pos) spos) (tAsg (jd7 wi g js tt te) (jdi i)):=by
 intro pins s σ H D I h
 rw[exec_Assign_Name_used _ _ _ _ hsw]
 refine Ab (Uq (Ab ?_))
 show wpAny _ X.A (do let _ <-comprehension (.ListComp elt [⟨tg,iter,[cd],0⟩] scope pos) scope X.env _ (newList []) false (eval iter X.env) (some (assign (.Name y py) X.env))) _ _ s
 refine Ab (Iw (Uu (use:=some (assign (.Name y py) X.env)) (g:=⟨tg,iter,[cd],0⟩) (gs:=[]) (Q:=λ_ s'=>SP X pins D .next s') rfl hs (jey (c.has I)) c.kind c.loc
  (jf6 (RR:=λacc C=>compPost (model X.prog X.w) X.A X.xe (some (assign (.Name y py) X.env)) (λ_ s'=>SP X pins D .next s') acc C) (NX:=λDa H'=>D.nx (σ.set i (some (.ref Da))) H') hc c hi hg ht he I h λDa H3 s3 fp σ5 H5 s6 I3 f3 I6 qn=>?_))
  (λ_ s' hq=>Am (Am hq)) λ_ _ e=>e)
 obtain⟨m,hn,_⟩:=id I6.loc
 have I7:Inv X pins σ H5 s6:=jez I3 f3 I6 (.refl ..)
 have hC:H5 s3.heap.objs.size=none:=I6.free
 have nL:s3.heap.objs.size≠X.env.locals:=Nat.ne_of_gt I3.lt
 have nc:∀x a,X.env.cells.lookup x=some a->a≠s3.heap.objs.size:=λx a e=>by
  obtain⟨v,q⟩:=I3.cell x a e
  exact Ar q.lt
 have np:∀p∈X.pn++pins,p.1≠s3.heap.objs.size:=λp hp=>Ar (Ah (I3.pin p hp).1)
 show wpAny _ _ (assign (.Name y py) X.env (.ref Da)) _ _ _
 refine wpAny_assign_Name (jiw (v:=.ref Da) I7 hN hiN hy rfl (λs8 I8 hb=>?_) hf)
 obtain⟨a,hs8,ha⟩:=hb
 have nCa:s3.heap.objs.size≠a:=by
  rcases ha with z|z
  ·rw[z];exact nL
  ·exact(nc y a z).symm
 refine⟨m,hn.sameBut hs8 nCa,λh9 hs9=>?_⟩
 exact⟨_,H5,I8.turned (t':=s8.toks) (λb o hb e=>(hs9.2 b hb).trans e) hC nL (.inr (Ib I3.sz (Af _))) nc np,qn⟩
theorem jbh(hc:X.calm=true)(c:CompOk X scope Nc js)(hi:QI X tg iter wi)(hg:∀C s3 H3 fp,QG (X.comp scope C Nc s3 H3 fp) tg g)(ht:∀C s3 H3 fp,QT (X.comp scope C Nc s3 H3 fp) cd tt)(he:∀C s3 H3 fp,QE (X.comp scope C Nc s3 H3 fp) elt te)
  (hs:∀x,foldedSetIterable iter X.env x=pure x:=by intro _;rfl):QE X (.ListComp elt [⟨tg,iter,[cd],0⟩] scope pos) (jd7 wi g js tt te) :=
 ⟨pe_compIf hc c hi.h (λC s H f=>(hg C s H f).h) (λC s H f=>(ht C s H f).h) (λC s H f=>(he C s H f).h) hs⟩
theorem qps_setcIf{i:Nat}{y:Str}{py spos:Pos}(hN:X.N.Nodup)(hiN:X.N[i]?=some y)(hy:Loc X.env.scope y)(hc:X.calm=true)(c:CompOk X scope Nc js)(hi:QI X tg iter wi)(hg:∀C s3 H3 fp,QG (X.comp scope C Nc s3 H3 fp) tg g)
  (ht:∀C s3 H3 fp,QT (X.comp scope C Nc s3 H3 fp) cd tt) (he:∀C s3 H3 fp,QE (X.comp scope C Nc s3 H3 fp) elt te) (hsw:swapsWith (.ListComp elt [⟨tg,iter,[cd],0⟩] scope pos) (some (.Name y py)) spos.line X.env=pure true:=by rfl)
  (hs:∀x,foldedSetIterable iter X.env x=pure x:=by intro _;rfl) (hf:X.fn y=true\/X.env.scope.names.lookup y=some .local:=by first|exact .inl rfl|exact .inr rfl|assumption) :
  QS X (.Assign [.Name y py] (.ListComp elt [⟨tg,iter,[cd],0⟩] scope pos) spos) (tAsg (jd7 wi g js tt te) (jdi i)) :=
 ⟨ps_setcIf hN hiN hy hc c hi.h (λC s H f=>(hg C s H f).h) (λC s H f=>(ht C s H f).h) (λC s H f=>(he C s H f).h) hsw hs hf⟩
end
section
variable{D:Addr}{te:TE}{tt:TT}{E:Ends}{r:L2.St}{H:Hp}
theorem jeh{α:Type}(p:α->Bool)(f:α->V)(xs:List α)(i:Nat)(x:α)(h:xs[i]?=some x):((xs.take (i+1)).filter p).map f=((xs.take i).filter p).map f++(if p x=true then[f x]else[]):=by
 rw[Oz,h]
 simp only[Option.toList_some,Uv,Is]
 congr 1
 by_cases q:p x=true
 ·simp[q]
 ·simp[q]
theorem jk0{K:PySem.W.Frag}{a:Addr}{xs:List V}(p:V->Bool)(f:V->V)(ha:H a=some (.lst xs))(hD:H D=none)(hz:xs.length<=sizeLine)
  (ht:∀x∈xs,∀l Q,Q (p x) (upd H D (.lst l))->tt (some x::r) (upd H D (.lst l)) Q) (he:∀x∈xs,p x=true->∀l Q,Q (f x) (upd H D (.lst l))->te (some x::r) (upd H D (.lst l)) Q)
  (hn:∀v,E.nx (v::r) (upd H D (.lst ((xs.filter p).map f)))):jc4 (Itl K a) (jdi 0) (jev D tt te) E (none::r) (upd H D (.lst [])):=by
 have ne:a≠D:=jh ha hD
 refine jih (xs:=xs) (λi σ H'=>∃v:Option V,σ=v::r/\H'=upd H D (.lst (((xs.take i).filter p).map f))) ⟨none,rfl,rfl⟩ ?_ ?_ ?_
 ·rintro i σ H' _ ⟨v,_,rfl⟩
  rw[jd ne];exact ha
 ·rintro i x σ H' hx ⟨v,rfl,rfl⟩
  have hl:i<xs.length:=(Ai.mp hx).1
  have hm:=A6 hx
  have hf:(((xs.take i).filter p).map f).length<=i:=by
   rw[Ae]
   exact Ib (Ug _ _) (by rw[Il];omega)
  refine ht x hm _ _ ?_
  by_cases q:p x=true
  ·rw[q,Ad rfl]
   refine he x hm q _ _ ⟨_,by rw[jc];rfl,by omega,some x,rfl,?_⟩
   rw[jju,jeh p f xs i x hx,Ad q]
  ·rw[Aa q]
   refine⟨some x,rfl,?_⟩
   rw[jeh p f xs i x hx,Aa q,Ir]
 ·rintro σ H' ⟨v,rfl,rfl⟩
  rw[Iv (Af _)]
  exact hn v
theorem jma{K:PySem.W.Frag}{a:Addr}{xs:List V}(p:V->Bool)(f:V->V)(ha:H a=some (.tup xs))(hD:H D=none)(hz:xs.length<=sizeLine)
  (ht:∀x∈xs,∀l Q,Q (p x) (upd H D (.lst l))->tt (some x::r) (upd H D (.lst l)) Q) (he:∀x∈xs,p x=true->∀l Q,Q (f x) (upd H D (.lst l))->te (some x::r) (upd H D (.lst l)) Q)
  (hn:∀v,E.nx (v::r) (upd H D (.lst ((xs.filter p).map f)))):jc4 (Itt K a) (jdi 0) (jev D tt te) E (none::r) (upd H D (.lst [])):=by
 have ne:a≠D:=jh ha hD
 refine jgh (xs:=xs) (λi σ H'=>∃v:Option V,σ=v::r/\H'=upd H D (.lst (((xs.take i).filter p).map f))) ⟨none,rfl,rfl⟩ ?_ ?_ ?_
 ·rintro i σ H' _ ⟨v,_,rfl⟩
  rw[jd ne];exact ha
 ·rintro i x σ H' hx ⟨v,rfl,rfl⟩
  have hl:i<xs.length:=(Ai.mp hx).1
  have hm:=A6 hx
  have hf:(((xs.take i).filter p).map f).length<=i:=by
   rw[Ae]
   exact Ib (Ug _ _) (by rw[Il];omega)
  refine ht x hm _ _ ?_
  by_cases q:p x=true
  ·rw[q,Ad rfl]
   refine he x hm q _ _ ⟨_,by rw[jc];rfl,by omega,some x,rfl,?_⟩
   rw[jju,jeh p f xs i x hx,Ad q]
  ·rw[Aa q]
   refine⟨some x,rfl,?_⟩
   rw[jeh p f xs i x hx,Aa q,Ir]
 ·rintro σ H' ⟨v,rfl,rfl⟩
  rw[Iv (Af _)]
  exact hn v
end
section
variable{X:Cx}
def rTru(x:V)(H:Hp)(Q:Bool->Hp->Prop):Prop:=match x with
 |.bl b=>Q b H
 |.int i=>Q (i != 0) H
 |.non=>Q false H
 |.str y=>y.length<=sizeLine/\Q ((y.length:Int) != 0) H
 |.ref p=>∃xs,jdp (H p)=some xs/\Q (!xs.isEmpty) H
 |_=>False
def tTru(ta:TE):TT:=λσ H Q=>ta σ H λx H1=>rTru x H1 Q
theorem jed(p:Addr)(H:Hp)(Q:Bool->Hp->Prop):rTru (.ref p) H Q=(∃xs,jdp (H p)=some xs/\Q (!xs.isEmpty) H):=rfl
theorem jls(b:Bool)(H:Hp)(Q:Bool->Hp->Prop):rTru (.bl b) H Q=Q b H:=rfl
theorem jkn(y:Str)(H:Hp)(Q:Bool->Hp->Prop):rTru (.str y) H Q=(y.length<=sizeLine/\Q ((y.length:Int) != 0) H):=rfl
theorem pt_tru{a:Expr}{ta:TE}(ha:PE X a ta)(he:∀whole,isTrue a X.env whole=(do let v <-whole;standAt a.pos;holding [v] (truthy v)):=by intro _;rfl):PT X a (tTru ta):=by
 intro pins s σ H Q I h
 refine isTrue_plain (thn (ha pins s σ H _ I h) λv s1 ⟨x,H1,I1,r1,q1⟩=>jq7 pins s1 σ H1 x v Q I1 r1 ?_) (he _)
 replace q1:rTru x H1 Q:=q1
 unfold rTru at q1
 split at q1
 ·exact⟨_,rfl,q1⟩
 ·exact⟨_,rfl,q1⟩
 ·exact⟨_,rfl,q1⟩
 ·exact⟨_,⟨q1.1,rfl⟩,q1.2⟩
 ·obtain⟨xs,e,q⟩:=q1
  rcases je1 e with e|e
  ·exact⟨_,.inl ⟨xs,SqL.of e,rfl⟩,q⟩
  ·exact⟨_,.inr (.inl ⟨xs,SqT.of e,rfl⟩),q⟩
 ·exact q1.elim
def jkk:V->List V->Hp->VK->Prop:=λx vs H Q=>match x,vs with
 |.ref l,[]=>∃xs,jcp (H l)=some xs/\∃y,xs[xs.length-1]?=some y/\Q y (upd H l (.lst xs.dropLast))
 |_,_=>False
theorem jc9(l:Addr)(H:Hp)(Q:VK):jkk (.ref l) [] H Q=(∃xs,jcp (H l)=some xs/\∃y,xs[xs.length-1]?=some y/\Q y (upd H l (.lst xs.dropLast))):=rfl
theorem jaf:MtM X "list.pop" jkk:=by
 intro pins s σ H x vs v us Q I rx rv h
 unfold jkk at h
 split at h
 ·rename_i l
  obtain⟨xs,e,y,hy,q⟩:=h
  exact mt_pop pins s σ H _ _ v us Q I rx rv ⟨l,xs,y,rfl,rfl,jcu e,hy,q⟩
 ·exact h.elim
theorem jen(ns:List Int):∀k,k<=ns.length->preSum (λi=>(ns[i]?).getD 0) k=(ns.take k).sum
 |0,_=>by simp[preSum]
 |k+1,h=>by
  have ih:=jen ns k (by omega)
  show preSum _ k+(ns[k]?).getD 0=_
  have e:ns[k]?=some (ns[k]'(by omega)):=by simp
  rw[ih,Oz,e,Option.getD_some,List.sum_append]
  simp
def jmt:List V->Hp->VK->Prop:=λxs H Q=>match xs with
 |[.ref p]=>∃ns:List Int,H p=some (.lst (ns.map V.int))/\(∀n∈ns,0<=n)/\ns.sum<1073741824/\Q (.int ns.sum) H
 |_=>False
theorem jis(p:Addr)(H:Hp)(Q:VK):jmt [.ref p] H Q=(∃ns:List Int,H p=some (.lst (ns.map V.int))/\(∀n∈ns,0<=n)/\ns.sum<1073741824/\Q (.int ns.sum) H):=rfl
theorem jhp:∀{ns:List Int}{us:List Value},Vals (ns.map V.int) us->∀(i:Nat)(v:Value),us[i]?=some v->∃n t,ns[i]?=some n/\v=.int n t
 |[],us,r,i,v,e=>by rw[Uf]at r;cases r;simp at e
 |n::ns,us,r,i,v,e=>by
  rw[Ax]at r
  cases r with
  |cons r1 r2 =>
   cases i with
   |zero=>obtain⟨t,rfl⟩:=r1;simp at e;exact⟨n,t,rfl,e.symm⟩
   |succ i=>simp at e;obtain⟨n',t,e1,e2⟩:=jhp r2 i v e;exact⟨n',t,by simpa using e1,e2⟩
theorem jhe:∀{l:List Int},(∀n∈l,0<=n)->0<=l.sum
 |[],_=>by simp
 |x::l,h=>by
  rw[List.sum_cons]
  have:=h x (.head _)
  have:=jhe λn hn=>h n (.tail _ hn)
  omega
theorem jk7(l:List Int)(h:∀n∈l,0<=n)(k:Nat):(l.take k).sum<=l.sum:=by
 have e:l.sum=(l.take k).sum+(l.drop k).sum:=by rw[<-List.sum_append,U7]
 have:=jhe λn hn=>h n (List.mem_of_mem_drop (i:=k) hn)
 omega
theorem jg3:∀{l:List Int},(∀n∈l,0<=n)->∀x∈l,x<=l.sum
 |[],_,x,h=>nomatch h
 |y::l,h,x,hx=>by
  rw[List.sum_cons]
  have h0:=h y (.head _)
  have h1:=jhe λn hn=>h n (.tail _ hn)
  rcases Aw.mp hx with rfl|hx
  ·omega
  ·have:=jg3 (λn hn=>h n (.tail _ hn)) x hx
   omega
theorem call_sumU(hc:X.calm=true):jc1 X (.builtin "sum") jmt:=by
 intro pins s σ H xs us Q I r h
 unfold jmt at h
 split at h
 ·rename_i p
  obtain⟨ns,e,nn,hs,q⟩:=h
  obtain⟨u,rfl,ru⟩:=jdq r
  cases ru
  obtain⟨its,rr,pl,_⟩:=I.list (SqL.of e)
  have isl:=pl.isList
  have plt:p<s.heap.objs.size:=by obtain⟨_,e,_⟩:=isl;exact Ah e
  have hlen:its.length=ns.length:=by have:=rr.length;simpa using this.symm
  refine call_sum_walk (wpAny_pyIter_list isl ?_)
  refine⟨s.heap.objs.size,[s.heap.objs.size,p],[s.heap.objs.size],its.toArray.size,_,_,λi=>(ns[i]?).getD 0,rfl,Walks.list (A:=X.A.in1) (I.ok.hd hc) _ p (Ar plt) its.toArray,
   ⟨⟨_,Av _ rfl,rfl,rfl⟩,isl.push _⟩,?_,λi v hp=>?_,λj hj=>?_,λh' tk t' hk=>?_⟩
  ·intro b hb
   show b<(s.heap.objs.push _).size
   rw[Array.size_push]
   rcases Aw.mp hb with rfl|hb
   ·exact Nat.lt_succ_self _
   ·rw[Ak.mp hb];exact Nat.lt_succ_of_lt plt
  ·obtain⟨n,t,e1,rfl⟩:=jhp rr i v (by simpa using hp)
   exact⟨t,by show Value.int n t=Value.int ((ns[i]?).getD 0) t;rw[e1];rfl⟩
  ·have hj':j<ns.length:=by rw[Aj,hlen]at hj;exact hj
   have e1:ns[j]?=some (ns[j]'hj'):=by simp
   have m1:=jg3 nn _ (Um hj')
   have m0:=nn _ (Um hj')
   refine⟨?_,?_⟩
   ·show InLong ((ns[j]?).getD 0)
    rw[e1]
    show InLong (ns[j]'hj')
    unfold InLong
    omega
   ·rw[jen ns (j+1) (by omega)]
    have:=jk7 ns nn (j+1)
    have:=jhe λn hn=>nn n (Wg (i:=j+1) hn)
    unfold InLong
    omega
  ·rw[Aj,hlen,jen ns ns.length (Af _),List.take_length]
   exact⟨.int _,H,I.kept (jpo hk),⟨_,rfl⟩,q⟩
 ·exact h.elim
end
theorem jom:typeLookup (.type "list_reverseiterator") "__len__"=pure none:=by rw[typeLookup_type,builtinLookup_eq_fast];kernel_rfl
theorem jp4:typeLookup (.type "list_reverseiterator") "__length_hint__"=pure (some (.builtin "list_reverseiterator.__length_hint__")):=by rw[typeLookup_type,builtinLookup_eq_fast];kernel_rfl
section
variable{P:Program}{w:World}{A:Around}{E:Value->Shared->Prop}{s:Shared}
theorem jnt{R:Result->Shared->Prop}{it l:Addr}{items:Array Value}(hh:A.handled=none)(hne:l≠it)(hit:s.heap.IsRevIter it l ((items.size:Int)-1))(hl:s.heap.IsList l items)(D:Addr)(res:Value)(c0:Nat)
  (hD:s.heap.get? D=some {cls:=.type "list",data:=.seq #[] c0}) (h1:D≠it) (h2:D≠l)
  (hR:∀h' tk acc c',(∀b o,b≠D->b≠it->s.heap.get? b=some o->h'.get? b=some o)->h'.get? D=some {cls:=.type "list",dict:=none,data:=.seq acc c',slots:=#[]} ->
   ItemsOf (λi v=>items[items.size-1-i]?=some v) acc items.size->R (.ok (.ret res)) {s with heap:=h',toks:=tk}) (hn:items.size<=sizeLine) :
  wpAny (model P w) A.in1 (Builtin.List.listExtendWith (.ref D) (.ref it) res)
   (λfin s'=>match fin with|.done f=>R (.ok f) s'|.again c'=>c'.quiet=true/\codeAny (model P w) A c' R s') (λe s'=>R (.error e) s') s:=by
 have hDf:D∉[it,l]:=λhm=>by
  rcases Aw.mp hm with e|hm
  ·exact h1 e
  ·exact h2 (Ak.mp hm)
 have W:=(Walks.listRev (prog:=P) (w:=w) (A:=A.in1) hh it l hne items).toS
 have st0:(0:Nat)<=items.size/\s.heap.IsRevIter it l ((items.size:Int)-1-((0:Nat):Int))/\s.heap.IsList l items:=⟨Ia _,by simpa using hit,hl⟩
 have q1:Builtin.List.listSameRef (.ref D) (.ref it)=false:=by simp[Builtin.List.listSameRef,h1]
 unfold Builtin.List.listExtendWith
 refine Ab (wpAny_typeOf (T:="list_reverseiterator") hit.typeIs ?_)
 rw[Aa (by rw[q1];decide)]
 refine Ab (wpAny_pyIter_revIter hit ?_)
 refine Ab (O5 ?_)
 unfold Builtin.List.listLengthHint
 refine Ab (wpAny_specialOf (T:="list_reverseiterator") hit.typeIs jom ?_)
 show wpAny _ A.in1 ((specialOf (Value.ref it) (Str.ofString "__length_hint__")) >>= _) _ _ _
 refine Ab (wpAny_specialOf (T:="list_reverseiterator") hit.typeIs jp4 ?_)
 generalize hid:("list_reverseiterator.__length_hint__":String)=idh
 wp_delta
 rw[show splitId idh=some ("list_reverseiterator","__length_hint__")from by subst hid;decide +kernel]
 subst hid
 refine Ab (wpAny_isInstance (b:=true) (T:="list_reverseiterator") hit.typeIs (by rw[isSubtype_type];kernel_rfl) (Am ?_))
 rw[Aa (by decide)]
 refine Am ⟨plainId_quiet F.plain_extend_loop _,codeAny_extend_loopS W hn _ hDf _ items.size 0 _ _ _ rfl (Ia _) st0 hD (ItemsOf.nil _) λs' acc' c' hm hS' hacc=>?_⟩
 rw[Moved.eq_with hm]
 refine hR s'.heap s'.toks acc' c' (λb o hb hb2 e=>hm.heap b o (λhmem=>?_) e) hS' hacc
 rcases Aw.mp hmem with e'|hmem
 ·exact hb e'
 ·exact hb2 (Ak.mp hmem)
theorem jp5{Q:Value->Shared->Prop}{it l:Addr}{items:Array Value}(hh:A.handled=none)(hne:l≠it)(hit:s.heap.IsRevIter it l ((items.size:Int)-1))(hl:s.heap.IsList l items)(hn:items.size<=sizeLine)
  (hQ:∀h' tk acc c',(∀b o,b≠it->s.heap.get? b=some o->h'.get? b=some o)->h'.get? s.heap.objs.size=some {cls:=.type "list",dict:=none,data:=.seq acc c',slots:=#[]} ->
   ItemsOf (λi v=>items[items.size-1-i]?=some v) acc items.size->Q (.ref s.heap.objs.size) {s with heap:=h',toks:=tk}) :
  wpAny (model P w) A (call (.type "list") [.ref it]) Q E s:=by
 refine callType_codes (Q₁:=λobj s1=>obj=.ref s.heap.objs.size/\s1={s with heap:=s.heap.push {cls:=.type "list",data:=.seq #[]}}) F.called_list (F.typeCall_list_1 _) F.entry_list_init (code_list_new _ ⟨rfl,rfl⟩) λobj s1 hs1=>?_
 obtain⟨rfl,rfl⟩:=hs1
 have hS:(s.heap.push {cls:=.type "list",data:=.seq #[]}).get? s.heap.objs.size=some {cls:=.type "list",data:=.seq #[]}:=(Av _ rfl)
 have ni:s.heap.objs.size≠it:=λe=>by obtain⟨o,ho,_⟩:=hit;rw[<-e]at ho;exact Oj _ (Ah ho)
 have nl:s.heap.objs.size≠l:=λe=>by obtain⟨o,ho,_⟩:=hl;rw[<-e]at ho;exact Oj _ (Ah ho)
 refine⟨⟨_,hS,rfl⟩,F.args_list_init_2 _ _,?_⟩
 show wpAny _ _ (do let was <-Builtin.List.listItems (.ref s.heap.objs.size);Builtin.List.listUpdate (.ref s.heap.objs.size) (λ_=>#[]);letGo was.toList.reverse;Builtin.List.listExtendWith (.ref s.heap.objs.size) (.ref it) .none) _ _ _
 refine Ab ?_
 unfold Builtin.List.listItems
 refine Ab (wpAny_seqItems hS rfl (Am ?_))
 show wpAny _ _ (updateSeq s.heap.objs.size (λ_=>#[]) >>= λ_=>letGo (#[]:Array Value).toList.reverse >>= λ_=>Builtin.List.listExtendWith (.ref s.heap.objs.size) (.ref it) .none) _ _ _
 refine Ab (wpAny_updateSeq hS rfl ?_)
 have hS2:=Iq (Obj.mapSeq (λ_=>(#[]:Array Value))) hS rfl
 have oth:∀b o,b≠s.heap.objs.size->s.heap.get? b=some o->((s.heap.push {cls:=.type "list",data:=.seq #[]}).update s.heap.objs.size (Obj.mapSeq (λ_=>(#[]:Array Value)))).get? b=some o :=
  λb o hb e=>(Im _ _ (Ix hb)).trans (Ac _ e)
 refine Ab (wpAny_letGo ?_)
 refine jnt (A:=A.in1) hh hne (hit.at λo e=>oth it o ni.symm e) (hl.at λo e=>oth l o nl.symm e) _ .none _ hS2 ni nl (λh' tk acc c' hk hS' hacc=>?_) hn
 exact⟨rfl,hQ h' tk acc c' (λb o hb e=>hk b o (Ar (Ah e)) hb (oth b o (Ar (Ah e)) e)) hS' hacc⟩
end
section
variable{X:Cx}
def rRev:List V->Hp->VK->Prop:=λvs H Q=>match vs with
 |[.ref p]=>∃xs,jcp (H p)=some xs/\∀l,H l=none->Q (.ref l) (upd H l (.lst xs.reverse))
 |_=>False
theorem jkl(p:Addr)(H:Hp)(Q:VK):rRev [.ref p] H Q=(∃xs,jcp (H p)=some xs/\∀l,H l=none->Q (.ref l) (upd H l (.lst xs.reverse))):=rfl
def je8(ta:TE):TE:=tCB rRev (jfy ta tNil)
theorem bt_reversed:bootBuiltins "reversed"=some (.type "reversed"):=by decide +kernel
theorem pe_listRev{a:Expr}{ta:TE}{p1 p2 q1 q2:Pos}(hc:X.calm=true)(hg:Gl X "list")(hm:X.mg "list"=none)(hg2:Gl X "reversed")(hm2:X.mg "reversed"=none)(ha:PE X a ta)
  (hs:starEach [(.Call (.Name "reversed" p2) [a] [] q2)] X.env=[(false,eval (.Call (.Name "reversed" p2) [a] [] q2) X.env)]:=by rfl) (hs2:starEach [a] X.env=[(false,eval a X.env)]:=by rfl) :
  PE X (.Call (.Name "list" p1) [.Call (.Name "reversed" p2) [a] [] q2] [] q1) (je8 ta):=by
 intro pins s σ H Q I h
 refine Ik (jdt I hg hm jbj ?_)
 refine Ij ?_ hs rfl
 rw[hs]
 show wpAny _ _ (spliced ((false,eval (.Call (.Name "reversed" p2) [a] [] q2) X.env)::[])) _ _ s
 refine Oq ?_
 refine Ik (jdt I hg2 hm2 bt_reversed ?_)
 have hA:PA X [a] (jfy ta tNil):=jb6 ha jcg hs2
 refine Ij (thn (hA q2 pins s σ H (λvs H1=>rRev vs H1 Q) I h) λus s1 ⟨vs,H1,I1,r1,q1⟩=>?_) hs2 rfl
 replace q1:rRev vs H1 Q:=q1
 unfold rRev at q1
 split at q1
 ·rename_i p
  obtain⟨xs,e,q⟩:=q1
  replace e:=jcu e
  obtain⟨u,rfl,ru⟩:=jdq r1
  cases ru
  obtain⟨its,rr,pl,hz⟩:=I1.list (SqL.of e)
  have isl:=pl.isList
  have hlen:its.length=xs.length:=by have:=rr.length;simpa using this.symm
  refine call_reversed_list isl (Uy ?_)
  have plt:p<s1.heap.objs.size:=by obtain⟨_,e,_⟩:=isl;exact Ah e
  refine jp5 (I1.ok.hd hc) (Ar plt) ⟨_,Av _ rfl,rfl,rfl⟩ (isl.push _) (by rw[Aj];omega) λh' tk acc c' hk hS' hacc=>?_
  have hD:s1.heap.objs.size<=(s1.heap.push (revObj p ((its.toArray.size:Int)-1))).objs.size:=by
   show _<=(s1.heap.objs.push _).size
   rw[Array.size_push];exact Nat.le_succ _
  obtain⟨a1,a2⟩:=hacc
  refine⟨.ref _,_,I1.laid (o:=.lst xs.reverse) (t':=tk) (λb o eb=>hk b o (Ar (Ah eb)) (Ac _ eb)) hD ⟨by rw[O2];exact hz,acc.toList,c',?_,by simpa using hS'⟩,rfl,q _ (I1.hok.fresh hD)⟩
  refine jqe (by simp[a1,hlen]) λi x u e1 e2=>?_
  have hi:i<xs.length:=by have:=(Ai.mp e1).1;simpa using this
  have h2:=a2 i u (by simpa using e2)
  rw[List.getElem?_reverse hi]at e1
  obtain⟨u',hu,ruu⟩:=rr.get e1
  have e3:its[xs.length-1-i]?=some u:=by
   have:its.toArray.size=xs.length:=by simp[hlen]
   rw[this]at h2
   simpa using h2
  rw[e3]at hu
  cases hu
  exact ruu
 ·exact q1.elim
end
section
variable{X:Cx}
def jms(x:V)(k:Str->Prop):Prop:=match x with
 |.str y=>k y
 |_=>False
theorem jir(y:Str)(k:Str->Prop):jms (.str y) k=k y:=rfl
abbrev TJ:=L2.St->Hp->Str->VK->Prop
def PJ(X:Cx)(es:List Expr)(t:TJ):Prop:=∀(pins:List (Addr×Obj))(s:Shared)(σ:L2.St)(H:Hp)(out:Str)(Q:VK),Inv X pins σ H s->t σ H out Q->wpAny (model X.prog X.w) X.A (joinParts out (evalEach es X.env)) (EP X pins σ Q) X.xe s
def jjk:TJ:=λ_ H out Q=>out.length<=sizeLine/\Q (.str out) H
def jhm(te:TE)(t:TJ):TJ:=λσ H out Q=>te σ H λx H1=>jms x λy=>(out++y).length<=sizeLine/\t σ H1 (out++y) Q
theorem pj_nil:PJ X [] jjk:=λpins s σ H out Q I h=>joinParts_nil ⟨.str out,H,I.tok _,⟨_,rfl⟩,h.2⟩ h.1
theorem pj_cons{a:Expr}{es:List Expr}{te:TE}{t:TJ}(ha:PE X a te)(hr:PJ X es t):PJ X (a::es) (jhm te t):=by
 intro pins s σ H out Q I h
 show wpAny _ _ (joinParts out (eval a X.env::evalEach es X.env)) _ _ s
 refine joinParts_cons (thn (ha pins s σ H _ I h) λv s1 ⟨x,H1,I1,r1,q1⟩=>?_)
 replace q1:jms x λy=>(out++y).length<=sizeLine/\t σ H1 (out++y) Q:=q1
 cases x with
 |str y=>obtain⟨u,rfl⟩:=r1;exact⟨q1.1,hr pins s1 σ H1 _ Q I1 q1.2⟩
 |_=>exact q1.elim
def jjl(t:TJ):TE:=λσ H Q=>t σ H Str.empty Q
theorem pe_joined{a b:Expr}{es:List Expr}{t:TJ}{pos:Pos}(h:PJ X (a::b::es) t):PE X (.JoinedStr (a::b::es) pos) (jjl t):=λpins s σ H Q I hw=>JoinedStr_many (h pins s σ H _ Q I hw)
end
def tMid(t u:TS):TS:=λD σ H=>∃J:L2.St->Hp->Prop,t {D with nx:=J} σ H/\∀σ H,J σ H->u D σ H
theorem pss_mid{X:Cx}{st:Stmt}{rest:List Stmt}{t u:TS}(h1:PS X st t)(h2:PSs X rest u):PSs X (st::rest) (tMid t u):=by
 intro pins s σ H D I h
 obtain⟨J,h,hJ⟩:=h
 refine U4 (thn (h1 pins s σ H {D with nx:=J} I h) λf s1 q=>?_)
 cases f with
 |next =>
  obtain⟨σ1,H1,I1,q1⟩:=q
  exact h2 pins s1 σ1 H1 D I1 (hJ _ _ q1)
 |ret v=>exact q
 |brk=>exact q
 |cont=>exact q
theorem yw{X:Cx}{st:Stmt}{rest:List Stmt}{t u:TS}(h1:QS X st t)(h2:QSs X rest u):QSs X (st::rest) (tMid t u):=⟨pss_mid h1.h h2.h⟩
structure QJ(X:Cx)(es:List Expr)(t:TJ):Prop where
 h:PJ X es t
section
variable{X:Cx}
theorem qpj_nil:QJ X [] jjk:=⟨pj_nil⟩
theorem jb2{a:Expr}{es:List Expr}{te:TE}{t:TJ}(ha:QE X a te)(hr:QJ X es t):QJ X (a::es) (jhm te t):=⟨pj_cons ha.h hr.h⟩
theorem qpe_joined{a b:Expr}{es:List Expr}{t:TJ}{pos:Pos}(h:QJ X (a::b::es) t):QE X (.JoinedStr (a::b::es) pos) (jjl t):=⟨pe_joined h.h⟩
theorem qps_never{st:Stmt}:QS X st jnv:=⟨ps_never⟩
theorem jbd{a:Expr}{ta:TE}(ha:QE X a ta)(he:∀whole,isTrue a X.env whole=(do let v <-whole;standAt a.pos;holding [v] (truthy v)):=by intro _;rfl):QT X a (tTru ta):=⟨pt_tru ha.h he⟩
theorem qpe_listRev{a:Expr}{ta:TE}{p1 p2 q1 q2:Pos}(hc:X.calm=true)(hg:Gl X "list")(hm:X.mg "list"=none)(hg2:Gl X "reversed")(hm2:X.mg "reversed"=none)(ha:QE X a ta)
  (hs:starEach [(.Call (.Name "reversed" p2) [a] [] q2)] X.env=[(false,eval (.Call (.Name "reversed" p2) [a] [] q2) X.env)]:=by rfl) (hs2:starEach [a] X.env=[(false,eval a X.env)]:=by rfl) :
  QE X (.Call (.Name "list" p1) [.Call (.Name "reversed" p2) [a] [] q2] [] q1) (je8 ta):=⟨pe_listRev hc hg hm hg2 hm2 ha.h hs hs2⟩
theorem yd{K:PySem.W.Frag}(hK:X.K=K):jc1 X (.builtin "isinstance") (rIsU K):=by
 subst hK
 exact call_isinstanceU
end
theorem Kp.setD{S:List Addr}{H H1:Hp}(k:Kp S H H1){b:Addr}{kvs:List (List Key×V)}{o:HO}(hb:H1 b=some (.dT kvs))(h:b∈S\/H b=none):Kp S H (upd H1 b o) :=
 ⟨λc u e n=>by
  have:c≠b:=by
   rintro rfl
   rcases h with h|h
   ·exact n h
   ·rw[h]at e;cases e
  rw[jd this];exact k.old c u e n,
 λc ys e=>by
  have e1:=k.tup c ys e
  rw[jd (ji9 e1 hb (by intro z;cases z))];exact e1,
 λc u e=>by
  obtain⟨o',e'⟩:=k.dom c u e
  by_cases q:c=b
  ·subst q;exact⟨o,jc⟩
  ·exact⟨o',by rw[jd q];exact e'⟩⟩
theorem jap{X:Cx}{K:PySem.W.Frag}(hK:X.K=K):SlR X (rSlU K):=by
 subst hK
 exact sl_U
section
variable{prog:Program}{w:World}{A:Around}{E:Value->Shared->Prop}{h:Heap}{g:Array GenState}{d:Drawn}{t:Nat}{os:OsState}
variable{nm q:Str}{C N:Addr}{bs bm bmB:List Value}{hdct:Bool}{sn:List Str}{sub:List Value}{ab:Bool}{col:Option Bool}{dd:Option Addr}{k0 k1 k2 k3 k5:Option Value}{B newId initId:String}
theorem jnb(F:ExcBaseFacts B newId initId bmB)(T:OwnTail h bmB bm){mN:Str->Option Value}{rest:List Value}{fI:Addr}{oI:Obj}{Q:Fin->Shared->Prop}
  (hC:h.get? C=some (excClassObj nm q C N bs bm hdct sn sub ab col dd k0 k1 k2 k3 k5 newId)) (hn:h.Ns N mN) (hi:mN "__init__"=some (.ref fI)) (hfI:h.get? fI=some oI) (hfc:oI.cls=.type "function")
  (hq:wpAny (model prog w) A (call (.ref fI) (.ref (h.objs.size+1)::rest)) (λr s'=>r=.none/\Q (.done (.ret (.ref (h.objs.size+1)))) s') E
   ⟨(h.push {cls:=.type "tuple",data:=.seq rest.toArray}).push {cls:=.ref C,data:=.fields #[.ref h.objs.size,.none,.none,.none,.bool false,.none]},g,d,t,os⟩) (hrest:rest.length<=sizeLine) :
  wpAny (model prog w) A (Builtin.«type.__call__» ⟨.ref C::rest,[]⟩) Q E ⟨h,g,d,t,os⟩:=by
 repeat (first|with_reducible refine A2 hC ?_|with_reducible refine wpAny_madeBy_exc hC ?_|wp_step)
 refine codeAny_call_builtin_code (Code.quiet_builtin _ F.quiet) (wpAny_check_new_subT F T hC ?_)
 refine codeAny_exc_new_subT F T hC ?_ hrest
 show wpAny _ _ _ _ _ _
 have kp:∀b o,h.get? b=some o->((h.push {cls:=.type "tuple",data:=.seq rest.toArray}).push {cls:=.ref C,data:=.fields #[.ref h.objs.size,.none,.none,.none,.bool false,.none]}).get? b=some o:=λb o e=>Ac _ (Ac _ e)
 have hget:((h.push {cls:=.type "tuple",data:=.seq rest.toArray}).push
   {cls:=.ref C,data:=.fields #[.ref h.objs.size,.none,.none,.none,.bool false,.none]}).get? (h.objs.size+1)=some
   {cls:=.ref C,data:=.fields #[.ref h.objs.size,.none,.none,.none,.bool false,.none]}:=by heap_get
 have hcC:(Value.ref C::bm).contains (.ref C)=true:=by simp
 unfold isInstance
 repeat (first|with_reducible refine A2 hget ?_|(with_reducible refine Om (kp _ _ hC) ?_;rw[hcC])|wp_step)
 show wpAny _ _ (typeLookup (.ref C) _) _ _ _
 refine wpAny_typeLookup_tail (kp _ _ hC) (hn.keeps kp) (T.keeps kp) F.mroIs F.init.lookup ?_
 rw[hi]
 refine O5 (Ab ?_)
 unfold bindSpecial
 refine Ab (wpAny_typeOf (T:="function") ⟨_,kp _ _ hfI,hfc⟩ ?_)
 rw[Ad (by decide)]
 refine Am (Ab (Iw hq (λr s' hr=>?_) λ_ _ x=>x))
 obtain⟨rfl,hQ⟩:=hr
 wp_walk
 exact hQ
theorem call_exc_initT(F:ExcBaseFacts B newId initId bmB)(T:OwnTail h bmB bm){mN:Str->Option Value}{rest:List Value}{fI:Addr}{oI:Obj}{Q:Value->Shared->Prop}
  (hC:h.get? C=some (excClassObj nm q C N bs bm hdct sn sub ab col dd k0 k1 k2 k3 k5 newId)) (hn:h.Ns N mN) (hi:mN "__init__"=some (.ref fI)) (hfI:h.get? fI=some oI) (hfc:oI.cls=.type "function")
  (hq:wpAny (model prog w) (A.under (.builtin "type.__call__" ⟨.ref C::rest,[]⟩)) (call (.ref fI) (.ref (h.objs.size+1)::rest)) (λr s'=>r=.none/\Q (.ref (h.objs.size+1)) s') E
   ⟨(h.push {cls:=.type "tuple",data:=.seq rest.toArray}).push {cls:=.ref C,data:=.fields #[.ref h.objs.size,.none,.none,.none,.bool false,.none]},g,d,t,os⟩) (hrest:rest.length<=sizeLine) :
  wpAny (model prog w) A (call (.ref C) rest) Q E ⟨h,g,d,t,os⟩:=by
 have f1:=tc_lookup
 have f2:=tc_bind (.ref C)
 have hT:(⟨h,g,d,t,os⟩:Shared).TypeIs (.ref C) "type":=⟨_,hC,rfl⟩
 refine Uw (codeAny_of_tree ?_)
 show wpAny _ _ (callAny (.ref C) _) _ _ _
 repeat (any_goals (first|assumption|with_reducible refine A2 hC ?_|wp_step))
 refine⟨rfl,?_⟩
 exact codeAny_call_builtin_at (Code.quiet_builtin _ (by decide +kernel)) entry_typeCall (wpAny_check_type_call_sub hC (jnb F T hC hn hi hfI hfc hq hrest))
end
open Builtin Builtin.ObjectAttr
section
variable{prog:Program}{w:World}{A:Around}{E:Value->Shared->Prop}{h:Heap}{g:Array GenState}{d:Drawn}{t:Nat}{os:OsState}
variable{nm q:Str}{C D N x:Addr}{bs bmB:List Value}{sn:List Str}{sub:List Value}{ab:Bool}{col:Option Bool}{dd:Option Addr}{k0 k1 k2 k3 k5:Option Value}{newId name:Str}{nid sa owner B:String}{v:Value}
def Finds(M:Model)(h:Heap)(C:Addr)(name:Str)(r:Option Value):Prop:=∀(A:Around)(E:Value->Shared->Prop)(g:Array GenState)(d:Drawn)(t:Nat)(os:OsState)(Q:Option Value->Shared->Prop),Q r ⟨h,g,d,t,os⟩->wpAny M A (typeLookup (.ref C) name) Q E ⟨h,g,d,t,os⟩
theorem Finds.go{M:Model}{r:Option Value}{Q:Option Value->Shared->Prop}(f:Finds M h C name r)(q:Q r ⟨h,g,d,t,os⟩):wpAny M A (typeLookup (.ref C) name) Q E ⟨h,g,d,t,os⟩:=f _ _ _ _ _ _ _ q
theorem Finds.of{M:Model}{K:PySem.W.Frag}{r:Option Value}(X:K.In h)(e:PySem.W.findIn K (.ref C) name=some r):Finds M h C name r:=λA E g d t os Q q=>(PySem.W.looks_findIn X e).at q
theorem jnc{tk:Tok}{o:Obj}{Q:Fin->Shared->Prop}(SF:StoreFacts B bmB sa owner)(hC:h.get? C=some (excClassObj nm q C N bs (.ref D::bmB) true sn sub ab col dd k0 k1 k2 k3 k5 nid))
  (hl:Finds (model prog w) h C name none) (hx:h.get? x=some o) (hc:o.cls=.ref C) (hnc:∀c,o.data≠.cls c) (hdn:o.dict=none)
  (hq:∀h' tk',h'.get? x=some {o with dict:=some h.objs.size}->h'.Ns1 h.objs.size (λy=>if y=name then some v else none)->(∀b u,b≠x->h.get? b=some u->h'.get? b=some u)->Q (.done (.ret .none)) ⟨h',g,d,tk',os⟩) :
  wpAny (model prog w) A (Builtin.«object.__setattr__» ⟨[.ref x,.str name tk,v],[]⟩) Q E ⟨h,g,d,t,os⟩:=by
 have hpass:=SF.passes (.ref x)
 unfold Builtin.«object.__setattr__»
 repeat (first|rw[refuse_eq]|(rw[refuseLoop_ref,refuseLoop_ref,hpass])|(with_reducible refine A2 hx ?_;rw[hc])|with_reducible refine wpAny_mroOf_exc hC ?_|(with_reducible refine Finds.go hl ?_)|wp_step)
 rw[hdn,Aa (by simp[typeHasDict])]
 split
 ·rename_i hcd
  cases hcd
 split
 ·rename_i c hcd
  exact absurd hcd (hnc c)
 ·have hx₁:(h.push {cls:=.type "dict",data:=.dict #[]}).get? x=some o:=Ac _ hx
  have hxs:x≠h.objs.size:=Ar (Ah hx)
  refine Ab (wpAny_alloc' ?_)
  refine Ab (wpAny_update' hx₁ ?_)
  refine Am ?_
  have hgd:((h.push {cls:=.type "dict",data:=.dict #[]}).update x λo=>{cls:=o.cls,dict:=some h.objs.size,data:=o.data,slots:=o.slots}).get? h.objs.size
    = some {cls:=.type "dict",data:=.dict #[]} :=
   (Heap.get?_update_ne _ _ _ _ hxs.symm).trans (Heap.get?_push_at rfl rfl)
  have hnd:((h.push {cls:=.type "dict",data:=.dict #[]}).update x λo=>{cls:=o.cls,dict:=some h.objs.size,data:=o.data,slots:=o.slots}).Ns h.objs.size (λ_=>none) :=
   ⟨_,#[],_,hgd,rfl,λe he=>absurd he (by simp),λ_=>rfl⟩
  show wpAny _ _ (storeInDict h.objs.size (.str name tk) name v) _ _ _
  unfold storeInDict newKeyGuard
  refine Ab (Am (Ab (wpAny_nsSet1 (Heap.Ns1.of_empty hnd) λh' hn' hs=>?_)))
  obtain⟨oD,esD,epD,hoD,hdD,hcD⟩:=hn'.count (Within.cons name v Within.nil)
  refine Ab (wpAny_lookBehind hoD (by rw[hdD];exact pastItsLine_dict (Ib hcD (by rw[List.length_cons,List.length_nil,U2];omega))) ?_)
  wp_walk
  refine hq h' _ ?_ hn' λb ob hbx hb=>?_
  ·refine(hs.2 x hxs).trans (Iq _ hx₁ ?_)
   have hfr:=(Heap.get?_some_iff.mp hx).2
   obtain⟨oc,od,odt,osl⟩:=o
   cases odt <;> first|rfl|exact hfr
  ·exact(hs.2 b (Ar (Ah hb))).trans ((Heap.get?_update_ne _ _ _ _ hbx).trans (Ac _ hb))
theorem jj6{M:Model}{o:Obj}{nameV:Value}{Q:Unit->Shared->Prop}(SF:StoreFacts B bmB sa owner)
  (hC:h.get? C=some (excClassObj nm q C N bs (.ref D::bmB) true sn sub ab col dd k0 k1 k2 k3 k5 nid)) (hx:h.get? x=some o) (hc:o.cls=.ref C) (hq:Q () ⟨h,g,d,t,os⟩) :
  wpAny M A (checkBuiltinCall sa ⟨[.ref x,nameV,v],[]⟩) Q E ⟨h,g,d,t,os⟩:=by
 have hcB:(Value.ref C::.ref D::bmB).contains (.type owner)=true:=by rw[Os,Os,SF.hasOwner,Wh,Wh]
 have ha:=SF.args (.ref x) nameV v
 simp only[checkBuiltinCall,SF.kind,SF.split]
 refine Ab ?_
 ·unfold isInstance
  repeat (first|(with_reducible refine A2 hx ?_;rw[hc])|(with_reducible refine Om hC ?_;rw[hcB])|wp_step)
  cases hsig:Manifest.signature? sa with
  |none=>exact Am hq
  |some sig =>
   simp only[argsOk,hsig]at ha
   have h2:Bind.checkArgs sa sig ⟨[.ref x,nameV,v],[]⟩=pure ():=ha
   show wpAny M A (Bind.checkArgs sa sig ⟨[.ref x,nameV,v],[]⟩) Q E _
   rw[h2];exact Am hq
theorem jk3{o:Obj}{Q:Unit->Shared->Prop}(SF:StoreFacts B bmB sa owner)(hC:h.get? C=some (excClassObj nm q C N bs (.ref D::bmB) true sn sub ab col dd k0 k1 k2 k3 k5 nid))
  (hs:Finds (model prog w) h C "__setattr__" (some (.builtin sa))) (hl:Finds (model prog w) h C name none) (hx:h.get? x=some o) (hc:o.cls=.ref C) (hnc:∀c,o.data≠.cls c) (hdn:o.dict=none)
  (hq:∀h' tk',h'.get? x=some {o with dict:=some h.objs.size}->h'.Ns1 h.objs.size (λy=>if y=name then some v else none)->(∀b u,b≠x->h.get? b=some u->h'.get? b=some u)->Q () ⟨h',g,d,tk',os⟩) :
  wpAny (model prog w) A (setAttr (.ref x) name v) Q E ⟨h,g,d,t,os⟩:=by
 have f3:=SF.slot.bind (.ref x)
 unfold setAttr callSpecial? specialOf
 repeat (any_goals (first|assumption|(with_reducible refine A2 hx ?_;rw[hc])|(with_reducible refine Finds.go hs ?_)|wp_step))
 refine Uo SF.slot.plain SF.entry (jj6 SF hC hx hc (jnc SF hC hl hx hc hnc hdn λh' tk' a1 a2 a3=>?_))
 repeat (any_goals (first|assumption|wp_step))
 exact hq h' tk' a1 a2 a3
end
open Builtin Builtin.ObjectAttr
section
variable{prog:Program}{w:World}{A:Around}{E:Value->Shared->Prop}{h:Heap}{g:Array GenState}{d:Drawn}{t:Nat}{os:OsState}
variable{nm q:Str}{C D N x dx:Addr}{bs bmB:List Value}{sn:List Str}{sub:List Value}{ab:Bool}{col:Option Bool}{dd:Option Addr}{k0 k1 k2 k3 k5:Option Value}{name:Str}{nid B:String}{v:Value}{mA:Str->Option Value}
theorem jhu{tk:Tok}{o:Obj}{Q:Fin->Shared->Prop}(hC:h.get? C=some (excClassObj nm q C N bs (.ref D::bmB) true sn sub ab col dd k0 k1 k2 k3 k5 nid))
  (hl:Finds (model prog w) h C name none) (hx:h.get? x=some o) (hc:o.cls=.ref C) (hnc:∀c,o.data≠.cls c) (hdx:o.dict=some dx) (hns:h.Ns1 dx mA) (hv:mA name=some v) (hq:Q (.done (.ret v)) ⟨h,g,d,t,os⟩) :
  wpAny (model prog w) A (Builtin.«object.__getattribute__» ⟨[.ref x,.str name tk],[]⟩) Q E ⟨h,g,d,t,os⟩:=by
 unfold Builtin.«object.__getattribute__»
 repeat (first|(with_reducible refine A2 hx ?_;rw[hc])|(with_reducible refine Finds.go hl ?_)|wp_step)
 split
 ·rename_i c hcd
  exact absurd hcd (hnc c)
 unfold instanceDict
 repeat (first|(with_reducible refine A2 hx ?_;rw[hc])|with_reducible refine A2 hC ?_|wp_step)
 rw[hdx]
 repeat (first|(with_reducible refine wpAny_nsGet hns.ns ?_;rw[hv])|wp_step)
 exact hq
theorem jfb{M:Model}{o:Obj}{nameV:Value}{Q:Unit->Shared->Prop}(hB:bmB.contains (.type "BaseException")=true)(hC:h.get? C=some (excClassObj nm q C N bs (.ref D::bmB) true sn sub ab col dd k0 k1 k2 k3 k5 nid))
  (hx:h.get? x=some o) (hc:o.cls=.ref C) (hq:Q () ⟨h,g,d,t,os⟩):wpAny M A (checkBuiltinCall "BaseException.__getattribute__" ⟨[.ref x,nameV],[]⟩) Q E ⟨h,g,d,t,os⟩:=by
 have hk:builtinKind "BaseException.__getattribute__"=some .slot:=by decide +kernel
 have hsplit:splitId "BaseException.__getattribute__"=some ("BaseException","__getattribute__"):=by decide +kernel
 have hcB:(Value.ref C::.ref D::bmB).contains (.type "BaseException")=true:=by rw[Os,Os,hB,Wh,Wh]
 have ha:=PySem.F.args_bexc_ga (.ref x) nameV
 simp only[checkBuiltinCall,hk,hsplit]
 refine Ab ?_
 ·unfold isInstance
  repeat (first|(with_reducible refine A2 hx ?_;rw[hc])|(with_reducible refine Om hC ?_;rw[hcB])|wp_step)
  exact hq
theorem jk2{o:Obj}{expr:Bool}{Q:Value->Shared->Prop}(hB:bmB.contains (.type "BaseException")=true)(hC:h.get? C=some (excClassObj nm q C N bs (.ref D::bmB) true sn sub ab col dd k0 k1 k2 k3 k5 nid))
  (hg:Finds (model prog w) h C "__getattribute__" (some (.builtin "BaseException.__getattribute__"))) (hh:Finds (model prog w) h C "__getattr__" none)
  (hl:Finds (model prog w) h C name none) (hx:h.get? x=some o) (hc:o.cls=.ref C) (hnc:∀c,o.data≠.cls c) (hdx:o.dict=some dx) (hns:h.Ns1 dx mA) (hv:mA name=some v) (ho:handedOut v=pure v)
  (hq:∀tk,Q v ⟨h,g,d,tk,os⟩):wpAny (model prog w) A (getAttr (.ref x) name expr) Q E ⟨h,g,d,t,os⟩:=by
 have f3:=Ot.ga.bind (.ref x)
 have hx0:(expr && onTheHeap (Value.builtin "BaseException.__getattribute__"))=false:=by cases expr <;> rfl
 have hx2:(Value.builtin "BaseException.__getattribute__" == Value.builtin "object.__getattribute__")=false:=by decide +kernel
 have hx1:(onTheHeap (Value.ref C) && Value.builtin "BaseException.__getattribute__" == Value.builtin "object.__getattribute__")=false:=by rw[hx2];rfl
 unfold getAttr getAttrBy
 repeat (any_goals (first|assumption|(with_reducible refine A2 hx ?_;rw[hc])|(with_reducible refine Finds.go hg ?_)|(with_reducible refine Finds.go hh ?_)|wp_step))
 refine Uo Ot.ga.plain PySem.F.entry_bexc_ga (jfb hB hC hx hc (jhu hC hl hx hc hnc hdx hns hv ?_))
 show wpAny _ _ (handedOut v) _ _ _
 rw[ho]
 exact Am (hq _)
end
section
variable{prog:Program}{w:World}{A:Around}{E:Value->Shared->Prop}{h:Heap}{g:Array GenState}{d:Drawn}{t:Nat}{os:OsState}
variable{nm q:Str}{C N:Addr}{bs bm bmB:List Value}{hdct:Bool}{sn:List Str}{sub:List Value}{ab:Bool}{col:Option Bool}{dd:Option Addr}{k0 k1 k2 k3 k5:Option Value}{B newId initId:String}
theorem call_exc_init(F:ExcBaseFacts B newId initId bmB)(T:OwnTail h bmB bm){rest:List Value}{e:Addr}{oe:Obj}{vs:Array Value}{Q:Value->Shared->Prop}
  (hC:h.get? C=some (excClassObj nm q C N bs bm hdct sn sub ab col dd k0 k1 k2 k3 k5 newId)) (he:h.get? e=some oe) (hcls:oe.cls=.ref C) (hd:oe.data=.fields vs) (hs:0<vs.size)
  (hq:∀h',(∀b o,b≠e->h.get? b=some o->h'.get? b=some o)->h'.get? e=some {oe with data:=.fields (vs.setIfInBounds 0 (.ref h.objs.size))}->Q .none ⟨h',g,d,t,os⟩) (hrest:rest.length<=sizeLine) :
  wpAny (model prog w) A (call (.builtin initId) (.ref e::rest)) Q E ⟨h,g,d,t,os⟩:=by
 refine Uw (Uo F.init.plain F.initEntry (wpAny_check_init_subT F T hC he hcls ?_))
 have h0:vs[0]?=some vs[0]:=by simp[hs]
 have he1:(h.push {cls:=.type "tuple",data:=.seq rest.toArray}).get? e=some oe:=Ac _ he
 show wpAny _ _ (newTuple rest >>= λv=>Builtin.BaseException.bexcPut (.ref e) 0 v >>= λ_=>ret .none) _ _ _
 refine Ab (wpAny_newTuple ?_)
 show wpAny _ _ (Builtin.BaseException.bexcPut (.ref e) 0 (.ref h.objs.size) >>= λ_=>ret .none) _ _ _
 refine Ab ?_
 unfold Builtin.BaseException.bexcPut
 refine Ab (Ua he1 hd h0 (Ab (Uh he1 hd hs ?_)))
 have hd3:=Wn hd (·.setIfInBounds 0 (Value.ref h.objs.size))
 have he3:=Iq (Obj.mapFields (·.setIfInBounds 0 (Value.ref h.objs.size))) he1 (Obj.isFreed_of_fields hd3)
 have fin:wpAny (model prog w) A.in1 (ret Value.none) (λfin s'=>match fin with
   |.done f=>(match(Except.ok f:Result)with|.ok (.ret v)=>Q v s'|.ok a=>False|.error e=>E e s')
   |.again c'=>c'.quiet=true/\codeAny (model prog w) A c' (λr s'=>match r with|.ok (.ret v)=>Q v s'|.ok a=>False|.error e=>E e s') s') (λe s'=>E e s')
   {heap:=(h.push {cls:=.type "tuple",data:=.seq rest.toArray}).update e (Obj.mapFields (·.setIfInBounds 0 (Value.ref h.objs.size))),gens:=g,drawn:=d,toks:=t,os:=os}:=by
  refine Am (hq _ (λb o hb ho=>?_) ?_)
  ·rw[Im _ _ (Ix hb)]
   exact Ac _ ho
  ·rw[he3]
   obtain⟨oc,od,odt,osl⟩:=oe
   dsimp only at hd
   subst hd
   rfl
 split
 ·exact wpAny_letGo fin
 ·exact Am fin
end
abbrev bmVE:List Value:=[.type "ValueError",.type "Exception",.type "BaseException",.type "object"]
def excφ(a C:Addr)(dx:Option Addr)(h:Heap):Prop:=∃t,h.get? a=some {cls:=.ref C,dict:=dx,data:=.fields #[.ref t,.none,.none,.none,.bool false,.none]}
def ExO(a C:Addr)(dx:Option Addr):HO:=.ext (excφ a C dx)
theorem jj5{P:Program}{w:World}{H:Hp}{h:Heap}{a C:Addr}{dx:Option Addr}{t:Addr}(e:h.get? a=some {cls:=.ref C,dict:=dx,data:=.fields #[.ref t,.none,.none,.none,.bool false,.none]}):ObjOk P w H h a (ExO a C dx) :=
 ⟨⟨t,e⟩,⟨_,e⟩,λh1 h2 ⟨t',e1⟩ k=>⟨t',k _ e1⟩⟩
structure XC(K:PySem.W.Frag)(C D N:Addr):Prop where
 sh:∃nm q bs sn sub ab col dd k0 k1 k2 k3 k5,K.lookup C=some (excClassObj nm q C N bs (.ref D::bmVE) true sn sub ab col dd k0 k1 k2 k3 k5 "ValueError.__new__")
 tl:PySem.W.tailIn K bmVE (.ref D::bmVE)=true
 ns:PySem.W.nsOkIn K N=true
 sa:PySem.W.findIn K (.ref C) "__setattr__"=some (some (.builtin "object.__setattr__"))
 ga:PySem.W.findIn K (.ref C) "__getattribute__"=some (some (.builtin "BaseException.__getattribute__"))
 gx:PySem.W.findIn K (.ref C) "__getattr__"=some none
 kp:PySem.W.keepIn K (.ref C)=true
theorem jpw{K:PySem.W.Frag}{h:Heap}{N:Addr}{mg:Str->Option Value}{n:Str}{v:Value}(X:K.In h)(G:h.Ns N mg)(e:PySem.W.nsIn K N n=some (some v)):mg n=some v:=by
 obtain⟨o,es,ep,ho,hd,_,hf⟩:=G
 unfold PySem.W.nsIn at e
 split at e
 ·rename_i c d es' n' sl q
  have:=X _ _ q
  rw[ho]at this
  cases this
  cases hd
  split at e
  ·rename_i en he
   rw[<-hf]
   unfold nsFind findBy
   rw[<-Array.find?_toList,he]
   simpa using e
  ·split at e <;> cases e
 ·cases e
section
variable{X:Cx}{pins:List (Addr×Obj)}{σ:St}{H:Hp}{s:Shared}{C D N:Addr}
theorem Inv.rewrite{a:Addr}{o:HO}(e:H a=some o):upd H a o=H:=by
 funext b
 by_cases h:b=a
 ·subst h;rw[jc,e]
 ·rw[jd h]
def jji(C:Addr)(sp:Sp)(t:TA):TE:=λσ H Q=>t σ H λvs H1=>∀e,H1 e=none->sp (.ref e::vs) (upd H1 e (ExO e C none)) (λv H2=>v=.non/\Q (.ref e) H2) E0
theorem pe_excI{x:Str}{p pos:Pos}{k:Nat}{f:Addr}{fd:FuncData}{ps:List Str}{sp:Sp}{e:Expr}{es:List Expr}{t:TA}(c:XC X.K C D N)(hi:PySem.W.nsIn X.K N "__init__"=some (some (.ref f)))(hf:∃o,X.K.lookup f=some o/\o.cls=.type "function")
  (F:FnOk X.prog X.w X.K X.mg X.base CX0 k f fd ps sp) (hr:Room (k+1) X.A) (hb:Binds X.K fd ps []) (hg:Gl X x) (hm:X.mg x=some (.ref C)) (ha:PA X (e::es) t) (hps:ps.length<=sizeLine:=by decide)
  (hdb:(x == ("__debug__":Str))=false:=by decide) (he:starEach (e::es) X.env=(false,eval e X.env)::starEach es X.env:=by rfl) (hpl:(backTo pos (starEach es X.env)).any (·.1)=false:=by rfl) :
  PE X (.Call (.Name x p) (e::es) [] pos) (jji C sp t):=by
 intro pins s σ H Q I h
 refine Ik (jdr I hg hm ?_ hdb)
 refine O7 (h₀:=X.base) I.ok.mod.kin c.kp (thn (ha pos pins s σ H _ I h) λus s1 ⟨vs,H1,I1,r,q1⟩=>⟨I1.kIn,?_⟩) he hpl
 obtain⟨nm,q,bs,sn,sub,ab,col,dd,k0,k1,k2,k3,k5,lk⟩:=c.sh
 obtain⟨oI,lkf,hfc⟩:=hf
 have hC:=I1.kIn _ _ lk
 have hn:=Heap.Ns.of_isNs (PySem.W.isNs_of_in I1.kIn c.ns)
 have hin:=jpw I1.kIn hn hi
 have T:=PySem.W.tail_of_in I1.kIn c.tl
 have hz:s1.heap.objs.size<=s1.heap.objs.size+1:=Nat.le_succ _
 have q2:=q1 (s1.heap.objs.size+1) (I1.hok.fresh hz)
 have r2:Vals (V.ref (s1.heap.objs.size+1)::vs) (Value.ref (s1.heap.objs.size+1)::us):=.cons rfl r
 have hl:(Value.ref (s1.heap.objs.size+1)::us++[]).length=ps.length:=by
  have e:=r2.length
  rw[F.len _ _ _ _ q2]at e
  rw[Ir]
  exact e.symm
 obtain⟨hh,g,d,tk,os⟩:=s1
 have hrest:us.length<=sizeLine:=by
  simp only[Ir,List.length_cons]at hl
  omega
 refine call_exc_initT PySem.F.excBase_ValueError T hC hn hin (I1.kIn _ _ lkf) hfc ?_ hrest
 have I2:Inv X pins σ (upd H1 (hh.objs.size+1) (ExO (hh.objs.size+1) C none)) ⟨(hh.push {cls:=.type "tuple",data:=.seq us.toArray}).push {cls:=.ref C,data:=.fields #[.ref hh.objs.size,.none,.none,.none,.bool false,.none]},g,d,tk,os⟩ :=
  I1.laid (t':=tk) (λb o e=>Ac _ (Ac _ e)) hz (jj5 (t:=hh.objs.size) (by heap_get))
 refine Uw (Ue (F.run _ X.stack _ _ ⟨Value.ref (hh.objs.size+1)::us,[]⟩ (Value.ref (hh.objs.size+1)::us) _ _ E0 (hr.make C us []) (I2.env0.make C us []) (by
  have:=hb _ (Value.ref (hh.objs.size+1)::us) I2.kIn hl
  rwa[Ir]at this) r2 q2) λr s' hq'=>?_)
 cases r with
 |error e=>exact False.elim hq'
 |ok fl =>
  cases fl with
  |ret u =>
   obtain⟨v,H',I3,rv,ev,q3⟩:=I2.after hq'
   subst ev
   exact⟨rv,⟨V.ref (hh.objs.size+1),H',I3,rfl,q3⟩⟩
  |next=>exact False.elim hq'
  |brk=>exact False.elim hq'
  |cont=>exact False.elim hq'
structure XD(K:PySem.W.Frag)(D:Addr):Prop where
 sp:PySem.W.specialIn K (.ref D) "__getattribute__"=some (some (.builtin "type.__getattribute__"))
 rd:PySem.W.readsIn K D (.type "type")=true
 fc:PySem.W.findCls K (.ref D) (.type "type") "__init__"=some (.val (.builtin "ValueError.__init__"))
def je7(K:PySem.W.Frag)(t:TA):TE:=λσ H Q=>t σ H λvs H1=>∃e y C D N,vs=[.ref e,y]/\H1 e=some (ExO e C none)/\XC K C D N/\Q .non H1
theorem pe_excInit{x:Str}{p pos apos:Pos}{e:Expr}{es:List Expr}{t:TA}(xd:XD X.K D)(hg:Gl X x)(hm:X.mg x=some (.ref D))(ha:PA X (e::es) t)(hdb:(x == ("__debug__":Str))=false:=by decide)
  (he:starEach (e::es) X.env=(false,eval e X.env)::starEach es X.env:=by rfl) (hpl:(backTo pos (starEach es X.env)).any (·.1)=false:=by rfl) {pl:Sem Bool}
  (ht:eval (.Call (.Attribute (.Name x p) "__init__" apos) (e::es) [] pos) X.env=(do
   let ov <-eval (.Name x p) X.env
   standAt apos.atName
   let(f,first) <-holding [ov] (getMethod ov "__init__" pl)
   callWith pos f first (backTo pos (starEach (e::es) X.env)) (backToKw pos (keywordEach [] X.env))):=by rfl) :
  PE X (.Call (.Attribute (.Name x p) "__init__" apos) (e::es) [] pos) (je7 X.K t):=by
 intro pins s σ H Q I h
 refine PySem.W.methodCall_KW (pl:=pl) (jdr I hg hm ?_ hdb) ht
 refine PySem.W.method_cls I.kIn xd.sp (PySem.W.cls_value I.kIn xd.rd xd.fc rfl ?_)
 have I':Inv X pins σ H {s with toks:=s.toks+1}:=I.tok _
 refine PyProof.Rows.callWith_builtin1 (thn (ha pos pins _ σ H _ I' h) λus s1 ⟨vs,H1,I1,r1,a,y,C,D',N,ev,ea,c,q1⟩=>?_) he hpl
 subst ev
 obtain⟨u1,u2,rfl,ru1,ru2⟩:=jho r1
 cases ru1
 obtain⟨nm,q,bs,sn,sub,ab,col,dd,k0,k1,k2,k3,k5,lk⟩:=c.sh
 have hC:=I1.kIn _ _ lk
 have T:=PySem.W.tail_of_in I1.kIn c.tl
 obtain⟨⟨t0,eo⟩,_,_⟩:=(show ObjOk X.prog X.w H1 s1.heap a (ExO a C none)from I1.hok a _ ea)
 obtain⟨hh,g,d,tk,os⟩:=s1
 refine call_exc_init PySem.F.excBase_ValueError T hC eo rfl rfl (by simp) (λh' k e'=>?_) (by show 1<=sizeLine;decide)
 have I3:=I1.write (t':=tk) (x:=a) (e:=a) (o:=ExO a C none) (h':=h') (by rw[ea];exact True.intro) (.inl rfl) k ⟨_,e'⟩ (jj5 (t:=hh.objs.size) (by simpa using e'))
 rw[Inv.rewrite ea]at I3
 exact⟨.non,H1,I3,rfl,q1⟩
def jfw(K:PySem.W.Frag)(ta tv:TE)(f:Str):TS:=λD σ H=>tv σ H λy H1=>ta σ H1 λx H2=>∃a C D' N,x=.ref a/\H2 a=some (ExO a C none)/\XC K C D' N/\PySem.W.findIn K (.ref C) f=some none /\
 ∀dx,H2 dx=none->D.nx σ (upd (upd H2 dx (.xd [(f,y)])) a (ExO a C (some dx)))
theorem ps_excSet{o value:Expr}{f:Str}{pos pos':Pos}{ta tv:TE}(ha:PE X o ta)(hv:PE X value tv)(hs:swapsWith value (some (.Attribute o f pos')) pos.line X.env=pure false):PS X (.Assign [.Attribute o f pos'] value pos) (jfw X.K ta tv f):=by
 intro pins s σ H En I h
 refine plainObj_wpAny_Assign_Attribute (thn (hv pins s σ H _ I h) λu s1 ⟨y,H1,I1,ry,q⟩=>thn (ha pins s1 σ H1 _ I1 q) λov s2 ⟨x,H2,I2,rx,a,C,D',N,ex,ea,c,nf,q2⟩=>?_) hs
 subst ex
 obtain rfl:ov=Value.ref a:=rx
 obtain⟨nm,qn,bs,sn,sub,ab,col,dd,k0,k1,k2,k3,k5,lk⟩:=c.sh
 have hC:=I2.kIn _ _ lk
 obtain⟨⟨t0,eo⟩,_,_⟩:=(show ObjOk X.prog X.w H2 s2.heap a (ExO a C none)from I2.hok a _ ea)
 have F1:=Finds.of (M:=model X.prog X.w) I2.kIn c.sa
 have F2:=Finds.of (M:=model X.prog X.w) I2.kIn nf
 obtain⟨hh,g,d,tk,os⟩:=s2
 refine jk3 PySem.F.store_ValueError hC F1 F2 eo rfl (λc e=>by cases e) rfl λh' tk' a1 a2 a3=>?_
 have hdx:H2 hh.objs.size=none:=I2.hok.fresh (Af _)
 have lta:a<hh.objs.size:=Ah eo
 have nda:hh.objs.size≠a:=Nat.ne_of_gt lta
 have hok:HOk X.prog X.w (upd (upd H2 hh.objs.size (.xd [(f,y)])) a (ExO a C (some hh.objs.size))) h':=by
  intro b u e
  by_cases hb:b=a
  ·subst hb
   rw[jc]at e
   cases e
   exact jj5 a1
  ·rw[jd hb]at e
   by_cases hb2:b=hh.objs.size
   ·subst hb2
    rw[jc]at e
    cases e
    refine⟨_,a2,λf'=>?_⟩
    by_cases hf:f'=f
    ·subst hf
     simpa[List.lookup,RelO]using ry
    ·have:(f' == f)=false:=by simpa using hf
     simp[List.lookup,this,hf,RelO]
   ·rw[jd hb2]at e
    refine(I2.hok b u e).stay (λd' v' hd q'=>a3 d' v' ?_ q') (λd' q'=>?_) λd' ys q'=>?_
    ·rcases hd with rfl|hd
     ·exact hb
     ·exact λz=>by subst z;rw[ea]at hd;cases hd
    ·rw[jd (λz=>by subst z;rw[ea]at q';cases q'),jd (λz=>by subst z;rw[hdx]at q';cases q')];exact q'
    ·rw[jd (λz=>by subst z;rw[ea]at q';cases q'),jd (λz=>by subst z;rw[hdx]at q';cases q')];exact q'
 have ne:∀b v',H2 b=v'->v'≠some (ExO a C none)->b≠a:=λb v' e1 e2 z=>by subst z;rw[ea]at e1;exact e2 e1.symm
 have un:Un X.fs [] H2 (upd (upd H2 hh.objs.size (.xd [(f,y)])) a (ExO a C (some hh.objs.size))) hh h':=by
  refine⟨λb o e n _ _=>a3 b o (ne b _ n (by simp)) e,λb o e n _ _=>⟨o.slots,a3 b o (ne b _ n (by simp)) e⟩,λb o e n _=>?_,λb o e _=>?_,λb xs e=>?_,λb o u e=>?_,λb ps e=>⟨#[],?_⟩⟩
  ·rw[jd (ne b _ n (by simp)),jd (Ar (Ah e))];exact n
  ·by_cases hb:b=a
   ·subst hb;exact⟨_,a1⟩
   ·exact⟨_,a3 b o hb e⟩
  ·rw[jd (ne b _ e (by simp[ExO])),jd (jh e hdx)];exact e
  ·rw[jd (ne b _ e (by simp[ExO])),jd (jh e hdx)];exact e
  ·rw[jd (ne b _ e (by simp[ExO])),jd (jh e hdx),e];simp
 exact⟨σ,_,I2.un (t':=tk') un hok,q2 _ hdx⟩
end
open Builtin Builtin.ObjectAttr
section
variable{prog:Program}{w:World}{A:Around}{E:Value->Shared->Prop}{h:Heap}{g:Array GenState}{d:Drawn}{t:Nat}{os:OsState}
variable{nm q:Str}{C D N x:Addr}{bs bmB:List Value}{sn:List Str}{sub:List Value}{ab:Bool}{col:Option Bool}{dd:Option Addr}{k0 k1 k2 k3 k5:Option Value}{nid:String}{K:PySem.W.Frag}
theorem jgv{tk:Tok}{o:Obj}{od:Option Obj}{Q:Fin->Shared->Prop}(X:K.In h)(hC:h.get? C=some (excClassObj nm q C N bs (.ref D::bmB) true sn sub ab col dd k0 k1 k2 k3 k5 nid))
  (hl:Finds (model prog w) h C "__class__" (some (.builtin "object.__class__"))) (I:PySem.W.InstAt h x o C od) (hm:PySem.W.mroIn K C (.type "object")=some true) (hq:Q (.done (.ret (.ref C))) ⟨h,g,d,t,os⟩) :
  wpAny (model prog w) A (Builtin.«object.__getattribute__» ⟨[.ref x,.str "__class__" tk],[]⟩) Q E ⟨h,g,d,t,os⟩:=by
 have hx:=I.at_
 have hc:o.cls=.ref C:=I.cls
 have f5:=PySem.F.typeOf_object_class
 have f6:=PySem.F.slot_gs_get.lookup
 have f7:=PySem.F.slot_gs_set.lookup
 have hT5:(⟨h,g,d,t,os⟩:Shared).TypeIs (.builtin "object.__class__") "getset_descriptor":=f5
 unfold Builtin.«object.__getattribute__»
 repeat (any_goals (first|assumption|(with_reducible refine A2 hx ?_;rw[hc])|(with_reducible refine Finds.go hl ?_)|wp_step))
 refine PySem.W.class_get (K:=K) (s:=⟨h,g,d,t,os⟩) X I hm ?_
 repeat (any_goals (first|assumption|wp_step))
theorem jht{o:Obj}{od:Option Obj}{Q:Option Value->Shared->Prop}(X:K.In h)(hB:bmB.contains (.type "BaseException")=true)(hC:h.get? C=some (excClassObj nm q C N bs (.ref D::bmB) true sn sub ab col dd k0 k1 k2 k3 k5 nid))
  (hg:Finds (model prog w) h C "__getattribute__" (some (.builtin "BaseException.__getattribute__"))) (hh:Finds (model prog w) h C "__getattr__" none)
  (hl:Finds (model prog w) h C "__class__" (some (.builtin "object.__class__"))) (I:PySem.W.InstAt h x o C od) (hm:PySem.W.mroIn K C (.type "object")=some true)
  (hq:Q (some (.ref C)) ⟨h,g,d,t+1,os⟩):wpAny (model prog w) A (getAttr? (.ref x) "__class__") Q E ⟨h,g,d,t,os⟩:=by
 have hx:=I.at_
 have hc:o.cls=.ref C:=I.cls
 have f3:=Ot.ga.bind (.ref x)
 have hx2:(Value.builtin "BaseException.__getattribute__" == Value.builtin "object.__getattribute__")=false:=by decide +kernel
 have hx1:(onTheHeap (Value.ref C) && Value.builtin "BaseException.__getattribute__" == Value.builtin "object.__getattribute__")=false:=by rw[hx2];rfl
 unfold getAttr? getAttrBy? getAttrBy
 repeat (any_goals (first|assumption|(with_reducible refine A2 hx ?_;rw[hc])|(with_reducible refine Finds.go hg ?_)|(with_reducible refine Finds.go hh ?_)|wp_step))
 refine Uo Ot.ga.plain PySem.F.entry_bexc_ga (jfb hB hC hx hc (jgv X hC hl I hm ?_))
 show wpAny _ _ (handedOut (.ref C)) _ _ _
 rw[PySem.W.handedOut_of rfl]
 exact Am (Am hq)
end
structure XI(K:PySem.W.Frag)(C:Addr):Prop where
 cl:PySem.W.findIn K (.ref C) "__class__"=some (some (.builtin "object.__class__"))
 ob:PySem.W.mroIn K C (.type "object")=some true
theorem jgg{K:PySem.W.Frag}{C D N x:Addr}(c:XC K C D N)(xi:XI K C):PySem.W.KitX K (.ref x) (.ref C) (λh=>∃o od,PySem.W.InstAt h x o C od) where
 ty:=λM h X ⟨o,od,I⟩=>I.type
 it:=λM h X _=>by
  obtain⟨nm,q,bs,sn,sub,ab,col,dd,k0,k1,k2,k3,k5,lk⟩:=c.sh
  intro A' Q' E' s' k q
  unfold isType loadHead
  exact Ab (wpAny_loadPart (k _ _ (X _ _ lk)) (Am q))
 ne:=λh tp dd its n sl X htp=>by
  obtain⟨nm,q,bs,sn,sub,ab,col,dd,k0,k1,k2,k3,k5,lk⟩:=c.sh
  refine Bool.eq_false_iff.mpr λq=>?_
  have e:C=tp:=Value.ref.inj (Uk.mp q)
  subst e
  have z:=(X _ _ lk).symm.trans htp
  simp at z
 ca:=fun{prog w A E Q s} X ⟨o,od,I⟩ k=>by
  obtain⟨nm,q,bs,sn,sub,ab,col,dd,k0,k1,k2,k3,k5,lk⟩:=c.sh
  obtain⟨hh,g,d,tk,os⟩:=s
  exact jht X (by decide) (X _ _ lk) (Finds.of X c.ga) (Finds.of X c.gx) (Finds.of X xi.cl) I xi.ob k
section
variable{X:Cx}
def jjj(te:TE):TE:=λσ H Q=>te σ H λx H1=>∃i:Int,x=.int i/\i.natAbs<10^20/\∀z:Str,z.length<=21->Q (.str z) H1
theorem pe_fmtI{a:Expr}{te:TE}{pos:Pos}(ha:PE X a te):PE X (.FormattedValue a (-1) none pos) (jjj te):=by
 intro pins s σ H Q I h
 refine FormattedValue_plain (thn (ha pins s σ H _ I h) λv s1 ⟨x,H1,I1,r1,i,ex,hi,q1⟩=>?_)
 subst ex
 obtain⟨t,rfl⟩:=r1
 have hl:i.natAbs.log2<1920:=by
  by_cases h0:i.natAbs=0
  ·rw[h0];decide
  ·have h1:(10:Nat)^20<2^70:=by decide
   have:=(Nat.log2_lt h0).mpr (Nat.lt_trans hi h1)
   omega
 have hz:(Str.ofString (toString i)).length<=21:=by
  have e:=int_text_length_le10 (a:=i) (k:=20) (by decide) hi
  rw[PySem.ofString_length]
  omega
 exact formatField_int_small hl ⟨.str _,H1,I1.tok _,⟨_,rfl⟩,q1 _ hz⟩
end
end L2
set_option autoImplicit true
set_option relaxedAutoImplicit true
namespace L2
open PySem PySem.Spec PyProof.Rows
section
variable{X:Cx}{K:PySem.W.Frag}
theorem bt_ValueError:bootBuiltins "ValueError"=some (.type "ValueError"):=by decide +kernel
theorem jb1{x:Str}{p pos:Pos}{k:Nat}{f C D N:Addr}{fd:FuncData}{ps:List Str}{sp:Sp}{e:Expr}{es:List Expr}{t:TA}(hK:X.K=K)(c:XC K C D N)(hi:PySem.W.nsIn K N "__init__"=some (some (.ref f)))(hf:∃o,K.lookup f=some o/\o.cls=.type "function")
  (F:FnOk X.prog X.w K X.mg X.base CX0 k f fd ps sp) (hr:Room (k+1) X.A) (hb:Binds K fd ps []) (hg:Gl X x) (hm:X.mg x=some (.ref C)) (ha:QA X (e::es) t) (hps:ps.length<=sizeLine:=by decide)
  (hdb:(x == ("__debug__":Str))=false:=by decide) (he:starEach (e::es) X.env=(false,eval e X.env)::starEach es X.env:=by rfl) (hpl:(backTo pos (starEach es X.env)).any (·.1)=false:=by rfl) :
  QE X (.Call (.Name x p) (e::es) [] pos) (jji C sp t):=by subst hK;exact⟨pe_excI c hi hf F hr hb hg hm ha.h hps hdb he hpl⟩
theorem qpe_excInit{x:Str}{p pos apos:Pos}{e:Expr}{es:List Expr}{t:TA}{D:Addr}(hK:X.K=K)(xd:XD K D)(hg:Gl X x)(hm:X.mg x=some (.ref D))(ha:QA X (e::es) t)(hdb:(x == ("__debug__":Str))=false:=by decide)
  (he:starEach (e::es) X.env=(false,eval e X.env)::starEach es X.env:=by rfl) (hpl:(backTo pos (starEach es X.env)).any (·.1)=false:=by rfl) {pl:Sem Bool}
  (ht:eval (.Call (.Attribute (.Name x p) "__init__" apos) (e::es) [] pos) X.env=(do
   let ov <-eval (.Name x p) X.env
   standAt apos.atName
   let(f,first) <-holding [ov] (getMethod ov "__init__" pl)
   callWith pos f first (backTo pos (starEach (e::es) X.env)) (backToKw pos (keywordEach [] X.env))):=by rfl) :
  QE X (.Call (.Attribute (.Name x p) "__init__" apos) (e::es) [] pos) (je7 K t):=by subst hK;exact⟨pe_excInit xd hg hm ha.h hdb he hpl ht⟩
theorem qps_excSet{o value:Expr}{f:Str}{pos pos':Pos}{ta tv:TE}(hK:X.K=K)(ha:QE X o ta)(hv:QE X value tv)(hs:swapsWith value (some (.Attribute o f pos')) pos.line X.env=pure false):QS X (.Assign [.Attribute o f pos'] value pos) (jfw K ta tv f):=by
 subst hK;exact⟨ps_excSet ha.h hv.h hs⟩
theorem qpe_fmtI{a:Expr}{te:TE}{pos:Pos}(ha:QE X a te):QE X (.FormattedValue a (-1) none pos) (jjj te):=⟨pe_fmtI ha.h⟩
end
end L2
set_option autoImplicit true
set_option relaxedAutoImplicit true
namespace L2
open PySem PySem.Spec PyProof.Rows
theorem jo3{K:PySem.W.Frag}{N:Addr}{no:Value}{nd:Option Addr}{es:Array DictEntry}{en:Nat}{nl:Array (Option Value)}(l:K.lookup N=some ⟨no,nd,.dict es en,nl⟩)(e:(es.all λe=>match e.key with|.str _ _=>true|_=>false)=true):PySem.W.nsOkIn K N=true:=by
 unfold PySem.W.nsOkIn
 rw[l]
 exact e
section
variable{K:PySem.W.Frag}{C C' D N N':Addr}{nm q nm' q':Str}{bs bm bs' bm':List Value}{sn sn':List Str}{sub sub':List Value}{ab ab' hd hd':Bool}{col col':Option Bool}{dd dd':Option Addr}{k0 k1 k2 k3 k5 j0 j1 j2 j3 j5:Option Value}{nid nid':String}
theorem jp9(l:K.lookup D=some (excClassObj nm q D N bs bm hd sn sub ab col dd k0 k1 k2 k3 k5 nid))(ns:PySem.W.nsOkIn K N=true)(i:PySem.W.nsIn K N "__init__"=some none):PySem.W.tailIn K bmVE (.ref D::bmVE)=true:=by
 unfold PySem.W.tailIn
 dsimp only
 rw[l]
 dsimp only
 rw[ns,i]
 have:PySem.W.tailIn K bmVE bmVE=true:=by
  unfold PySem.W.tailIn
  simp
 rw[this]
 simp
theorem jhx{c:Value}(l:K.lookup C=some (excClassObj nm q C N bs bm hd sn sub ab col dd k0 k1 k2 k3 k5 nid)):PySem.W.subIn K (.ref C) c=some ((Value.ref C::bm).contains c):=by
 unfold PySem.W.subIn PySem.W.mroIn PySem.W.clsIn
 dsimp only
 rw[l]
 rfl
theorem jdg(l:K.lookup C=some (excClassObj nm q C N bs (.ref D::bmVE) hd sn sub ab col dd k0 k1 k2 k3 k5 nid))(l':K.lookup C'=some (excClassObj nm' q' C' N' bs' bm' hd' sn' sub' ab' col' dd' j0 j1 j2 j3 j5 nid'))(ty:PySem.W.typeIn K (.ref C')=some (.type "type"))(n:C≠C')(nD:C'≠D) :
  PySem.W.kitOne K (.ref C) (.ref C')=some false:=by
 unfold PySem.W.kitOne
 rw[Aa (by simpa using n)]
 unfold PySem.W.kitCls
 have:((PySem.W.clsIn K C').isSome && PySem.W.typeIn K (.ref C') == some (.type "type"))=true:=by
  rw[ty]
  unfold PySem.W.clsIn
  rw[l']
  rfl
 dsimp only
 rw[Ad this,jhx l]
 simp[Ix n,nD]
theorem jrh(l:K.lookup C=some (excClassObj nm q C N bs (.ref D::bmVE) hd sn sub ab col dd k0 k1 k2 k3 k5 nid))(l':K.lookup D=some (excClassObj nm' q' D N' bs' bm' hd' sn' sub' ab' col' dd' j0 j1 j2 j3 j5 nid'))(ty:PySem.W.typeIn K (.ref D)=some (.type "type"))(n:C≠D) :
  PySem.W.kitOne K (.ref C) (.ref D)=some true:=by
 unfold PySem.W.kitOne
 rw[Aa (by simpa using n)]
 unfold PySem.W.kitCls
 have:((PySem.W.clsIn K D).isSome && PySem.W.typeIn K (.ref D) == some (.type "type"))=true:=by
  rw[ty]
  unfold PySem.W.clsIn
  rw[l']
  rfl
 dsimp only
 rw[Ad this,jhx l]
 simp
theorem jri(l:K.lookup C=some (excClassObj nm q C N bs (.ref D::bmVE) hd sn sub ab col dd k0 k1 k2 k3 k5 nid)):PySem.W.kitOne K (.ref C) (.type "ValueError")=some true:=by
 unfold PySem.W.kitOne
 rw[Aa (by simp)]
 unfold PySem.W.kitCls
 dsimp only
 rw[Ad (by decide +kernel),jhx l]
 simp
end
section
variable{M:Model}{A:Around}{E:Value->Shared->Prop}{s:Shared}
theorem jbr{base:Heap}{env:Env}{outer:List Env}{L e:Addr}{c:Value}{dx:Option Addr}{sl:Array (Option Value)}{vs:Array Value}{head:Value}{hn:Bool}{Q:Unit->Shared->Prop}
  (fr:A.frames=some (env::outer)) (ff:s.heap.FunFrames base (env::outer)) (ef:env.frame=some L) (he:s.heap.get? e=some ⟨c,dx,.fields vs,sl⟩) (ne:e∉frs (env::outer)) (hsz:1<vs.size)
  (q:∀h' T oT ts,(∀b o,b≠e->b∉frs (env::outer)->s.heap.get? b=some o->h'.get? b=some o)->(∀b o,b≠e->s.heap.get? b=some o->∃sl',h'.get? b=some {o with slots:=sl'}) ->
   h'.get? e=some ⟨c,dx,.fields (vs.setIfInBounds 1 (.ref T)),sl⟩->s.heap.objs.size<=T->T≠e->h'.get? T=some oT->oT.data=.fields ts->ts[3]?=some (rawInt L)->Q () {s with heap:=h'}) :
  wpAny M A (do let a <-frameOf env;let pl <-entryPlaceOf L hn;let b <-EntryCells.newEntry head a .none (rawInt L) .none pl;setField (.ref e) 1 b) Q E s:=by
 refine Ab (wpAny_frameOf_fun fr ff ef λh1 so=>?_)
 refine Ab (wpAny_entryPlaceOf λpl ip=>?_)
 unfold EntryCells.newEntry newFields
 refine Ab (Oi ?_ (ip.sizeOk5 _ _ _ _ _))
 have e1:h1.get? e=some ⟨c,dx,.fields vs,sl⟩:=(so.2.1 e ne).trans he
 have e2:=Ac (h:=h1) (⟨.type "traceback",none,.fields ([head,.ref L,.none,rawInt L,.none]++(if pl.isEmpty then List.replicate 6 Value.none else pl)).toArray,#[]⟩:Obj) e1
 refine Uh e2 rfl hsz ?_
 have nT:h1.objs.size≠e:=Nat.ne_of_gt (Ah e1)
 have kp:∀b o,b≠e->h1.get? b=some o->((h1.push (⟨.type "traceback",none,.fields ([head,.ref L,.none,rawInt L,.none]++(if pl.isEmpty then List.replicate 6 Value.none else pl)).toArray,#[]⟩:Obj)).update e (Obj.mapFields (·.setIfInBounds 1 (Value.ref h1.objs.size)))).get? b=some o:=λb o hb ho=>by
  rw[Im _ _ (Ix hb)]
  exact Ac _ ho
 refine q _ h1.objs.size _ _ (λb o hb hf ho=>kp b o hb ((so.2.1 b hf).trans ho)) (λb o hb ho=>?_) ?_ (Us so.1.symm) nT ((Im _ _ (Ix nT)).trans (Av h1 rfl)) rfl ?_
 ·obtain⟨sl',e3⟩:=so.2.2 b o ho
  exact⟨sl',kp b _ hb e3⟩
 ·rw[Iq _ e2 rfl]
  rfl
 ·first
   |(simp;done)
   |(rcases ip with rfl|⟨_,_,_,_,_,_,_,rfl⟩ <;> simp)
end
section
variable{X:Cx}{pins:List (Addr×Obj)}{σ:St}{H H':Hp}{s:Shared}{a C T:Addr}{dx:Option Addr}{fl:Option Value}
structure Own(X:Cx)(pins:List (Addr×Obj))(H:Hp)(b:Addr):Prop where
 new:X.s₀.heap.get? b=none
 free:H b=none
 loc:b≠X.env.locals
 cell:∀x c,X.env.cells.lookup x=some c->c≠b
 pin:∀p∈X.pn++pins,p.1≠b
 fr:b∉frs X.stack
theorem Inv.frThere(I:Inv X pins σ H s){b:Addr}(hb:b∈frs X.stack):∃o,s.heap.get? b=some o:=by
 obtain⟨_,o,ho,_⟩:=I.stack.mem hb
 exact⟨o,ho⟩
theorem Inv.own(I:Inv X pins σ H s)(hx:X.ex=[]){b:Addr}(n:s.heap.get? b=none)(hf:H' b=none):Own X pins H' b:=by
 refine⟨?_,hf,?_,λx c e z=>?_,λp hp z=>?_,λhb=>?_⟩
 ·cases e:X.s₀.heap.get? b with
  |none=>rfl
  |some o =>
   obtain⟨o',e'⟩:=I.base.there b o e (by rw[hx];simp)
   rw[n]at e';cases e'
 ·rintro rfl
  obtain⟨m,⟨o,_,_,ho,_⟩,_⟩:=I.loc
  rw[n]at ho;cases ho
 ·subst z
  obtain⟨v,o,ho,_⟩:=I.cell x c e
  rw[n]at ho;cases ho
 ·have:=(I.pin p hp).1
  rw[z,n]at this;cases this
 ·obtain⟨o,ho⟩:=I.frThere hb
  rw[n]at ho;cases ho
theorem Inv.fly{h':Heap}{t':Nat}{φ:Addr->Prop}(I:Inv X pins σ H s)(hφ:∀b,φ b->Own X pins H b)
  (k:∀b o,¬φ b->b∉frs X.stack->s.heap.get? b=some o->h'.get? b=some o) (ks:∀b o,¬φ b->s.heap.get? b=some o->∃sl,h'.get? b=some {o with slots:=sl}):Inv X pins σ H {s with heap:=h',toks:=t'}:=by
 have old:∀b o,X.s₀.heap.get? b=some o->¬φ b:=λb o e z=>by rw[(hφ b z).new]at e;cases e
 have trd:∀b u,H b=some u->¬φ b/\b∉frs X.stack:=λb u e=>⟨λz=>(by rw[(hφ b z).free]at e;cases e),λz=>(by rw[I.stkFree b z]at e;cases e)⟩
 have cel:∀x c,X.env.cells.lookup x=some c->∀v,s.heap.IsCell c v->h'.IsCell c v:=λx c e v ⟨o,ho,hd⟩=>by
  obtain⟨sl,q⟩:=ks c o (λz=>(hφ c z).cell x c e rfl) ho
  exact⟨_,q,hd⟩
 refine⟨I.ok,I.os,I.bare,⟨λb o e n hb hx=>?_,λb o e n hb hx=>?_,I.base.free,λb o e hx=>?_,I.base.tups,I.base.frzs,I.base.tbls⟩,?_,λx c e=>?_,I.free,I.freeC,λp hp=>?_,λb u e=>?_,I.len⟩
 ·refine k b o (old b o e) (λz=>?_) (I.base.keep b o e n hb hx)
  rcases Aw.mp (I.stkSub b z)with r|r
  ·exact absurd (r▸Ah e) (Nat.not_lt.mpr I.ok.above)
  ·exact hb r
 ·obtain⟨sl,e1⟩:=I.base.slot b o e n hb hx
  obtain⟨sl',e2⟩:=ks b _ (old b o e) e1
  exact⟨sl',e2⟩
 ·obtain⟨o',e1⟩:=I.base.there b o e hx
  obtain⟨sl,e2⟩:=ks b o' (old b o e) e1
  exact⟨_,e2⟩
 ·obtain⟨m,⟨o,es,ep,ho,r⟩,hl⟩:=I.loc
  obtain⟨sl,e2⟩:=ks _ o (λz=>(hφ _ z).loc rfl) ho
  refine⟨m,⟨_,es,ep,e2,r⟩,λi x v e1 e3 e4=>?_⟩
  obtain⟨u,ru,l⟩:=hl i x v e1 e3 e4
  refine⟨u,ru,?_⟩
  rcases l with l|⟨kk,c,e,z⟩
  ·exact .inl l
  ·exact .inr ⟨kk,c,e,cel x c e _ z⟩
 ·obtain⟨v,z⟩:=I.cell x c e
  exact⟨v,cel x c e v z⟩
 ·obtain⟨e,n,ne,nf,d⟩:=I.pin p hp
  refine⟨k p.1 p.2 (λz=>(hφ _ z).pin p hp rfl) (λz=>?_) e,n,ne,nf,d⟩
  rcases Aw.mp (I.stkSub _ z)with r|r
  ·exact ne r
  ·exact nf r
 ·refine(I.hok b u e).stay (λc v hc q=>?_) (λ_ q=>q) λ_ _ q=>q
  rcases hc with rfl|hc
  ·exact k c v (trd c u e).1 (trd c u e).2 q
  ·exact k c v (trd c _ hc).1 (trd c _ hc).2 q
structure FlS(X:Cx)(pins:List (Addr×Obj))(H:Hp)(h:Heap)(a C:Addr)(dx:Option Addr)(fl:Option Value):Prop where
 own:Own X pins H a
 ex:∃vs sl,h.get? a=some ⟨.ref C,dx,.fields vs,sl⟩/\match fl with
  |none=>vs[1]?=some .none
  |some f=>∃T oT ts,vs[1]?=some (.ref T)/\Own X pins H T/\T≠a/\h.get? T=some oT/\oT.data=.fields ts/\ts[3]?=some f
theorem jlw{M:Model}{A:Around}{E:Value->Shared->Prop}{Q:Unit->Shared->Prop}(I:Inv X pins σ H s)(hA:A.frames=X.A.frames)(hs:X.stack=X.env::X.outer/\X.env.frame=some X.env.locals)(hx:X.ex=[])(f:FlS X pins H s.heap a C dx fl)(hfl:fl=none\/fl=some .none)
  (q:∀s',Inv X pins σ H s'->FlS X pins H s'.heap a C dx (some (rawInt X.env.locals))->Q () s'):wpAny M A (noteFrame (.ref a) X.env) Q E s:=by
 obtain⟨own,vs,sl,ea,r⟩:=f
 have fr:A.frames=some (X.env::X.outer):=by rw[hA,I.ok.frames,hs.1]
 have ff:=I.stack
 rw[hs.1]at ff
 have nf:a∉frs (X.env::X.outer):=by rw[<-hs.1];exact own.fr
 unfold noteFrame
 simp only[hs.2]
 rcases hfl with rfl|rfl
 ·have hsz:1<vs.size:=(Ow.mp r).1
  refine Ab (Ua ea rfl r ?_)
  rw[Aa (by decide)]
  refine jbr fr ff hs.2 ea nf hsz λh' T oT ts k ks e1 zT nT eT dT fT=>q _ (I.fly (t':=s.toks) (φ:=λb=>b=a) (λb e=>e▸own) (λb o e hb ho=>k b o e (by rw[<-hs.1];exact hb) ho) λb o e ho=>ks b o e ho) ?_
  exact⟨own,_,sl,e1,T,oT,ts,by simp[hsz],I.own hx (Uj zT) (I.hok.fresh zT),nT,eT,dT,fT⟩
 ·obtain⟨T0,o0,t0,v1,ow0,n0,e0,d0,f0⟩:=r
  have hsz:1<vs.size:=(Ow.mp v1).1
  refine Ab (Ua ea rfl v1 ?_)
  rw[Ad (show(Value.ref T0 != Value.none)=true from by simp)]
  refine Ab (Ua e0 d0 f0 ?_)
  rw[Aa (show ¬((Value.none == rawInt X.env.locals)=true)from by simp[rawInt])]
  refine Ab (Uh e0 d0 (Ow.mp f0).1 ?_)
  have oth:∀b,b≠T0->(s.heap.update T0 (Obj.mapFields (·.setIfInBounds 3 Value.none))).get? b=s.heap.get? b:=λb hb=>Im _ _ (Ix hb)
  have I1:Inv X pins σ H {s with heap:=s.heap.update T0 (Obj.mapFields (·.setIfInBounds 3 Value.none))} :=
   I.fly (t':=s.toks) (φ:=λb=>b=T0) (λb e=>e▸ow0) (λb o e _ ho=>(oth b e).trans ho) λb o e ho=>⟨o.slots,(oth b e).trans ho⟩
  have ff1:=I1.stack
  rw[hs.1]at ff1
  refine jbr (s:={s with heap:=s.heap.update T0 (Obj.mapFields (·.setIfInBounds 3 Value.none))}) fr ff1 hs.2 ((oth a (Ix n0)).trans ea) nf hsz λh' T oT ts k ks e1 zT nT eT dT fT=>q _ (I1.fly (t':=s.toks) (φ:=λb=>b=a) (λb e=>e▸own) (λb o e hb ho=>k b o e (by rw[<-hs.1];exact hb) ho) λb o e ho=>ks b o e ho) ?_
  exact⟨own,_,sl,e1,T,oT,ts,by simp[hsz],I1.own hx (Uj zT) (I1.hok.fresh zT),nT,eT,dT,fT⟩
theorem land{M:Model}{A:Around}{E:Value->Shared->Prop}{Q:Unit->Shared->Prop}{fv:Value}(I:Inv X pins σ H s)(f:FlS X pins H s.heap a C dx (some fv))
  (q:∀s',Inv X pins σ H s'->FlS X pins H s'.heap a C dx (some .none)->Q () s'):wpAny M A (setFlight (.ref a) none) Q E s:=by
 obtain⟨own,vs,sl,ea,T0,o0,t0,v1,ow0,n0,e0,d0,f0⟩:=f
 have h3:3<t0.size:=(Ow.mp f0).1
 have oth:∀b,b≠T0->(s.heap.update T0 (Obj.mapFields (·.setIfInBounds 3 ((none:Option Addr).elim Value.none λf=>rawInt f)))).get? b=s.heap.get? b:=λb hb=>Im _ _ (Ix hb)
 unfold setFlight
 refine Ab (Ua ea rfl v1 ?_)
 rw[Ad (show(Value.ref T0 != Value.none)=true from by simp)]
 refine Uh e0 d0 h3 (q _ (I.fly (t':=s.toks) (φ:=λb=>b=T0) (λb e=>e▸ow0) (λb o e _ ho=>(oth b e).trans ho) λb o e ho=>⟨o.slots,(oth b e).trans ho⟩) ?_)
 exact⟨own,vs,sl,(oth a (Ix n0)).trans ea,T0,_,_,v1,ow0,n0,Iq _ e0 (Obj.isFreed_of_fields (Wn d0 _)),Wn d0 _,by simp[h3]⟩
end
def CXE(P:Program)(w:World):CXT:=λouter H s E e s'=>∃a C dx H',e=.ref a/\s'.os=s.os/\AllBare s'.gens/\Un (frs outer) [] H H' s.heap s'.heap/\HOk P w H' s'.heap/\(s.heap.get? a=none/\H' a=none) /\
 (∃vs sl T oT ts,s'.heap.get? a=some ⟨.ref C,dx,.fields vs,sl⟩/\vs[1]?=some (.ref T)/\(s.heap.get? T=none/\H' T=none)/\T≠a/\s'.heap.get? T=some oT/\oT.data=.fields ts/\ts[3]?=some .none)/\E (.ref C) dx H'
def jjv(X:Cx)(E:XK):Prop:=∀(pins:List (Addr×Obj))(σ:St)(H:Hp)(s:Shared)(a C:Addr)(dx:Option Addr)(fl:Option Value),Inv X pins σ H s->FlS X pins H s.heap a C dx fl->(fl=none\/fl=some .none)->E (.ref C) dx H->X.xe (.ref a) s
section
variable{X:Cx}{E:XK}
theorem jrf{pins:List (Addr×Obj)}{σ:St}{H H1:Hp}{s s':Shared}{P:Program}{w:World}(I:Inv X pins σ H s)(hP:X.prog=P)(hw:X.w=w)(hx:X.ex=[]){e:Value}(h:CXE P w X.stack H s E e s') :
  ∃a C dx H',e=.ref a/\Inv X pins σ H' s'/\FlS X pins H' s'.heap a C dx (some .none)/\E (.ref C) dx H':=by
 subst hP hw
 obtain⟨a,C,dx,H',rfl,os,bare,un,hok,⟨na,fa⟩,⟨vs,sl,T,oT,ts,ea,v1,⟨nT,fT⟩,nTa,eT,dT,f3⟩,hE⟩:=h
 have I':Inv X pins σ H' s':=I.call' os un hok bare (λb z=>absurd z (by simp))
 exact⟨a,C,dx,H',rfl,I',⟨I.own hx na fa,vs,sl,ea,T,oT,ts,v1,I.own hx nT fT,nTa,eT,dT,f3⟩,hE⟩
theorem jif{P:Program}{w:World}{K:PySem.W.Frag}{mg:Str->Option Value}{base:Heap}{N:List Str}{qual:Str}{scope:Scope}{f:Addr}{cd:Value}{A:Around}{outer:List Env}{s:Shared}{H:Hp} :
  jjv (cxOf (CXE P w) P w K mg base N qual scope f cd A outer s H E) E:=by
 intro pins σ H1 s1 a C dx fl I fS hfl hE
 show wpAny _ _ (leaving _ _) _ _ _
 unfold leaving
 refine Ab (jlw I rfl ⟨rfl,rfl⟩ rfl fS hfl λs2 I2 f2=>land I2 f2 λs3 I3 f3=>?_)
 obtain⟨own,vs,sl,ea,T,oT,ts,v1,ow,nT,eT,dT,f3⟩:=f3
 exact⟨a,C,dx,H1,rfl,I3.os,I3.bare,I3.base,I3.hok,⟨own.new,own.free⟩,⟨vs,sl,T,oT,ts,ea,v1,⟨ow.new,ow.free⟩,nT,eT,dT,f3⟩,hE⟩
theorem jmo{P:Program}{w:World}{K:PySem.W.Frag}{mg:Str->Option Value}{base:Heap}{N:List Str}{qual:Str}{scope:Scope}{f:Addr}{cd:Value}{A:Around}{outer:List Env}{s:Shared}{H:Hp}{CX:CXT} :
  PassesOwn (model P w) (cxOf CX P w K mg base N qual scope f cd A outer s H E).A (cxOf CX P w K mg base N qual scope f cd A outer s H E).env (cxOf CX P w K mg base N qual scope f cd A outer s H E).xe:=PassesOwn.leaving
end
section
variable{M:Model}{A:Around}{E:Value->Shared->Prop}{s:Shared}{env:Env}
variable{nm q:Str}{C N:Addr}{bs bm:List Value}{hdct:Bool}{sn:List Str}{sub:List Value}{ab:Bool}{col:Option Bool}{dd:Option Addr}{k0 k1 k2 k3 k5:Option Value}{newId:String}
theorem jk4{h:Heap}{g:Array GenState}{d:Drawn}{t:Nat}{os:OsState}{e D N':Addr}{oe:Obj}{nm' q':Str}{bs' bm':List Value}{hd':Bool}{sn':List Str}{sub':List Value}{ab':Bool}{col':Option Bool}{dd':Option Addr}{j0 j1 j2 j3 j5:Option Value}{nid':String}{Q:Bool->Shared->Prop}
  (hC:h.get? C=some (excClassObj nm q C N bs bm hdct sn sub ab col dd k0 k1 k2 k3 k5 newId)) (hD:h.get? D=some (excClassObj nm' q' D N' bs' bm' hd' sn' sub' ab' col' dd' j0 j1 j2 j3 j5 nid')) (ee:h.get? e=some oe) (ec:oe.cls=.ref C) (hb:(Value.ref D::bm').contains (.type "BaseException")=true)
  (hi:(Value.ref C::bm).contains (.ref D)=true) (hq:Q true ⟨h,g,d,t,os⟩):wpAny M A (excMatches (.ref e) (.ref D)) Q E ⟨h,g,d,t,os⟩:=by
 have f:=tc_notTuple
 unfold excMatches
 repeat (first|(with_reducible refine A2 ee ?_;rw[ec])|with_reducible refine A2 hD ?_|with_reducible refine A2 hC ?_|(with_reducible refine Om hD ?_;rw[hb])|(with_reducible refine Om hC ?_;rw[hi])|wp_step)
 exact hq
end
section
variable{X:Cx}{pins:List (Addr×Obj)}{σ:St}{H H':Hp}{s:Shared}{a C D N:Addr}{dx:Option Addr}
def jdn(H:Hp)(a:Addr):Hp:=λb=>if b=a then none else H b
theorem jgt{H:Hp}{a:Addr}:jdn H a a=none:=Ad rfl
theorem jdf{H:Hp}{a b:Addr}(h:b≠a):jdn H a b=H b:=Aa h
theorem Inv.dropX(I:Inv X pins σ H s){φ:Heap->Prop}(e:H a=some (.ext φ)):Inv X pins σ (jdn H a) s:=by
 have nn:∀b,H b=none->jdn H a b=none:=λb n=>by unfold jdn;split <;> first|rfl|exact n
 have ne:∀b u,H b=some u->(∀φ,u≠.ext φ)->b≠a:=λb u q n z=>by subst z;rw[e]at q;cases q;exact n _ rfl
 refine⟨I.ok,I.os,I.bare,⟨I.base.keep,I.base.slot,λb o q n hx=>nn b (I.base.free b o q n hx),I.base.there,λb xs q=>?_,λb o u q=>?_,λb ps q=>?_⟩,I.loc,I.cell,nn _ I.free,λx c q=>nn c (I.freeC x c q),λp hp=>?_,λb u q=>?_,I.len⟩
 ·have:=I.base.tups b xs q
  rw[jdf (ne b _ this λ_ z=>by cases z)];exact this
 ·have:=I.base.frzs b o u q
  rw[jdf (ne b _ this λ_ z=>by cases z)];exact this
 ·obtain⟨more,e1⟩:=I.base.tbls b ps q
  exact⟨more,by rw[jdf (ne b _ e1 λ_ z=>by cases z)];exact e1⟩
 ·obtain⟨e1,n,r⟩:=I.pin p hp
  exact⟨e1,nn _ n,r⟩
 ·have hb:b≠a:=λz=>by rw[z,jgt]at q;cases q
  rw[jdf hb]at q
  exact(I.hok b u q).stay (λ_ _ _ z=>z) (λc z=>by rw[jdf (ne c _ z λ_ r=>by cases r)];exact z) λc xs z=>by rw[jdf (ne c _ z λ_ r=>by cases r)];exact z
def jhn(K:PySem.W.Frag)(H₀:Hp)(E:XK)(te:TE):TS:=λD σ H=>te σ H λv H1=>∃a C D' N dx,v=.ref a/\H1 a=some (ExO a C dx)/\XC K C D' N/\H₀ a=none/\E (.ref C) dx (jdn H1 a)
theorem ps_raise{e:Expr}{te:TE}{pos:Pos}{E:XK}(hc:X.calm=true)(hx:X.ex=[])(l:jjv X E)(he:PE X e te):PS X (.Raise (some e) none pos) (jhn X.K X.H₀ E te):=by
 intro pins s σ H En I h
 rw[arm_exec_Raise]
 refine Ab (Uq ?_)
 show wpAny _ _ (raiseStmt X.env (some (do let v <-eval e X.env;standAt pos;pure v)) none) _ _ s
 unfold raiseStmt
 refine Ab (Ab (thn (he pins s σ H _ I h) λv s1 ⟨x,H1,I1,rx,a,C,D',N,dx,ex,ea,c,n0,q⟩=>Ab (Uq (Am ?_))))
 subst ex
 obtain rfl:v=Value.ref a:=rx
 obtain⟨nm,qn,bs,sn,sub,ab,col,dd,k0,k1,k2,k3,k5,lk⟩:=c.sh
 have hC:=I1.kIn _ _ lk
 obtain⟨⟨t0,eo⟩,_,_⟩:=(show ObjOk X.prog X.w H1 s1.heap a (ExO a C dx)from I1.hok a _ ea)
 have hh:=I1.ok.hd hc
 have I2:=I1.dropX ea
 have nloc:∀b,H1 b=none->b≠a:=λb n z=>by subst z;rw[ea]at n;cases n
 have own:Own X pins (jdn H1 a) a:=by
  refine⟨?_,jgt,Ix (nloc _ I1.free),λx c e=>nloc c (I1.freeC x c e),λp hp=>nloc _ (I1.pin p hp).2.1,λhb=>nloc a (I1.stkFree a hb) rfl⟩
  cases e1:X.s₀.heap.get? a with
  |none=>rfl
  |some o =>
   have:=I1.base.free a o e1 n0 (by rw[hx];simp)
   rw[ea]at this;cases this
 have hE:X.xe (.ref a) s1:=l pins σ (jdn H1 a) s1 a C dx none I2 ⟨own,_,_,eo,rfl⟩ (.inl rfl) q
 have inB:(Value.ref C::.ref D'::bmVE).contains (.type "BaseException")=true:=by simp
 obtain⟨hp,g,d,tk,os⟩:=s1
 repeat (first|with_reducible refine A2 eo ?_|with_reducible refine A2 hC ?_|(with_reducible refine Om hC ?_;rw[inB])|wp_step)
 exact wpAny_raiseNew_none hh hE
end
def excW(a C:Addr)(dx:Option Addr)(h:Heap):Prop:=∃vs sl,h.get? a=some ⟨.ref C,dx,.fields vs,sl⟩
def ExW(a C:Addr)(dx:Option Addr):HO:=.ext (excW a C dx)
theorem jqp{P:Program}{w:World}{H:Hp}{h:Heap}{a C:Addr}{dx:Option Addr}{vs:Array Value}{sl:Array (Option Value)}(e:h.get? a=some ⟨.ref C,dx,.fields vs,sl⟩):ObjOk P w H h a (ExW a C dx) :=
 ⟨⟨vs,sl,e⟩,⟨_,e⟩,λh1 h2 ⟨v,l,e1⟩ k=>⟨v,l,k _ e1⟩⟩
section
variable{X:Cx}{pins:List (Addr×Obj)}{σ:St}{H H':Hp}{s:Shared}{a C D N:Addr}{dx:Option Addr}{A':Around}
theorem Inv.track(I:Inv X pins σ H s)(o:Own X pins H a){vs:Array Value}{sl:Array (Option Value)}(e:s.heap.get? a=some ⟨.ref C,dx,.fields vs,sl⟩):Inv X pins σ (upd H a (ExW a C dx)) s:=by
 have nn:∀b,b≠a->H b=none->upd H a (ExW a C dx) b=none:=λb h n=>by rw[jd h];exact n
 have tr:∀b u,H b=some u->upd H a (ExW a C dx) b=some u:=λb u q=>by rw[jd (jh q o.free)];exact q
 refine⟨I.ok,I.os,I.bare,⟨I.base.keep,I.base.slot,λb ob q n hx=>nn b (λz=>by subst z;rw[o.new]at q;cases q) (I.base.free b ob q n hx),I.base.there,λb xs q=>tr _ _ (I.base.tups b xs q),λb ob u q=>tr _ _ (I.base.frzs b ob u q),λb ps q=>?_⟩,I.loc,I.cell,nn _ (Ix o.loc) I.free,λx c q=>nn c (o.cell x c q) (I.freeC x c q),λp hp=>?_,λb u q=>?_,I.len⟩
 ·obtain⟨more,e1⟩:=I.base.tbls b ps q
  exact⟨more,tr _ _ e1⟩
 ·obtain⟨e1,n,r⟩:=I.pin p hp
  exact⟨e1,nn _ (o.pin p hp) n,r⟩
 ·by_cases hb:b=a
  ·subst hb
   rw[jc]at q
   cases q
   exact jqp e
  ·rw[jd hb]at q
   exact(I.hok b u q).stay (λ_ _ _ z=>z) (λc z=>tr _ _ z) λc xs z=>tr _ _ z
abbrev Cx.late(X:Cx)(A':Around):Cx:={X with A:=A',calm:=false}
theorem Cx.Ok.late(ok:X.Ok)(hA:A'.frames=X.A.frames):(X.late A').Ok :=
 ⟨ok.mod,ok.kind,ok.glob,ok.blt,ok.above,ok.inj,ok.has,ok.cab,λz=>(nomatch z),hA.trans ok.frames,ok.stk,ok.exf,ok.bs,ok.bsz,ok.noex,ok.exfs,ok.funs,ok.frf⟩
theorem Inv.late(I:Inv X pins σ H s)(hA:A'.frames=X.A.frames):Inv (X.late A') pins σ H s:=⟨I.ok.late hA,I.os,I.bare,I.base,I.loc,I.cell,I.free,I.freeC,I.pin,I.hok,I.len⟩
theorem Inv.unlate(ok:X.Ok)(I:Inv (X.late A') pins σ H s):Inv X pins σ H s:=⟨ok,I.os,I.bare,I.base,I.loc,I.cell,I.free,I.freeC,I.pin,I.hok,I.len⟩
def XT(K:PySem.W.Frag)(T:Addr):Prop:=∃nm q N bs bm hd sn sub ab col dd k0 k1 k2 k3 k5 nid,K.lookup T=some (excClassObj nm q T N bs bm hd sn sub ab col dd k0 k1 k2 k3 k5 nid)/\bm.contains (.type "BaseException")=true
def hdl(K:PySem.W.Frag)(T:Addr)(j:Nat)(ts:TS)(En:Ends)(σ:St):XK:=λc dx H=>∃C D N,c=.ref C/\XC K C D N/\(T=D\/T=C) /\
 ∀a,H a=none->ts {nx:=λσ' H'=>En.nx (σ'.set j none) H',rt:=En.rt} (σ.set j (some (.ref a))) (upd H a (ExW a C dx))
theorem Inv.goes{E:Value->Shared->Prop}{M:Model}{A:Around}{j:Nat}{n:Str}{pos:Pos}{Q:Unit->Shared->Prop}(I:Inv X pins σ H s)(hN:X.N.Nodup)(hj:X.N[j]?=some n)(hl:X.env.scope.names.lookup n=some .local)
  (q:∀s',Inv X pins (σ.set j none) H s'->Q () s'):wpAny M A (do bindName X.env n .none;unbindBehindTheSuite X.env n pos) Q E s:=by
 obtain⟨m,hn,hlk⟩:=I.loc
 refine wpAny_nameGoes_keeps hl hn (by rw[I.ok.kind];rfl) λh' v hn' hs=>q _ ?_
 have oth:∀b,b≠X.env.locals->h'.get? b=s.heap.get? b:=λb hb=>hs.2 b hb
 have old:∀b o,X.s₀.heap.get? b=some o->b≠X.env.locals:=λb o e=>Ar (Aq (Ah e) I.ok.above)
 refine⟨I.ok,I.os,I.bare,⟨λb o e n' hb hx=>(oth b (old b o e)).trans (I.base.keep b o e n' hb hx),λb o e n' hb hx=>?_,I.base.free,λb o e hx=>?_,I.base.tups,I.base.frzs,I.base.tbls⟩,⟨_,hn',λi x u e1 e2 e3=>?_⟩,λx c e=>?_,I.free,I.freeC,λp hp=>?_,λb u e=>?_,by simpa using I.len⟩
 ·obtain⟨sl,z⟩:=I.base.slot b o e n' hb hx
  exact⟨sl,(oth b (old b o e)).trans z⟩
 ·obtain⟨o',z⟩:=I.base.there b o e hx
  exact⟨o',(oth b (old b o e)).trans z⟩
 ·have hij:i≠j:=λz=>by
   subst z
   rw[List.getElem?_set]at e2
   simp at e2
  rw[Wa (Ix hij)]at e2
  obtain⟨u',r,l⟩:=hlk i x u e1 e2 e3
  refine⟨u',r,?_⟩
  rcases l with⟨k,z⟩|⟨k,c,e,z⟩
  ·refine .inl ⟨k,?_⟩
   have:x≠n:=λz=>hij (jgi hN e1 (z▸hj))
   simp[this,z]
  ·exact .inr ⟨k,c,e,z.sameBut hs (I.cne x c e)⟩
 ·obtain⟨w',z⟩:=I.cell x c e
  exact⟨w',z.sameBut hs (I.cne x c e)⟩
 ·obtain⟨e,n',ne,nf,d⟩:=I.pin p hp
  exact⟨(oth p.1 ne).trans e,n',ne,nf,d⟩
 ·refine(I.hok b u e).stay (λc v hc z=>(oth c ?_).trans z) (λ_ z=>z) λ_ _ z=>z
  rintro rfl
  rcases hc with rfl|hc
  ·rw[I.free]at e;cases e
  ·rw[I.free]at hc;cases hc
theorem jop{T:Addr}{j:Nat}{n tn:Str}{p5 p6 p7:Pos}{body suite:List Stmt}{b₀:Stmt}{ts:TS}{En:Ends}{σ₀:St}(hs:X.stack=X.env::X.outer/\X.env.frame=some X.env.locals)(hx:X.ex=[])(hxe:∀e s,¬X.xe e s)(hN:X.N.Nodup)(hj:X.N[j]?=some n)(hl:X.env.scope.names.lookup n=some .local)
  (xt:XT X.K T) (hg:Gl X tn) (hm:X.mg tn=some (.ref T)) (hd:(tn == ("__debug__":Str))=false) (hst:∀A',A'.frames=X.A.frames->A'.depth=X.A.depth->A'.units=X.A.units->A'.guards=X.A.guards->PSs (X.late A') (b₀::suite) ts) (I:Inv X pins σ₀ H s)
  (hb:wpAny (model X.prog X.w) X.A (execs body X.env) (SP X pins En) (λe s'=>∃a C dx H' σ,e=.ref a/\Inv X pins σ H' s'/\FlS X pins H' s'.heap a C dx (some .none)/\hdl X.K T j ts En σ (.ref C) dx H') s) :
  wpAny (model X.prog X.w) X.A (exec (.Try body [.ExceptHandler (some (.Name tn p5)) (some n) (b₀::suite) p6] [] [] p7) X.env) (SP X pins En) X.xe s:=by
 refine wpAny_Try_except (Iw hb (λf s1 q=>?_) λe s1 ⟨a,C,dx,H1,σ,ee,I1,f1,C',D,N,ec,c,ht,q⟩=>?_)
 ·cases f with
  |next=>exact O6 q
  |ret v=>exact q
  |brk=>exact q
  |cont=>exact q
 subst ee
 cases ec
 refine jlw I1 rfl hs hx f1 (.inr rfl) λs2 I2 f2=>land I2 f2 λs3 I3 f3=>?_
 have fr:∀h:Option Value,(X.A.mark h).frames=X.A.frames:=λh=>rfl
 have I3':=I3.late (A':=X.A.mark (some (.ref a))) (fr _)
 refine wpAny_handleBy_cons (codeAny_handlers_test (jdr (X:=X.late (X.A.mark (some (.ref a)))) I3' hg hm ?_ hd)) (by intro z;cases z)
 obtain⟨nm,qn,bs,sn,sub,ab,col,dd,k0,k1,k2,k3,k5,lk⟩:=c.sh
 obtain⟨nm',q',N',bs',bm',hd',sn',sub',ab',col',dd',j0,j1,j2,j3,j5,nid',lkT,hbT⟩:=xt
 obtain⟨own,vs,sl,ea,r3⟩:=f3
 have hC:=I3.kIn _ _ lk
 have hT:=I3.kIn _ _ lkT
 have hin:(Value.ref C::.ref D::bmVE).contains (.ref T)=true:=by rcases ht with rfl|rfl <;> simp
 obtain⟨hh,g,d,tk,os⟩:=s3
 refine jk4 hC hT ea rfl (by rw[Os,hbT,Wh]) hin (codeAny_handlers_suite_as ?_)
 refine land I3 ⟨own,vs,sl,ea,r3⟩ λs4 I4 f4=>?_
 obtain⟨own4,vs4,sl4,ea4,r4⟩:=f4
 have I5:=(I4.track own4 ea4).late (A':=X.A.mark (some (.ref a))) (fr _)
 refine je5 (X:=X.late (X.A.mark (some (.ref a)))) I5 hN hj (.inl hl) (v:=.ref a) rfl (λs5 I6=>?_) (.inr hl)
 refine Iw (hst _ (fr _) rfl rfl rfl pins s5 _ _ _ I6 (q a own4.free)) (λf s6 z=>?_) λe s6 z=>absurd z (hxe e s6)
 show wpAny _ _ (do bindName X.env n .none;unbindBehindTheSuite X.env n p6) _ _ _
 cases f with
 |next =>
  obtain⟨σ',H',I7,q7⟩:=z
  exact(I7.unlate I.ok).goes hN hj hl λs7 I8=>⟨_,_,I8,q7⟩
 |ret v =>
  obtain⟨v',σ',H',I7,rv,q7⟩:=z
  exact(I7.unlate I.ok).goes hN hj hl λs7 I8=>⟨v',_,_,I8,rv,q7⟩
 |brk =>
  obtain⟨σ',H',I7,q7⟩:=z
  exact q7.elim
 |cont =>
  obtain⟨σ',H',I7,q7⟩:=z
  exact q7.elim
theorem call_at{k:Nat}{f:Addr}{fd:FuncData}{ps:List Str}{sp:Sp}{dvs:List V}{ds:List Value}{EK:XK}{x:Str}{p pos:Pos}{e:Expr}{es:List Expr}{t:TA}{Q:VK}{E':Value->Shared->Prop}(F:FnOk X.prog X.w X.K X.mg X.base (CXE X.prog X.w) k f fd ps sp)(hr:Room k X.A)(hg:Gl X x)(hm:X.mg x=some (.ref f))(hk:PySem.W.keepIn X.K (.ref f)=true)(hb:Binds X.K fd ps ds)(hd:Vals dvs ds)
  (ha:PA X (e::es) t) (hx:X.ex=[]) (hxe:∀e s,¬X.xe e s) (I:Inv X pins σ H s) (h:t σ H λvs H1=>sp (vs++dvs) H1 Q EK)
  (hE:∀a C dx H' s',Inv X pins σ H' s'->FlS X pins H' s'.heap a C dx (some .none)->EK (.ref C) dx H'->E' (.ref a) s')
  (hdb:(x == ("__debug__":Str))=false:=by decide) (he:starEach (e::es) X.env=(false,eval e X.env)::starEach es X.env:=by rfl) (hpl:(backTo pos (starEach es X.env)).any (·.1)=false:=by rfl) :
  wpAny (model X.prog X.w) X.A (eval (.Call (.Name x p) (e::es) [] pos) X.env) (EP X pins σ Q) E' s:=by
 refine Ik (jdr I hg hm ?_ hdb)
 refine O7 (h₀:=X.base) I.ok.mod.kin hk (Iw (ha pos pins s σ H _ I h) (λus s1 ⟨vs,H1,I1,r,q⟩=>⟨I1.kIn,?_⟩) λe s z=>absurd z (hxe e s)) he hpl
 have r2:Vals (vs++dvs) (us++ds):=r.append hd
 have hl:(us++ds).length=ps.length:=by rw[<-r2.length];exact F.len _ _ _ _ q
 refine Uw (Ue (F.run X.A X.stack s1 H1 ⟨us,[]⟩ (us++ds) (vs++dvs) Q EK hr I1.env0 (hb s1 us I1.kIn hl) r2 q) λr s' hq=>?_)
 cases r with
 |error e =>
  obtain⟨a,C,dx,H',rfl,I',f',hE'⟩:=jrf (H1:=H1) I1 rfl rfl hx hq
  exact hE a C dx H' s' I' f' hE'
 |ok fl =>
  cases fl with
  |ret u=>exact I1.after hq
  |next=>exact False.elim hq
  |brk=>exact False.elim hq
  |cont=>exact False.elim hq
def jjs(K:PySem.W.Frag)(T:Addr)(i j:Nat)(sp:Sp)(dvs:List V)(t:TA)(ts:TS):TS:=λEn σ H=>t σ H λvs H1=>sp (vs++dvs) H1 (λv H2=>En.nx (σ.set i (some v)) H2) (hdl K T j ts En σ)
theorem ps_tryA{T:Addr}{i j:Nat}{y n tn:Str}{p1 p4 p5 p6 p7:Pos}{suite:List Stmt}{b₀:Stmt}{ts:TS}{k:Nat}{f:Addr}{fd:FuncData}{ps:List Str}{sp:Sp}{dvs:List V}{ds:List Value}{x:Str}{p pos:Pos}{e:Expr}{es:List Expr}{t:TA}
  (F:FnOk X.prog X.w X.K X.mg X.base (CXE X.prog X.w) k f fd ps sp) (hr:Room k X.A) (hg:Gl X x) (hm:X.mg x=some (.ref f)) (hk:PySem.W.keepIn X.K (.ref f)=true) (hb:Binds X.K fd ps ds) (hd:Vals dvs ds) (ha:PA X (e::es) t)
  (xt:XT X.K T) (hgT:Gl X tn) (hmT:X.mg tn=some (.ref T)) (hst:∀A',A'.frames=X.A.frames->A'.depth=X.A.depth->A'.units=X.A.units->A'.guards=X.A.guards->PSs (X.late A') (b₀::suite) ts)
  (hs:X.stack=X.env::X.outer/\X.env.frame=some X.env.locals) (hx:X.ex=[]) (hxe:∀e s,¬X.xe e s) (hN:X.N.Nodup) (hi:X.N[i]?=some y) (hy:X.env.scope.names.lookup y=some .local) (hj:X.N[j]?=some n) (hl:X.env.scope.names.lookup n=some .local)
  (hdT:(tn == ("__debug__":Str))=false:=by decide) (hdb:(x == ("__debug__":Str))=false:=by decide) (he:starEach (e::es) X.env=(false,eval e X.env)::starEach es X.env:=by rfl) (hpl:(backTo pos (starEach es X.env)).any (·.1)=false:=by rfl)
  (hsw:swapsWith (.Call (.Name x p) (e::es) [] pos) (some (.Name y p1)) p4.line X.env=pure false:=by rfl) :
  PS X (.Try [.Assign [.Name y p1] (.Call (.Name x p) (e::es) [] pos) p4] [.ExceptHandler (some (.Name tn p5)) (some n) (b₀::suite) p6] [] [] p7) (jjs X.K T i j sp dvs t ts):=by
 intro pins s σ H En I h
 refine jop hs hx hxe hN hj hl xt hgT hmT hdT hst I ?_
 refine U4 (wpAny_Assign_Name (Iw (call_at (σ:=σ) F hr hg hm hk hb hd ha hx hxe I h (λa C dx H' s' I' f' q=>⟨a,C,dx,H',σ,rfl,I',f',q⟩) hdb he hpl) (λv s1 ⟨z,H1,I1,r1,q1⟩=>?_) λ_ _ z=>z) hsw)
 exact je5 I1 hN hi (.inl hy) r1 (λs2 I2=>O6 ⟨_,H1,I2,q1⟩) (.inr hy)
end
section
variable{P:Program}{w:World}{K:PySem.W.Frag}{mg:Str->Option Value}{base:Heap}
theorem Fun.okE{x qual:Str}{st:Stmt}{f:Addr}{fd:FuncData}{N ps:List Str}{k:Nat}{sp:Sp}(F:Fun K x qual st f fd)(S:FnScope N ps (ji st))(len:∀vs H Q E,sp vs H Q E->vs.length=ps.length)
  (hbody:∀(cdv:Value)(A:Around)(outer:List Env)(s:Shared)(H:Hp)(vs:List V)(Q:VK)(E:XK),Room k (A.deeper (envOfC qual (ji st) s.heap.objs.size f cdv))->sp vs H Q E ->
   ∃t,PSs (cxOf (CXE P w) P w K mg base N qual (ji st) f cdv A outer s H E) (jt st) t/\t {nx:=λ_ H'=>Q .non H',rt:=Q} (start N vs) H):FnOk P w K mg base (CXE P w) (k+1) f fd ps sp:=by
 obtain⟨oc,od,kV,doc,pm,an,cdv,ct,osl,rfl,lk,hcd⟩:=F.ex
 exact jmd lk hcd S len λA outer s H vs Q E hr hsp=>hbody cdv A outer s H vs Q E hr hsp
end
section
variable{X:Cx}
def ExAtW(H:Hp)(a C:Addr):Prop:=∃dx,H a=some (ExW a C dx)/\∀d,dx=some d->∃fs,H d=some (.xd fs)
theorem ExAtW.inst{pins:List (Addr×Obj)}{σ:St}{H:Hp}{s:Shared}{a C:Addr}(I:Inv X pins σ H s)(e:ExAtW H a C):∃o od,PySem.W.InstAt s.heap a o C od:=by
 obtain⟨dx,ea,ed⟩:=e
 obtain⟨⟨vs,sl,eo⟩,_,_⟩:=(show ObjOk X.prog X.w H s.heap a (ExW a C dx)from I.hok a _ ea)
 cases dx with
 |none=>exact⟨_,none,eo,rfl,rfl,True.intro⟩
 |some d =>
  obtain⟨fs,e⟩:=ed d rfl
  obtain⟨mA,⟨od,es,ep,h1,_⟩,_⟩:=(show ObjOk X.prog X.w H s.heap d (.xd fs)from I.hok d _ e)
  exact⟨_,some od,eo,rfl,rfl,h1⟩
def jf3(H:Hp)(c:Addr)(cs:List Addr):Prop:=H c=some (.tup (cs.map V.ref))
def rIsW(K:PySem.W.Frag):List V->Hp->VK->Prop:=λxs H Q=>match xs with
 |[.ref a,.ty n]=>∃C D N b,ExAtW H a C/\XC K C D N/\XI K C/\PySem.W.kitOne K (.ref C) (.type n)=some b/\Q (.bl b) H
 |[.ref a,.ref c]=>∃C D N b,ExAtW H a C/\XC K C D N/\XI K C/\(PySem.W.kitOne K (.ref C) (.ref c)=some b\/∃cs,jf3 H c cs/\PySem.W.kitAny K (.ref C) (cs.map Value.ref)=some b)/\Q (.bl b) H
 |_=>False
theorem jlr(K:PySem.W.Frag)(a:Addr)(n:String)(H:Hp)(Q:VK):rIsW K [.ref a,.ty n] H Q=(∃C D N b,ExAtW H a C/\XC K C D N/\XI K C/\PySem.W.kitOne K (.ref C) (.type n)=some b/\Q (.bl b) H):=rfl
theorem jkf(K:PySem.W.Frag)(a c:Addr)(H:Hp)(Q:VK):rIsW K [.ref a,.ref c] H Q=(∃C D N b,ExAtW H a C/\XC K C D N/\XI K C/\(PySem.W.kitOne K (.ref C) (.ref c)=some b\/∃cs,jf3 H c cs/\PySem.W.kitAny K (.ref C) (cs.map Value.ref)=some b)/\Q (.bl b) H):=rfl
theorem ji0:∀{cs:List Addr}{us:List Value},Vals (cs.map V.ref) us->us=cs.map Value.ref
 |[],_,.nil=>rfl
 |c::cs,_,.cons r t=>by
  cases r
  rw[ji0 t]
  rfl
theorem ja3{K:PySem.W.Frag}(hK:X.K=K):jc1 X (.builtin "isinstance") (rIsW K):=by
 subst hK
 intro pins s σ H xs us Q I r h
 unfold rIsW at h
 split at h
 ·rename_i a n
  obtain⟨C,D,N,b,ea,c,xi,e,q⟩:=h
  obtain⟨u,w',rfl,rx,rc⟩:=jho r
  cases rx
  cases rc
  exact Ih (jgg c xi) I.kIn (ea.inst I) e (λz=>nomatch z) λtk=>⟨.bl b,H,I.tok tk,rfl,q⟩
 ·rename_i a n
  obtain⟨C,D,N,b,ea,c,xi,e,q⟩:=h
  obtain⟨u,w',rfl,rx,rc⟩:=jho r
  cases rx
  cases rc
  rcases e with e|⟨cs,et,e⟩
  ·exact Ih (jgg c xi) I.kIn (ea.inst I) e (λz=>nomatch z) λtk=>⟨.bl b,H,I.tok tk,rfl,q⟩
  ·obtain⟨its,r1,p1,_⟩:=I.tuple (SqT.of et)
   obtain⟨⟨cl,dd,data,sl⟩,ho,hc,n',hd⟩:=id p1
   simp only at hc hd
   subst hc hd
   rw[ji0 r1]at ho
   exact PySem.W.kia_tup (jgg c xi) I.kIn (ea.inst I) ho e (λz=>nomatch z) λtk=>⟨.bl b,H,I.tok tk,rfl,q⟩
 ·exact h.elim
def je6(K:PySem.W.Frag)(ta:TE)(f:Str):TE:=λσ H Q=>ta σ H λx H1=>∃a C D N dx fs v,x=.ref a/\H1 a=some (ExW a C (some dx))/\H1 dx=some (.xd fs)/\XC K C D N/\PySem.W.findIn K (.ref C) f=some none/\fs.lookup f=some v/\Q v H1
theorem pe_excFldW{e:Expr}{f:Str}{pos:Pos}{ta:TE}(he:PE X e ta)(hb:attributeBase e f X.env (eval e X.env)=eval e X.env):PE X (.Attribute e f pos) (je6 X.K ta f):=by
 intro pins s σ H Q I h
 refine jlb hb (thn (he pins s σ H _ I h) λu s1 ⟨x,H1,I1,rx,a,C,D,N,dx,fs,v,ex,ea,ed,c,nf,l,q⟩=>?_)
 subst ex
 obtain rfl:u=Value.ref a:=rx
 obtain⟨nm,qn,bs,sn,sub,ab,col,dd,k0,k1,k2,k3,k5,lk⟩:=c.sh
 have hC:=I1.kIn _ _ lk
 obtain⟨⟨vs,sl,eo⟩,_,_⟩:=(show ObjOk X.prog X.w H1 s1.heap a (ExW a C (some dx))from I1.hok a _ ea)
 obtain⟨mA,hns,hr⟩:=(show ObjOk X.prog X.w H1 s1.heap dx (.xd fs)from I1.hok dx _ ed)
 obtain⟨u',hu,ru⟩:=RelO.some_of (v:=v) (o:=mA f) (by rw[<-l];exact hr f)
 have F1:=Finds.of (M:=model X.prog X.w) I1.kIn c.ga
 have F2:=Finds.of (M:=model X.prog X.w) I1.kIn c.gx
 have F3:=Finds.of (M:=model X.prog X.w) I1.kIn nf
 have ho:=PySem.W.handedOut_of (jid ru)
 obtain⟨hh,g,d,tk,os⟩:=s1
 exact jk2 (by decide) hC F1 F2 F3 eo rfl (λc e=>by cases e) rfl hns hu ho λtk'=>⟨v,H1,I1.tok _,ru,q⟩
end
section
variable{X:Cx}
theorem jl0(K:PySem.W.Frag)(z:Str)(H:Hp):tyV K "str" (.str z) H=True:=by simp[tyV]
theorem jbv{e:Expr}{te:TE}{pos:Pos}{E:XK}{K:PySem.W.Frag}(hK:X.K=K)(hc:X.calm=true)(hx:X.ex=[])(l:jjv X E)(he:QE X e te):QS X (.Raise (some e) none pos) (jhn K X.H₀ E te):=by subst hK;exact⟨ps_raise hc hx l he.h⟩
theorem qpe_excFldW{e:Expr}{f:Str}{pos:Pos}{ta:TE}{K:PySem.W.Frag}(hK:X.K=K)(he:QE X e ta)(hb:attributeBase e f X.env (eval e X.env)=eval e X.env):QE X (.Attribute e f pos) (je6 K ta f):=by subst hK;exact⟨pe_excFldW he.h hb⟩
theorem qps_tryA{K:PySem.W.Frag}{T:Addr}{i j:Nat}{y n tn:Str}{p1 p4 p5 p6 p7:Pos}{suite:List Stmt}{b₀:Stmt}{ts:TS}{k:Nat}{f:Addr}{fd:FuncData}{ps:List Str}{sp:Sp}{x:Str}{p pos:Pos}{e:Expr}{es:List Expr}{t:TA}
  (hK:X.K=K) (F:FnOk X.prog X.w K X.mg X.base (CXE X.prog X.w) k f fd ps sp) (hr:Room k X.A) (hg:Gl X x) (hm:X.mg x=some (.ref f)) (hk:PySem.W.keepIn K (.ref f)=true) (hb:Binds K fd ps []) (ha:QA X (e::es) t)
  (xt:XT K T) (hgT:Gl X tn) (hmT:X.mg tn=some (.ref T)) (hst:∀A',A'.frames=X.A.frames->A'.depth=X.A.depth->A'.units=X.A.units->A'.guards=X.A.guards->QSs (X.late A') (b₀::suite) ts)
  (hs:X.stack=X.env::X.outer/\X.env.frame=some X.env.locals) (hx:X.ex=[]) (hxe:∀e s,¬X.xe e s) (hN:X.N.Nodup) (hi:X.N[i]?=some y) (hy:X.env.scope.names.lookup y=some .local) (hj:X.N[j]?=some n) (hl:X.env.scope.names.lookup n=some .local)
  (hdT:(tn == ("__debug__":Str))=false:=by decide) (hdb:(x == ("__debug__":Str))=false:=by decide) (he:starEach (e::es) X.env=(false,eval e X.env)::starEach es X.env:=by rfl) (hpl:(backTo pos (starEach es X.env)).any (·.1)=false:=by rfl)
  (hsw:swapsWith (.Call (.Name x p) (e::es) [] pos) (some (.Name y p1)) p4.line X.env=pure false:=by rfl) :
  QS X (.Try [.Assign [.Name y p1] (.Call (.Name x p) (e::es) [] pos) p4] [.ExceptHandler (some (.Name tn p5)) (some n) (b₀::suite) p6] [] [] p7) (jjs K T i j sp [] t ts):=by
 subst hK
 exact⟨ps_tryA F hr hg hm hk hb .nil ha.h xt hgT hmT (λA' h1 h2 h3 h4=>(hst A' h1 h2 h3 h4).h) hs hx hxe hN hi hy hj hl hdT hdb he hpl hsw⟩
end
section
variable{prog:Program}{w:World}{A:Around}{E:Value->Shared->Prop}{s:Shared}
theorem jkv{h:Heap}{g:Array GenState}{d:Drawn}{t:Nat}{os:OsState}{it a:Addr}{i:Nat}{vs:Array Value}{u:Value}{Q:Value->Shared->Prop}(hi:h.IsTupleIter it a i)(ha:h.IsTuple a vs)(hu:vs[i]?=some u)
  (q:∀h',h'.IsTupleIter it a (i+1)->Heap.SameBut it h h'->Q u ⟨h',g,d,t,os⟩):wpAny (model prog w) A (Builtin.SmallTypes.nextOf (.ref it)) Q E ⟨h,g,d,t,os⟩:=by
 obtain⟨⟨ci,di,dti,si⟩,e1,c1,d1⟩:=id hi
 obtain⟨⟨ca,da,dta,sa⟩,e2,c2,n2,d2⟩:=ha
 dsimp only at c1 d1 c2 d2
 subst c1 d1 c2 d2
 have sl:=PySem.F.slot_tuple_iterator_next
 have hT:(⟨h,g,d,t,os⟩:Shared).TypeIs (.ref it) "tuple_iterator":=hi.typeIs
 have fin:=q _ ⟨_,Iq (Obj.mapFields (·.setIfInBounds 1 (rawInt (i+1)))) e1 rfl,rfl,by simp[Obj.mapFields,rawInt]⟩ (.update ..)
 refine Ab (Ux hT sl (wpAny_call_entry sl hT U3 ?_ (U0 _)))
 unfold Builtin.«tuple_iterator.__next__»
 repeat (any_goals (first|assumption|with_reducible refine A2 e1 ?_|with_reducible refine A2 e2 ?_|wp_step))
 have e3:vs[((i:Nat):Int).toNat]?=some u:=hu
 rw[e3]
 exact Ab (Uh e1 rfl (by simp) (Am ⟨u,rfl,Am fin⟩))
theorem jk8{h:Heap}{g:Array GenState}{d:Drawn}{t:Nat}{os:OsState}{it a:Addr}{i:Nat}{vs:Array Value}{Q:Value->Shared->Prop}(hh:A.handled=none)(hi:h.IsTupleIter it a i)(ha:h.IsTuple a vs)(hu:vs[i]?=none)
  (q:∀h' e,Heap.ExtBut it h h'->(∃o,h'.get? e=some o/\o.cls=.type "StopIteration")->E (.ref e) ⟨h',g,d,t,os⟩):wpAny (model prog w) A (Builtin.SmallTypes.nextOf (.ref it)) Q E ⟨h,g,d,t,os⟩:=by
 obtain⟨⟨ci,di,dti,si⟩,e1,c1,d1⟩:=id hi
 obtain⟨⟨ca,da,dta,sa⟩,e2,c2,n2,d2⟩:=ha
 dsimp only at c1 d1 c2 d2
 subst c1 d1 c2 d2
 have sl:=PySem.F.slot_tuple_iterator_next
 have hT:(⟨h,g,d,t,os⟩:Shared).TypeIs (.ref it) "tuple_iterator":=hi.typeIs
 have h1:A.in1.handled=none:=hh
 refine Ab (Ux hT sl (wpAny_call_entry sl hT U3 ?_ (U0 _)))
 unfold Builtin.«tuple_iterator.__next__»
 repeat (any_goals (first|assumption|with_reducible refine A2 e1 ?_|with_reducible refine A2 e2 ?_|wp_step))
 have e3:vs[((i:Nat):Int).toNat]?=none:=hu
 rw[e3]
 refine Ab (wpAny_rule (Ab (Uh e1 rfl (by simp) ?_)))
 unfold Builtin.SmallTypes.stopIteration
 have fm:firstArgMember (.type "StopIteration") []=pure .none:=rfl
 unfold newExc
 repeat (any_goals (first|assumption|rw[fm]|wp_step))
 exact wpAny_raiseNew_none h1 (q _ _ (((Wj ..).extBut.push _).push _) ⟨_,Av _ rfl,rfl⟩)
theorem jm8(hh:A.handled=none)(it a:Addr)(ne:a≠it)(vs:Array Value):Draws prog w A it [it,a] vs.size (λi v=>vs[i]?=some v) (λi h=>h.IsTupleIter it a i/\h.IsTuple a vs) where
 live:=λ_ _ st=>let⟨o,ho,_⟩:=st.1;⟨o,ho⟩
 frame:=λ_ _ _ st hk=>by
  obtain⟨⟨o,ho,r⟩,⟨o2,ho2,r2⟩⟩:=st
  exact⟨⟨o,hk it (by simp) o ho,r⟩,⟨o2,hk a (by simp) o2 ho2,r2⟩⟩
 item:=λi s Q E hi st hQ=>by
  obtain⟨hp,g,d,t,os⟩:=s
  obtain⟨o2,ho2,r2⟩:=st.2
  exact jkv st.1 st.2 (u:=vs[i]) (by simp[hi]) λh' hit' hs'=>hQ _ h' t (by simp[hi]) ⟨hit',⟨o2,(hs'.2 a ne).trans ho2,r2⟩⟩ hs'
 done:=λs Q E st hE=>by
  obtain⟨hp,g,d,t,os⟩:=s
  exact jk8 hh st.1 st.2 (by simp) hE
open AutoSeq1 (wpAny_loadPart')in
theorem jm9(a:Addr)(vs:Array Value)(n:Nat)(dct:Option Addr)(sl:Array (Option Value)) :
  Meets (Builtin.«enumerate.__new__» ⟨[.type "enumerate",.ref a],[]⟩) (λ_ R s=>s.heap.get? a=some ⟨.type "tuple",dct,.seq vs n,sl⟩ /\
   R (.ok (.ret (.ref (s.heap.push {cls:=.type "tuple_iterator",data:=.fields #[.ref a,.int 0 0]}).objs.size)))
    {s with heap:=(s.heap.push {cls:=.type "tuple_iterator",data:=.fields #[.ref a,.int 0 0]}).push {cls:=.type "enumerate",data:=.fields #[.none,.bool false,.ref s.heap.objs.size,rawInt 0,.none,.none]}}) :=
 .of_wp λprog w A R s h=>by
  obtain⟨hp,g,d,tk,os⟩:=s;obtain⟨ha,h⟩:=h
  have hsb:=sub_enumerate
  have hT:Heap.IsTuple (Shared.heap ⟨hp,g,d,tk,os⟩) a vs:=⟨_,ha,rfl,n,rfl⟩
  wp_walk using O8 ha
  refine wpAny_stack_any λk=>Am ?_
  split <;> (try (rename_i c _ _ _ _ _;generalize(c == Value.type "enumerate")=b;cases b)) <;> (wp_walk using O8 ha,wpAny_pyIter_tuple hT) <;> exact⟨_,rfl,h⟩
theorem call_enumT{a:Addr}{vs:Array Value}{Q:Value->Shared->Prop}(ht:s.heap.IsTuple a vs)
  (q:∀h',IsEnum h' (s.heap.objs.size+1) s.heap.objs.size 0 .none->h'.IsTupleIter s.heap.objs.size a 0->(∀b o,s.heap.get? b=some o->h'.get? b=some o)->Q (.ref (s.heap.objs.size+1)) {s with heap:=h'}) :
  wpAny (model prog w) A (call (.type "enumerate") [.ref a]) Q E s:=by
 obtain⟨⟨c,dct,dt,sl⟩,ha,hc,n,hd⟩:=ht
 dsimp only at hc hd
 subst hc hd
 refine callType_new PySem.F.called_enumerate (by decide) (PySem.F.typeCall_enumerate_1 _) (PySem.F.newCall_enumerate_1 _) (λobj=>PySem.F.args_object_init_2 obj _) PySem.F.entry_enumerate_new (jm9 a vs n dct sl) ⟨ha,?_⟩
 have hz:(s.heap.push {cls:=.type "tuple_iterator",data:=.fields #[.ref a,.int 0 0]}).objs.size=s.heap.objs.size+1:=Heap.size_push ..
 have he:IsEnum ((s.heap.push {cls:=.type "tuple_iterator",data:=.fields #[.ref a,.int 0 0]}).push {cls:=.type "enumerate",data:=.fields #[.none,.bool false,.ref s.heap.objs.size,rawInt 0,.none,.none]}) (s.heap.objs.size+1) s.heap.objs.size 0 .none:=by
  have e:=Av (s.heap.push {cls:=.type "tuple_iterator",data:=.fields #[.ref a,.int 0 0]}) (o:={cls:=.type "enumerate",data:=.fields #[.none,.bool false,.ref s.heap.objs.size,rawInt 0,.none,.none]}) rfl
  rw[hz]at e;exact e
 show _/\_
 rw[hz]
 exact⟨⟨_,he,rfl⟩,q _ he ⟨_,Ac _ (Av _ rfl),rfl,rfl⟩ λb o x=>Ac _ (Ac _ x)⟩
end
def ItE(K:PySem.W.Frag)(a:Addr):It:=⟨λi H=>∃xs x,SqT K H a xs/\xs[i]?=some x,λi H x H'=>∃T y,H T=none/\x=.ref T/\(∀xs,SqT K H a xs->xs[i]?=some y)/\H'=upd H T (.tup [.int (i:Int),y]),λi H=>∃xs,SqT K H a xs/\xs.length=i⟩
theorem jmx{P:Program}{w:World}{K:PySem.W.Frag}{elts:List Expr}{kk:Nat}{pos:Pos}(a e it:Addr)(ne:e≠it):Turn P w K (.Tuple elts kk pos) (ItE K a) [e,it] e (λi h=>(∃old,IsEnum h e it i old)/\h.IsTupleIter it a i) where
 mem:=by simp
 obj:=λi h st b hb=>by
  obtain⟨⟨old,he⟩,⟨o,ho,hc,hd⟩⟩:=st
  rcases Aw.mp hb with rfl|hb
  ·exact⟨_,he,λv z=>by cases z⟩
  ·rw[Ak.mp hb]
   exact⟨o,ho,λv z=>by rw[hd]at z;cases z⟩
 keep:=λi h h' st k=>by
  obtain⟨⟨old,he⟩,⟨o,ho,r⟩⟩:=st
  exact⟨⟨old,k e (by simp) _ he⟩,⟨o,k it (by simp) o ho,r⟩⟩
 item:=by
  intro X hP hw hK hc i pins s σ H E I hf st hg
  subst hP hw hK
  obtain⟨xs,x,hq,hx⟩:=hg
  obtain⟨its,rv,p,hz⟩:=I.tuple hq
  obtain⟨u,hu,ru⟩:=rv.get hx
  have fr:∀b∈[e,it],b≠a:=λb hb z=>by
   subst z
   obtain⟨o,eo,hcl⟩:∃o,s.heap.get? b=some o/\o.cls≠.type "tuple":=by
    obtain⟨⟨old,he⟩,⟨o,ho,hc',hd⟩⟩:=st
    rcases Aw.mp hb with rfl|hb
    ·exact⟨_,he,by simp⟩
    ·rw[Ak.mp hb]
     exact⟨o,ho,by rw[hc'];simp⟩
   obtain⟨o2,ho2,hc2,_⟩:=p
   rw[eo]at ho2
   cases ho2
   exact hcl hc2
  have WA:=WalksT.enumerateD (jm8 (prog:=X.prog) (w:=X.w) (A:=X.A.in1) (show X.A.in1.handled=none from I.ok.hd hc) it a (fr it (by simp)).symm its.toArray) e ne (by simp[ne,fr e (by simp)]) (by simp)
  have hlt:i<its.toArray.size:=by
   rw[Aj]
   exact(Ai.mp hu).1
  refine WA.item i s _ _ hlt ⟨st.1,st.2,p⟩ λT vs h' tk hp hT htup mid kk'=>⟨_,rfl,?_⟩
  have nTw:=WA.apart _ _ _ mid
  refine WA.go _ _ _ i T {s with heap:=h',toks:=tk} _ _ mid λh'' st'' k''=>?_
  have tup':IsTup h'' T vs:=by
   obtain⟨o,eo,r⟩:=htup
   exact⟨o,k'' T o nTw eo,r⟩
  have hv:Vals [V.int (i:Int),x] vs.toList:=by
   obtain⟨t',u',hu',rfl⟩:=hp
   rw[show its.toArray[i]?=some u from by simpa using hu]at hu'
   cases hu'
   exact .cons ⟨t',rfl⟩ (.cons ru .nil)
  refine⟨.ref T,upd H T (.tup [.int (i:Int),x]),?_,rfl,⟨T,x,I.hok.fresh hT,rfl,λys hy=>by rw[I.tuple_inj hy hq];exact hx,rfl⟩,⟨st''.1,st''.2.1⟩,λb hb=>?_⟩
  ·refine I.turnedNew (fp:=[e,it]) (wr:=[e,it]) hf (λb o hb eo=>k'' b o hb (kk' b o hb eo)) hT (by simpa using tup') hv (by show 2<=sizeLine;decide) λb hb=>?_
   obtain⟨⟨old,he⟩,⟨⟨o,ho,_⟩,_⟩⟩:=st''
   rcases Aw.mp hb with rfl|hb
   ·exact⟨_,he⟩
   ·rw[Ak.mp hb];exact⟨o,ho⟩
  ·have hlt:b<s.heap.objs.size:=by
    obtain⟨⟨old,he⟩,⟨o,ho,_⟩⟩:=st
    rcases Aw.mp hb with rfl|hb
    ·exact Ah he
    ·rw[Ak.mp hb];exact Ah ho
   rw[jd (Ar (Aq hlt hT))]
   exact(hf b hb).1
 done:=by
  intro X hP hw hK hc i pins s σ H E I hf st hg
  subst hP hw hK
  obtain⟨xs,hq,hi⟩:=hg
  obtain⟨its,rv,p,hz⟩:=I.tuple hq
  have fr:∀b∈[e,it],b≠a:=λb hb z=>by
   subst z
   obtain⟨o,eo,hcl⟩:∃o,s.heap.get? b=some o/\o.cls≠.type "tuple":=by
    obtain⟨⟨old,he⟩,⟨o,ho,hc',hd⟩⟩:=st
    rcases Aw.mp hb with rfl|hb
    ·exact⟨_,he,by simp⟩
    ·rw[Ak.mp hb]
     exact⟨o,ho,by rw[hc'];simp⟩
   obtain⟨o2,ho2,hc2,_⟩:=p
   rw[eo]at ho2
   cases ho2
   exact hcl hc2
  have WA:=WalksT.enumerateD (jm8 (prog:=X.prog) (w:=X.w) (A:=X.A.in1) (show X.A.in1.handled=none from I.ok.hd hc) it a (fr it (by simp)).symm its.toArray) e ne (by simp[ne,fr e (by simp)]) (by simp)
  have hn:its.toArray.size=i:=by rw[Aj,<-rv.length];exact hi
  refine WA.done s _ _ (by rw[hn];exact⟨st.1,st.2,p⟩) λh' tk kk'=>⟨rfl,?_⟩
  have nw:∀b u,H b=some u->b∉[e,it]:=λb u eo hb=>by rw[(hf b hb).1]at eo;cases eo
  refine I.step (g':=s.gens) (d':=s.drawn) (ch:=[e,it]) (λb hb=>?_) (λb o _ _ hc e _=>kk' b o hc e) (λb o _ _ hc e _=>⟨o.slots,kk' b o hc e⟩) (λb o hc e n=>n) (λb o hc e=>⟨o,kk' b o hc e⟩)
   (λ_ _ e=>e) (λ_ _ _ e=>e) (λb ps e=>⟨#[],by rw[e];simp⟩) (λm hm=>?_) (λb u e=>?_) I.bare
  ·obtain⟨_,f1,_,f3,f4,f5⟩:=hf b hb
   exact⟨f3,f1,f4,f5⟩
  ·obtain⟨o,es,ep,ho,rr⟩:=hm
   exact⟨o,es,ep,kk' _ o (λz=>(hf _ z).2.1 rfl) ho,rr⟩
  ·refine(I.hok b u e).stay (λd v hd q=>kk' d v ?_ q) (λ_ q=>q) λ_ _ q=>q
   rcases hd with rfl|hd
   ·exact nw _ _ e
   ·exact nw _ _ hd
 self:=λA i s Q E st q=>by
  obtain⟨⟨old,he⟩,_⟩:=st
  exact Uz he q
section
variable{X:Cx}
def jgz(K:PySem.W.Frag)(ta:TA):TI:=λσ H R=>ta σ H λvs H1=>∃a,vs=[.ref a]/\(∃xs,SqT K H1 a xs)/\R (ItE K a) H1
theorem pi_enumT{K:PySem.W.Frag}{a:Expr}{ta:TA}{p pos tpos:Pos}{elts:List Expr}{kk:Nat}(hK:X.K=K)(hg:Gl X "enumerate")(hm:X.mg "enumerate"=none)(ha:PA X [a] ta)(hs:starEach [a] X.env=[(false,eval a X.env)]:=by rfl) :
  PI X (.Tuple elts kk tpos) (.Call (.Name "enumerate" p) [a] [] pos) (jgz K ta):=by
 subst hK
 intro pins s σ H R I h
 refine Call_ (jdt I hg hm ja8 (Ij (thn (ha pos pins s σ H _ I h) λus s1 ⟨vs,H1,I1,r1,q1⟩=>?_) hs rfl))
 obtain⟨ad,e,⟨xs,hx⟩,q⟩:=q1
 subst e
 obtain⟨u,rfl,ru⟩:=jdq r1
 cases ru
 obtain⟨its,rv,pt,hz⟩:=I1.tuple hx
 refine call_enumT (vs:=its.toArray) pt λh' he hi hk=>?_
 have I2:Inv X pins σ H1 {s1 with heap:=h'}:=I1.kept (t':=s1.toks) hk
 refine Uz he ⟨s1.heap.objs.size+1,[s1.heap.objs.size+1,s1.heap.objs.size],_,_,H1,rfl,I2,jmx ad (s1.heap.objs.size+1) s1.heap.objs.size (Nat.succ_ne_self _),⟨⟨.none,he⟩,hi⟩,λb hb=>?_,q⟩
 have hb':s1.heap.objs.size<=b:=by
  rcases Aw.mp hb with rfl|hb
  ·omega
  ·rw[Ak.mp hb];exact Af _
 exact I1.fpOk (H':=H1) hb' (I1.hok.fresh hb')
theorem qpi_enumT{K:PySem.W.Frag}{a:Expr}{ta:TA}{p pos tpos:Pos}{elts:List Expr}{kk:Nat}(hK:X.K=K)(hg:Gl X "enumerate")(hm:X.mg "enumerate"=none)(ha:QA X [a] ta)(hs:starEach [a] X.env=[(false,eval a X.env)]:=by rfl) :
  QI X (.Tuple elts kk tpos) (.Call (.Name "enumerate" p) [a] [] pos) (jgz K ta):=⟨pi_enumT hK hg hm ha.h hs⟩
end
theorem jl9{z:Str}{H:Hp}{D:Addr}{tt:TT}{te:TE}{E:Ends}{r:L2.St}(p:Nat->Bool)(f:Nat->V)(hz:z.length<=sizeLine)(ht:∀c∈z.cps.toList,∀l Q,Q (p c) (upd H D (.lst l))->tt (some (.str ⟨#[c]⟩)::r) (upd H D (.lst l)) Q)
  (he:∀c∈z.cps.toList,p c=true->∀l Q,Q (f c) (upd H D (.lst l))->te (some (.str ⟨#[c]⟩)::r) (upd H D (.lst l)) Q)
  (hn:∀v,E.nx (v::r) (upd H D (.lst ((z.cps.toList.filter p).map f)))):jc4 (ItS z) (jdi 0) (jev D tt te) E (none::r) (upd H D (.lst [])):=by
 have hzl:z.cps.toList.length=z.length:=by simp[Str.length]
 refine jof (λi σ H'=>∃v:Option V,σ=v::r/\H'=upd H D (.lst (((z.cps.toList.take i).filter p).map f))) ⟨none,rfl,rfl⟩ ?_ ?_
 ·rintro i c σ H' hc ⟨v,rfl,rfl⟩
  have hil:=(Ai.mp hc).1
  have hm:c∈z.cps.toList:=A6 hc
  have et:(z.cps.toList.take (i+1))=z.cps.toList.take i++[c]:=by
   rw[Oz,hc];rfl
  have hlen:(((z.cps.toList.take i).filter p).map f).length<sizeLine:=by
   have h1:=Ug p (z.cps.toList.take i)
   rw[Ae]
   rw[Il]at h1
   omega
  refine ht c hm _ _ ?_
  by_cases hp:p c=true
  ·rw[Ad hp]
   refine he c hm hp _ _ ⟨_,by rw[jc];rfl,hlen,some (.str ⟨#[c]⟩),rfl,?_⟩
   rw[jf5,et,Uv,Is]
   simp[hp]
  ·rw[Aa hp]
   refine⟨some (.str ⟨#[c]⟩),rfl,?_⟩
   rw[et,Uv,Is]
   simp[hp]
 ·rintro σ H' ⟨v,rfl,rfl⟩
  have:z.cps.toList.take z.length=z.cps.toList:=Iv (by omega)
  rw[this]
  exact hn v
section
variable{N:Nat}{r:Array Nat}(hN:0<N)(hr:∀x∈r.toList,x<N)
include hN hr
omit hN hr in
end
abbrev FZ(o:Obj):HO:=.frz o (.ext λ_=>True)
section
variable{P:Program}{w:World}{H H':Hp}{h h':Heap}{a:Addr}{o:Obj}{cs:List Addr}
theorem FZ.get(x:HOk P w H h)(e:H a=some (FZ o)):h.get? a=some o:=(x a _ e).1
theorem FZ.mk(e:h.get? a=some o):ObjOk P w H h a (FZ o):=⟨e,trivial,⟨o,e⟩,λ_ _ _ _=>trivial⟩
def hideC(H:Hp)(cs:List Addr):Hp:=λb=>if b∈cs then none else H b
def backC(H H':Hp)(cs:List Addr):Hp:=λb=>if b∈cs then H b else H' b
theorem jdx(m:a∈cs):hideC H cs a=none:=Ad m
theorem jcq(m:a∉cs):hideC H cs a=H a:=Aa m
theorem jmf{u:HO}(e:hideC H cs a=some u):a∉cs/\H a=some u:=by
 by_cases m:a∈cs
 ·rw[jdx m]at e;cases e
 ·exact⟨m,by rwa[jcq m]at e⟩
theorem jc7(e:H a=none):hideC H cs a=none:=by unfold hideC;split <;> first|rfl|exact e
theorem jd8(m:a∈cs):backC H H' cs a=H a:=Ad m
theorem jcz(m:a∉cs):backC H H' cs a=H' a:=Aa m
theorem HOk.hideC(x:HOk P w H h)(fz:∀c∈cs,∃o,H c=some (FZ o)):HOk P w (hideC H cs) h:=λb u q=>by
 obtain⟨_,q'⟩:=jmf q
 refine(x b u q').stay (λ_ _ _ z=>z) (λc z=>?_) λc xs z=>?_
 ·rw[jcq λm=>by obtain⟨o,e⟩:=fz c m;rw[z]at e;cases e];exact z
 ·rw[jcq λm=>by obtain⟨o,e⟩:=fz c m;rw[z]at e;cases e];exact z
theorem Un.backC{fs:List Addr}(u:Un fs [] (hideC H cs) H' h h')(fz:∀c∈cs,∃o,H c=some (FZ o)):Un fs [] H (backC H H' cs) h h' where
 keep:=λb o e n hb hx=>u.keep b o e (jc7 n) hb hx
 slot:=λb o e n hb hx=>u.slot b o e (jc7 n) hb hx
 free:=λb o e n hx=>by
  rw[jcz λm=>by obtain⟨o,z⟩:=fz b m;rw[n]at z;cases z]
  exact u.free b o e (jc7 n) hx
 there:=u.there
 tups:=λb xs e=>by
  have m:b∉cs:=λm=>by obtain⟨o,z⟩:=fz b m;rw[e]at z;cases z
  rw[jcz m];exact u.tups b xs (by rw[jcq m];exact e)
 frzs:=λb o u' e=>by
  by_cases m:b∈cs
  ·rw[jd8 m];exact e
  ·rw[jcz m];exact u.frzs b o u' (by rw[jcq m];exact e)
 tbls:=λb ps e=>by
  have m:b∉cs:=λm=>by obtain⟨o,z⟩:=fz b m;rw[e]at z;cases z
  obtain⟨more,q⟩:=u.tbls b ps (by rw[jcq m];exact e)
  exact⟨more,by rw[jcz m];exact q⟩
theorem HOk.backC{fs:List Addr}(x:HOk P w H h)(x':HOk P w H' h')(u:Un fs [] (L2.hideC H cs) H' h h')(fz:∀c∈cs,∃o,H c=some (FZ o))(nf:∀c∈cs,c∉fs):HOk P w (backC H H' cs) h':=λb v q=>by
 by_cases m:b∈cs
 ·rw[jd8 m]at q
  obtain⟨o,e⟩:=fz b m
  rw[e]at q
  cases Au q
  exact FZ.mk (u.keep b o (FZ.get x e) (jdx m) (nf b m) (by simp))
 ·rw[jcz m]at q
  have no:∀c∈cs,H' c=none:=λc hc=>by
   obtain⟨o,e⟩:=fz c hc
   exact u.free c o (FZ.get x e) (jdx hc) (by simp)
  refine(x' b v q).stay (λ_ _ _ z=>z) (λc z=>?_) λc xs z=>?_
  ·rw[jcz λhc=>by rw[no c hc]at z;cases z];exact z
  ·rw[jcz λhc=>by rw[no c hc]at z;cases z];exact z
theorem Kp.backC{S:List Addr}(k:Kp S (L2.hideC H cs) H'):Kp S H (backC H H' cs):=by
 refine⟨λb o e n=>?_,λb xs e=>?_,λb o e=>?_⟩
 ·by_cases m:b∈cs
  ·rw[jd8 m];exact e
  ·rw[jcz m];exact k.old b o (by rw[jcq m];exact e) n
 ·by_cases m:b∈cs
  ·rw[jd8 m];exact e
  ·rw[jcz m];exact k.tup b xs (by rw[jcq m];exact e)
 ·by_cases m:b∈cs
  ·exact⟨o,by rw[jd8 m];exact e⟩
  ·rw[jcz m];exact k.dom b o (by rw[jcq m];exact e)
end
structure LamScope(ps fs:List Str)(sc:Scope):Prop where
 kind:sc.kind=.function
 co:sc.isCoroutine=false
 gen:sc.isGenerator=false
 nd:(ps++fs).Nodup
 par:∀x∈ps,sc.names.lookup x=some .local
 nocell:∀y∈sc.names,y.2≠.cell
 fr:∀x∈fs,sc.names.lookup x=some .free
 only:∀x,sc.names.lookup x=some .free->x∈fs
def jmb(P:Program)(w:World)(K:PySem.W.Frag)(mg:Str->Option Value)(base:Heap)(N:List Str)(qual:Str)(scope:Scope)(f:Addr)(cd:Value)(cl:List (Str×Addr))(A:Around)(outer:List Env)(s:Shared)(H:Hp):Cx where
 prog:=P
 w:=w
 K:=K
 mg:=mg
 base:=base
 A:=A.deeper (PySem.W.envX qual scope s.heap.objs.size f cd cl)
 N:=N
 s₀:=s
 H₀:=H
 env:=PySem.W.envX qual scope s.heap.objs.size f cd cl
 outer:=outer
 stack:=PySem.W.envX qual scope s.heap.objs.size f cd cl::outer
 ex:=[]
 calm:=true
 fn:=λ_=>false
 pn:=[]
 xe:=λ_ _=>False
structure Caps(H:Hp)(cl:List (Str×Addr))(fs:List Str)(ws:List V):Prop where
 len:ws.length=fs.length
 at_:∀(i:Nat)(x:Str)(v:V),fs[i]?=some x->ws[i]?=some v->∃c o u,cl.lookup x=some c/\H c=some (FZ o)/\o.data=.cell (some u)/\RelV v u
 has:∀x∈fs,∃c,cl.lookup x=some c
 fz:∀p∈cl,∃o u,H p.2=some (FZ o)/\o.data=.cell u
 inj:∀x y c,cl.lookup x=some c->cl.lookup y=some c->x=y
def CodeZ(H:Hp)(c:Addr)(qual:Str):Prop:=∃oc vs t,H c=some (FZ oc)/\oc.data=.fields vs/\vs[1]?=some (.str qual t)
theorem jl3{α β:Type}:∀{l:List α}{m:List β}{i:Nat}{x:α}{y:β},l[i]?=some x->m[i]?=some y->(l.zip m)[i]?=some (x,y)
 |[],_,_,_,_,h,_=>by simp at h
 |_::_,[],_,_,_,_,h=>by simp at h
 |_::_,_::_,0,_,_,h,h'=>by simp at h h';subst h;subst h';rfl
 |_::l,_::m,i+1,_,_,h,h'=>by
  simp at h h'
  simpa using jl3 (l:=l) (m:=m) h h'
theorem jmj{ps:List Str}{us:List Value}(nd:ps.Nodup){i:Nat}{x:Str}{u:Value}(h:ps[i]?=some x)(h':us[i]?=some u):(ps.zip us).reverse.lookup x=some u:=by
 have key:∀(l:List (Str×Value)),(l.map Prod.fst).Nodup->(x,u)∈l->l.lookup x=some u:=by
  intro l
  induction l with
  |nil=>intro _ m;cases m
  |cons q l ih =>
   intro nd m
   obtain⟨y,v⟩:=q
   rw[Ax,Ov]at nd
   rcases Aw.mp m with e|m
   ·cases e;simp[List.lookup]
   ·have:x≠y:=λe=>nd.1 (by rw[<-e];exact A7.mpr ⟨(x,u),m,rfl⟩)
    rw[List.lookup_cons]
    have b:(x == y)=false:=by simpa using this
    rw[b]
    exact ih nd.2 m
 refine key _ ?_ (List.mem_reverse.mpr (A6 (jl3 h h')))
 rw[List.map_reverse]
 refine(List.reverse_perm _).nodup_iff.mpr ?_
 have:∀(l:List Str)(m:List Value),((l.zip m).map Prod.fst).Sublist l:=by
  intro l
  induction l with
  |nil=>intro m;simp
  |cons y l ih =>
   intro m
   cases m with
   |nil=>simp
   |cons v m=>exact(ih m).cons₂ y
 exact nd.sublist (this ps us)
section
variable{P:Program}{w:World}{K:PySem.W.Frag}{mg:Str->Option Value}{base:Heap}{k:Nat}{f c':Addr}{name qual:Str}{params:Arguments}{body:Expr}{scope:Scope}{pm ct:Value}{ps fs:List Str}{cl:List (Str×Addr)}{sp:Sp}
theorem jpm{A:Around}{outer:List Env}{s:Shared}{h1:Heap}{tk:Tok}{H:Hp}{us:List Value}{vs ws:List V}(S:LamScope ps fs scope)(hd:A.handled=none)(e0:Env0 P w K mg base A outer s H)(hl:vs.length=ps.length)(r:Vals vs us)(cap:Caps H cl fs ws)
  (hns:h1.Ns s.heap.objs.size λy=>(ps.zip us).reverse.lookup y) (hk:∀b o,s.heap.get? b=some o->h1.get? b=some o) :
  Inv (jmb P w K mg base (ps++fs) qual scope f (.ref c') cl A outer s (hideC H (cl.map Prod.snd))) [] (vs.map some++ws.map some) (hideC H (cl.map Prod.snd)) {s with heap:=h1,toks:=tk}:=by
 have fz:∀c∈cl.map Prod.snd,∃o,H c=some (FZ o):=λc hc=>by
  obtain⟨p,hp,rfl⟩:=A7.mp hc
  obtain⟨o,u,e,_⟩:=cap.fz p hp
  exact⟨o,e⟩
 have hok:=HOk.hideC e0.hok fz
 have inC:∀x c,cl.lookup x=some c->c∈cl.map Prod.snd:=λx c e=>A7.mpr ⟨(x,c),Io e,rfl⟩
 have noA:∀b:Addr,b∉(jmb P w K mg base (ps++fs) qual scope f (.ref c') cl A outer s (hideC H (cl.map Prod.snd))).ex:=λb z=>absurd (show b∈([]:List Addr)from z) (by simp)
 refine⟨⟨e0.mod,S.kind,rfl,rfl,Af _,cap.inj,λy hy=>?_,λy c z=>(by cases z),λ_=>hd,Around.frames_deeper e0.frames,.inr ⟨rfl,rfl⟩,λb z=>absurd z (noA b),λb o e=>⟨(e0.bs b o e).1,jc7 (e0.bs b o e).2⟩,e0.bsz,λb _ _=>noA b,λb z=>absurd z (noA b),e0.funs,λb z=>jc7 (e0.frf b z)⟩,
  rfl,e0.bare,Un.kept hk,⟨_,hns,λi y v q1 q2 q3=>?_⟩,λy c h=>?_,jc7 (e0.hok.fresh (Af _)),λy c h=>jdx (inC y c h),λp hp=>absurd (show p∈([]:List (Addr×Obj))from hp) (by simp),hok.kept hk,?_⟩
 ·have hy:scope.names.lookup y=some .cell\/scope.names.lookup y=some .free:=hy
  rcases hy with hy|hy
  ·exact absurd rfl (S.nocell _ (Io hy))
  ·exact cap.has y (S.only y hy)
 ·have q1:(ps++fs)[i]?=some y:=q1
  by_cases hi:i<ps.length
  ·rw[A1 hi]at q1
   rw[A1 (by rw[Ae];omega),A3]at q2
   have ha:vs[i]?=some v:=by
    cases e:vs[i]? with
    |none=>rw[e]at q2;cases q2
    |some a=>rw[e]at q2;cases q2;rfl
   obtain⟨u,hu,rv⟩:=r.get ha
   exact⟨u,rv,.inl ⟨S.par y (A6 q1),jmj (S.nd.sublist (List.sublist_append_left _ _)) q1 hu⟩⟩
  ·rw[A8 (by omega)]at q1
   rw[A8 (by rw[Ae];omega),Ae,hl,A3]at q2
   have ha:ws[i-ps.length]?=some v:=by
    cases e:ws[i-ps.length]? with
    |none=>rw[e]at q2;cases q2
    |some a=>rw[e]at q2;cases q2;rfl
   obtain⟨c,o,u,e1,e2,e3,rv⟩:=cap.at_ _ y v q1 ha
   exact⟨u,rv,.inr ⟨.inr (S.fr y (A6 q1)),c,e1,o,hk _ _ (FZ.get e0.hok e2),e3⟩⟩
 ·obtain⟨o,u,e,d⟩:=cap.fz (y,c) (Io h)
  exact⟨u,o,hk _ _ (FZ.get e0.hok e),d⟩
 ·show(vs.map some++ws.map some).length=(ps++fs).length
  rw[Ay,Ay,Ae,Ae,hl,cap.len]
theorem jqq(S:LamScope ps fs scope)(len:∀vs H Q E,sp vs H Q E->vs.length=ps.length)
  (hbody:∀(vs:List V)(H:Hp)(Q:VK)(E:XK),sp vs H Q E->H f=some (FZ (PySem.W.kla_obj name qual params body scope cl pm c' ct))/\CodeZ H c' qual/\∃ws,Caps H cl fs ws /\
   ∀(A:Around)(outer:List Env)(s:Shared),Room k (A.deeper (PySem.W.envX qual scope s.heap.objs.size f (.ref c') cl)) ->
    ∃t,PE (jmb P w K mg base (ps++fs) qual scope f (.ref c') cl A outer s (hideC H (cl.map Prod.snd))) body t/\t (vs.map some++ws.map some) (hideC H (cl.map Prod.snd)) λv H'=>(∀c∈cl.map Prod.snd,H' c=none)->Q v (backC H H' (cl.map Prod.snd))) :
  FnOk P w K mg base CX0 (k+1) f (PySem.W.kla_fn name qual params body scope cl pm (.ref c') ct) ps sp:=by
 refine⟨len,λA outer s H args us vs Q E hr e0 hb r hsp=>?_⟩
 have hl:=len _ _ _ _ hsp
 obtain⟨hf,⟨oc,vc,tc,hc,hoc,hv1⟩,ws,cap,hb0⟩:=hbody vs H Q E hsp
 have lim:s.heap.NoLimit:=e0.mod.nolimit.keeps λb o e=>(e0.bs b o e).1
 have fz:∀c∈cl.map Prod.snd,∃o,H c=some (FZ o):=λc hc=>by
  obtain⟨p,hp,rfl⟩:=A7.mp hc
  obtain⟨o,u,e,_⟩:=cap.fz p hp
  exact⟨o,e⟩
 refine PySem.W.kla_callFunE hr.depth (FZ.get e0.hok hf) rfl S.co S.gen rfl ⟨c',oc,vc,tc,rfl,FZ.get e0.hok hc,hoc,hv1⟩ (hb _ _ _ _ ?_)
 refine Wf S.nocell (λy hy=>S.par _ (Wc hy).1) (λh1 hns hsb=>⟨lim.fresh _ hsb,?_⟩) S.kind
 show codeAny _ _ (.expr body (PySem.W.envX qual scope s.heap.objs.size f (.ref c') cl)) _ _
 have hk:∀b o,s.heap.get? b=some o->h1.get? b=some o:=λb o e=>hsb.extBut b o (Ar (Ah e)) (Ac _ e)
 obtain⟨t,ht,hq⟩:=hb0 A outer s (hr.deeper _)
 have I:=jpm (f:=f) (c':=c') (qual:=qual) (tk:=s.toks+(ps.zip us).length) S hr.hd e0 hl r cap hns hk
 refine PySem.W.kla_codeExpr (Iw (ht [] _ _ _ _ I hq) (λu s' hs=>?_) λe s' hs=>False.elim hs)
 obtain⟨v,H',J,rv,q⟩:=hs
 have nf:∀c∈cl.map Prod.snd,c∉frs outer:=λc hc z=>by
  obtain⟨o,e⟩:=fz c hc
  rw[e0.frf c z]at e;cases e
 exact⟨v,_,J.os,J.bare,Un.backC J.base fz,HOk.backC e0.hok J.hok J.base fz nf,rv,q λc hc=>by
  obtain⟨o,e⟩:=fz c hc
  exact J.base.free c o (FZ.get e0.hok e) (jdx hc) (by intro z;exact absurd (show c∈([]:List Addr)from z) (by simp))⟩
end
section
variable{X:Cx}
def jhg(P:Program)(w:World)(K:PySem.W.Frag)(mg:Str->Option Value)(base:Heap)(k i:Nat)(t:TA):TE:=λσ H Q=>∃(f:Addr)(o:Obj)(fd:FuncData)(ps:List Str)(sp:Sp),σ[i]?=some (some (.ref f))/\o.data=.func fd /\
 FnOk P w K mg base CX0 k f fd ps sp/\Binds K fd ps []/\t σ H λvs H1=>H1 f=some (FZ o)/\sp vs H1 Q E0
theorem pe_callD{P:Program}{w:World}{K:PySem.W.Frag}{mg:Str->Option Value}{base:Heap}(hP:X.prog=P)(hw:X.w=w)(hK:X.K=K)(hM:X.mg=mg)(hB:X.base=base){k:Nat}{x:Str}{p pos:Pos}{e:Expr}{es:List Expr}{t:TA}(i:Nat)(hr:Room k X.A)(ha:PA X (e::es) t)
  (hN:X.N[i]?=some x:=by rfl) (hv:Vis X.env.scope x:=by first|exact Or.inl rfl|exact Or.inr (Or.inl rfl)|exact Or.inr (Or.inr rfl))
  (hdb:(x == ("__debug__":Str))=false:=by decide) (hcd:(x == ("__classdict__":Str))=false:=by decide) (he:starEach (e::es) X.env=(false,eval e X.env)::starEach es X.env:=by rfl) :
  PE X (.Call (.Name x p) (e::es) [] pos) (jhg P w K mg base k i t):=by
 subst hP;subst hw;subst hK;subst hM;subst hB
 intro pins s σ H Q I h
 obtain⟨f,o,fd,ps,sp,e0,hd,F,hb,h⟩:=h
 refine Ik (thn (jci hN hv hdb hcd pins s σ H (λv H'=>v=.ref f/\t σ H' λvs H1=>H1 f=some (FZ o)/\sp vs H1 Q E0) I ⟨_,e0,rfl,h⟩) λu s1 ⟨v,H1,I1,r,hv1,h1⟩=>?_)
 subst hv1
 cases r
 refine callWith_def (o:=o) (fd:=fd) hd (thn (ha pos pins s1 σ H1 _ I1 h1) λus s2 ⟨vs,H2,I2,r2,q1,q2⟩=>⟨FZ.get I2.hok q1,?_⟩) he
 exact jkp F hr hb .nil jo I2 r2 (by rw[Ir];exact q2)
def jda(H:Hp)(cs:List (Addr×Obj)):Hp:=λb=>match cs.lookup b with
 |some o=>some (FZ o)
 |none=>H b
theorem je4{H:Hp}{cs:List (Addr×Obj)}{b:Addr}{o:Obj}(e:cs.lookup b=some o):jda H cs b=some (FZ o):=by unfold jda;rw[e]
theorem jc0{H:Hp}{cs:List (Addr×Obj)}{b:Addr}(e:cs.lookup b=none):jda H cs b=H b:=by unfold jda;rw[e]
theorem jg2{cs:List (Addr×Obj)}{b:Addr}(h:b∈cs.map Prod.fst):∃o,cs.lookup b=some o:=by
 cases e:cs.lookup b with
 |some o=>exact⟨o,rfl⟩
 |none =>
  obtain⟨p,hp,rfl⟩:=A7.mp h
  have:=List.lookup_eq_none_iff.mp e p hp
  simp at this
theorem jj8{cs:List (Addr×Obj)}{b:Addr}(h:b∉cs.map Prod.fst):cs.lookup b=none:=by
 refine List.lookup_eq_none_iff.mpr λp hp=>?_
 simp only[bne_iff_ne,ne_eq]
 rintro rfl
 exact h (A7.mpr ⟨p,hp,rfl⟩)
theorem Inv.env0C{pins:List (Addr×Obj)}{σ:St}{H:Hp}{s:Shared}{cs:List (Addr×Obj)}(I:Inv X pins σ H s)(hc:∀b o,cs.lookup b=some o->s.heap.get? b=some o/\H b=none/\X.base.get? b=none/\b∉frs X.stack) :
  Env0 X.prog X.w X.K X.mg X.base X.A X.stack s (jda H cs):=by
 have e:=I.env0
 refine⟨e.frames,e.mod,λb o q=>⟨(e.bs b o q).1,?_⟩,e.bsz,e.funs,λb hb=>?_,λb u q=>?_,e.bare⟩
 ·cases z:cs.lookup b with
  |some o'=>rw[(hc b o' z).2.2.1]at q;cases q
  |none=>rw[jc0 z];exact(e.bs b o q).2
 ·cases z:cs.lookup b with
  |some o'=>exact absurd hb (hc b o' z).2.2.2
  |none=>rw[jc0 z];exact e.frf b hb
 ·cases z:cs.lookup b with
  |some o' =>
   rw[je4 z]at q
   cases Au q
   exact FZ.mk (hc b o' z).1
  |none =>
   rw[jc0 z]at q
   have no:∀c,(∃v,H c=some v)->jda H cs c=H c:=λc ⟨v,hv⟩=>jc0 (by
    cases y:cs.lookup c with
    |none=>rfl
    |some o=>rw[(hc c o y).2.1]at hv;cases hv)
   exact(e.hok b u q).stay (λ_ _ _ y=>y) (λc y=>by rw[no c ⟨_,y⟩];exact y) λc xs y=>by rw[no c ⟨_,y⟩];exact y
theorem Un.hideS{fs:List Addr}{P:Program}{w:World}{H H':Hp}{h h':Heap}{cs:List (Addr×Obj)}(u:Un fs [] (jda H cs) H' h h')(x':HOk P w H' h')(hc:∀b o,cs.lookup b=some o->h.get? b=some o/\H b=none):Un fs [] H (hideC H' (cs.map Prod.fst)) h h':=by
 have out:∀b v,H b=some v->cs.lookup b=none:=λb v e=>by
  cases y:cs.lookup b with
  |none=>rfl
  |some o=>rw[(hc b o y).2]at e;cases e
 have nin:∀b v,H b=some v->b∉cs.map Prod.fst:=λb v e m=>by
  obtain⟨o,y⟩:=jg2 m
  rw[out b v e]at y;cases y
 have kept:∀b o,cs.lookup b=some o->h'.get? b=some o:=λb o z=>FZ.get x' (u.frzs b o _ (je4 z))
 refine⟨λb o e n hb hx=>?_,λb o e n hb hx=>?_,λb o e n hx=>?_,u.there,λb xs e=>?_,λb o v e=>?_,λb ps e=>?_⟩
 ·cases z:cs.lookup b with
  |some o' =>
   have:=(hc b o' z).1
   rw[e]at this;cases this
   exact kept b o z
  |none=>exact u.keep b o e (by rw[jc0 z];exact n) hb hx
 ·cases z:cs.lookup b with
  |some o' =>
   have:=(hc b o' z).1
   rw[e]at this;cases this
   exact⟨o.slots,kept b o z⟩
  |none=>exact u.slot b o e (by rw[jc0 z];exact n) hb hx
 ·cases z:cs.lookup b with
  |some o' =>
   refine jdx (Classical.byContradiction λm=>?_)
   rw[jj8 m]at z;cases z
  |none=>exact jc7 (u.free b o e (by rw[jc0 z];exact n) hx)
 ·rw[jcq (nin b _ e)];exact u.tups b xs (by rw[jc0 (out b _ e)];exact e)
 ·rw[jcq (nin b _ e)];exact u.frzs b o v (by rw[jc0 (out b _ e)];exact e)
 ·obtain⟨more,q⟩:=u.tbls b ps (by rw[jc0 (out b _ e)];exact e)
  exact⟨more,by rw[jcq (nin b _ e)];exact q⟩
variable{pins:List (Addr×Obj)}{σ:St}{H:Hp}{s:Shared}
theorem jp3{k:Nat}{f:Addr}{fd:FuncData}{ps:List Str}{sp:Sp}{Q:VK}{us:List Value}{vs:List V}{cs:List (Addr×Obj)}(F:FnOk X.prog X.w X.K X.mg X.base CX0 k f fd ps sp)(hr:Room k X.A)(hb:Binds X.K fd ps [])
  (I:Inv X pins σ H s) (r:Vals vs us) (hc:∀b o,cs.lookup b=some o->s.heap.get? b=some o/\H b=none/\X.base.get? b=none/\b∉frs X.stack)
  (h:sp vs (jda H cs) (λv H2=>Q v (hideC H2 (cs.map Prod.fst))) E0):wpAny (model X.prog X.w) X.A (call (.ref f) us) (EP X pins σ Q) X.xe s:=by
 have hl:us.length=ps.length:=by rw[<-r.length];exact F.len _ _ _ _ h
 have hbb:=hb s us I.kIn (by rw[Ir];exact hl)
 rw[Ir]at hbb
 refine Uw (Ue (F.run X.A X.stack s (jda H cs) ⟨us,[]⟩ us vs _ E0 hr (I.env0C hc) hbb r h) λr s' hq=>?_)
 cases r with
 |error e=>exact False.elim hq
 |ok fl =>
  cases fl with
  |ret u =>
   obtain⟨v,H',os,bare,un,hok,rv,q⟩:=hq
   refine I.after ⟨v,_,os,bare,Un.hideS un hok λb o z=>⟨(hc b o z).1,(hc b o z).2.1⟩,HOk.hideC hok λc m=>?_,rv,q⟩
   obtain⟨o,z⟩:=jg2 m
   exact⟨o,un.frzs c o _ (je4 z)⟩
  |next=>exact False.elim hq
  |brk=>exact False.elim hq
  |cont=>exact False.elim hq
def jk9(σ:St)(H:Hp)(js:List (Nat×Addr))(cs:List (Addr×Obj)):Prop :=
 Paired (fun(j:Nat×Addr) (p:Addr×Obj)=>p.1=j.2/\H j.2=none/\∃v u,σ[j.1]?=some (some v)/\p.2.data=.cell (some u)/\RelV v u) js cs
def jhf(js:List (Nat×Addr))(sp:Sp)(t:TA):TE:=λσ H Q=>t σ H λvs H1=>(∀j∈js,∃v,σ[j.1]?=some (some v))/\∀cs,jk9 σ H1 js cs->sp vs (jda H1 cs) (λv H2=>Q v (hideC H2 (cs.map Prod.fst))) E0
theorem Inv.cellAt(I:Inv X pins σ H s){i:Nat}{c:Addr}{x:Str}{v:V}(hN:X.N[i]?=some x)(hk:X.env.kindOf x=some .cell)(hf:X.fn x=true)(hl:X.env.cells.lookup x=some c)(e:σ[i]?=some (some v)) :
  ∃o u,s.heap.get? c=some o/\o.data=.cell (some u)/\RelV v u/\H c=none/\X.base.get? c=none/\c∉frs X.stack:=by
 obtain⟨m,hns,loc⟩:=I.loc
 obtain⟨u,rv,lk⟩:=loc i x v hN e (.inr (.inl hk))
 rcases lk with⟨k,_⟩|⟨_,c',e',o,ho,hd⟩
 ·rw[hk]at k;cases k
 ·rw[hl]at e'
  cases Au e'
  have ge:=I.ok.cab x c hf hl
  refine⟨o,u,ho,hd,rv,I.freeC x c hl,Uj (Ib I.ok.bsz ge),λhb=>?_⟩
  rcases Aw.mp (I.stkSub c hb)with z|z
  ·obtain⟨ol,es,ep,e1,e2,_⟩:=hns
   rw[<-z,ho]at e1
   cases Au e1
   rw[hd]at e2;cases e2
  ·obtain⟨_,ob,hob,_⟩:=I.ok.funs.mem z
   exact absurd (Ah hob) (Nat.not_lt.mpr ge)
theorem jjz(I:Inv X pins σ H s):∀{js:List (Nat×Addr)},(∀j∈js,∃x,X.N[j.1]?=some x/\X.env.kindOf x=some .cell/\X.fn x=true/\X.env.cells.lookup x=some j.2)->(∀j∈js,∃v,σ[j.1]?=some (some v)) ->
  ∃cs,jk9 σ H js cs/\∀b o,cs.lookup b=some o->s.heap.get? b=some o/\H b=none/\X.base.get? b=none/\b∉frs X.stack
 |[],_,_=>⟨[],.nil,λb o z=>by cases z⟩
 |j::js,h1,h2=>by
  obtain⟨cs,pr,hc⟩:=jjz I (js:=js) (λi hi=>h1 i (.tail _ hi)) λi hi=>h2 i (.tail _ hi)
  obtain⟨x,e1,e2,e3,e4⟩:=h1 j (.head _)
  obtain⟨v,e5⟩:=h2 j (.head _)
  obtain⟨o,u,q1,q2,q3,q4,q5,q6⟩:=I.cellAt e1 e2 e3 e4 e5
  refine⟨(j.2,o)::cs,.cons ⟨rfl,q4,v,u,e5,q2,q3⟩ pr,λb o' z=>?_⟩
  rw[List.lookup_cons]at z
  split at z
  ·rename_i hb
   cases Au z
   have:b=j.2:=by simpa using hb
   subst this
   exact⟨q1,q4,q5,q6⟩
  ·exact hc b o' z
theorem pe_callC{k:Nat}{f:Addr}{fd:FuncData}{ps:List Str}{sp:Sp}{x:Str}{p pos:Pos}{e:Expr}{es:List Expr}{t:TA}(js:List (Nat×Addr))(hjs:∀j∈js,∃x,X.N[j.1]?=some x/\X.env.kindOf x=some .cell/\X.fn x=true/\X.env.cells.lookup x=some j.2)
  (F:FnOk X.prog X.w X.K X.mg X.base CX0 k f fd ps sp) (hr:Room k X.A) (hg:Gl X x) (hm:X.mg x=some (.ref f)) (hk:PySem.W.keepIn X.K (.ref f)=true) (hb:Binds X.K fd ps []) (ha:PA X (e::es) t)
  (hdb:(x == ("__debug__":Str))=false:=by decide) (he:starEach (e::es) X.env=(false,eval e X.env)::starEach es X.env:=by rfl) (hpl:(backTo pos (starEach es X.env)).any (·.1)=false:=by rfl) :
  PE X (.Call (.Name x p) (e::es) [] pos) (jhf js sp t):=by
 intro pins s σ H Q I h
 refine Ik (jdr I hg hm ?_ hdb)
 refine O7 (h₀:=X.base) I.ok.mod.kin hk (thn (ha pos pins s σ H _ I h) λus s1 ⟨vs,H1,I1,r,hb1,q⟩=>⟨I1.kIn,?_⟩) he hpl
 obtain⟨cs,pr,hc⟩:=jjz I1 hjs hb1
 exact jp3 F hr hb I1 r hc (q cs pr)
end
theorem jl5{pos pos':Pos}{c:Value}(l:List Value)(h:TriplesOk l){v:Value}(e:codeAmong pos' (l++[rawInt pos.line,rawInt pos.col,c])=some v):codeAmong pos' l=some v\/v=c:=by
 fun_induction TriplesOk l with
 |case1 =>
  simp only[List.nil_append,codeAmong,rawInt]at e
  split at e
  ·exact .inr (Au e).symm
  ·cases e
 |case2 a t b u x rest ih =>
  simp only[List.cons_append,codeAmong]at e⊢
  split at e
  ·rename_i hc;rw[Ad hc];exact .inl e
  ·rename_i hc;rw[Aa hc];exact ih h e
 |case3 l h1 h2=>exact h.elim
def TabOk(H:Hp)(Pt:Addr)(qual:Str):Prop:=∃ps,H Pt=some (.tbl ps)/\TriplesOk ps.toList/\∀pos cv,codeAmong pos ps.toList=some cv->∃c,cv=.ref c/\CodeZ H c qual
theorem CodeZ.kp{S:List Addr}{H H':Hp}{c:Addr}{qual:Str}(k:Kp S H H')(n:c∉S)(x:CodeZ H c qual):CodeZ H' c qual:=let⟨oc,vs,t,e,r⟩:=x;⟨oc,vs,t,k.old _ _ e n,r⟩
def tLam(Pt:Addr)(qual:Str)(params:Arguments)(body:Expr)(scope:Scope)(cl:List (Str×Addr))(pm:Value):TE:=λσ H Q=>TabOk H Pt qual/\∀f c ct H',H f=none->Kp [Pt] H H'->H' f=some (FZ (PySem.W.kla_obj "<lambda>" qual params body scope cl pm c ct))->CodeZ H' c qual->TabOk H' Pt qual->Q (.ref f) H'
section
variable{X:Cx}
theorem pe_lambda{params:Arguments}{body:Expr}{scope:Scope}{pos:Pos}{c Pt:Addr}{cl:List (Str×Addr)}(hdef:defaultsOf params X.env=([],[]))(hcl:closureFor scope X.env=pure cl)(hcode:X.env.code=.ref c)(hC:PySem.W.CodeHd X.base c Pt)(hbt:X.base.BuiltinsAt X.mg Pt) :
  PE X (.Lambda params body scope pos) (tLam Pt (X.env.qual++"<lambda>") params body scope cl ((X.mg "__name__").getD .none)):=by
 intro pins s σ H Q I h
 obtain⟨⟨ps,hP,ht,hin⟩,h⟩:=h
 have oP:s.heap.get? Pt=some (PySem.W.tabObj ps):=I.hok Pt _ hP
 have hgs:s.heap.Ns mainGlobals X.mg:=I.mod.glob.keeps I.bk
 have hgP:mainGlobals≠Pt:=λq=>by
  obtain⟨o,es,ep,e,hd,_⟩:=hgs
  rw[q,oP]at e;cases e;cases hd
 have hb:s.heap.BuiltinsAt X.mg Pt:=let⟨bm,o,b1,b2,b3,b4,b5,r⟩:=hbt;⟨bm,o,b1,b2,b3,b4,I.bk _ _ b5,r⟩
 have C:=hC.keeps I.bk
 refine PySem.W.kla_eval hdef ?_
 cases hf:codeAmong pos ps.toList with
 |some cv =>
  obtain⟨c',rfl,cz⟩:=hin pos cv hf
  refine PySem.W.kla_makeFunctionHit (mg:=X.mg) hcl I.ok.glob hgs hcode C oP ht hf hb λctv h' tk hk hsz=>?_
  have hf:H h'.objs.size=none:=I.hok.fresh hsz
  have kp:Kp [Pt] H (upd H h'.objs.size (FZ (PySem.W.kla_obj "<lambda>" (X.env.qual++"<lambda>") params body scope cl ((X.mg "__name__").getD .none) c' ctv))):=(Kp.refl [Pt] H).new hf
  have kp0:Kp [] H (upd H h'.objs.size (FZ (PySem.W.kla_obj "<lambda>" (X.env.qual++"<lambda>") params body scope cl ((X.mg "__name__").getD .none) c' ctv))):=(Kp.refl [] H).new hf
  refine⟨.ref h'.objs.size,_,I.laid (t':=tk) (λb u e=>Ac _ (hk b u e)) hsz (FZ.mk (Av _ rfl)),rfl,h _ c' ctv _ hf kp jc (cz.kp kp0 (by simp)) ⟨ps,kp0.old _ _ hP Ap,ht,λp v e=>?_⟩⟩
  obtain⟨c2,e2,z⟩:=hin p v e
  exact⟨c2,e2,z.kp kp0 (by simp)⟩
 |none =>
  refine PySem.W.kla_makeFunction (mg:=X.mg) hcl I.ok.glob hgs hcode C oP ht hf hgP hb λc' ctv h' tk hx hge hlt hrec htb=>?_
  obtain⟨c₂,oc,vs,t,e2,hoc,hd,hv⟩:=hrec
  cases e2
  have lP:Pt<s.heap.objs.size:=Ah oP
  have lt:∀b u,H b=some u->b<s.heap.objs.size:=λb u e=>(I.hok b u e).lt
  have nPc:Pt≠c':=Ar (Aq lP hge)
  have nPf:Pt≠h'.objs.size:=Ar (Nat.lt_trans (Aq lP hge) hlt)
  have ncf:c'≠h'.objs.size:=Ar hlt
  have fC:H c'=none:=I.hok.fresh hge
  have fF:H h'.objs.size=none:=I.hok.fresh (Ib hge (U9 hlt))
  let o1:Obj:=PySem.W.kla_obj "<lambda>" (X.env.qual++"<lambda>") params body scope cl ((X.mg "__name__").getD .none) c' ctv
  let ps':Array Value:=ps++#[rawInt pos.line,rawInt pos.col,.ref c']
  let H':Hp:=upd (upd (upd H Pt (.tbl ps')) c' (FZ oc)) h'.objs.size (FZ o1)
  have eF:H' h'.objs.size=some (FZ o1):=jc
  have eC:H' c'=some (FZ oc):=by show upd _ _ _ c'=_;rw[jd ncf,jc]
  have eP:H' Pt=some (.tbl ps'):=by show upd _ _ _ Pt=_;rw[jd nPf,jd nPc,jc]
  have eO:∀b,b≠Pt->b≠c'->b≠h'.objs.size->H' b=H b:=λb n1 n2 n3=>by show upd _ _ _ b=_;rw[jd n3,jd n2,jd n1]
  have eS:∀b,b<s.heap.objs.size->b≠Pt->H' b=H b:=λb l n=>eO b n (Ar (Aq l hge)) (Ar (Nat.lt_trans (Aq l hge) hlt))
  have kp:Kp [Pt] H H':=by
   refine⟨λb o e n=>?_,λb xs e=>?_,λb o e=>?_⟩
   ·rw[eS b (lt b _ e) (by simpa using n)];exact e
   ·rw[eS b (lt b _ e) (λz=>by rw[z,hP]at e;cases e)];exact e
   ·by_cases z:b=Pt
    ·exact⟨_,by rw[z];exact eP⟩
    ·exact⟨o,by rw[eS b (lt b _ e) z];exact e⟩
  have kept:∀b o,b≠Pt->s.heap.get? b=some o->(h'.push o1).get? b=some o:=λb o n e=>Ac _ (hx b o n e)
  have un:Un (frs X.stack) [] H H' s.heap (h'.push o1):=by
   refine⟨λb o e n _ _=>kept b o (λz=>by rw[z,hP]at n;cases n) e,λb o e n _ _=>⟨o.slots,kept b o (λz=>by rw[z,hP]at n;cases n) e⟩,λb o e n _=>?_,λb o e _=>?_,λb xs e=>kp.tup b xs e,λb o u e=>?_,λb qs e=>?_⟩
   ·rw[eS b (Ah e) (λz=>by rw[z,hP]at n;cases n)];exact n
   ·by_cases z:b=Pt
    ·exact⟨_,by rw[z];exact Ac _ htb⟩
    ·exact⟨o,kept b o z e⟩
   ·exact kp.old b _ e (by simp;intro z;rw[z,hP]at e;cases e)
   ·by_cases z:b=Pt
    ·subst z
     rw[hP]at e
     cases Au e
     exact⟨_,eP⟩
    ·exact⟨#[],by rw[eS b (lt b _ e) z,e];simp⟩
  have hok:HOk X.prog X.w H' (h'.push o1):=λb u q=>by
   by_cases z1:b=h'.objs.size
   ·subst z1
    rw[eF]at q
    cases Au q
    exact FZ.mk (Av _ rfl)
   ·by_cases z2:b=c'
    ·subst z2
     rw[eC]at q
     cases Au q
     exact FZ.mk (Ac _ hoc)
    ·by_cases z3:b=Pt
     ·subst z3
      rw[eP]at q
      cases Au q
      exact Ac _ htb
     ·rw[eO b z3 z2 z1]at q
      refine(I.hok b u q).stay (λd v hd' e=>kept d v ?_ e) (λd e=>?_) λd xs e=>kp.tup d xs e
      ·rcases hd' with rfl|hd'
       ·exact z3
       ·intro z;rw[z,hP]at hd';cases hd'
      ·exact kp.old d _ e (by simp;intro z;rw[z,hP]at e;cases e)
  have nC:∀c2,(∃o,H c2=some (FZ o))->c2∉[Pt]:=λc2 ⟨o,e⟩ m=>by
   rw[Ak.mp m,hP]at e;cases e
  refine⟨.ref h'.objs.size,H',I.call (g':=s.gens) (d':=s.drawn) (t':=tk) (ch:=[]) un hok I.bare (λb z=>absurd z (by simp)),rfl,h _ c' ctv H' fF kp eF ⟨oc,vs,t,eC,hd,hv⟩ ⟨ps',eP,?_,λp v e=>?_⟩⟩
  ·have hl:ps'.toList=ps.toList++[rawInt pos.line,rawInt pos.col,.ref c']:=by simp[ps']
   rw[hl];exact TriplesOk_snoc _ _ _ _ ht
  ·have hl:ps'.toList=ps.toList++[rawInt pos.line,rawInt pos.col,.ref c']:=by simp[ps']
   rw[hl]at e
   rcases jl5 _ ht e with e|rfl
   ·obtain⟨c2,e2,z⟩:=hin p v e
    exact⟨c2,e2,z.kp kp (nC c2 (let⟨oc,_,_,q,_⟩:=z;⟨oc,q⟩))⟩
   ·exact⟨c',rfl,oc,vs,t,eC,hd,hv⟩
end
theorem jpd{h:Heap}{c P:Addr}{ps:Array Value}(C:PySem.W.CodeHd h c P)(e:h.get? P=some (PySem.W.tabObj ps)):isCodeTable h P:=(C.tab e).isCodeTable
theorem jnl{P:Program}{w:World}{K:PySem.W.Frag}{mg mb:Str->Option Value}{CX:CXT}{k:Nat}{fa a:Addr}{fd:FuncData}{x:Str}{sp:Sp}{s₁:Shared}{vs:List Value}{ns:List Int}{ts:List Addr}
  (KX:K.In s₁.heap) (hns:s₁.heap.Ns mainGlobals mg) (hb:s₁.heap.Ns builtinsNs mb) (hbb:∀x:Str,x≠"__name__"->mb x=bootBuiltins x) (hlim:s₁.heap.NoLimit) (hg:s₁.gens=#[])
  (ha:s₁.heap.get? a=some {cls:=.type "list",data:=.seq vs.toArray}) (hi:IntsAre vs ns) (hl:ns.length<=sizeLine) (hr:Room k callerA)
  (hts:∀t∈ts,s₁.heap.get? t=some (PySem.W.tabObj #[])) (hcd:∀t∈ts,∃c,PySem.W.CodeHd s₁.heap c t) (hKt:∀t∈ts,K.lookup t=none) (hbm:∀t∈ts,s₁.heap.BuiltinsAt mg t)
  (F:∀base:Heap,K.In base->base.Ns mainGlobals mg->(∀t∈ts,base.BuiltinsAt mg t)->FnOk P w K mg base CX k fa fd [x] sp) (hbind:∀(s:Shared)(u:Value),BindsTo s fd ⟨[u],[]⟩ [(x,u)])
  (hsp:∀H:Hp,SqL K H a (ns.map V.int)->(∀t∈ts,H t=some (.tbl #[]))->sp [.ref a] H (λv _=>v=.bl true) λ_ _ _=>False)
  (hCX:∀H e s',CX [] H s₁ (λ_ _ _=>False) e s'->False) :
  codeAny (model P w) callerA (.call (.ref fa) ⟨[.ref a],[]⟩) (λr s'=>r=.ok (.ret (.bool true))/\OldK s₁.heap s'.heap/\s'.os=s₁.os/\AllBare s'.gens) s₁:=by
 have rv:=jiz hi
 have lenV:=hi.length
 have naT:a∉ts:=λm=>by
  have:=hts a m
  rw[ha]at this
  cases this
 have core:∀H:Hp,(∀b,H b=none\/(∃o xs,H b=some (.frz o (.lst xs)))\/b∈ts)->(∀t∈ts,H t=some (.tbl #[]))->SqL K H a (ns.map V.int)->HOk P w H s₁.heap->(∀b,H b≠none->b=a\/b∈ts)->(H a≠none->K.lookup a=none) ->
   codeAny (model P w) callerA (.call (.ref fa) ⟨[.ref a],[]⟩) (λr s'=>r=.ok (.ret (.bool true))/\OldK s₁.heap s'.heap/\s'.os=s₁.os/\AllBare s'.gens) s₁:=by
  intro H hO hT hS hok hA hK
  have base_of:∀{b:Addr}{o:Obj},s₁.heap.get? b=some o->H b=none->(hidT s₁.heap H).get? b=some o:=λe n=>jn9 e n
  have noB:∀{b:Addr}{o:Obj},s₁.heap.get? b=some o->(∀vs n,o.data≠.seq vs n)->(∀vs,o.data≠.fields vs)->H b=none:=fun{b o} e d1 d2=>by
   cases q:H b with
   |none=>rfl
   |some u =>
    rcases hA b (by rw[q];simp)with e'|e'
    ·subst e'
     rw[ha]at e;cases e
     exact absurd rfl (d1 _ _)
    ·rw[hts b e']at e;cases e
     exact absurd rfl (d2 _)
  have nsK:∀{b:Addr}{m:Str->Option Value},s₁.heap.Ns b m->(hidT s₁.heap H).Ns b m:=fun{b m} ⟨o,es,ep,e,d,r⟩=>⟨o,es,ep,base_of e (noB e (by rw[d];nofun) (by rw[d];nofun)),d,r⟩
  have hKb:K.In (hidT s₁.heap H):=λb o e=>base_of (KX b o e) (by
   cases q:H b with
   |none=>rfl
   |some u =>
    rcases hA b (by rw[q];simp)with e'|e'
    ·subst e'
     rw[hK (by rw[q];simp)]at e;cases e
    ·rw[hKt b e']at e;cases e)
  have hBb:∀t∈ts,(hidT s₁.heap H).BuiltinsAt mg t:=λt ht=>let⟨bm,o,b1,b2,b3,b4,b5,b6,b7,b8⟩:=hbm t ht
   ⟨bm,o,b1,b2,b3,b4,base_of b5 (noB b5 (by rw[b8];nofun) (by rw[b8];nofun)),b6,b7,b8⟩
  have hM:Mod K mg (hidT s₁.heap H):=⟨hKb,nsK hns,⟨mb,nsK hb,hbb⟩,let⟨mc,h1,h2⟩:=hlim;⟨mc,nsK h1,h2⟩⟩
  have e0:Env0 P w K mg (hidT s₁.heap H) callerA [] s₁ H:=⟨rfl,hM,λb o e=>jpx e,Us (jne _ _),trivial,λb hb=>absurd (show b∈([]:List Addr)from hb) (by simp),hok,.of_eq hg⟩
  refine Ue ((F _ hKb (nsK hns) hBb).run callerA [] s₁ H ⟨[.ref a],[]⟩ [.ref a] [.ref a] _ _ hr e0 (hbind s₁ (.ref a)) (.cons rfl .nil) (hsp H hS hT)) λr s' h=>?_
  cases r with
  |error e=>exact(hCX H e s' h).elim
  |ok fl =>
   cases fl with
   |next=>exact False.elim h
   |brk=>exact False.elim h
   |cont=>exact False.elim h
   |ret u =>
    obtain⟨v,H',os,bare,un,hok',r',q⟩:=h
    have q':v=.bl true:=q
    subst q'
    obtain rfl:u=Value.bool true:=r'
    have grown:∀b∈ts,∃ps,s'.heap.get? b=some (PySem.W.tabObj ps):=λb m=>by
     obtain⟨more,e⟩:=un.tbls b #[] (hT b m)
     exact⟨_,hok' b _ e⟩
    have keep:∀b o,b∉ts->s₁.heap.get? b=some o->s'.heap.get? b=some o:=λb o m e=>by
     cases q:H b with
     |none=>exact un.keep b o e q (by intro z;exact absurd (show b∈([]:List Addr)from z) (by simp)) (by simp)
     |some u =>
      rcases hO b with z|⟨ob,xs,z⟩|z
      ·rw[q]at z;cases z
      ·have z2:=un.frzs b ob _ z
       obtain⟨e1,_⟩:=hok b _ z
       obtain⟨e2,_⟩:=hok' b _ z2
       rw[e]at e1;cases e1
       exact e2
      ·exact absurd z m
    refine⟨rfl,⟨λb o e=>?_,λb o e=>?_⟩,os,bare⟩
    ·by_cases m:b∈ts
     ·obtain⟨c,hc⟩:=hcd b m
      obtain⟨ps,hP⟩:=grown b m
      have e2:=hts b m
      rw[e]at e2
      cases Au e2
      exact .inr (.inl ⟨jpd hc (hts b m),rfl,#[],ps,rfl,by rw[Array.empty_append];exact hP⟩)
     ·exact .inl (keep b o m e)
    ·by_cases m:b∈ts
     ·obtain⟨ps,hP⟩:=grown b m
      exact⟨_,hP⟩
     ·exact⟨o,keep b o m e⟩
 cases hk:K.lookup a with
 |some o =>
  have e:=KX a o hk
  rw[ha]at e
  cases e
  refine core (λb=>if b∈ts then some (.tbl #[])else none) (λb=>?_) (λt m=>Ad m) (.inr ⟨_,vs.toArray,_,hk,rfl,rfl,rfl,by rw[Aj,lenV];exact hl,by simpa using rv⟩) (λb u z=>?_) (λb z=>?_) λz=>absurd (Aa naT) z
  ·by_cases m:b∈ts
   ·exact .inr (.inr m)
   ·exact .inl (Aa m)
  ·by_cases m:b∈ts
   ·have z':=(Ad m).symm.trans z
    cases z'
    exact hts b m
   ·have z':=(Aa m).symm.trans z
    cases z'
  ·by_cases m:b∈ts
   ·exact .inr m
   ·exact absurd (Aa m) z
 |none =>
  refine core (λb=>if b∈ts then some (.tbl #[])else if b=a then some (.frz {cls:=.type "list",data:=.seq vs.toArray} (.lst (ns.map V.int)))else none) (λb=>?_) (λt m=>Ad m) (.inl (.inr ⟨{cls:=.type "list",data:=.seq vs.toArray},(Aa naT).trans (Ad rfl)⟩)) (λb u z=>?_) (λb z=>?_) λ_=>hk
  ·by_cases m:b∈ts
   ·exact .inr (.inr m)
   ·by_cases hb:b=a
    ·exact .inr (.inl ⟨_,_,(Aa m).trans (Ad hb)⟩)
    ·exact .inl ((Aa m).trans (Aa hb))
  ·by_cases m:b∈ts
   ·have z':=(Ad m).symm.trans z
    cases z'
    exact hts b m
   ·by_cases hb:b=a
    ·have z':=((Aa m).trans (Ad hb)).symm.trans z
     cases z'
     subst hb
     exact⟨ha,by rw[Ae];exact hl,vs,_,rv,ha⟩
    ·have z':=((Aa m).trans (Aa hb)).symm.trans z
     cases z'
  ·by_cases m:b∈ts
   ·exact .inr m
   ·by_cases hb:b=a
    ·exact .inl hb
    ·exact absurd ((Aa m).trans (Aa hb)) z
theorem walk_ofT{l:PySem.W.OpenLaw}{n k:Nat}{q:Program}{loose:List Str}{XP:(Str->Option Value)->Heap->Prop}{YP:World->Heap->Prop}{d:DefRec}{K:Params->PySem.W.Frag}{CX:World->CXT}{sp:World->Sp}{x:Str}{ts:List Addr}
  (hn:l.most=some n) (hn2:n<=sizeLine) (hdf:d.params.defaults=[]) (hr:Room k callerA)
  (hY:∀(w:World)(h:Heap),YP w h->(K w.params).In h) (hT:∀(w:World)(h:Heap),YP w h->∀t∈ts,h.get? t=some (PySem.W.tabObj #[]))
  (hC:∀(w:World)(h:Heap),(K w.params).In h->∀t∈ts,∃c,PySem.W.CodeHd h c t) (hN:∀w:World,∀t∈ts,(K w.params).lookup t=none)
  (F:∀(w:World)(mg:Str->Option Value)(fa:Addr)(h:Heap),(K w.params).In h->h.Ns mainGlobals mg->mg d.name=some (.ref fa) ->
   ∃fd:FuncData,(∀(s:Shared)(u:Value),BindsTo s fd ⟨[u],[]⟩ [(x,u)]) /\
    ∀base:Heap,(K w.params).In base->base.Ns mainGlobals mg->(∀t∈ts,base.BuiltinsAt mg t)->FnOk l.prog w (K w.params) mg base (CX w) k fa fd [x] (sp w))
  (hsp:∀(w:World)(H:Hp)(a:Addr)(ns:List Int),ns.length<=n->SqL (K w.params) H a (ns.map V.int)->(∀t∈ts,H t=some (.tbl #[]))->sp w [.ref a] H (λv _=>v=.bl true) λ_ _ _=>False)
  (hCX:∀(w:World)(H:Hp)(s:Shared)(e:Value)(s':Shared),CX w [] H s (λ_ _ _=>False) e s'->False) :
  PySem.W.WalkO q loose XP YP l.row.toRowW d [] (λf vs=>PySem.call f vs):=by
 refine Att.attach_call hn hdf λw s₀ s₁ mg mb fa o pm cd doc a vs ns G Y ho hd hcd hmg hobj hints hlen hg=>?_
 have KX:=hY w _ Y
 have TX:=hT w _ Y
 obtain⟨fd,hb,hF⟩:=F w mg fa _ KX G.T.g hmg
 refine jnl (ts:=ts) KX G.T.g G.T.b G.T.builtins G.T.nolimit hg hobj hints (Ib hlen hn2) hr TX (hC w _ KX) (hN w) (λt ht=>?_) hF hb (λH hS hT=>hsp w H a ns hlen hS hT) λH e s'=>hCX w H s₁ e s'
 obtain⟨bm,ob,b1,b2,b3,b4,b5,b6⟩:=G.T.bmain
 refine⟨bm,ob,b1,b2,λq=>?_,λq=>?_,b3,b4,b5,b6⟩
 ·obtain⟨o,es,ep,e,hd,_⟩:=G.T.g
  rw[q,e]at b3;cases b3;rw[hd]at b6;cases b6
 ·rw[q,TX t ht]at b3;cases b3;cases b4
def KDict(P:Program)(w:World)(K:PySem.W.Frag)(a:Addr)(kvs:List (Key×V)):Prop:=∀h:Heap,K.In h->∃vs,KV kvs vs/\h.DictOf (jcr P w) a vs
abbrev entS(w:World)(p:Str×Tok×Value):DictEntry:={hash:=PyData.keyHash w.params p.1,key:=.str p.1 p.2.1,val:=p.2.2}
theorem KDict.of{P:Program}{w:World}{K:PySem.W.Frag}{a:Addr}{kvs:List (Key×V)}{l:List (Str×Tok×Value)}{es:Array DictEntry}{ep:Nat}(lk:K.lookup a=some {cls:=.type "dict",data:=.dict es ep})(he:es.toList=l.map (entS w))
  (hv:KV kvs (l.map λp=>((Sum.inr p.1:Key),p.2.2))) (nd:(kvs.map Prod.fst).Nodup):KDict P w K a kvs:=λh hK=>by
 refine⟨l.map λp=>((Sum.inr p.1:Key),p.2.2),hv,_,es,ep,hK _ _ lk,⟨rfl,rfl,rfl⟩,rfl,λe hm=>?_,?_,?_⟩
 ·have:e∈es.toList:=Array.mem_toList_iff.mpr hm
  rw[he]at this
  obtain⟨p,_,rfl⟩:=A7.mp this
  exact⟨.inr p.1,by simp[jcr,jej,Value.isStrOf],rfl⟩
 ·rw[he]
  clear he hv nd lk
  induction l with
  |nil=>exact .nil
  |cons p l ih=>exact .cons (by simp[jcr,jej,Value.isStrOf]) rfl ih
 ·have:∀{kvs:List (Key×V)}{vs:List (Key×Value)},KV kvs vs->vs.map Prod.fst=kvs.map Prod.fst:=fun{kvs vs} r=>by
   induction r with
   |nil=>rfl
   |cons h _ ih=>rw[Ax,Ax,ih,h.1]
  have e2:=this hv
  rw[show(List.map (λx=>x.1) (List.map (λp:Str×Tok×Value=>((Sum.inr p.1:Key),p.2.2)) l))=_ from e2]
  exact nd
section
variable{X:Cx}{o i:Expr}{td ty:TE}{pos:Pos}
def jeu(P:Program)(w:World)(K:PySem.W.Frag)(td ty:TE):TE:=λσ H Q=>td σ H λx H1=>ty σ H1 λy H2=>∃a kvs k v,x=.ref a/\KDict P w K a kvs/\y=kV k/\valV kvs k=some v/\Q v H2
theorem pe_dgetK{P:Program}{w:World}{K:PySem.W.Frag}(hP:X.prog=P)(hw:X.w=w)(hK:X.K=K)(ho:PE X o td)(hi:PE X i ty)(hs:NoSl i):PE X (.Subscript o i pos) (jeu P w K td ty):=by
 subst hP;subst hw;subst hK
 intro pins s σ H Q I h
 refine jp8 PySem.F.slot_dict_getitem.lookup hs (thn (ho pins s σ H _ I h) λu s1 ⟨x,H1,I1,rx,q1⟩=>thn (hi pins s1 σ H1 _ I1 q1) λiv s2 ⟨y,H2,I2,ry,a,kvs,k,v,ex,D,ey,l,q2⟩=>?_)
 subst ex
 subst ey
 obtain rfl:u=Value.ref a:=rx
 obtain⟨vs,rel,dd⟩:=D _ I2.kIn
 obtain⟨w',hw,rw'⟩:=RelO.some_of (v:=v) (o:=valueAt vs k) (by rw[<-l];exact rel.val k)
 exact⟨dd.typeIs,wpAny_getItem_of (jei ry) dd.mapOf hw ⟨v,H2,I2.tok _,rw',q2⟩⟩
theorem zi{P:Program}{w:World}{K:PySem.W.Frag}(hP:X.prog=P)(hw:X.w=w)(hK:X.K=K)(ho:QE X o td)(hi:QE X i ty)(hs:NoSl i):QE X (.Subscript o i pos) (jeu P w K td ty):=⟨pe_dgetK hP hw hK ho.h hi.h hs⟩
theorem jbs{P:Program}{w:World}{K:PySem.W.Frag}{mg:Str->Option Value}{base:Heap}(hP:X.prog=P)(hw:X.w=w)(hK:X.K=K)(hM:X.mg=mg)(hB:X.base=base){k:Nat}{x:Str}{p pos:Pos}{e:Expr}{es:List Expr}{t:TA}(i:Nat)(hr:Room k X.A)(ha:QA X (e::es) t)
  (hN:X.N[i]?=some x:=by rfl) (hv:Vis X.env.scope x:=by first|exact Or.inl rfl|exact Or.inr (Or.inl rfl)|exact Or.inr (Or.inr rfl))
  (hdb:(x == ("__debug__":Str))=false:=by decide) (hcd:(x == ("__classdict__":Str))=false:=by decide) (he:starEach (e::es) X.env=(false,eval e X.env)::starEach es X.env:=by rfl) :
  QE X (.Call (.Name x p) (e::es) [] pos) (jhg P w K mg base k i t):=⟨pe_callD hP hw hK hM hB i hr ha.h hN hv hdb hcd he⟩
theorem qpe_callC{k:Nat}{f:Addr}{fd:FuncData}{ps:List Str}{sp:Sp}{x:Str}{p pos:Pos}{e:Expr}{es:List Expr}{t:TA}(js:List (Nat×Addr))(hjs:∀j∈js,∃x,X.N[j.1]?=some x/\X.env.kindOf x=some .cell/\X.fn x=true/\X.env.cells.lookup x=some j.2)
  (F:FnOk X.prog X.w X.K X.mg X.base CX0 k f fd ps sp) (hr:Room k X.A) (hg:Gl X x) (hm:X.mg x=some (.ref f)) (hk:PySem.W.keepIn X.K (.ref f)=true) (hb:Binds X.K fd ps []) (ha:QA X (e::es) t)
  (hdb:(x == ("__debug__":Str))=false:=by decide) (he:starEach (e::es) X.env=(false,eval e X.env)::starEach es X.env:=by rfl) (hpl:(backTo pos (starEach es X.env)).any (·.1)=false:=by rfl) :
  QE X (.Call (.Name x p) (e::es) [] pos) (jhf js sp t):=⟨pe_callC js hjs F hr hg hm hk hb ha.h hdb he hpl⟩
theorem qpe_lambda{params:Arguments}{body:Expr}{scope:Scope}{pos:Pos}{c Pt:Addr}{cl:List (Str×Addr)}{qual:Str}{pm:Value}(hq:X.env.qual++"<lambda>"=qual)(hpm:(X.mg "__name__").getD .none=pm)(hcode:X.env.code=.ref c)(hC:PySem.W.CodeHd X.base c Pt)(hbt:X.base.BuiltinsAt X.mg Pt)
  (hdef:defaultsOf params X.env=([],[]):=by rfl) (hcl:closureFor scope X.env=pure cl:=by rfl):QE X (.Lambda params body scope pos) (tLam Pt qual params body scope cl pm):=by
 subst hq;subst hpm
 exact⟨pe_lambda hdef hcl hcode hC hbt⟩
theorem jbt{e f:Expr}{apos cpos:Pos}{tx:TE}(hu:X.A.units+1<cLine)(ho:QE X o td)(he:QE X e ty)(hf:QE X f tx)(m:M2 X o "get" apos e f cpos):QE X (.Call (.Attribute o "get" apos) [e,f] [] cpos) (jet td ty tx):=⟨pe_dget2 hu ho.h he.h hf.h m⟩
structure QPP(X:Cx)(pos:Pos)(keys:List (Option Expr))(values:List Expr)(trs:List (TE×TE)):Prop where
 h:PPs X pos keys values trs
theorem jb3{pos:Pos}:QPP X pos [] [] []:=⟨pps_nil⟩
theorem z5{pos:Pos}{k v:Expr}{ks:List (Option Expr)}{vs:List Expr}{tk tv:TE}{trs:List (TE×TE)}(hk:QE X k tk)(hv:QE X v tv)(hr:QPP X pos ks vs trs):QPP X pos (some k::ks) (v::vs) ((tk,tv)::trs):=⟨pps_cons hk.h hv.h hr.h⟩
theorem jb0{pos:Pos}{keys:List (Option Expr)}{values:List Expr}{trs:List (TE×TE)}(h:QPP X pos keys values trs)(hall:keys.all (·.isSome)=true:=by rfl)(hl:keys.length=values.length:=by rfl)(h0:keys≠[]:=by nofun)(h15:keys.length<=15:=by decide):QE X (.Dict keys values pos) (jf0 trs):=⟨pe_disp h.h hall hl h0 h15⟩
end
theorem Fun.okC{P:Program}{w:World}{K:PySem.W.Frag}{mg:Str->Option Value}{base:Heap}{x qual:Str}{st:Stmt}{f:Addr}{fd:FuncData}{N ps:List Str}{k:Nat}{sp:Sp}(F:Fun K x qual st f fd)(S:FnScope N ps (ji st))(len:∀vs H Q E,sp vs H Q E->vs.length=ps.length)
  (hbody:∀(A:Around)(outer:List Env)(s:Shared)(H:Hp)(vs:List V)(Q:VK)(E:XK),Room k (A.deeper (envOfC qual (ji st) s.heap.objs.size f fd.code))->sp vs H Q E ->
   ∃t,PSs (cxOf CX0 P w K mg base N qual (ji st) f fd.code A outer s H E).nox (jt st) t/\t {nx:=λ_ H'=>Q .non H',rt:=Q} (start N vs) H):FnOk P w K mg base CX0 (k+1) f fd ps sp:=by
 obtain⟨oc,od,kV,doc,pm,an,cdv,ct,osl,rfl,lk,hcd⟩:=F.ex
 refine jmd lk hcd S len λA outer s H vs Q E hr hsp=>?_
 obtain⟨t,h,q⟩:=hbody A outer s H vs Q E hr hsp
 exact⟨t,h.nox,q⟩
theorem Caps.kp{S:List Addr}{H H':Hp}{cl:List (Str×Addr)}{fs:List Str}{ws:List V}(k:Kp S H H')(n:∀p∈cl,p.2∉S)(c:Caps H cl fs ws):Caps H' cl fs ws :=
 ⟨c.len,λi x v e1 e2=>let⟨a,o,u,h1,h2,h3,h4⟩:=c.at_ i x v e1 e2;⟨a,o,u,h1,k.old _ _ h2 (n (x,a) (Io h1)),h3,h4⟩,c.has,λp hp=>let⟨o,u,e,d⟩:=c.fz p hp;⟨o,u,k.old _ _ e (n p hp),d⟩,c.inj⟩
theorem TabOk.kp{S:List Addr}{H H':Hp}{Pt:Addr}{qual:Str}(k:Kp S H H')(n:Pt∉S)(hc:∀c o,H c=some (FZ o)->c∉S)(x:TabOk H Pt qual):TabOk H' Pt qual :=
 let⟨ps,e,t,h⟩:=x
 ⟨ps,k.old _ _ e n,t,λp v q=>let⟨c,e2,z⟩:=h p v q;⟨c,e2,z.kp k (let⟨oc,_,_,q,_⟩:=z;hc c oc q)⟩⟩
section
variable{X:Cx}{o e f:Expr}{apos cpos:Pos}{td ty tx:TE}
def jhk:TE:=λ_ H Q=>∀p,H p=none->Q (.ref p) (upd H p (.dK []))
theorem pe_disp0{pos:Pos}:PE X (.Dict [] [] pos) jhk:=by
 intro pins s σ H Q I q
 have hn:=I.hok.fresh (Af s.heap.objs.size)
 have I1:=I.laid (a:=s.heap.objs.size) (o:=.dK []) (h':=s.heap.push {cls:=.type "dict",data:=.dict #[]}) (t':=s.toks) (λ_ _ q=>Ac _ q) (Af _) (jj3 s.heap I.big)
 exact wpAny_Dict_empty ⟨.ref s.heap.objs.size,_,I1,rfl,q _ hn⟩
theorem qpe_disp0{pos:Pos}:QE X (.Dict [] [] pos) jhk:=⟨pe_disp0⟩
end
section
variable{prog:Program}{w:World}{J:Type}[DecidableEq J]{knd:HeapKind prog w J}{A:Around}{E:Value->Shared->Prop}{s:Shared}{d a:Addr}{k:J}{xs:List (J×Addr×Value)}{x:Value}
theorem jj9{h:Heap}{o:Obj}{es:Array DictEntry}{ep:Nat}(ho:h.get? d=some o)(hc:o.ExactDict)(hd:o.data=.dict es ep)(he:es.toList=xs.map (entryOfKey knd))(his:∀x∈xs,knd.is h x.1 x.2.1)(hn:(xs.map (·.1)).Nodup)
  (hk:knd.is h k a) (no:∀(j:Nat)(p:Addr×Value),xs[j]?≠some (k,p)):(h.update d (Obj.mapDictKeys λes=>es.push ⟨knd.hash k,.ref a,x⟩)).DictOfH knd d (xs++[(k,a,x)]):=by
 have kp:∀{k' a'},knd.is h k' a'->knd.is (h.update d (Obj.mapDictKeys λes=>es.push ⟨knd.hash k,.ref a,x⟩)) k' a':=λq=>knd.keeps q ho hd (Wj ..)
 refine⟨_,_,ep+1,Iq _ ho (Obj.isFreed_of_dict (Obj.data_mapDictKeys hd _)),hc.mapDictKeys _,Obj.data_mapDictKeys hd _,?_,λy hy=>?_,?_⟩
 ·simp[he,entryOfKey]
 ·rcases Ie.mp hy with q|q
  ·exact kp (his y q)
  ·cases Ak.mp q;exact kp hk
 ·have q:k∉xs.map (·.1):=not_mem_keys_of_get no
  rw[Is]
  exact Uc.mpr ⟨hn,by simp,λu hu v hv e=>q (by simp at hv;rw[<-hv,<-e];exact hu)⟩
theorem jn5{Q:Value->Shared->Prop}(hu:knd.room A)(hk:knd.is s.heap k a)(hm:s.heap.DictOfH knd d xs)(hz:xs.length<=sizeLine)(h1:∀p,atKey xs k=some p->Q p.2 {s with toks:=s.toks+knd.draws k})
  (h2:atKey xs k=none->∀h',h'.DictOfH knd d (xs++[(k,a,x)])->Heap.SameBut d s.heap h'->Q x {s with heap:=h',toks:=s.toks+knd.draws k}):wpAny (model prog w) A (dictSetDefault d (.ref a) x) Q E s:=by
 obtain⟨o,es,ep,ho,hc,hd,he,his,hn⟩:=hm
 unfold dictSetDefault
 try with_reducible refine O5 ?_
 refine Ab (knd.pyHash hu hk (Ab (wpAny_dictFind_heap (s:={s with toks:=s.toks+knd.draws k}) hu hk ho hd he his hn (λno=>?_) λj p hj=>?_)))
 ·refine Ab (wpAny_rule (Ab (wpAny_updateDictKeys (hz:=by rw[size_of_entries he];exact hz) (s:={s with toks:=s.toks+knd.draws k}) ho hd (Am (h2 (atKey_none_of_get no) _ (jj9 ho hc hd he his hn hk no) (Wj ..))))))
 ·refine Ab (wpAny_dictEntries (s:={s with toks:=s.toks+knd.draws k}) ho hd ?_)
  rw[entry_at he j,hj]
  exact Ab (wpAny_rule (Am (h1 p (atKey_of_get hn hj))))
theorem jno(hd:(d == sysModules)=false):MeetsIn prog w (Builtin.«dict.setdefault» ⟨[.ref d,.ref a,x],[]⟩) λA R s=>knd.room A.in1/\∃(k:J)(xs:List (J×Addr×Value)),knd.is s.heap k a/\s.heap.DictOfH knd d xs/\xs.length<=sizeLine /\
  (∀p,atKey xs k=some p->R (.ok (.ret p.2)) {s with toks:=s.toks+knd.draws k})/\(atKey xs k=none->∀h',h'.DictOfH knd d (xs++[(k,a,x)])->Heap.SameBut d s.heap h'->R (.ok (.ret x)) {s with heap:=h',toks:=s.toks+knd.draws k}):=by
 refine .of_wp λA R s ⟨hu,k,xs,hk,hm,hz,h1,h2⟩=>?_
 show wpAny _ _ (Builtin.Dict.keyAndDefault _ _ >>= _) _ _ s
 refine Ab ?_
 unfold Builtin.Dict.keyAndDefault
 refine Ab (wpAny_notOrdered_dict hm.typeIs (Am ?_))
 show wpAny _ _ (if(d == sysModules)=true then _ else _) _ _ _
 rw[hd,Aa (by decide)]
 exact Ab (jn5 hu hk hm hz (λp hp=>Am ⟨_,rfl,h1 p hp⟩) λhn h' dd hs=>Am ⟨_,rfl,h2 hn h' dd hs⟩)
end
section
variable{X:Cx}{o e f:Expr}{apos cpos:Pos}{td ty tx:TE}
def jhj(td ty tx:TE):TE:=λσ H Q=>td σ H λx H1=>∃a,x=.ref a/\IsD H1 a/\ty σ H1 λy H2=>tx σ H2 λz H3=>∃kvs k b,H3 a=some (.dT kvs)/\y=.ref b/\H3 b=some (.tup (k.map kV))/\kvs.length<sizeLine /\
 (∀v,valV kvs k=some v->Q v H3)/\(valV kvs k=none->Q z (upd H3 a (.dT (putK kvs k z))))
theorem pe_dsetT(hu:X.A.units+1<cLine)(ho:PE X o td)(he:PE X e ty)(hf:PE X f tx)(m:M2 X o "setdefault" apos e f cpos):PE X (.Call (.Attribute o "setdefault" apos) [e,f] [] cpos) (jhj td ty tx):=by
 intro pins s σ H Q I h
 refine wpAny_Call_method m.base m.few m.line PySem.F.plainAttrs_dict PySem.F.slot_dict_setdefault PySem.F.type_dict_setdefault (thn (ho pins s σ H _ I h) λu s1 ⟨x,H1,I1,rx,a,ex,d,q1⟩=>?_)
 subst ex
 obtain rfl:u=Value.ref a:=rx
 obtain⟨t1,t2,_⟩:=jng I1 d
 refine⟨t1,t2,?_⟩
 rw[m.trees]
 refine Ub rfl (Wd (Oq (thn (he pins s1 σ H1 _ I1 q1) λiv s2 ⟨y,H2,I2,ry,q2⟩ =>
  Oq (thn (hf pins s2 σ H2 _ I2 q2) λfv s3 ⟨z,H3,I3,rz,kvs,k,b,ea,ey,eb,hl,q3,q4⟩=>Uy ?_))))
 subst ey
 cases(show iv=Value.ref b from ry)
 obtain⟨zz,hd,xs,rel,dd⟩:=jox I3.hok ea
 have hz:xs.length<=sizeLine:=by rw[<-Ip rel];exact zz
 have va:RelO (valV kvs k) ((atKey xs k).map (·.2)):=rel.val k
 refine call_meetsIn PySem.F.slot_dict_setdefault dd.typeIs PySem.F.entry_dict_setdefault (PySem.F.args_dict_setdefault_3 _ _ _) (jno (knd:=tupleKind (jcr X.prog X.w)) hd) ⟨O9 hu,k,xs,jer I3.hok eb,dd,hz,λp hp=>?_,λhn h' dd' hs=>?_⟩
 ·rw[hp]at va
  cases l:valV kvs k with
  |none=>rw[l]at va;cases va
  |some v' =>
   rw[l]at va
   obtain⟨w',hw,rw'⟩:=RelO.some_of va
   cases hw
   exact⟨v',H3,I3.tok _,rw',q3 v' l⟩
 ·rw[hn]at va
  have ln:valV kvs k=none:=by
   cases l:valV kvs k with
   |none=>rfl
   |some v'=>rw[l]at va;obtain⟨w',hw,_⟩:=RelO.some_of va;cases hw
  have hlp:(putK kvs k z).length<=sizeLine:=by have:=jdd kvs k z;omega
  have rel':=rel.put k eb rz
  rw[storedH_new hn]at rel'
  obtain⟨q,es,ep,hq,g2,g3,g4,_,g5⟩:=dd'
  refine⟨z,_,jfr (ob:=.dT (putK kvs k z)) I3 (by rw[ea];exact True.intro) hs ⟨q,hq⟩ ⟨hlp,hd,_,rel'.keeps λc ys ec=>?_,q,es,ep,hq,g2,g3,g4,g5⟩,rz,q4 ln⟩
  rw[jd (ji9 ec ea λz=>nomatch z)]
  exact ec
theorem qpe_dsetT(hu:X.A.units+1<cLine)(ho:QE X o td)(he:QE X e ty)(hf:QE X f tx)(m:M2 X o "setdefault" apos e f cpos):QE X (.Call (.Attribute o "setdefault" apos) [e,f] [] cpos) (jhj td ty tx):=⟨pe_dsetT hu ho.h he.h hf.h m⟩
theorem qpe_dnewT{pos:Pos}:QE X (.Dict [] [] pos) jhi:=⟨pe_dnewT⟩
end
section
variable{X:Cx}
def rIxD:R2:=λx y H Q=>∃a v,x=.ref a/\DGet H a y (some v)/\Q v H
theorem ix_D(hu:X.A.units+1<cLine):IxR X rIxD:=by
 intro value slice pins s σ H x y v u Q I rx ry h hs
 obtain⟨a,z,rfl,g,q⟩:=h
 cases rx
 exact tail_any (jk1 I g) PySem.F.slot_dict_getitem.lookup (jm5 hu I g ry λw' s3 I3 rw'=>⟨z,H,I3,rw',q⟩) hs
theorem ix_UD(hu:X.A.units+1<cLine):IxR X (λx y H Q=>rIxU x y H Q\/rIxD x y H Q):=IxR.or ix_U (ix_D hu)
end
theorem joe{K:PySem.W.Frag}{a:Addr}{xs:List V}{g:TG}{tb:TS}{D:Ends}{σ:L2.St}{H:Hp}(Pv:Nat->L2.St->Hp->Prop)(h0:Pv 0 σ H)(hl:∀i σ H,i<=xs.length->Pv i σ H->SqT K H a xs)
  (hs:∀i x σ H T,xs[i]?=some x->Pv i σ H->H T=none->g (.ref T) σ (upd H T (.tup [.int (i:Int),x])) λσ2 H2=>tb {D with nx:=Pv (i+1),ct:=Pv (i+1),bk:=D.nx} σ2 H2) (hd:∀σ H,Pv xs.length σ H->D.nx σ H):jc4 (ItE K a) g tb D σ H:=by
 refine⟨λi m σ H=>m=xs.length-i/\i<=xs.length/\Pv i σ H,⟨xs.length,by simp,Ia _,h0⟩,?_⟩
 rintro i m σ H ⟨rfl,hi,p⟩
 have q:=hl i σ H hi p
 rcases Nat.lt_or_ge i xs.length with hlt|hge
 ·refine .inr ⟨⟨xs,xs[i],q,by simp[hlt]⟩,Pv (i+1),λσ' H' p'=>⟨xs.length-(i+1),by omega,rfl,hlt,p'⟩,λx H' y=>?_⟩
  obtain⟨T,y',hT,e1,hy,e2⟩:=y
  subst e1 e2
  exact hs i y' σ H T (hy xs q) p hT
 ·obtain rfl:i=xs.length:=by omega
  exact .inl ⟨⟨xs,q,rfl⟩,hd σ H p⟩
section
variable{X:Cx}
def Mono(t:TE):Prop:=∀σ H (Q Q':VK),(∀v H',Q v H'->Q' v H')->t σ H Q->t σ H Q'
theorem jdu(i:Nat):Mono (tVar i):=jct
end
section
variable{X:Cx}{K:PySem.W.Frag}{o e value:Expr}{f:Str}{pos pos' tpos:Pos}{ta tv:TE}
theorem kg(hK:X.K=K)(he:QE X e ta)(hb:attributeBase e f X.env (eval e X.env)=eval e X.env:=by rfl):QE X (.Attribute e f pos) (tFld K ta f):=by subst hK;exact⟨pe_fld he.h hb⟩
theorem jaj(hK:X.K=K)(ha:QE X o ta)(hv:QE X value tv)(hs:swapsWith value (some (.Attribute o f pos')) pos.line X.env=pure false:=by rfl):QS X (.Assign [.Attribute o f pos'] value pos) (sFld K ta tv f):=by subst hK;exact⟨ps_fld ha.h hv.h hs⟩
theorem jbi{op:Operator}{rd:V->V->Hp->VK->Prop}(hK:X.K=K)(ha:QE X o ta)(hv:QE X value tv)(hop:InOp X op rd):QS X (.AugAssign (.Attribute o f tpos) op value pos) (jfx K ta tv rd f):=by subst hK;exact⟨ps_fldaug ha.h hv.h hop⟩
end
section
variable{X:Cx}{CX:CXT}{k:Nat}{f C:Addr}{fd:FuncData}{ps:List Str}{sp:Sp}{dvs:List V}{ds:List Value}{E:XK}{x m:Str}{p pos apos:Pos}{e o:Expr}{es:List Expr}{ta:TE}{t:TA}
theorem yv{pl:Sem Bool}(he:QE X o ta)(c:Cls X.K C)(hm:Meth X.K C m f)(F:FnOk X.prog X.w X.K X.mg X.base CX k f fd ps sp)(hr:Room k X.A)(hb:Binds X.K fd ps ds)(hd:Vals dvs ds)(hx:jds CX X E)(ha:QA X (e::es) t)
  (hst:starEach (e::es) X.env=(false,eval e X.env)::starEach es X.env:=by rfl) (hpl:(backTo pos (starEach es X.env)).any (·.1)=false:=by rfl)
  (ht:eval (.Call (.Attribute o m apos) (e::es) [] pos) X.env=(do
   let ov <-eval o X.env
   standAt apos.atName
   let(f,first) <-holding [ov] (getMethod ov m pl)
   callWith pos f first (backTo pos (starEach (e::es) X.env)) (backToKw pos (keywordEach [] X.env))):=by rfl) :
  QE X (.Call (.Attribute o m apos) (e::es) [] pos) (jjn C m sp dvs E ta t):=⟨pe_meth he.h c hm F hr hb hd hx ha.h hst hpl ht⟩
theorem qpe_make0(M:Mk X.K C f)(F:FnOk X.prog X.w X.K X.mg X.base CX k f fd ps sp)(hr:Room (k+1) X.A)(hg:Gl X x)(hm:X.mg x=some (.ref C))(hb:Binds X.K fd ps ds)(hd:Vals dvs ds)(hx:jds CX X E)
  (hdb:(x == ("__debug__":Str))=false:=by decide):QE X (.Call (.Name x p) [] [] pos) (jjm C sp dvs E tNil):=⟨pe_make0 M F hr hg hm hb hd hx hdb⟩
end
theorem jc8{K:PySem.W.Frag}{a:TE}{f:Str}(ha:Mono a):Mono (tFld K a f):=λσ H Q Q' h q=>ha σ H _ _ (λx H1 ⟨a,C,dx,fs,v,e1,e2,e3,e4,e5,q1⟩=>⟨a,C,dx,fs,v,e1,e2,e3,e4,e5,h _ _ q1⟩) q
section
variable{X:Cx}
def jmv(P:Program)(w:World)(K:PySem.W.Frag)(ty td:TE):TE:=λσ H Q=>ty σ H λy H1=>td σ H1 λx H2=>∃a kvs k,x=.ref a/\KDict P w K a kvs/\(a == sysModules)=false/\y=kV k/\Q (.bl ((valV kvs k).isSome)) H2
theorem jby{P:Program}{w:World}{K:PySem.W.Frag}(hP:X.prog=P)(hw:X.w=w)(hK:X.K=K){i o:Expr}{ty td:TE}(hi:QE X i ty)(ho:QE X o td):QC X .In i o (jmv P w K ty td):=by
 subst hP;subst hw;subst hK
 refine⟨λpins s σ H Q I h=>?_⟩
 refine thn (hi.h pins s σ H _ I h) λiv s1 ⟨y,H1,I1,ry,q1⟩=>thn (ho.h pins s1 σ H1 _ I1 q1) λu s2 ⟨x,H2,I2,rx,a,kvs,k,ex,D,hs,ey,q2⟩=>?_
 subst ex
 subst ey
 obtain rfl:u=Value.ref a:=rx
 obtain⟨vs,rel,dd⟩:=D _ I2.kIn
 refine wpAny_in_of (jei ry) hs dd.mapOf ?_
 rw[<-(rel.val k).isSome_eq]
 exact⟨.bl _,H2,I2.tok _,rfl,q2⟩
end
end L2
namespace My
open PySem
def toS(l:List Nat):Str:=⟨l.toArray⟩
theorem jqc(l:List Nat)(c:Nat):toS l++(⟨#[c]⟩:Str)=toS (l++[c]):=by
 show(⟨l.toArray++#[c]⟩:Str)=⟨(l++[c]).toArray⟩
 simp
theorem jh3(l:List Nat):(toS l).length=l.length:=by simp[toS,Str.length]
end My
namespace My
open PySem L2 PyProof.Rows
def sg(z:Str):List Nat:=z.cps.toList
theorem jcv(z:Str):(sg z).length=z.length:=by simp[sg,Str.length]
theorem jes(x y:Str):sg (x++y)=sg x++sg y:=by simp[sg,Str.cps_append]
theorem jfo{x y:Str}(h:sg x=sg y):x=y:=by
 cases x;cases y
 simp only[sg]at h
 rw[Array.toList_inj.mp h]
theorem joz:∀l:List Str,sg (Str.join ⟨#[]⟩ l)=(l.map sg).flatten
 |[]=>rfl
 |x::l=>by rw[join_nil_cons,jes,joz l];rfl
theorem jo0(l:List Str):sg (Txt.join (Str.ofString "") l)=(l.map sg).flatten:=by
 have e0:(Str.ofString "")=(⟨#[]⟩:Str):=by decide +kernel
 have e:=eq_of_beq (join_plain_closes ⟨#[]⟩ l)
 rw[e0,e,joz]
def tx(T:List Str)(i:Nat):Str:=(T[i]?).getD ⟨#[]⟩
def pcL(T:List Str):V->List Nat
 |.str s=>sg s
 |.int i=>sg (tx T i.toNat)
 |_=>[]
def cat(T:List Str)(l:List V):List Nat:=(l.map (pcL T)).flatten
theorem jd5(T:List Str)(a b:List V):cat T (a++b)=cat T a++cat T b:=by simp[cat]
def isPc(n:Nat)(x:V):Prop:=(∃s,x=.str s)\/∃i:Nat,x=.int (i:Int)/\i<n
theorem jod(T:List Str)(l:List V):(cat T l).length=(l.map λx=>(pcL T x).length).sum:=by
 simp[cat,List.length_flatten,Oc]
 rfl
theorem isPc.mono{m n:Nat}{x:V}(h:isPc m x)(k:m<=n):isPc n x:=by
 rcases h with h|⟨i,e,hi⟩
 ·exact .inl h
 ·exact .inr ⟨i,e,by omega⟩
theorem jlo{α:Type}{xs:List α}{x:α}(h:xs[xs.length-1]?=some x):xs=xs.dropLast++[x]:=by
 have hne:xs≠[]:=by rintro rfl;simp at h
 have e:=List.dropLast_concat_getLast hne
 have e2:xs.getLast hne=x:=by
  rw[List.getLast_eq_getElem hne]
  have:=(Ai.mp h).2
  exact this
 rw[<-e2,e]
theorem jjw{α:Type}{xs:List α}{v:α}(h:xs[xs.length-1]?=some v):atI xs (-1)=some v:=by
 rw[jlo h]
 exact jga _ _
theorem jlc(T:List Str):∀(l:List V)(x:V),x∈l->(pcL T x).length<=(cat T l).length
 |[],x,h=>nomatch h
 |y::l,x,h=>by
  have e:cat T (y::l)=pcL T y++cat T l:=by simp[cat]
  rw[e,Ay]
  rcases Aw.mp h with rfl|h
  ·omega
  ·have:=jlc T l x h
   omega
theorem jlx:∀l:List Nat,(l.map λn:Nat=>(n:Int)).sum=((l.sum:Nat):Int)
 |[]=>rfl
 |x::l=>by simp[jlx l]
inductive BW where
 |or|and|beh
inductive RE where
 |nothing|blank|letter (a:Str)|no (i:Nat)|bin (w:BW) (i j:Nat)
def ew:BW->Str
 |.or=>"or"
 |.and=>"and"
 |.beh=>"behind"
def jco:RE->List V
 |.nothing=>[.str "nothing"]
 |.blank=>[.str "blank"]
 |.letter a=>[.str "letter",.str a]
 |.no i=>[.str "not",.int (i:Int)]
 |.bin w i j=>[.str (ew w),.int (i:Int),.int (j:Int)]
def RE.ok(k:Nat):RE->Prop
 |.nothing=>True
 |.blank=>True
 |.letter a=>a.length=1
 |.no i=>i<k
 |.bin _ i j=>i<k/\j<k
end My
namespace My
open PySem L2
abbrev Row:=List L2.Key
def mapR(g:Nat->Nat):L2.Key->L2.Key
 |.inl i=>.inl (g i.toNat:Nat)
 |.inr s=>.inr s
def ptK:L2.Key->Option Nat
 |.inl i=>some i.toNat
 |.inr _=>none
def wpR(g:Nat->Nat)(r:Row):Row:=r.map (mapR g)
def ptR(r:Row):List Nat:=r.filterMap ptK
def RowOk(k:Nat)(r:Row):Prop:=∀i:Int,(Sum.inl i:L2.Key)∈r->0<=i/\i<k
theorem jfh(g:Nat->Nat):∀r,ptR (wpR g r)=(ptR r).map g
 |[]=>rfl
 |.inl i::r=>by
  have:=jfh g r
  simp only[ptR,wpR,Ax,List.filterMap_cons,mapR,ptK]at this⊢
  rw[this];simp
 |.inr s::r=>by
  have:=jfh g r
  simp only[ptR,wpR,Ax,List.filterMap_cons,mapR,ptK]at this⊢
  rw[this]
theorem jd6{k:Nat}{r:Row}(h:RowOk k r){p:Nat}(hp:p∈ptR r):p<k:=by
 obtain⟨x,hx,e⟩:=Ur.mp hp
 cases x with
 |inl i=>simp[ptK]at e;have:=h i hx;omega
 |inr s=>simp[ptK]at e
theorem jh0{r:Row}{i:Int}(h:(Sum.inl i:L2.Key)∈r):i.toNat∈ptR r:=Ur.mpr ⟨_,h,rfl⟩
theorem jfp{g g':Nat->Nat}{r:Row}(h:∀p∈ptR r,g p=g' p):wpR g r=wpR g' r:=by
 refine O3 λx hx=>?_
 cases x with
 |inl i=>simp only[mapR];rw[h _ (jh0 hx)]
 |inr s=>rfl
theorem jou(g g':Nat->Nat)(r:Row):wpR g (wpR g' r)=wpR (λx=>g (g' x)) r:=by
 unfold wpR
 rw[Oc]
 refine O3 λx _=>?_
 cases x <;> simp[mapR]
theorem jra{g:Nat->Nat}{k:Nat}{r:Row}(h:∀p∈ptR r,g p<k):RowOk k (wpR g r):=λi hi=>by
 obtain⟨x,hx,e⟩:=A7.mp hi
 cases x with
 |inl j=>simp only[mapR,Sum.inl.injEq]at e;have:=h _ (jh0 hx);omega
 |inr s=>simp[mapR]at e
def wkF(C:Nat->List Nat):Nat->Nat->List Nat->List Nat
 |0,v,cm=>cm++[v]
 |f+1,v,cm=>(C v).foldl (λcm p=>if p∈cm then cm else wkF C f p cm) cm++[v]
def wk(C:Nat->List Nat)(v:Nat)(cm:List Nat):List Nat:=wkF C v v cm
def Dn(C:Nat->List Nat)(n:Nat):Prop:=∀v,v<n->∀p∈C v,p<v
def stp(C:Nat->List Nat)(cm:List Nat)(p:Nat):List Nat:=if p∈cm then cm else wk C p cm
theorem jky{C:Nat->List Nat}{n:Nat}(d:Dn C n):∀(f f' v:Nat)(cm:List Nat),v<n->v<=f->v<=f'->wkF C f v cm=wkF C f' v cm:=by
 have z:∀f cm,0<n->wkF C f 0 cm=cm++[0]:=λf cm hn=>by
  cases f with
  |zero=>rfl
  |succ f =>
   have:C 0=[]:=by
    cases h:C 0 with
    |nil=>rfl
    |cons p t=>exact absurd (d 0 hn p (by rw[h];exact .head _)) (by omega)
   simp[wkF,this]
 intro f
 induction f with
 |zero =>
  intro f' v cm h1 h2 _
  obtain rfl:v=0:=by omega
  rw[z _ _ h1,z _ _ h1]
 |succ f ih =>
  intro f' v cm h1 h2 h3
  cases f' with
  |zero =>
   obtain rfl:v=0:=by omega
   rw[z _ _ h1,z _ _ h1]
  |succ f' =>
   simp only[wkF]
   congr 1
   have go:∀ps:List Nat,(∀p∈ps,p<v)->∀cm,ps.foldl (λcm p=>if p∈cm then cm else wkF C f p cm) cm=ps.foldl (λcm p=>if p∈cm then cm else wkF C f' p cm) cm:=by
    intro ps
    induction ps with
    |nil=>intro _ _;rfl
    |cons p ps ihp =>
     intro hp cm
     have:=hp p (.head _)
     rw[List.foldl_cons,List.foldl_cons,ih f' p cm (by omega) (by omega) (by omega)]
     exact ihp (λq hq=>hp q (.tail _ hq)) _
   exact go _ (d v h1) cm
theorem jd0{C:Nat->List Nat}{n:Nat}(d:Dn C n){v:Nat}(hv:v<n)(cm:List Nat):wk C v cm=(C v).foldl (stp C) cm++[v]:=by
 have e:wk C v cm=wkF C (v+1) v cm:=jky d _ _ _ _ hv (Af _) (by omega)
 rw[e]
 simp only[wkF]
 congr 1
 have go:∀ps:List Nat,(∀p∈ps,p<v)->∀cm,ps.foldl (λcm p=>if p∈cm then cm else wkF C v p cm) cm=ps.foldl (stp C) cm:=by
  intro ps
  induction ps with
  |nil=>intro _ _;rfl
  |cons p ps ihp =>
   intro hp cm
   have:=hp p (.head _)
   rw[List.foldl_cons,List.foldl_cons]
   have:(if p∈cm then cm else wkF C v p cm)=stp C cm p:=by
    unfold stp wk
    rw[jky d v p p cm (by omega) (by omega) (Af _)]
   rw[this]
   exact ihp (λq hq=>hp q (.tail _ hq)) _
 exact go _ (d v hv) cm
theorem jdw{C:Nat->List Nat}{P:List Nat->Prop}:∀{ps:List Nat}{cm:List Nat},P cm->(∀p∈ps,∀cm,P cm->p∉cm->P (wk C p cm))->P (ps.foldl (stp C) cm)
 |[],_,h,_=>h
 |p::ps,cm,h,st=>by
  rw[List.foldl_cons]
  refine jdw ?_ λq hq=>st q (.tail _ hq)
  unfold stp
  split
  ·exact h
  ·exact st p (.head _) cm h (by assumption)
theorem jkz{C:Nat->List Nat}{n:Nat}(d:Dn C n):∀(v:Nat),v<n->∀cm,∃t,wk C v cm=cm++t++[v]:=by
 intro v
 induction v using Nat.strongRecOn with
 |_ v ih =>
  intro hv cm
  rw[jd0 d hv]
  obtain⟨t,e⟩:∃t,(C v).foldl (stp C) cm=cm++t:=by
   refine jdw (P:=λl=>∃t,l=cm++t) ⟨[],by simp⟩ λp hp l ⟨t,e⟩ _=>?_
   have:=d v hv p hp
   obtain⟨t',e'⟩:=ih p this (by omega) l
   exact⟨t++t'++[p],by rw[e',e];simp⟩
  exact⟨t,by rw[e]⟩
theorem jl1{C:Nat->List Nat}{n:Nat}(d:Dn C n){v:Nat}(hv:v<n){cm:List Nat}{x:Nat}(h:x∈cm):x∈wk C v cm:=by
 obtain⟨t,e⟩:=jkz d v hv cm
 rw[e];simp[h]
theorem jl2{C:Nat->List Nat}{n:Nat}(d:Dn C n){v:Nat}(hv:v<n)(cm:List Nat):v∈wk C v cm:=by
 obtain⟨t,e⟩:=jkz d v hv cm
 rw[e];simp
theorem jpa{C:Nat->List Nat}{n:Nat}(d:Dn C n):∀(v:Nat),v<n->∀cm,∀x∈wk C v cm,x∈cm\/x<=v:=by
 intro v
 induction v using Nat.strongRecOn with
 |_ v ih =>
  intro hv cm x hx
  rw[jd0 d hv]at hx
  rcases Ie.mp hx with h|h
  ·have:∀x∈(C v).foldl (stp C) cm,x∈cm\/x<=v:=by
    refine jdw (P:=λl=>∀x∈l,x∈cm\/x<=v) (λx hx=>.inl hx) λp hp l hl _ x hx=>?_
    have hp':=d v hv p hp
    rcases ih p hp' (by omega) l x hx with h|h
    ·exact hl x h
    ·exact .inr (by omega)
   exact this x h
  ·exact .inr (by simp at h;omega)
theorem jot{C:Nat->List Nat}{n:Nat}(d:Dn C n):∀(v:Nat),v<n->∀cm,cm.Nodup->v∉cm->(wk C v cm).Nodup:=by
 intro v
 induction v using Nat.strongRecOn with
 |_ v ih =>
  intro hv cm nd nv
  rw[jd0 d hv]
  have:((C v).foldl (stp C) cm).Nodup/\v∉(C v).foldl (stp C) cm:=by
   refine jdw (P:=λl=>l.Nodup/\v∉l) ⟨nd,nv⟩ λp hp l ⟨h1,h2⟩ np=>?_
   have hp':=d v hv p hp
   refine⟨ih p hp' (by omega) l h1 np,λh=>?_⟩
   rcases jpa d p (by omega) l v h with h|h
   ·exact h2 h
   ·omega
  rw[Uc]
  exact⟨this.1,by simp,λa ha b hb e=>this.2 ((e.trans (Ak.mp hb))▸ha)⟩
theorem jj7{C:Nat->List Nat}{n:Nat}(d:Dn C n):∀{ps:List Nat}(cm:List Nat),(∀p∈ps,p<n)->∀x,x∈cm\/x∈ps->x∈ps.foldl (stp C) cm
 |[],cm,_,x,h=>by simpa using h
 |p::ps,cm,hp,x,h=>by
  rw[List.foldl_cons]
  refine jj7 d _ (λq hq=>hp q (.tail _ hq)) x ?_
  have pn:=hp p (.head _)
  have m:∀y,y∈cm\/y=p->y∈stp C cm p:=λy hy=>by
   unfold stp
   split
   ·rcases hy with h|rfl <;> assumption
   ·rcases hy with h|rfl
    ·exact jl1 d pn h
    ·exact jl2 d pn cm
  rcases h with h|h
  ·exact .inl (m x (.inl h))
  ·rcases Aw.mp h with rfl|h
   ·exact .inl (m x (.inr rfl))
   ·exact .inr h
def Cl(C:Nat->List Nat)(l:List Nat):Prop:=∀(i x:Nat),l[i]?=some x->∀p∈C x,p∈l.take i
theorem Cl.snoc{C:Nat->List Nat}{l:List Nat}{v:Nat}(h:Cl C l)(hv:∀p∈C v,p∈l):Cl C (l++[v]):=λi x e p hp=>by
 rcases Nat.lt_trichotomy i l.length with hi|hi|hi
 ·rw[A1 hi]at e
  rw[List.take_append_of_le_length (by omega)]
  exact h i x e p hp
 ·subst hi
  simp at e
  subst e
  rw[List.take_append_of_le_length (Af _),List.take_length]
  exact hv p hp
 ·rw[Of (by simp;omega)]at e
  cases e
theorem jrr{C:Nat->List Nat}{n:Nat}(d:Dn C n):∀(v:Nat),v<n->∀cm,Cl C cm->Cl C (wk C v cm):=by
 intro v
 induction v using Nat.strongRecOn with
 |_ v ih =>
  intro hv cm cl
  rw[jd0 d hv]
  refine Cl.snoc ?_ λp hp=>jj7 d cm (λq hq=>by have:=d v hv q hq;omega) p (.inr hp)
  exact jdw (P:=Cl C) cl λp hp l hl _=>by
   have hp':=d v hv p hp
   exact ih p hp' (by omega) l hl
inductive Rch (C:Nat->List Nat) (v:Nat):Nat->Prop
 |refl:Rch C v v
 |step {x p:Nat}:Rch C v x->p∈C x->Rch C v p
theorem Rch.trans{C:Nat->List Nat}{v x y:Nat}(h:Rch C v x)(h':Rch C x y):Rch C v y:=by
 induction h' with
 |refl=>exact h
 |step _ hp ih=>exact .step ih hp
theorem jn1{C:Nat->List Nat}{n:Nat}(d:Dn C n):∀(v:Nat),v<n->∀cm,∀x∈wk C v cm,x∈cm\/Rch C v x:=by
 intro v
 induction v using Nat.strongRecOn with
 |_ v ih =>
  intro hv cm x hx
  rw[jd0 d hv]at hx
  rcases Ie.mp hx with h|h
  ·have:∀x∈(C v).foldl (stp C) cm,x∈cm\/Rch C v x:=by
    refine jdw (P:=λl=>∀x∈l,x∈cm\/Rch C v x) (λx hx=>.inl hx) λp hp l hl _ x hx=>?_
    have hp':=d v hv p hp
    rcases ih p hp' (by omega) l x hx with h|h
    ·exact hl x h
    ·exact .inr (Rch.trans (.step .refl hp) h)
   exact this x h
  ·simp at h;subst h;exact .inr .refl
theorem jia{C:Nat->List Nat}{n:Nat}(d:Dn C n){p:Nat}:∀{ps rest:List Nat}{cm:List Nat},(∀q∈ps,q<n)->ps.filter (λq=>!decide (q∈cm))=p::rest->ps.foldl (stp C) (wk C p cm)=ps.foldl (stp C) cm
 |[],_,_,_,h=>by simp at h
 |q::ps,rest,cm,hp,h=>by
  rw[U5]at h
  by_cases hq:q∈cm
  ·simp[hq]at h
   have pn:p<n:=hp p (.tail _ (U8.mp (show p∈ps.filter (λq=>!decide (q∈cm))by rw[show ps.filter (λq=>!decide (q∈cm))=p::rest by simpa using h];exact .head _)).1)
   rw[List.foldl_cons,List.foldl_cons]
   have e1:stp C cm q=cm:=Ad hq
   have e2:stp C (wk C p cm) q=wk C p cm:=Ad (jl1 d pn hq)
   rw[e1,e2]
   exact jia d (λr hr=>hp r (.tail _ hr)) (by simpa using h)
  ·simp[hq]at h
   obtain⟨rfl,_⟩:=h
   have pn:q<n:=hp q (.head _)
   rw[List.foldl_cons,List.foldl_cons]
   have e1:stp C cm q=wk C q cm:=Aa hq
   have e2:stp C (wk C q cm) q=wk C q cm:=Ad (jl2 d pn cm)
   rw[e1,e2]
theorem jib{C:Nat->List Nat}:∀{ps:List Nat}{cm:List Nat},ps.filter (λq=>!decide (q∈cm))=[]->ps.foldl (stp C) cm=cm
 |[],_,_=>rfl
 |q::ps,cm,h=>by
  rw[U5]at h
  by_cases hq:q∈cm
  ·simp[hq]at h
   rw[List.foldl_cons,show stp C cm q=cm from Ad hq]
   exact jib (by simpa using h)
  ·simp[hq]at h
theorem jqf{C:Nat->List Nat}{n:Nat}(d:Dn C n){v p:Nat}{rest cm:List Nat}(hv:v<n)(h:(C v).filter (λq=>!decide (q∈cm))=p::rest):wk C v (wk C p cm)=wk C v cm:=by
 rw[jd0 d hv,jd0 d hv,jia d (λq hq=>by have:=d v hv q hq;omega) h]
theorem jqg{C:Nat->List Nat}{n:Nat}(d:Dn C n){v:Nat}{cm:List Nat}(hv:v<n)(h:(C v).filter (λq=>!decide (q∈cm))=[]):wk C v cm=cm++[v]:=by
 rw[jd0 d hv,jib h]
theorem jq9{C C':Nat->List Nat}{n n':Nat}(d:Dn C n)(d':Dn C' n'){g:Nat->Nat}{S:Nat->Prop}(inj:∀x y,S x->S y->g x=g y->x=y)(hS:∀x,S x->x<n/\g x<n'/\C' (g x)=(C x).map g/\∀p∈C x,S p) :
  ∀(v:Nat),S v->∀cm,(∀x∈cm,S x)->wk C' (g v) (cm.map g)=(wk C v cm).map g/\∀x∈wk C v cm,S x:=by
 intro v
 induction v using Nat.strongRecOn with
 |_ v ih =>
  intro sv cm sc
  obtain⟨vn,gn,ce,cs⟩:=hS v sv
  rw[jd0 d vn,jd0 d' gn,ce]
  have go:∀ps:List Nat,(∀p∈ps,p<v/\S p)->∀cm,(∀x∈cm,S x)->(ps.map g).foldl (stp C') (cm.map g)=(ps.foldl (stp C) cm).map g/\∀x∈ps.foldl (stp C) cm,S x:=by
   intro ps
   induction ps with
   |nil=>intro _ cm sc;exact⟨rfl,sc⟩
   |cons p ps ihp =>
    intro hp cm sc
    obtain⟨h1,h2⟩:=hp p (.head _)
    have st:stp C' (cm.map g) (g p)=(stp C cm p).map g/\∀x∈stp C cm p,S x:=by
     unfold stp
     by_cases hm:p∈cm
     ·rw[Ad hm,Ad (A7.mpr ⟨p,hm,rfl⟩)]
      exact⟨rfl,sc⟩
     ·rw[Aa hm,Aa (λh=>by
       obtain⟨q,hq,e⟩:=A7.mp h
       exact hm (inj q p (sc q hq) h2 e▸hq))]
      exact ih p h1 h2 cm sc
    rw[Ax,List.foldl_cons,List.foldl_cons,st.1]
    exact ihp (λq hq=>hp q (.tail _ hq)) _ st.2
  obtain⟨e,f⟩:=go (C v) (λp hp=>⟨d v vn p hp,cs p hp⟩) cm sc
  rw[e]
  refine⟨by simp,λx hx=>?_⟩
  rcases Ie.mp hx with h|h
  ·exact f x h
  ·simp at h;subst h;exact sv
theorem ja1{l:List Nat}{x:Nat}(h:x∈l):l[l.idxOf x]?=some x:=by
 rw[An (Ui h),List.getElem_idxOf]
theorem jrn{α:Type}{l:List α}(nd:l.Nodup){i j:Nat}{x:α}(hi:l[i]?=some x)(hj:l[j]?=some x):i=j:=by
 have h1:=(Ai.mp hi).1
 exact(List.getElem?_inj h1 nd).mp (hi.trans hj.symm)
theorem jcb{l:List Nat}(nd:l.Nodup){i x:Nat}(h:l[i]?=some x):l.idxOf x=i:=jrn nd (ja1 (A6 h)) h
theorem ix_inj{l:List Nat}{x y:Nat}(hx:x∈l)(hy:y∈l)(e:l.idxOf x=l.idxOf y):x=y:=by
 have a:=ja1 hx
 rw[e,ja1 hy]at a
 exact(Au a).symm
theorem ix_take{l:List Nat}{x k:Nat}(h:x∈l.take k):l.idxOf x<k:=by
 have e:l.idxOf x=(l.take k).idxOf x:=by
  conv=>lhs;rw[<-U7 k l]
  rw[List.idxOf_append,Ad h]
 have:=Ui h
 rw[Il]at this
 omega
theorem jbg{l m:List Nat}{x:Nat}(h:x∈l):(l++m).idxOf x=l.idxOf x:=by
 rw[List.idxOf_append,Ad h]
theorem ix_all{l:List Nat}(nd:l.Nodup):l.map (λx=>l.idxOf x)=List.range l.length:=by
 apply List.ext_getElem?
 intro i
 rw[A3]
 by_cases hi:i<l.length
 ·rw[An hi,List.getElem?_range hi,Option.map_some,jcb nd (An hi)]
 ·rw[Of (by omega),Of (by simp;omega)];rfl
def RwA(R:List Row)(h:Nat->Nat)(i:Nat):Row:=wpR h (R.getD i [])
def OkR(R:List Row):Prop:=∀k r,R[k]?=some r->RowOk k r
theorem OkR.d{R:List Row}(ok:OkR R){i:Nat}(hi:i<R.length):RowOk i (R.getD i []):=ok i _ (by rw[Ag,An hi];rfl)
structure Hd(R:List Row)(h:Nat->Nat):Prop where
 le:∀i,i<R.length->h i<=i
 same:∀i,i<R.length->RwA R h (h i)=RwA R h i
 first:∀i,i<R.length->∀j,j<h i->RwA R h j≠RwA R h i
theorem Hd.of{R:List Row}{h:Nat->Nat}(H:Hd R h){i j:Nat}(hi:i<R.length)(hj:j<R.length)(e:RwA R h i=RwA R h j):h i=h j:=by
 rcases Nat.lt_trichotomy (h i) (h j)with l|l|l
 ·exact absurd ((H.same i hi).trans e) (H.first j hj _ l)
 ·exact l
 ·exact absurd ((H.same j hj).trans e.symm) (H.first i hi _ l)
theorem Hd.idem{R:List Row}{h:Nat->Nat}(H:Hd R h){i:Nat}(hi:i<R.length):h (h i)=h i:=H.of (by have:=H.le i hi;omega) hi (H.same i hi)
def chd(R:List Row)(h:Nat->Nat)(i:Nat):List Nat:=ptR (RwA R h i)
theorem jm2(R:List Row)(h:Nat->Nat)(i:Nat):chd R h i=(ptR (R.getD i [])).map h:=jfh h _
theorem jj0{R:List Row}{h:Nat->Nat}(ok:OkR R)(H:Hd R h):Dn (chd R h) R.length:=λv hv p hp=>by
 rw[jm2]at hp
 obtain⟨q,hq,rfl⟩:=A7.mp hp
 have h1:=jd6 (ok.d hv) hq
 have:=H.le q (by omega)
 omega
def own(R:List Row)(i:Nat):List Nat:=ptR (R.getD i [])
theorem jg5{R:List Row}(ok:OkR R):Dn (own R) R.length:=λv hv p hp=>jd6 (ok.d hv) hp
def ordR(R:List Row)(h:Nat->Nat):List Nat:=wk (chd R h) (h (R.length-1)) []
def tidR(R:List Row)(h:Nat->Nat):List Row:=(ordR R h).map λv=>wpR (λx=>(ordR R h).idxOf x) (RwA R h v)
structure Ord(R:List Row)(h:Nat->Nat)(dn:List Nat):Prop where
 nd:dn.Nodup
 cl:Cl (chd R h) dn
 lt:∀x∈dn,x<R.length
 hd:∀x∈dn,h x=x
 la:∃t,dn=t++[h (R.length-1)]
theorem jeb{R:List Row}{h:Nat->Nat}(ok:OkR R)(H:Hd R h)(n1:1<=R.length):Ord R h (ordR R h):=by
 have d:=jj0 ok H
 have hr:h (R.length-1)<R.length:=by have:=H.le (R.length-1) (by omega);omega
 refine⟨jot d _ hr [] Wk (by simp),jrr d _ hr [] (λi x e=>by simp at e),λx hx=>?_,λx hx=>?_,?_⟩
 ·rcases jpa d _ hr [] x hx with h|h
  ·simp at h
  ·omega
 ·rcases jn1 d _ hr [] x hx with h'|h'
  ·simp at h'
  ·cases h' with
   |refl=>exact H.idem (by omega)
   |step r hp =>
    rename_i y
    rw[jm2]at hp
    obtain⟨q,hq,rfl⟩:=A7.mp hp
    have yl:y<R.length:=by
     clear hp hq hx
     induction r with
     |refl=>exact hr
     |step _ hp ih=>have:=d _ ih _ hp;omega
    exact H.idem (by have:=jd6 (ok.d yl) hq;omega)
 ·obtain⟨t,e⟩:=jkz d _ hr []
  exact⟨t,by unfold ordR;rw[e];simp⟩
def TidP(R F:List Row):Prop:=∃h,Hd R h/\F=tidR R h
section
variable{R:List Row}{h:Nat->Nat}
theorem jew(R:List Row)(h:Nat->Nat):(tidR R h).length=(ordR R h).length:=by simp[tidR]
theorem jku{i v:Nat}(e:(ordR R h)[i]?=some v):(tidR R h)[i]?=some (wpR (λx=>(ordR R h).idxOf x) (RwA R h v)):=by simp[tidR,e]
theorem jnw(ok:OkR R)(H:Hd R h)(n1:1<=R.length):OkR (tidR R h):=λk r e=>by
 have O:=jeb ok H n1
 have hk:k<(ordR R h).length:=by rw[<-jew];exact(Ai.mp e).1
 have ev:=An hk
 rw[jku ev]at e
 cases e
 exact jra λp hp=>ix_take (O.cl k _ ev p hp)
theorem jik(g:Nat->Nat)(r:Row):∀i:Int,(Sum.inl i:L2.Key)∈wpR g r->0<=i:=λi hi=>by
 obtain⟨x,_,e⟩:=A7.mp hi
 cases x with
 |inl j=>simp only[mapR,Sum.inl.injEq]at e;omega
 |inr s=>simp[mapR]at e
theorem jnr(ok:OkR R)(H:Hd R h)(n1:1<=R.length){v:Nat}(hv:v∈ordR R h):∀p∈chd R h v,p∈ordR R h:=λp hp=>by
 have O:=jeb ok H n1
 exact Wg (O.cl _ v (ja1 hv) p hp)
theorem joj(H:Hd R h){v:Nat}(hv:v<R.length)(hm:h v∈ordR R h):(tidR R h)[(ordR R h).idxOf (h v)]?=some (wpR (λx=>(ordR R h).idxOf (h x)) (R.getD v [])):=by
 rw[jku (ja1 hm),H.same v hv]
 unfold RwA
 rw[jou]
theorem jgk(ok:OkR R)(H:Hd R h)(n1:1<=R.length):(ordR R h).idxOf (h (R.length-1))=(ordR R h).length-1/\1<=(ordR R h).length:=by
 have O:=jeb ok H n1
 obtain⟨t,e⟩:=O.la
 have l:(ordR R h).length=t.length+1:=by rw[e];simp
 refine⟨jcb O.nd ?_,by omega⟩
 rw[l,e]
 simp
theorem jqa(ok:OkR R)(H:Hd R h)(n1:1<=R.length){v:Nat}(hv:v∈ordR R h):own (tidR R h) ((ordR R h).idxOf v)=(chd R h v).map λx=>(ordR R h).idxOf x:=by
 unfold own
 rw[Ag,jku (ja1 hv),Option.getD_some,jfh]
 rfl
theorem joo(ok:OkR R)(H:Hd R h)(n1:1<=R.length):wk (own (tidR R h)) ((tidR R h).length-1) []=List.range (tidR R h).length:=by
 have O:=jeb ok H n1
 obtain⟨l1,l2⟩:=jgk ok H n1
 have root:h (R.length-1)∈ordR R h:=by obtain⟨t,e⟩:=O.la;rw[e];simp
 have:=(jq9 (jj0 ok H) (jg5 (jnw ok H n1)) (g:=λx=>(ordR R h).idxOf x) (S:=λx=>x∈ordR R h) (λx y hx hy e=>ix_inj hx hy e)
  (λx hx=>⟨O.lt x hx,by rw[jew];exact Ui hx,jqa ok H n1 hx,jnr ok H n1 hx⟩) _ root [] (by simp)).1
 rw[jew,<-l1]
 refine this.trans ?_
 show(ordR R h).map _=_
 exact ix_all O.nd
end
section
variable{R:List Row}{h:Nat->Nat}
theorem jn2(H:Hd R h){i:Nat}(il:i<R.length):chd R h (h i)=(own R i).map h:=by
 unfold chd own
 rw[H.same i il]
 exact jfh h _
end
end My
namespace My
open PySem L2 PyProof.Rows
def pw4(T:List Str):V->Nat
 |.str _=>1
 |.int i=>4*(tx T i.toNat).length-2
 |_=>0
def jcs(T:List Str)(l:List V):Nat:=(l.map (pw4 T)).sum
theorem jc6(T:List Str)(a b:List V):jcs T (a++b)=jcs T a+jcs T b:=by simp[jcs]
theorem jm0(T:List Str)(x:V)(b:List V):jcs T (x::b)=pw4 T x+jcs T b:=by simp[jcs]
theorem jfq(T:List Str):∀l:List V,jcs T l.reverse=jcs T l
 |[]=>rfl
 |x::l=>by
  rw[List.reverse_cons,jc6,jfq T l]
  simp[jcs]
  omega
structure Wr4(n:Nat)(pc:Nat->List V)(T:List Str):Prop where
 pos:0<n
 few:n<=1000
 len:T.length=n
 ok:∀k,k<n->∀x∈pc k,isPc k x
 sz:∀k,k<n->(pc k).length<=100
 eq:∀k,k<n->sg (tx T k)=cat T (pc k)
 bd:∀k,(tx T k).length<=50000
 one:∀k,k<n->1<=(tx T k).length
 wt:∀k,k<n->jcs T (pc k)<4*(tx T k).length-2
theorem jgo(T:List Str){n:Nat}(h1:∀i,i<n->1<=(tx T i).length):∀l:List V,(∀x∈l,isPc n x)->l.length<=jcs T l
 |[],_=>Ia _
 |x::l,h=>by
  have ih:=jgo T h1 l λy hy=>h y (.tail _ hy)
  have:1<=pw4 T x:=by
   rcases h x (.head _)with⟨s,rfl⟩|⟨i,rfl,hi⟩
   ·exact Af _
   ·have:=h1 i hi
    simp[pw4]
    omega
  rw[jm0,List.length_cons]
  omega
theorem Wr4.pc_le{n:Nat}{pc:Nat->List V}{T:List Str}(W:Wr4 n pc T){i:Nat}(h:i<n){x:V}(hx:x∈pc i):(pcL T x).length<=50000:=by
 have h1:=jlc T (pc i) x hx
 rw[<-W.eq i h,jcv]at h1
 have:=W.bd i
 omega
theorem Wr4.sum{n:Nat}{pc:Nat->List V}{T:List Str}(W:Wr4 n pc T){i:Nat}(h:i<n):((pc i).map λx=>(pcL T x).length).sum=(tx T i).length:=by
 rw[<-jod,<-W.eq i h,jcv]
end My
namespace My
open PySem L2
local macro_rules
 | `(tactic| simp!)=>`(tactic| simp only [tSeq,tIfS,jjr,tOp,tVar,tC,tAsg,jdi,gSub,tRet,jjo,jjg,jjh,tAnd,tOr,tNot,jjc,tOrV,jjp,tB,tIf,jhh,jje,rI0,rI,jfi,jd2,jin,jio,jki,jkj,jkg,jkh,jgm,jec,jfl,jfk,jil,jke,jg9,jg8,jip,jc5,jfj,jkb,jlp,je3,jkc,jlq,jiq,jlk,jii,jix,jit,jiu,Option.isSome_some,tBML,jjd,tCB,jfy,tNil,tLst,tTup,tSl,jjq,jf1,jkm,iAny,ji7,ji8,jgy,jgz,jim,jfz,jjb,jlz,jjf,jd7,jdl,tUn,rU,tTru,jed,jls,jkn,jc9,jis,jkl,je8,jir,jjk,jhm,jjl,tBMS,jll,jkd,jji,je7,jfw,jhn,jjs,hdl,je6,jlr,jkf,tBM0,tBM,jl0,jjj,Option.bind_some,Option.bind_none,Option.getD_some,L2.start,Ax,Uf,List.length_cons,List.length_nil,List.cons_append,List.nil_append,Ir,List.cons.injEq,List.replicate,List.getElem?_cons_zero,List.getElem?_cons_succ,List.set_cons_zero,List.set_cons_succ,Nat.reduceSub,Nat.reduceAdd,Nat.reduceLeDiff,Option.some.injEq,V.int.injEq,V.bl.injEq,V.str.injEq,V.ref.injEq,HO.lst.injEq,HO.tup.injEq,exists_eq_left',exists_eq_left,exists_and_left,true_and,and_true,jc,jf5,jl6,jl7,jov,Bool.not_true,Bool.not_false,decide_eq_true_eq,Iu,On,Oo,reduceIte,reduceCtorEq,jhg,jhf,tLam,jeu,jf0,jee,jet,jhk,jhi,jhj,tTru,jed,jjn,jjm,jmv,jeu,jf0,jee,jet,rAdd,rSub])
 | `(tactic| simp! [$ls,*])=>`(tactic| simp only [tSeq,tIfS,jjr,tOp,tVar,tC,tAsg,jdi,gSub,tRet,jjo,jjg,jjh,tAnd,tOr,tNot,jjc,tOrV,jjp,tB,tIf,jhh,jje,rI0,rI,jfi,jd2,jin,jio,jki,jkj,jkg,jkh,jgm,jec,jfl,jfk,jil,jke,jg9,jg8,jip,jc5,jfj,jkb,jlp,je3,jkc,jlq,jiq,jlk,jii,jix,jit,jiu,Option.isSome_some,tBML,jjd,tCB,jfy,tNil,tLst,tTup,tSl,jjq,jf1,jkm,iAny,ji7,ji8,jgy,jgz,jim,jfz,jjb,jlz,jjf,jd7,jdl,tUn,rU,tTru,jed,jls,jkn,jc9,jis,jkl,je8,jir,jjk,jhm,jjl,tBMS,jll,jkd,jji,je7,jfw,jhn,jjs,hdl,je6,jlr,jkf,tBM0,tBM,jl0,jjj,Option.bind_some,Option.bind_none,Option.getD_some,L2.start,Ax,Uf,List.length_cons,List.length_nil,List.cons_append,List.nil_append,Ir,List.cons.injEq,List.replicate,List.getElem?_cons_zero,List.getElem?_cons_succ,List.set_cons_zero,List.set_cons_succ,Nat.reduceSub,Nat.reduceAdd,Nat.reduceLeDiff,Option.some.injEq,V.int.injEq,V.bl.injEq,V.str.injEq,V.ref.injEq,HO.lst.injEq,HO.tup.injEq,exists_eq_left',exists_eq_left,exists_and_left,true_and,and_true,jc,jf5,jl6,jl7,jov,Bool.not_true,Bool.not_false,decide_eq_true_eq,Iu,On,Oo,reduceIte,reduceCtorEq,jhg,jhf,tLam,jeu,jf0,jee,jet,jhk,jhi,jhj,tTru,jed,jjn,jjm,jmv,jeu,jf0,jee,jet,rAdd,rSub,$ls,*])
def jel(st:Stmt)(n:Nat):Stmt:=match st with
 |.ClassDef _ _ _ body _ _ _ _ _ _ _=>body.getD n (.Pass ⟨0,0,0,0⟩)
 |s=>s
def top(i:Nat):Stmt:=PySem.Challenge.pw_calmword_k28_the_first_wrong_sign.main.body.getD i (.Pass ⟨0,0,0,0⟩)
def BoxO(o:HO):Prop:=∃c s,o=.lst [.int c,.int s]/\1<=s/\s<=2147483629
def jdh:Sp:=λvs H Q _=>∃b w o,vs=[.ref b,.int w]/\H b=some o/\BoxO o/\0<w/\w<1073741824/\∀d o,0<=d->d<w->BoxO o->Q (.int d) (upd H b o)
def jo7(K:PySem.W.Frag):Sp:=λvs H Q _=>∃(a:Addr)(k:Int)(ns:List Int),vs=[.ref a,.int k]/\SqL K H a (ns.map V.int)/\0<=k/\k<=1000/\∀b o,H b=none->BoxO o->Q (.ref b) (upd H b o)
section
variable{P:Program}{w:World}{K:PySem.W.Frag}{mg:Str->Option Value}{base:Heap}
abbrev kf:Stmt:=top 37
theorem jax:FnScope ["_law_box_here","_law_wide","_law_digit","_law_one"] ["_law_box_here","_law_wide"] (ji kf):=⟨rfl,rfl,rfl,by decide +kernel,rfl,by decide +kernel,by decide +kernel⟩
theorem ok__law_take{f:Addr}{fd:FuncData}(F:Fun K "_law_take" "_law_take" kf f fd):FnOk P w K mg base CX0 1 f fd ["_law_box_here","_law_wide"] jdh:=by
 refine F.ok jax (λvs H Q E h=>?_) (λcdv A outer s H vs Q E hr h=>?_)
 ·obtain⟨b,w,o,rfl,_⟩:=h
  rfl
 ·obtain⟨b,w,o,rfl,hb,⟨c,sd,rfl,s1,s2⟩,w0,w1,k⟩:=h
  refine⟨_,(QSs.h (je (jy (jq ja4 (jv ix_U (qpv 0) jf (λ_ _=>rfl)) jf (jw _)) (je (jm (i:=2) jax.nd rfl (by first|exact Or.inl rfl|exact Or.inr rfl) (jn jab (jv ix_U (qpv 0) jf (λ_ _=>rfl)) (qpv 1)))
  (je (jb9 (jn jb5 (jv ix_U (qpv 0) jf (λ_ _=>rfl)) (qpv 1)) (jb8 (qpv 0) jf jo6))
  (jg (jp (qpv 2))))) j7)
  (je (jm (i:=3) jax.nd rfl (by first|exact Or.inl rfl|exact Or.inr rfl) (jn jab (jn z0 (jv ix_U (qpv 0) jf (λ_ _=>rfl)) jf) jf))
  (je (jb9 (jn jx (jn jab (jn jx (jn z0 (qpv 3) jf) jf) jf) jf) (jb8 (qpv 0) jf jo6))
  (jg (jp (jn jab (jn jb5 (jn jx (jn z0 (qpv 3) jf) (jv ix_U (qpv 0) jf (λ_ _=>rfl))) jf) (qpv 1)))))))),?_⟩
  have m1:∀z m:Int,0<m->0<=z%m/\z%m<m:=λz m h=>⟨Int.emod_nonneg z (by omega),Int.emod_lt_of_pos z h⟩
  simp! [hb]
  refine ite2 (λhc=>?_) (λ_=>?_)
  ·refine⟨w0,⟨w0,w1⟩,0,rfl,?_⟩
   simp! [hb]
   exact k _ _ (m1 c w w0).1 (m1 c w w0).2 ⟨_,_,rfl,s1,s2⟩
  ·have q1:=m1 (sd*69623) 2147483647 (by decide)
   refine⟨.inl ⟨by omega,by omega⟩,by decide,.inl ⟨by omega,by omega⟩,by decide,1,rfl,?_⟩
   simp! [hb]
   have q2:=m1 (sd*69623%2147483647*48271+30103) 2147483629 (by decide)
   refine⟨.inl ⟨by omega,by omega⟩,⟨by decide,by decide⟩,w0,?_⟩
   exact k _ _ (m1 _ w w0).1 (m1 _ w w0).2 ⟨_,_,rfl,by omega,by omega⟩
structure TBox(mg:Str->Option Value):Prop where
 n_len:mg "len"=none
 n_int:mg "int"=none
abbrev zj:Stmt:=top 36
theorem zv:FnScope ["_law_script","_law_k","_law_cell","_law_seed"] ["_law_script","_law_k"] (ji zj):=⟨rfl,rfl,rfl,by decide +kernel,rfl,by decide +kernel,by decide +kernel⟩
theorem ok__law_box{f:Addr}{fd:FuncData}(F:Fun K "_law_box" "_law_box" zj f fd)(T:TBox mg):FnOk P w K mg base CX0 1 f fd ["_law_script","_law_k"] (jo7 K):=by
 refine F.ok zv (λvs H Q E h=>?_) (λcdv A outer s H vs Q E hr h=>?_)
 ·obtain⟨a,k,ns,rfl,_⟩:=h
  rfl
 ·obtain⟨a,k,ns,rfl,hS,k0,k1,kk⟩:=h
  refine⟨_,(QSs.h (je (jm (i:=2) zv.nd rfl (by first|exact Or.inl rfl|exact Or.inr rfl) (jn jx (jn z0 jf (qpv 1)) jf))
  (je (jy (jq jat (qpv 1) (jr zn (by rfl) T.n_len ku (ja (qpv 0) jb)) (jw _)) (jg (jm (i:=2) zv.nd rfl (by first|exact Or.inl rfl|exact Or.inr rfl) (jv jbk (qpv 0) (qpv 1) (λ_ _=>rfl)))) (jg (jy (jq ja4 (jr zn (by rfl) T.n_len ku (ja (qpv 0) jb)) jf (jw _)) (jg (jm (i:=2) zv.nd rfl (by first|exact Or.inl rfl|exact Or.inr rfl) (jn jx (qpv 2) (jn z0 (jn jab (jv jbk (qpv 0) (jn jab (qpv 1) (jr zn (by rfl) T.n_len ku (ja (qpv 0) jb))) (λ_ _=>rfl)) jf) jf)))) j7)))
  (je (jm (i:=3) zv.nd rfl (by first|exact Or.inl rfl|exact Or.inr rfl) (jn jx (jn jab (jn jx (jn z0 (jn jab (qpv 2) jf) jf) (jn z0 jf (qpv 1))) jf) jf))
  (jg (jp (j6 (ja (jn z0 (qpv 2) (yr jba (by rfl) T.n_int ja9 (ja (zx jck (qpv 2) (jn op_pow jf jf) (jw _)) jb))) (ja (qpv 3) jb))))))))),?_⟩
  have m1:∀z m:Int,0<m->0<=z%m/\z%m<m:=λz m h=>⟨Int.emod_nonneg z (by omega),Int.emod_lt_of_pos z h⟩
  have tail:∀cell:Int,(0:Int)<2147483629/\CMul (cell%2147483629) 48271/\CMul 40692 k/\(0:Int)<2147483629/\CPow 10 18/\CMul cell (if(10:Int)^(18:Int).toNat<=cell then 1 else 0)/\2<=sizeLine /\
    ∀p,H p=none->Q (.ref p) (upd H p (.lst [.int (cell*(if(10:Int)^(18:Int).toNat<=cell then 1 else 0)),.int ((cell%2147483629*48271+40692*k)%2147483629+1)])):=by
   intro cell
   have q1:=m1 cell 2147483629 (by decide)
   have q2:=m1 (cell%2147483629*48271+40692*k) 2147483629 (by decide)
   refine⟨by decide,.inl ⟨by omega,by omega⟩,.inl ⟨by decide,by decide⟩,by decide,⟨by decide,by decide,by decide⟩,.inr ?_,by decide,λp hp=>kk p _ hp ⟨_,_,rfl,by omega,by omega⟩⟩
   split <;> constructor <;> decide
  simp!
  refine⟨.inl ⟨by decide,by decide⟩,ns.map V.int,.inl hS,?_⟩
  rw[Ae]
  refine ite2 (λh=>?_) (λh=>?_)
  ·obtain⟨z,hz⟩:∃z,ns[k.toNat]?=some z:=⟨ns[k.toNat]'(by omega),by simp⟩
   refine⟨a,_,k,.int z,rfl,rfl,hS,jcm k0 (by rw[A3,hz];rfl),?_⟩
   simp!
   exact tail z
  ·refine⟨ns.map V.int,.inl hS,?_⟩
   rw[Ae]
   refine ite2 (λh2=>?_) (λh2=>?_)
   ·refine⟨ns.map V.int,.inl hS,?_⟩
    rw[Ae]
    have q:=m1 k (ns.length:Int) (by omega)
    obtain⟨z,hz⟩:∃z,ns[(k%(ns.length:Int)).toNat]?=some z:=⟨ns[(k%(ns.length:Int)).toNat]'(by omega),by simp⟩
    refine⟨by omega,a,_,_,.int z,rfl,rfl,hS,jcm q.1 (by rw[A3,hz];rfl),?_⟩
    simp!
    have q3:=m1 z 2147483629 (by decide)
    refine⟨by decide,.inl ⟨by omega,by omega⟩,?_⟩
    exact tail _
   ·exact tail _
end
structure Letters(z:Str)(m:Nat):Prop where
 lo:1<=z.length
 hi:z.length<=m
 az:∀c∈z.cps.toList,97<=c/\c<=122
 nd:z.cps.toList.Nodup
def chV(c:Nat):V:=.str ⟨#[c]⟩
def jiv:Sp:=λvs H Q _=>∃(b:Addr)(m:Nat)(o:HO),vs=[.ref b,.int (m:Int)]/\H b=some o/\BoxO o/\1<=m/\m<=4/\∀z o' H',Letters z m->BoxO o'->H' b=some o'->Kp [b] H H'->Q (.str z) H'
theorem jgu{α:Type}:∀(l:List α)(i:Nat)(x:α),l[i]?=some x->(x::l.eraseIdx i).Perm l
 |[],i,x,h=>by simp at h
 |a::l,0,x,h=>by simp at h;subst h;exact List.Perm.refl _
 |a::l,i+1,x,h=>by
  rw[List.eraseIdx_cons_succ]
  exact(List.Perm.swap _ _ _).trans ((jgu l i x (by simpa using h)).cons a)
theorem jij{α β:Type}(f:α->β):∀(l:List α)(i:Nat),(l.map f).eraseIdx i=(l.eraseIdx i).map f
 |[],_=>rfl
 |_::_,0=>rfl
 |a::l,i+1=>by rw[Ax,List.eraseIdx_cons_succ,List.eraseIdx_cons_succ,Ax,jij f l i]
theorem jpc:sgn (Str.ofString "abcdefghijklmnopqrstuvwxyz")=((List.range 26).map (97+·)).map chV:=by decide +kernel
structure TLetters(mg:Str->Option Value)(ft:Addr):Prop where
 n_len:mg "len"=none
 n_list:mg "list"=none
 n_range:mg "range"=none
 m1z:mg "_law_take"=some (.ref ft)
section
variable{P:Program}{w:World}{K:PySem.W.Frag}{mg:Str->Option Value}{base:Heap}
abbrev ym:Stmt:=top 38
theorem za:FnScope ["_law_box_here","_law_most","_law_pool","_law_found","_law_k"] ["_law_box_here","_law_most"] (ji ym):=⟨rfl,rfl,rfl,by decide +kernel,rfl,by decide +kernel,by decide +kernel⟩
theorem ok__law_letters{f ft:Addr}{fd fdt:FuncData}(F:Fun K "_law_letters" "_law_letters" ym f fd)(T:TLetters mg ft)(F1z:Fun K "_law_take" "_law_take" kf ft fdt)(b1z:Binds K fdt ["_law_box_here","_law_wide"] [])
  (G1z:FnOk P w K mg base CX0 1 ft fdt ["_law_box_here","_law_wide"] jdh):FnOk P w K mg base CX0 2 f fd ["_law_box_here","_law_most"] jiv:=by
 refine F.ok za (λvs H Q E h=>?_) (λcdv A outer s H vs Q E hr h=>?_)
 ·obtain⟨b,m,o,rfl,_⟩:=h
  rfl
 ·obtain⟨b,m,o,rfl,hb,ho,m1,m4,k⟩:=h
  refine⟨_,(QSs.h (je (jm (i:=2) za.nd rfl (by first|exact Or.inl rfl|exact Or.inr rfl) (yr (call_listU rfl) (by rfl) T.n_list jbj (ja jj jb)))
  (je (jm (i:=3) za.nd rfl (by first|exact Or.inl rfl|exact Or.inr rfl) jj)
  (je (zm Ii rfl (jac rfl T.n_range (ja (jn jx jf (jk G1z (hr.mono (by decide)) rfl T.m1z F1z.kp b1z .nil jo (ja (qpv 0) (ja (qpv 1) jb)))) jb)) (kj (i:=4) za.nd rfl (by first|exact Or.inl rfl|exact Or.inr rfl)) (jg (jm (i:=3) za.nd rfl (by first|exact Or.inl rfl|exact Or.inr rfl) (jn jx (qpv 3) (yb Iy Iz mt_popU (qpv 2) (ja (jk G1z (hr.mono (by decide)) rfl T.m1z F1z.kp b1z .nil jo (ja (qpv 0) (ja (jr j9 (by rfl) T.n_len ku (ja (qpv 2) jb)) jb))) jb) jct)))))
  (jg (jp (qpv 3))))))),?_⟩
  simp!
  refine⟨by decide,λp hp=>?_⟩
  have npb:b≠p:=jh hb hp
  obtain⟨c0,s0,rfl,_,_⟩:=id ho
  refine⟨b,(m:Int),_,rfl,by rw[jd npb];exact hb,ho,by omega,by omega,λd o1 d0 d1 ho1=>?_⟩
  simp!
  obtain⟨n,rfl⟩:∃n:Nat,d=(n:Int):=⟨d.toNat,by omega⟩
  have en:(1+(n:Int)).toNat=n+1:=by omega
  refine⟨by omega,by omega,?_⟩
  rw[en]
  refine jdj (λi σ H'=>∃l R o' v,σ=[some (.ref b),some (.int (m:Int)),some (.ref p),some (.str (toS l)),v]/\H' b=some o'/\BoxO o'/\H' p=some (.lst (R.map chV))/\Kp [b] H H'/\l.length=i/\R.length+i=26 /\
   (l++R).Nodup/\∀c∈l++R,97<=c/\c<=122) ?_ ?_ ?_
  ·refine⟨[],(List.range 26).map (97+·),o1,none,rfl,jc,ho1,?_,?_,rfl,by simp,?_,?_⟩
   ·rw[jd npb.symm,jc,jpc]
   ·exact((Kp.refl [b] H).new hp).set (by rw[jd npb];exact hb) (.inl (by simp))
   ·decide
   ·decide
  ·rintro i σ H' hi ⟨l,R,o',v,rfl,hb',ho',hp',kp,hl,hR,nd,az⟩
   simp! [hp']
   obtain⟨c1,s1,rfl,_,_⟩:=id ho'
   refine⟨b,_,_,rfl,hb',ho',by rw[Ae];omega,by rw[Ae];omega,λd o2 d0 d1 ho2=>?_⟩
   rw[Ae]at d1
   have hp2:upd H' b o2 p=some (.lst (R.map chV)):=by rw[jd npb.symm];exact hp'
   simp! [hp2]
   obtain⟨c,hc⟩:∃c,R[d.toNat]?=some c:=⟨R[d.toNat]'(by omega),by simp⟩
   have hc':(R.map chV)[d.toNat]?=some (.str ⟨#[c]⟩):=by rw[A3,hc];rfl
   refine⟨d0,_,hc',?_⟩
   simp!
   have pm:=jgu R d.toNat c hc
   have e1:((l++[c])++R.eraseIdx d.toNat).Perm (l++R):=by
    rw[Ob]
    exact pm.append_left l
   have hlen:(R.eraseIdx d.toNat).length+1=R.length:=by
    have:=pm.length_eq
    simpa using this
   refine⟨?_,l++[c],R.eraseIdx d.toNat,o2,_,⟨jqc l c,rfl⟩,by rw[jd npb,jc],ho2,jij chV R _,?_,by simp[hl],by omega,?_,?_⟩
   ·rw[jh3]
    show l.length+1<=sizeLine
    have:sizeLine=16777216:=Ao
    omega
   ·exact(kp.set hb' (.inl (.head _))).set hp2 (.inr hp)
   ·exact e1.nodup_iff.mpr nd
   ·exact λx hx=>az x (e1.mem_iff.mp hx)
  ·rintro σ H' ⟨l,R,o',v,rfl,hb',ho',hp',kp,hl,hR,nd,az⟩
   simp! [hp']
   exact k (toS l) o' H' ⟨by rw[jh3];omega,by rw[jh3];omega,λc hc=>az c (Og _ (by simpa[toS]using hc)),by simpa[toS]using(Uc.mp nd).1⟩ ho' hb' kp
end
theorem _root_.L2.Kp.seq{S:List Addr}{K:PySem.W.Frag}{H H':Hp}{a:Addr}{xs:List V}(e:Kp S H H')(n:a∉S)(h:SqL K H a xs):SqL K H' a xs:=by
 rcases h with(h|⟨o,h⟩)|h
 ·exact .inl (.inl (e.old _ _ h n))
 ·exact .inl (.inr ⟨o,e.old _ _ h n⟩)
 ·exact .inr h
theorem exQ{X:Cx}{ss:List Stmt}{t:TS}{R:TS->Prop}(q:QSs X ss t)(h:R t):∃t,PSs X ss t/\R t:=⟨t,q.h,h⟩
theorem _root_.L2.Kp.sqT{S:List Addr}{K:PySem.W.Frag}{H H':Hp}{a:Addr}{xs:List V}(e:Kp S H H')(n:a∉S)(h:SqT K H a xs):SqT K H' a xs:=by
 rcases h with(h|⟨o,h⟩)|h
 ·exact .inl (.inl (e.old _ _ h n))
 ·exact .inl (.inr ⟨o,e.old _ _ h n⟩)
 ·exact .inr h
def nV(n:Nat):V:=.int (n:Int)
def RowsT(H:Hp)(us:List V)(R:List Row):Prop:=Paired (λv r=>∃a,v=.ref a/\H a=some (.tup (r.map kV))) us R
theorem RowsT.kp{S:List Addr}{H H':Hp}{us:List V}{R:List Row}(k:Kp S H H')(h:RowsT H us R):RowsT H' us R:=Paired.mapP h λ_ _ ⟨a,e,h⟩=>⟨a,e,k.tup _ _ h⟩
theorem RowsT.get{H:Hp}{us:List V}{R:List Row}(h:RowsT H us R){i:Nat}(hi:i<R.length):∃a,us[i]?=some (.ref a)/\H a=some (.tup ((R.getD i []).map kV)):=by
 induction h generalizing i with
 |nil=>simp at hi
 |cons h _ ih =>
  cases i with
  |zero=>obtain⟨a,e,g⟩:=h;exact⟨a,by simp[e],by simpa using g⟩
  |succ i=>obtain⟨a,e,g⟩:=ih (by simpa using hi);exact⟨a,by simpa using e,by simpa using g⟩
def NN0(r:Row):Prop:=∀i:Int,(Sum.inl i:L2.Key)∈r->0<=i
theorem RowOk.nn{k:Nat}{r:Row}(h:RowOk k r):NN0 r:=λi hi=>(h i hi).1
def isI:V->Bool
 |.int _=>true
 |_=>false
theorem jbm:∀{r:Row},NN0 r->(r.map kV).filter isI=(ptR r).map nV
 |[],_=>rfl
 |.inl i::r,h=>by
  have ih:=jbm (r:=r) λj hj=>h j (.tail _ hj)
  have h0:=h i (.head _)
  have e:kV (.inl i)=nV i.toNat:=by show V.int i=V.int _;congr 1;omega
  simp only[Ax,ptR,List.filterMap_cons,ptK]at ih⊢
  rw[U5,Ad (show isI (kV (.inl i))=true from rfl),ih,e]
 |.inr s::r,h=>by
  have ih:=jbm (r:=r) λj hj=>h j (.tail _ hj)
  simp only[Ax,ptR,List.filterMap_cons,ptK]at ih⊢
  rw[U5,Aa (show ¬isI (kV (.inr s))=true from λz=>nomatch z),ih]
theorem jo1{r:Row}{x:V}(h:x∈r.map kV):(∃z,x=.str z/\(Sum.inr z:L2.Key)∈r)\/∃i,x=.int i/\(Sum.inl i:L2.Key)∈r:=by
 obtain⟨k,hk,rfl⟩:=A7.mp h
 cases k with
 |inl i=>exact .inr ⟨i,rfl,hk⟩
 |inr z=>exact .inl ⟨z,rfl,hk⟩
structure TPa(K:PySem.W.Frag)(mg:Str->Option Value):Prop where
 n_isinstance:mg "isinstance"=none
 n_int:mg "int"=none
 n_str:mg "str"=none
 n_tuple:mg "tuple"=none
 n_bool:mg "bool"=none
 ii:PySem.W.kitOne K (.type "int") (.type "int")=some true
 si:PySem.W.kitOne K (.type "str") (.type "int")=some false
 ss:PySem.W.kitOne K (.type "str") (.type "str")=some true
 is:PySem.W.kitOne K (.type "int") (.type "str")=some false
 ib:PySem.W.kitOne K (.type "int") (.type "bool")=some false
 tt:PySem.W.kitOne K (.type "tuple") (.type "tuple")=some true
def jlu:Sp:=λvs H Q _=>∃(a:Addr)(r:Row),vs=[.ref a]/\H a=some (.tup (r.map kV))/\NN0 r/\r.length<=100/\∀p,H p=none->Q (.ref p) (upd H p (.lst ((ptR r).map nV)))
def Num(H:Hp)(n:Addr)(g:Nat->Nat)(ps:List Nat):Prop:=(∃hs:List Nat,H n=some (.lst (hs.map nV))/\∀p∈ps,hs[p]?=some (g p))\/∃kvs,H n=some (.dK kvs)/\∀p∈ps,valV kvs (.inl (p:Int))=some (nV (g p))
def spWP:Sp:=λvs H Q _=>∃(a n:Addr)(r:Row)(g:Nat->Nat),vs=[.ref a,.ref n]/\H a=some (.tup (r.map kV))/\NN0 r/\r.length<=100/\Num H n g (ptR r)/\∀q H',H q=none->H' q=some (.tup ((wpR g r).map kV))->Kp [] H H'->Q (.ref q) H'
section
variable{P:Program}{w:World}{K:PySem.W.Frag}{mg:Str->Option Value}{base:Heap}
abbrev y6:Stmt:=top 15
theorem sc_parts_of:FnScope ["row"] ["row"] (ji y6):=⟨rfl,rfl,rfl,by decide +kernel,rfl,by decide +kernel,by decide +kernel⟩
theorem ok_parts_of{f:Addr}{fd:FuncData}(F:Fun K "parts_of" "parts_of" y6 f fd)(T:TPa K mg):FnOk P w K mg base CX0 1 f fd ["row"] jlu:=by
 refine F.ok sc_parts_of (λvs H Q E h=>?_) (λcdv A outer s H vs Q E hr h=>?_)
 ·obtain⟨a,r,rfl,_⟩:=h
  rfl
 ·obtain⟨a,r,rfl,ha,nn,hl,k⟩:=h
  have hu:=hr.units
  have hsz:sizeLine=16777216:=Ao
  refine exQ (jg (jp (jbh rfl (jd1 (sc:=ji y6) (N:=["row"]) (Nc:=["thing"]) (js:=[none]) (by decide +kernel)) (jaq (K:=K) (qpv 0) rfl) (λ_ _ _ _=>(kj (i:=0) (show List.Nodup [("thing":Str)]from by decide +kernel) rfl (by first|exact Or.inl rfl|exact Or.inr rfl))) (λ_ _ _ _=>(y0 (jr (yd (K:=K) rfl) (by rfl) T.n_isinstance kh (ja (qpv 0) (ja (zo (v:=.ty "int") rfl T.n_int ja9 rfl) jb))))) (λ_ _ _ _=>(qpv 0))))) ?_
  simp! [ha]
  intro D hD
  refine jma isI id ha hD (by rw[Ae];omega) (λx hx l Q' q=>?_) (λx hx _ l Q' q=>?_) λv=>?_
  ·simp!
   rcases jo1 hx with⟨z,rfl,_⟩|⟨i,rfl,_⟩
   ·exact⟨_,.str _,_,T.si,q⟩
   ·exact⟨_,.int _,_,T.ii,q⟩
  ·simp!
   exact q
  ·rw[List.map_id,jbm nn]
   exact k D hD
abbrev yc:Stmt:=top 16
theorem sc_with_parts:FnScope ["row","numbers"] ["row","numbers"] (ji yc):=⟨rfl,rfl,rfl,by decide +kernel,rfl,by decide +kernel,by decide +kernel⟩
theorem ok_with_parts{f:Addr}{fd:FuncData}(F:Fun K "with_parts" "with_parts" yc f fd)(T:TPa K mg):FnOk P w K mg base CX0 1 f fd ["row","numbers"] spWP:=by
 refine F.ok sc_with_parts (λvs H Q E h=>?_) (λcdv A outer s H vs Q E hr h=>?_)
 ·obtain⟨a,n,r,g,rfl,_⟩:=h
  rfl
 ·obtain⟨a,n,r,g,rfl,ha,nn,hl,num,k⟩:=h
  have hu:=hr.units
  have hsz:sizeLine=16777216:=Ao
  have hu1:(A.deeper (PyProof.Rows.envOfC (Str.ofString "with_parts") (ji yc) s.heap.objs.size f cdv)).units+1<cLine:=by omega
  refine exQ (jg (jp (yr zt (by rfl) T.n_tuple jae (ja (jbz rfl (jd1 (sc:=ji yc) (N:=["row","numbers"]) (Nc:=["thing","numbers"]) (js:=[none,some 1]) (by decide +kernel)) (jaq (K:=K) (qpv 0) rfl) (λ_ _ _ _=>(kj (i:=0) (show List.Nodup [("thing":Str),("numbers":Str)]from by decide +kernel) rfl (by first|exact Or.inl rfl|exact Or.inr rfl))) (λ_ _ _ _=>(jbu (y0 (jr (yd (K:=K) rfl) (by rfl) T.n_isinstance kh (ja (qpv 0) (ja (zo (v:=.ty "int") rfl T.n_int ja9 rfl) jb)))) (jv (ix_UD hu1) (qpv 1) (qpv 0) (λ_ _=>rfl)) (qpv 0)))) jb)))) ?_
  simp! [ha]
  intro D hD
  have nnD:n≠D:=by
   rcases num with⟨hs,e,_⟩|⟨kvs,e,_⟩ <;> exact jh e hD
  let gv:V->V:=λx=>match x with
   |.int i=>nV (g i.toNat)
   |x=>x
  have em:(r.map kV).map gv=(wpR g r).map kV:=by
   unfold wpR
   rw[Oc,Oc]
   refine O3 λx _=>?_
   cases x <;> rfl
  refine jn3 gv ha hD (by rw[Ae];omega) (λx hx l Q' q=>?_) λv=>?_
  ·simp!
   rcases jo1 hx with⟨z,rfl,_⟩|⟨i,rfl,hi⟩
   ·exact⟨_,.str _,_,T.si,by rw[Aa (by decide)];exact q⟩
   ·have h0:=nn i hi
    have hp:=jh0 hi
    refine⟨_,.int _,_,T.ii,?_⟩
    rw[Ad rfl]
    rcases num with⟨hs,e,hg⟩|⟨kvs,e,hg⟩
    ·refine .inl ?_
     rw[jec,jd nnD,e]
     exact⟨_,rfl,nV (g i.toNat),jcm h0 (by rw[A3,hg _ hp];rfl),q⟩
    ·refine .inr ⟨n,nV (g i.toNat),rfl,?_,q⟩
     have:=DGet.k (H:=upd H D (.lst l)) (a:=n) (kvs:=kvs) (k:=.inl i) (by rw[jd nnD];exact e)
     rw[show valV kvs (.inl i)=some (nV (g i.toNat))by rw[<-hg _ hp];congr 2;omega]at this
     exact this
  ·rw[em]
   refine jdm jc λt ht=>?_
   refine k t _ ?_ jc (((Kp.refl [] H).new hD).new ht)
   have:t≠D:=λz=>by rw[z,jc]at ht;cases ht
   rwa[jd this]at ht
end
def hsF(hs:List Nat):Nat->Nat:=λi=>hs.getD i 0
structure HI(R:List Row)(hs:List Nat)(kvs:List (Row×V)):Prop where
 le:∀j,j<hs.length->hsF hs j<=j
 same:∀j,j<hs.length->RwA R (hsF hs) (hsF hs j)=RwA R (hsF hs) j
 first:∀j,j<hs.length->∀j',j'<hsF hs j->RwA R (hsF hs) j'≠RwA R (hsF hs) j
 d1:∀k v,valV kvs k=some v->∃j,j<hs.length/\v=nV j/\RwA R (hsF hs) j=k/\∀j',j'<j->RwA R (hsF hs) j'≠k
 d2:∀k,valV kvs k=none->∀j,j<hs.length->RwA R (hsF hs) j≠k
 len:kvs.length<=hs.length
theorem jfu{hs:List Nat}{e j:Nat}(h:j<hs.length):hsF (hs++[e]) j=hsF hs j:=by
 unfold hsF
 rw[Ag,A1 h,<-Ag]
theorem jhv{hs:List Nat}{e:Nat}:hsF (hs++[e]) hs.length=e:=by
 unfold hsF
 rw[Ag];simp
theorem jpb{R:List Row}(ok:OkR R){hs:List Nat}{e j:Nat}(hj:j<=hs.length)(hl:j<R.length):RwA R (hsF (hs++[e])) j=RwA R (hsF hs) j :=
 jfp λp hp=>jfu (by have:=jd6 (ok.d hl) hp;omega)
theorem HI.step{R:List Row}(ok:OkR R){hs:List Nat}{kvs kvs':List (Row×V)}{e:Nat}(h:HI R hs kvs)(hl:hs.length<R.length)(he:e<=hs.length)(sm:RwA R (hsF hs) e=RwA R (hsF hs) hs.length)(fi:∀j,j<e->RwA R (hsF hs) j≠RwA R (hsF hs) hs.length)
  (hk:∀k,valV kvs' k=if k=RwA R (hsF hs) hs.length then some (nV e)else valV kvs k) (ln:kvs'.length<=hs.length+1):HI R (hs++[e]) kvs':=by
 have ag:∀j,j<=hs.length->RwA R (hsF (hs++[e])) j=RwA R (hsF hs) j:=λj hj=>jpb ok hj (by omega)
 have cs:∀j,j<(hs++[e]).length->j<hs.length\/j=hs.length:=λj hj=>by simp at hj;omega
 refine⟨λj hj=>?_,λj hj=>?_,λj hj j' hj'=>?_,λk v hv=>?_,λk hv j hj=>?_,by simpa using ln⟩
 ·rcases cs j hj with h1|rfl
  ·rw[jfu h1];exact h.le j h1
  ·rw[jhv];exact he
 ·rcases cs j hj with h1|rfl
  ·rw[jfu h1,ag _ (by have:=h.le j h1;omega),ag _ (by omega)];exact h.same j h1
  ·rw[jhv,ag _ he,ag _ (Af _)];exact sm
 ·rcases cs j hj with h1|rfl
  ·rw[jfu h1]at hj'
   rw[ag _ (by have:=h.le j h1;omega),ag _ (by omega)];exact h.first j h1 j' hj'
  ·rw[jhv]at hj'
   rw[ag _ (by omega),ag _ (Af _)];exact fi j' hj'
 ·rw[hk]at hv
  by_cases c:k=RwA R (hsF hs) hs.length
  ·rw[Ad c]at hv
   cases hv
   exact⟨e,by simp;omega,rfl,by rw[ag _ he,sm,c],λj' hj'=>by rw[ag _ (by omega),c];exact fi j' hj'⟩
  ·rw[Aa c]at hv
   obtain⟨j,h1,h2,h3,h4⟩:=h.d1 k v hv
   exact⟨j,by simp;omega,h2,by rw[ag _ (by omega)];exact h3,λj' hj'=>by rw[ag _ (by omega)];exact h4 j' hj'⟩
 ·rw[hk]at hv
  by_cases c:k=RwA R (hsF hs) hs.length
  ·rw[Ad c]at hv;cases hv
  ·rw[Aa c]at hv
   rcases cs j hj with h1|rfl
   ·rw[ag _ (by omega)];exact h.d2 k hv j h1
   ·rw[ag _ (Af _)];exact λz=>c z.symm
def spHO(K:PySem.W.Frag):Sp:=λvs H Q _=>∃(a:Addr)(us:List V)(R:List Row),vs=[.ref a]/\SqT K H a us/\RowsT H us R/\OkR R/\(∀r∈R,r.length<=100)/\R.length<=20000 /\
 ∀p hs H',Hd R (hsF hs)->hs.length=R.length->H p=none->H' p=some (.lst (hs.map nV))->Kp [] H H'->Q (.ref p) H'
structure THO(mg:Str->Option Value)(fw:Addr):Prop where
 n_enumerate:mg "enumerate"=none
 m5z:mg "with_parts"=some (.ref fw)
section
variable{P:Program}{w:World}{K:PySem.W.Frag}{mg:Str->Option Value}{base:Heap}
abbrev y4:Stmt:=top 18
theorem zw:FnScope ["rows","heads","first","at","row"] ["rows"] (ji y4):=⟨rfl,rfl,rfl,by decide +kernel,rfl,by decide +kernel,by decide +kernel⟩
theorem ok_heads_of{f fw:Addr}{fd fdw:FuncData}(F:Fun K "heads_of" "heads_of" y4 f fd)(T:THO mg fw)(F5z:Fun K "with_parts" "with_parts" yc fw fdw)(b5z:Binds K fdw ["row","numbers"] [])
  (G5z:FnOk P w K mg base CX0 1 fw fdw ["row","numbers"] spWP):FnOk P w K mg base CX0 2 f fd ["rows"] (spHO K):=by
 refine F.ok zw (λvs H Q E h=>?_) (λcdv A outer s H vs Q E hr h=>?_)
 ·obtain⟨a,us,R,rfl,_⟩:=h
  rfl
 ·obtain⟨a,us,R,rfl,hS,rt,ok,r3,l2,k⟩:=h
  have hu:=hr.units
  have hsz:sizeLine=16777216:=Ao
  have hu1:(A.deeper (PyProof.Rows.envOfC (Str.ofString "heads_of") (ji y4) s.heap.objs.size f cdv)).units+1<cLine:=by omega
  have ul:us.length=R.length:=Ip rt
  refine exQ (je (jm (i:=1) zw.nd rfl (by first|exact Or.inl rfl|exact Or.inr rfl) (j6 jb))
  (je (jm (i:=2) zw.nd rfl (by first|exact Or.inl rfl|exact Or.inr rfl) qpe_dnewT)
  (je (zm Ii rfl (qpi_enumT (K:=K) rfl rfl T.n_enumerate (ja (qpv 0) jb)) (jbn (n:=2) rfl (z4 (kj (i:=3) zw.nd rfl (by first|exact Or.inl rfl|exact Or.inr rfl)) (z4 (kj (i:=4) zw.nd rfl (by first|exact Or.inl rfl|exact Or.inr rfl)) jbf)) (K:=K) rfl) (jg (jz (yb Az A0 kc (qpv 1) (ja (qpe_dsetT hu1 (qpv 2) (jk G5z (hr.mono (by decide)) rfl T.m5z F5z.kp b5z .nil jo (ja (qpv 4) (ja (qpv 1) jb))) (qpv 3) ⟨rfl,rfl,rfl,rfl⟩) jb) jct))))
  (jg (jp (qpv 1)))))) ?_
  simp!
  refine⟨by omega,λp hp d hd=>?_⟩
  have npd:p≠d:=jh jc hd
  have k0:Kp [] H (upd (upd H p (.lst [])) d (.dT [])):=((Kp.refl [] H).new hp).new hd
  have hd0:H d=none:=by rwa[jd npd.symm]at hd
  refine⟨⟨us,k0.sqT (by simp) hS⟩,?_⟩
  refine joe (xs:=us) (λi σ H'=>∃(hs:List Nat)(kvs:List (Row×V))(v3 v4:Option V),σ=[some (.ref a),some (.ref p),some (.ref d),v3,v4]/\hs.length=i/\HI R hs kvs/\H' p=some (.lst (hs.map nV))/\H' d=some (.dT kvs)/\Kp [] H H') ?_ ?_ ?_ ?_
  ·exact⟨[],[],none,none,rfl,rfl,⟨λj h=>by simp at h,λj h=>by simp at h,λj h=>by simp at h,λk v h=>by simp[valV]at h,λk _ j h=>by simp at h,Af _⟩,by rw[jd npd,jc];rfl,jc,k0⟩
  ·rintro i σ H' _ ⟨hs,kvs,v3,v4,rfl,_,_,_,_,kp⟩
   exact kp.sqT (by simp) hS
  ·rintro i x σ H1 t hx ⟨hs,kvs,v3,v4,rfl,hl,hi,h1,h2,kp⟩ ht
   have hil:i<R.length:=by rw[<-ul];exact(Ai.mp hx).1
   obtain⟨c,hc,hcr⟩:=(rt.kp kp).get hil
   rw[hx]at hc
   cases hc
   refine⟨t,[.int (i:Int),.ref c],rfl,SqT.of jc,rfl,⟨_,_,rfl,⟨_,_,rfl,rfl,?_⟩⟩⟩
   have kT:Kp [] H1 (upd H1 t (.tup [.int (i:Int),.ref c])):=(Kp.refl [] H1).new ht
   generalize upd H1 t (.tup [.int (i:Int),.ref c])=H2 at kT⊢
   have h12:=kT.old _ _ h1 Ap
   have h22:=kT.old _ _ h2 Ap
   have rl:=r3 _ (A6 (show R[i]?=some (R.getD i [])by rw[Ag,An hil];rfl))
   simp! [h12]
   refine⟨.inr ⟨kvs,.inl h22⟩,c,p,R.getD i [],hsF hs,rfl,kT.tup _ _ hcr,(ok.d hil).nn,rl,.inl ⟨hs,h12,λq hq=>?_⟩,λq H3 hq0 hq3 k3=>?_⟩
   ·have:=jd6 (ok.d hil) hq
    unfold hsF
    rw[Ag,An (by omega)];rfl
   have h13:=k3.old _ _ h12 Ap
   have h23:=k3.old _ _ h22 Ap
   have kp3:Kp [] H H3:=kp.trans (kT.trans k3)
   have kl:=hi.len
   subst hl
   refine⟨kvs,h23,RwA R (hsF hs) hs.length,q,rfl,hq3,by omega,λv hv=>?_,λhv=>?_⟩
   ·obtain⟨j,j1,rfl,j3,j4⟩:=hi.d1 _ v hv
    rw[h13]
    refine⟨_,rfl,by rw[Ae];omega,hs++[j],kvs,_,_,⟨rfl,rfl⟩,by simp,hi.step ok hil (by omega) j3 j4 (λk=>?_) (by omega),by rw[Is];rfl,by rw[jd npd.symm];exact h23,kp3.set h13 (.inr hp)⟩
    by_cases c:k=RwA R (hsF hs) hs.length
    ·rw[Ad c,c];exact hv
    ·rw[Aa c]
   ·rw[jd npd,h13]
    have kd:Kp [] H (upd H3 d (.dT (putK kvs (RwA R (hsF hs) hs.length) (V.int (hs.length:Int))))):=kp3.setD h23 (.inr hd0)
    refine⟨_,rfl,by rw[Ae];omega,hs++[hs.length],_,_,_,⟨rfl,rfl⟩,by simp,hi.step (kvs':=putK kvs (RwA R (hsF hs) hs.length) (V.int (hs.length:Int))) ok hil (Af _) rfl (λj hj=>hi.d2 _ hv j hj) (λk=>jkx _ _ _ _) (by have:=jdd kvs (RwA R (hsF hs) hs.length) (V.int (hs.length:Int));omega),by rw[Is];rfl,by rw[jd npd.symm,jc],kd.set (by rw[jd npd];exact h13) (.inr hp)⟩
  ·rintro σ H1 ⟨hs,kvs,v3,v4,rfl,hl,hi,h1,h2,kp⟩
   simp!
   exact k p hs H1 ⟨λi hi'=>hi.le i (by omega),λi hi'=>hi.same i (by omega),λi hi'=>hi.first i (by omega)⟩ (by omega) hp h1 kp
end
theorem jff:∀{l zs:List Nat},l.Nodup->(∀x∈l,x∈zs)->l.length<=zs.length
 |[],_,_,_=>Ia _
 |x::l,zs,nd,h=>by
  obtain⟨hx,nd'⟩:=Ov.mp nd
  have hm:=h x (.head _)
  have:=jff (l:=l) (zs:=zs.erase x) nd' λy hy=>(List.mem_erase_of_ne (λe:y=x=>hx (e▸hy))).mpr (h y (.tail _ hy))
  rw[List.length_erase_of_mem hm]at this
  have hp:0<zs.length:=List.length_pos_of_mem hm
  rw[List.length_cons]
  omega
theorem jln{S:List Addr}{H H1:Hp}(k:Kp S H H1){b:Addr}{kvs:List (Key×V)}{o:HO}(hb:H1 b=some (.dK kvs))(h:b∈S\/H b=none):Kp S H (upd H1 b o):=by
 have ne:∀c u,H c=some u->c∉S->c≠b:=λc u e n z=>by
  subst z
  rcases h with h|h
  ·exact n h
  ·rw[h]at e;cases e
 refine⟨λc u e n=>by rw[jd (ne c u e n)];exact k.old c u e n,λc ys e=>?_,λc u e=>?_⟩
 ·have e1:=k.tup c ys e
  have:c≠b:=λz=>by rw[z,hb]at e1;cases e1
  rw[jd this];exact e1
 ·obtain⟨o',e'⟩:=k.dom c u e
  by_cases q:c=b
  ·subst q;exact⟨o,jc⟩
  ·exact⟨o',by rw[jd q];exact e'⟩
theorem joh(l:List Nat):l=[]\/∃s v,l=s++[v]:=by
 rcases List.eq_nil_or_concat l with h|⟨s,v,h⟩
 ·exact .inl h
 ·exact .inr ⟨s,v,by simpa using h⟩
def outR(R:List Row)(h:Nat->Nat)(dn:List Nat):List Row:=dn.map λv=>wpR (λx=>dn.idxOf x) (RwA R h v)
structure LI(R:List Row)(h:Nat->Nat)(st dn:List Nat)(kvs:List (L2.Key×V)):Prop where
 fin:st.foldr (λv d=>wk (chd R h) v d) dn=ordR R h
 dec:st.Pairwise (λa b=>b<a)
 nst:∀v∈st,v∉dn/\v<R.length
 nd:dn.Nodup
 lt:∀v∈dn,v<R.length
 num:∀x:Nat,valV kvs (.inl (x:Int))=if x∈dn then some (nV (dn.idxOf x))else none
 kl:kvs.length<=dn.length
 inn:∀v∈dn,∀p∈chd R h v,p∈dn
theorem LI.bound{R:List Row}{h:Nat->Nat}{st dn:List Nat}{kvs:List (L2.Key×V)}(I:LI R h st dn kvs):st.length+dn.length<=R.length:=by
 have nd:(st++dn).Nodup:=by
  rw[Uc]
  refine⟨I.dec.imp λh=>by omega,I.nd,λa ha b hb e=>(I.nst a ha).1 (e▸hb)⟩
 have:=jff (zs:=List.range R.length) nd λx hx=>Ud.mpr (by
  rcases Ie.mp hx with h|h
  ·exact(I.nst x h).2
  ·exact I.lt x h)
 rw[Ay,List.length_range]at this
 exact this
theorem LI.push{R:List Row}{h:Nat->Nat}{st dn:List Nat}{v p:Nat}{rest:List Nat}{kvs:List (L2.Key×V)}(d:Dn (chd R h) R.length)(I:LI R h (st++[v]) dn kvs)(hf:(chd R h v).filter (λq=>!decide (q∈dn))=p::rest):LI R h (st++[v]++[p]) dn kvs:=by
 have hv:=(I.nst v (by simp)).2
 have hp:p∈(chd R h v).filter (λq=>!decide (q∈dn)):=by rw[hf];exact .head _
 obtain⟨hp1,hp2⟩:=U8.mp hp
 have pv:=d v hv p hp1
 refine⟨?_,?_,?_,I.nd,I.lt,I.num,I.kl,I.inn⟩
 ·rw[<-I.fin,U1,U1,U1]
  show List.foldr _ (wk _ v (wk _ p dn)) st=List.foldr _ (wk _ v dn) st
  rw[jqf d hv hf]
 ·rw[Up]
  refine⟨I.dec,by simp,λa ha b hb=>?_⟩
  simp at hb
  subst hb
  rcases Ie.mp ha with h1|h1
  ·have:=(Up.mp I.dec).2.2 a h1 v (by simp)
   omega
  ·simp at h1;omega
 ·intro u hu
  rcases Ie.mp hu with h1|h1
  ·exact I.nst u h1
  ·simp at h1;subst h1;exact⟨by simpa using hp2,by omega⟩
theorem LI.pop{R:List Row}{h:Nat->Nat}{st dn:List Nat}{v:Nat}{kvs:List (L2.Key×V)}(d:Dn (chd R h) R.length)(I:LI R h (st++[v]) dn kvs)(hf:(chd R h v).filter (λq=>!decide (q∈dn))=[]):LI R h st (dn++[v]) (putK kvs (.inl (v:Int)) (nV dn.length)):=by
 obtain⟨hv1,hv2⟩:=I.nst v (by simp)
 have all:∀p∈chd R h v,p∈dn:=λp hp=>by
  have:=List.filter_eq_nil_iff.mp hf p hp
  simpa using this
 have cs:∀u∈dn++[v],u∈dn\/u=v:=λu hu=>by simpa using hu
 refine⟨?_,(Up.mp I.dec).1,λu hu=>?_,?_,λu hu=>?_,λx=>?_,?_,λu hu p hp=>?_⟩
 ·rw[<-I.fin,U1]
  show List.foldr _ (dn++[v]) st=List.foldr _ (wk _ v dn) st
  rw[jqg d hv2 hf]
 ·obtain⟨h1,h2⟩:=I.nst u (by simp[hu])
  have:=(Up.mp I.dec).2.2 u hu v (by simp)
  exact⟨λz=>(cs u z).elim h1 (by omega),h2⟩
 ·rw[Uc]
  exact⟨I.nd,by simp,λa ha b hb e=>hv1 ((e.trans (Ak.mp hb))▸ha)⟩
 ·rcases cs u hu with h1|rfl
  ·exact I.lt u h1
  ·exact hv2
 ·rw[jkx,I.num]
  by_cases c:x=v
  ·subst c
   rw[Ad rfl,Ad (by simp),List.idxOf_append,Aa hv1]
   simp
  ·rw[Aa (by simpa using λz:(x:Int)=v=>c (by omega))]
   by_cases hx:x∈dn
   ·rw[Ad hx,Ad (by simp[hx]),jbg hx]
   ·rw[Aa hx,Aa (by simp[hx,c])]
 ·have:=jdd kvs (.inl (v:Int)) (nV dn.length)
  have:=I.kl
  rw[Ay]
  simp only[List.length_cons,List.length_nil]
  omega
 ·rcases cs u hu with h1|rfl
  ·exact Og _ (I.inn u h1 p hp)
  ·exact Og _ (all p hp)
theorem jpy{R:List Row}{h:Nat->Nat}{dn:List Nat}{v:Nat}(inn:∀v∈dn,∀p∈chd R h v,p∈dn)(hv:∀p∈chd R h v,p∈dn):outR R h (dn++[v])=outR R h dn++[wpR (λx=>dn.idxOf x) (RwA R h v)]:=by
 unfold outR
 rw[Is]
 congr 1
 ·exact O3 λu hu=>jfp λp hp=>jbg (inn u hu p hp)
 ·show[_]=[_]
  congr 1
  exact jfp λp hp=>jbg (hv p hp)
def notI(dn:List Nat):V->Bool
 |.int i=>!decide (i.toNat∈dn)
 |_=>false
theorem joi(dn ps:List Nat):(ps.map nV).filter (notI dn)=(ps.filter λq=>!decide (q∈dn)).map nV:=by
 rw[List.filter_map]
 congr 1
def spIO(K:PySem.W.Frag):Sp:=λvs H Q _=>∃(a:Addr)(us:List V)(R:List Row),vs=[.ref a]/\SqT K H a us/\RowsT H us R/\OkR R/\(∀r∈R,r.length<=100)/\1<=R.length/\R.length<=20000 /\
 ∀q us' F H',TidP R F->H q=none->H' q=some (.tup us')->RowsT H' us' F->Kp [] H H'->Q (.ref q) H'
structure TIO(mg:Str->Option Value)(fh fw fp:Addr):Prop where
 n_len:mg "len"=none
 n_tuple:mg "tuple"=none
 m21z:mg "heads_of"=some (.ref fh)
 m5z:mg "with_parts"=some (.ref fw)
 m23z:mg "parts_of"=some (.ref fp)
section
variable{P:Program}{w:World}{K:PySem.W.Frag}{mg:Str->Option Value}{base:Heap}
abbrev yt:Stmt:=top 17
theorem zg:FnScope ["rows","heads","numbers","ordered","due","row","lacking"] ["rows"] (ji yt):=⟨rfl,rfl,rfl,by decide +kernel,rfl,by decide +kernel,by decide +kernel⟩
theorem ok_in_order{f fh fw fp:Addr}{fd fdh fdw fdp:FuncData}(F:Fun K "in_order" "in_order" yt f fd)(T:TIO mg fh fw fp)(F21z:Fun K "heads_of" "heads_of" y4 fh fdh)(b21z:Binds K fdh ["rows"] [])
  (G21z:FnOk P w K mg base CX0 2 fh fdh ["rows"] (spHO K)) (F5z:Fun K "with_parts" "with_parts" yc fw fdw) (b5z:Binds K fdw ["row","numbers"] [])
  (G5z:FnOk P w K mg base CX0 1 fw fdw ["row","numbers"] spWP) (F23z:Fun K "parts_of" "parts_of" y6 fp fdp) (b23z:Binds K fdp ["row"] [])
  (G23z:FnOk P w K mg base CX0 1 fp fdp ["row"] jlu):FnOk P w K mg base CX0 3 f fd ["rows"] (spIO K):=by
 refine F.ok zg (λvs H Q E h=>?_) (λcdv A outer s H vs Q E hr h=>?_)
 ·obtain⟨a,us,R,rfl,_⟩:=h
  rfl
 ·obtain⟨a,us,R,rfl,hS,rt,ok,r3,l1,l2,k⟩:=h
  have hu:=hr.units
  have hsz:sizeLine=16777216:=Ao
  have hu1:(A.deeper (PyProof.Rows.envOfC (Str.ofString "in_order") (ji yt) s.heap.objs.size f cdv)).units+1<cLine:=by omega
  have ul:us.length=R.length:=Ip rt
  refine exQ (je (jm (i:=1) zg.nd rfl (by first|exact Or.inl rfl|exact Or.inr rfl) (jk G21z (hr.mono (by decide)) rfl T.m21z F21z.kp b21z .nil jo (ja (qpv 0) jb)))
  (je (jm (i:=2) zg.nd rfl (by first|exact Or.inl rfl|exact Or.inr rfl) qpe_disp0)
  (je (jm (i:=3) zg.nd rfl (by first|exact Or.inl rfl|exact Or.inr rfl) (j6 jb))
  (je (jm (i:=4) zg.nd rfl (by first|exact Or.inl rfl|exact Or.inr rfl) (j6 (ja (jv ix_U (qpv 1) (jau jef jf) (λ_ _=>rfl)) jb)))
  (je (jaz Ii (jbd (qpv 4)) (je (jm (i:=5) zg.nd rfl (by first|exact Or.inl rfl|exact Or.inr rfl) (jk G5z (hr.mono (by decide)) rfl T.m5z F5z.kp b5z .nil jo (ja (jv jcd (qpv 0) (jv ix_U (qpv 4) (jau jef jf) (λ_ _=>rfl)) (λ_ _=>rfl)) (ja (qpv 1) jb))))
  (je (qps_setcIf (i:=6) zg.nd rfl (by first|exact Or.inl rfl|exact Or.inr rfl) rfl (jd1 (sc:=ji yt) (N:=["rows","heads","numbers","ordered","due","row","lacking"]) (Nc:=["part","numbers"]) (js:=[none,some 2]) (by decide +kernel)) (jaq (K:=K) (jk G23z (hr.mono (by decide)) rfl T.m23z F23z.kp b23z .nil jo (ja (qpv 5) jb)) rfl) (λ_ _ _ _=>(kj (i:=0) (show List.Nodup [("part":Str),("numbers":Str)]from by decide +kernel) rfl (by first|exact Or.inl rfl|exact Or.inr rfl))) (λ_ _ _ _=>(jbo (qpc_dnotin hu1 (qpv 0) (qpv 1)) (by with_unfolding_all rfl))) (λ_ _ _ _=>(qpv 0)))
  (yw (jy (jbd (qpv 6)) (je (jz (yb Az A0 kc (qpv 4) (ja (jv ix_U (qpv 6) jf (λ_ _=>rfl)) jb) jct))
  (jg qps_continue)) j7)
  (je (qps_dput hu1 (qpv 2) (jah Iy Iz jaf (qpv 4) jct) (jr j9 (by rfl) T.n_len ku (ja (qpv 3) jb)) rfl)
  (jg (jz (yb Az A0 kc (qpv 3) (ja (jk G5z (hr.mono (by decide)) rfl T.m5z F5z.kp b5z .nil jo (ja (qpv 5) (ja (qpv 2) jb))) jb) jct))))))))
  (jg (jp (yr zt (by rfl) T.n_tuple jae (ja (qpv 3) jb))))))))) ?_
  simp!
  refine⟨a,us,R,rfl,hS,rt,ok,r3,l2,λph hs H1 hd hl hp0 hp1 k1=>?_⟩
  have d:=jj0 ok hd
  intro pn hn
  refine⟨by omega,λpo ho=>?_⟩
  have npo:pn≠po:=jh jc ho
  have nhn:ph≠pn:=jh hp1 hn
  have nho:ph≠po:=jh (by rw[jd nhn];exact hp1) ho
  have e2:upd (upd H1 pn (.dK [])) po (.lst []) ph=some (.lst (hs.map nV)):=by rw[jd nho,jd nhn];exact hp1
  rw[jec,e2]
  refine⟨_,rfl,nV (hsF hs (R.length-1)),jjw ?_,by omega,λpd hpd=>?_⟩
  ·rw[Ae,A3,hl]
   unfold hsF
   rw[Ag,An (by omega)];rfl
  have npd:pn≠pd:=jh (by rw[jd npo,jc]) hpd
  have nod:po≠pd:=jh jc hpd
  have nhd:ph≠pd:=jh e2 hpd
  have kk:Kp [] H (upd (upd (upd H1 pn (.dK [])) po (.lst [])) pd (.lst [nV (hsF hs (R.length-1))])):=((k1.new hn).new ho).new hpd
  have hn0:H pn=none:=k1.free hn
  have ho0:H po=none:=(k1.new hn).free ho
  have hd0:H pd=none:=((k1.new hn).new ho).free hpd
  refine⟨λm σ H'=>∃(st dn:List Nat)(kvs:List (L2.Key×V))(os:List V)(v5 v6:Option V),σ=[some (.ref a),some (.ref ph),some (.ref pn),some (.ref po),some (.ref pd),v5,v6]/\LI R (hsF hs) st dn kvs/\m=2*(R.length-dn.length)-st.length /\
   H' ph=some (.lst (hs.map nV))/\H' pn=some (.dK kvs)/\H' po=some (.lst os)/\RowsT H' os (outR R (hsF hs) dn)/\H' pd=some (.lst (st.map nV))/\Kp [] H H',?_,?_⟩
  ·refine⟨_,[hsF hs (R.length-1)],[],[],[],none,none,rfl,⟨rfl,by simp,λv hv=>?_,Wk,by simp,λx=>by simp[valV],Af _,by simp⟩,rfl,?_,?_,?_,.nil,jc,kk⟩
   ·simp at hv
    subst hv
    have:=hd.le (R.length-1) (by omega)
    exact⟨by simp,by omega⟩
   ·rw[jd nhd];exact e2
   ·rw[jd npd,jd npo,jc]
   ·rw[jd nod,jc]
  rintro m σ H2 ⟨st,dn,kvs,os,v5,v6,rfl,I,rfl,g1,g2,g3,g4,g5,kp⟩
  simp! [g5]
  have hsq:∀q,q<R.length->hs[q]?=some (hsF hs q):=λq hq=>by
   unfold hsF
   rw[Ag,An (by omega)];rfl
  rcases joh st with rfl|⟨s0,v,rfl⟩
  ·rw[Aa (by simp)]
   refine jdm g3 λl hl3=>k l os _ _ ⟨hsF hs,hd,?_⟩ (kp.free hl3) jc (g4.kp ((Kp.refl [] _).new hl3)) (kp.new hl3)
   have:dn=ordR R (hsF hs):=I.fin
   rw[this];rfl
  rw[Ad (by simp)]
  obtain⟨hv1,hv2⟩:=I.nst v (by simp)
  obtain⟨c,hc,hcr⟩:=(rt.kp kp).get hv2
  have rl:=r3 _ (A6 (show R[v]?=some (R.getD v [])by rw[Ag,An hv2];rfl))
  have bd:=I.bound
  rw[Ay,List.length_cons,List.length_nil]at bd
  have kl:=I.kl
  have ol:os.length=dn.length:=by rw[Ip g4];simp[outR]
  refine⟨_,λ_ _ h=>h,nV v,by rw[Is];exact jga _ _,⟨a,us,(v:Int),.ref c,rfl,rfl,kp.sqT (by simp) hS,jdv hc,?_⟩⟩
  refine⟨c,ph,R.getD v [],hsF hs,rfl,hcr,(ok.d hv2).nn,rl,.inl ⟨hs,g1,λq hq=>hsq q (by have:=jd6 (ok.d hv2) hq;omega)⟩,λq H3 hq0 hq3 k3=>?_⟩
  have wl:(RwA R (hsF hs) v).length<=100:=by unfold RwA wpR;rw[Ae];exact rl
  refine⟨q,RwA R (hsF hs) v,rfl,hq3,jik _ _,wl,λpp hpp=>?_⟩
  have k4:Kp [] H3 (upd H3 pp (.lst ((ptR (RwA R (hsF hs) v)).map nV))):=(Kp.refl [] H3).new hpp
  have e4:upd H3 pp (.lst ((ptR (RwA R (hsF hs) v)).map nV)) pp=some (.lst ((ptR (RwA R (hsF hs) v)).map nV)):=jc
  generalize upd H3 pp (.lst ((ptR (RwA R (hsF hs) v)).map nV))=H4 at k4 e4⊢
  have k24:=k3.trans k4
  have g14:=k24.old _ _ g1 Ap
  have g24:=k24.old _ _ g2 Ap
  have g34:=k24.old _ _ g3 Ap
  have g44:=g4.kp k24
  have g54:=k24.old _ _ g5 Ap
  have hq4:=k4.tup _ _ hq3
  have kp4:Kp [] H H4:=kp.trans k24
  simp! [e4]
  intro D hD
  have nnD:pn≠D:=jh g24 hD
  have pl:(ptR (RwA R (hsF hs) v)).length<=100:=Ib (List.length_filterMap_le _ _) wl
  refine jk0 (notI dn) id e4 hD (by rw[Ae];omega) (λx hx l Q' q=>?_) (λx hx _ l Q' q=>?_) λvv=>?_
  ·obtain⟨y,hy,rfl⟩:=A7.mp hx
   simp!
   refine⟨_,DGet.k (k:=.inl (y:Int)) (by rw[jd nnD];exact g24),?_⟩
   rw[I.num y]
   have:notI dn (nV y)=!(if y∈dn then some (nV (dn.idxOf y))else none).isSome:=by
    show(!decide (y∈dn))=_
    by_cases h:y∈dn <;> simp[h]
   rw[<-this]
   exact q
  ·simp!
   exact q
  rw[List.map_id,joi]
  have kD:Kp [] H4 (upd H4 D (.lst (((ptR (RwA R (hsF hs) v)).filter λq=>!decide (q∈dn)).map nV))):=(Kp.refl [] H4).new hD
  have eD:upd H4 D (.lst (((ptR (RwA R (hsF hs) v)).filter λq=>!decide (q∈dn)).map nV)) D=some (.lst (((ptR (RwA R (hsF hs) v)).filter λq=>!decide (q∈dn)).map nV)):=jc
  generalize upd H4 D (.lst (((ptR (RwA R (hsF hs) v)).filter λq=>!decide (q∈dn)).map nV))=H5 at kD eD⊢
  have g15:=kD.old _ _ g14 Ap
  have g25:=kD.old _ _ g24 Ap
  have g35:=kD.old _ _ g34 Ap
  have g45:=g44.kp kD
  have g55:=kD.old _ _ g54 Ap
  have hq5:=kD.tup _ _ hq4
  have kp5:Kp [] H H5:=kp4.trans kD
  clear g14 g24 g34 g44 g54 hq4 kp4 kD k4 k24 k3 hq3 g1 g2 g3 g4 g5 kp hD hpp
  cases hf:(ptR (RwA R (hsF hs) v)).filter λq=>!decide (q∈dn)with
  |cons p1 rest =>
   rw[hf]at eD
   refine⟨λ_ _=>False,?_,λ_ _ h=>h.elim⟩
   simp! [eD,g55]
   rw[Ad (show(!(nV p1::List.map nV rest).isEmpty)=true from rfl)]
   have I':=I.push d hf
   have bd':=I'.bound
   have ll:(s0++[v]++[p1]).length=(s0++[v]).length+1:=by simp
   have l0:(s0++[v]).length=s0.length+1:=by simp
   refine⟨by rw[Ae];omega,_,?_,s0++[v]++[p1],dn,kvs,os,_,_,⟨rfl,rfl⟩,I',rfl,?_,?_,?_,?_,?_,kp5.set g55 (.inr hd0)⟩
   ·omega
   ·rw[jd nhd];exact g15
   ·rw[jd npd];exact g25
   ·rw[jd nod];exact g35
   ·exact g45.kp ((Kp.refl [pd] H5).set g55 (.inl (.head _)))
   ·rw[Is (l₁:=s0++[v])];rfl
  |nil =>
   rw[hf]at eD
   refine⟨λσ' H'=>σ'=[some (.ref a),some (.ref ph),some (.ref pn),some (.ref po),some (.ref pd),some (.ref q),some (.ref D)]/\H5=H',?_,?_⟩
   ·simp! [eD]
    rw[Aa (by simp)]
    trivial
   rintro _ _ ⟨rfl,rfl⟩
   have I':=I.pop d hf
   have all:∀p∈chd R (hsF hs) v,p∈dn:=λp hp=>by
    have:=List.filter_eq_nil_iff.mp hf p hp
    simpa using this
   have dl:(List.map nV (s0++[v])).dropLast=s0.map nV:=by simp
   simp! [g35,g55]
   rw[ol,dl]
   refine⟨nV v,by simp,upd (upd H5 pd (.lst (s0.map nV))) pn (.dK (putK kvs (.inl (v:Int)) (nV dn.length))),DPut.k (k:=.inl (v:Int)) (v:=nV dn.length) (by rw[jd npd];exact g25) (by omega),?_⟩
   have k6:Kp [pd,pn] H5 (upd (upd H5 pd (.lst (s0.map nV))) pn (.dK (putK kvs (.inl (v:Int)) (nV dn.length)))):=jln ((Kp.refl [pd,pn] H5).set g55 (.inl (.head _))) (by rw[jd npd];exact g25) (.inl (by simp))
   have kp6:Kp [] H (upd (upd H5 pd (.lst (s0.map nV))) pn (.dK (putK kvs (.inl (v:Int)) (nV dn.length)))):=jln (kp5.set g55 (.inr hd0)) (by rw[jd npd];exact g25) (.inr hn0)
   have e6n:upd (upd H5 pd (.lst (s0.map nV))) pn (.dK (putK kvs (.inl (v:Int)) (nV dn.length))) pn=some (.dK (putK kvs (.inl (v:Int)) (nV dn.length))):=jc
   have e6d:upd (upd H5 pd (.lst (s0.map nV))) pn (.dK (putK kvs (.inl (v:Int)) (nV dn.length))) pd=some (.lst (s0.map nV)):=by rw[jd npd.symm,jc]
   generalize upd (upd H5 pd (.lst (s0.map nV))) pn (.dK (putK kvs (.inl (v:Int)) (nV dn.length)))=H6 at k6 kp6 e6n e6d⊢
   have e6o:=k6.old _ _ g35 (by simp[nod,npo.symm])
   have e6h:=k6.old _ _ g15 (by simp[nhd,nhn])
   refine⟨by rw[e6o];rfl,q,pn,RwA R (hsF hs) v,λx=>dn.idxOf x,rfl,k6.tup _ _ hq5,jik _ _,wl,.inr ⟨_,e6n,λp hp=>?_⟩,λq2 H7 hq20 hq27 k7=>?_⟩
   ·rw[I'.num p,Ad (Og _ (all p hp)),jbg (all p hp)]
   have e7o:=k7.old _ _ e6o Ap
   have e7n:=k7.old _ _ e6n Ap
   have e7d:=k7.old _ _ e6d Ap
   have e7h:=k7.old _ _ e6h Ap
   have l0:(s0++[v]).length=s0.length+1:=by simp
   have l1':(dn++[v]).length=dn.length+1:=by simp
   have k8:Kp [po] H7 (upd H7 po (.lst (os++[.ref q2]))):=(Kp.refl [po] H7).set e7o (.inl (.head _))
   refine⟨os,by rw[e7o];rfl,by omega,_,?_,s0,dn++[v],_,os++[.ref q2],_,_,⟨rfl,rfl⟩,I',rfl,?_,?_,rfl,?_,?_,(kp6.trans k7).set e7o (.inr ho0)⟩
   ·omega
   ·rw[jd nho];exact e7h
   ·rw[jd npo];exact e7n
   ·rw[jpy I.inn all]
    exact Wm ((((g45.kp k6).kp k7)).kp k8) ⟨q2,rfl,k8.tup _ _ hq27⟩
   ·rw[jd nod.symm];exact e7d
end
inductive W4 where
 |par|op (w:BW)|no
def ws:W4->Str
 |.par=>"("
 |.op w=>ew w
 |.no=>"not"
def bpi:W4->Int
 |.par=>-1
 |.op .or=>0
 |.op .and=>1
 |.op .beh=>2
 |.no=>3
inductive Bd (k:Int):List W4->List Nat->List RE->List W4->List Nat->List RE->Prop
 |nil {rd:List Nat}{R:List RE}:Bd k [] rd R [] rd R
 |stop {w:W4}{wt:List W4}{rd:List Nat}{R:List RE}:bpi w<k->Bd k (w::wt) rd R (w::wt) rd R
 |no {wt:List W4}{l:Nat}{rd:List Nat}{R:List RE}{a:List W4}{b:List Nat}{c:List RE}:k<=3->Bd k wt (R.length::rd) (R++[.no l]) a b c->Bd k (.no::wt) (l::rd) R a b c
 |op {w:BW}{wt:List W4}{l f:Nat}{rd:List Nat}{R:List RE}{a:List W4}{b:List Nat}{c:List RE}:k<=bpi (.op w)->Bd k wt (R.length::rd) (R++[.bin w f l]) a b c->Bd k (.op w::wt) (l::f::rd) R a b c
theorem Bd.len{k:Int}{wt:List W4}{rd:List Nat}{R:List RE}{a:List W4}{b:List Nat}{c:List RE}(h:Bd k wt rd R a b c):R.length<=c.length/\c.length+a.length=R.length+wt.length/\b.length<=rd.length:=by
 induction h with
 |nil=>simp
 |stop=>simp
 |no _ _ ih=>simp only[Ay,List.length_cons,List.length_nil]at ih⊢;omega
 |op _ _ ih=>simp only[Ay,List.length_cons,List.length_nil]at ih⊢;omega
def RF(pr pd pw:Addr)(op:Int)(du:Bool):List (Str×V):=[("rows",.ref pr),("ready",.ref pd),("waiting",.ref pw),("opened",.int op),("due",.bl du)]
structure RC(K:PySem.W.Frag)(C:Addr):Prop where
 cls:Cls K C
 rows:NoAttr K C "rows"
 ready:NoAttr K C "ready"
 waiting:NoAttr K C "waiting"
 opened:NoAttr K C "opened"
 due:NoAttr K C "due"
def RowE(H:Hp)(us:List V)(R:List RE):Prop:=Paired (λv r=>∃a,v=.ref a/\H a=some (.tup (jco r))) us R
theorem RowE.kp{S:List Addr}{H H':Hp}{us:List V}{R:List RE}(k:Kp S H H')(h:RowE H us R):RowE H' us R:=Paired.mapP h λ_ _ ⟨a,e,h⟩=>⟨a,e,k.tup _ _ h⟩
structure RdI(H:Hp)(x C dx pr pd pw:Addr)(wt:List W4)(rd:List Nat)(R:List RE)(op:Int)(du:Bool):Prop where
 hx:H x=some (.ins C dx (RF pr pd pw op du))
 hr:∃us,H pr=some (.lst us)/\RowE H us R
 hd:H pd=some (.lst (rd.reverse.map nV))
 hw:H pw=some (.lst (wt.reverse.map λw=>V.str (ws w)))
 n1:pr≠pd
 n2:pr≠pw
 n3:pd≠pw
section
variable{K:PySem.W.Frag}{H:Hp}{x C dx pr pd pw:Addr}{wt:List W4}{rd:List Nat}{R:List RE}{op:Int}{du:Bool}{σ:L2.St}{i:Nat}{Q:VK}
theorem fld0{fs:List (Str×V)}{f:Str}{v:V}(e:σ[i]?=some (some (.ref x)))(hx:H x=some (.ins C dx fs))(c:Cls K C)(n:NoAttr K C f)(l:fs.lookup f=some v)(q:Q v H):tFld K (tVar i) f σ H Q:=⟨.ref x,e,x,C,dx,fs,v,rfl,hx,c,n,l,q⟩
theorem RdI.rows(I:RdI H x C dx pr pd pw wt rd R op du)(c:RC K C)(e:σ[i]?=some (some (.ref x)))(q:Q (.ref pr) H):tFld K (tVar i) "rows" σ H Q:=fld0 e I.hx c.cls c.rows rfl q
theorem RdI.ready(I:RdI H x C dx pr pd pw wt rd R op du)(c:RC K C)(e:σ[i]?=some (some (.ref x)))(q:Q (.ref pd) H):tFld K (tVar i) "ready" σ H Q:=fld0 e I.hx c.cls c.ready rfl q
theorem RdI.waiting(I:RdI H x C dx pr pd pw wt rd R op du)(c:RC K C)(e:σ[i]?=some (some (.ref x)))(q:Q (.ref pw) H):tFld K (tVar i) "waiting" σ H Q:=fld0 e I.hx c.cls c.waiting rfl q
theorem RdI.opened(I:RdI H x C dx pr pd pw wt rd R op du)(c:RC K C)(e:σ[i]?=some (some (.ref x)))(q:Q (.int op) H):tFld K (tVar i) "opened" σ H Q:=fld0 e I.hx c.cls c.opened rfl q
theorem RdI.due(I:RdI H x C dx pr pd pw wt rd R op du)(c:RC K C)(e:σ[i]?=some (some (.ref x)))(q:Q (.bl du) H):tFld K (tVar i) "due" σ H Q:=fld0 e I.hx c.cls c.due rfl q
theorem RdI.setDue(I:RdI H x C dx pr pd pw wt rd R op du)(c:RC K C){D:Ends}{b:Bool}(e:σ[i]?=some (some (.ref x)))(q:D.nx σ (upd H x (.ins C dx (RF pr pd pw op b)))):sFld K (tVar i) (tC (.bl b)) "due" D σ H:=⟨.ref x,e,x,C,dx,_,rfl,I.hx,c.cls,c.due,by simp[RF],q⟩
theorem RdI.addO(I:RdI H x C dx pr pd pw wt rd R op du)(c:RC K C){D:Ends}{z:Int}(e:σ[i]?=some (some (.ref x)))(q:D.nx σ (upd H x (.ins C dx (RF pr pd pw (op+z) du)))):jfx K (tVar i) (tC (.int z)) rAdd "opened" D σ H:=⟨.ref x,e,x,C,dx,_,.int op,rfl,I.hx,c.cls,c.opened,rfl,op,z,rfl,rfl,dx,_,I.hx,by simp[RF],q⟩
theorem RdI.subO(I:RdI H x C dx pr pd pw wt rd R op du)(c:RC K C){D:Ends}{z:Int}(e:σ[i]?=some (some (.ref x)))(q:D.nx σ (upd H x (.ins C dx (RF pr pd pw (op-z) du)))):jfx K (tVar i) (tC (.int z)) rSub "opened" D σ H:=⟨.ref x,e,x,C,dx,_,.int op,rfl,I.hx,c.cls,c.opened,rfl,op,z,rfl,rfl,dx,_,I.hx,by simp[RF],q⟩
theorem RdI.fields(I:RdI H x C dx pr pd pw wt rd R op du)(op':Int)(du':Bool):RdI (upd H x (.ins C dx (RF pr pd pw op' du'))) x C dx pr pd pw wt rd R op' du'/\Kp [x,pr,pd,pw] H (upd H x (.ins C dx (RF pr pd pw op' du'))):=by
 have ne:∀b o,H b=some o->(∀C dx fs,o≠.ins C dx fs)->b≠x:=λb o e n z=>by
  rw[z,I.hx]at e
  exact n _ _ _ (Au e).symm
 obtain⟨us,hr,rr⟩:=I.hr
 refine⟨⟨jc,⟨us,by rw[jd (ne _ _ hr λ_ _ _ z=>by cases z)];exact hr,Paired.mapP rr λ_ _ ⟨a,e,h⟩=>⟨a,e,by rw[jd (ne _ _ h λ_ _ _ z=>by cases z)];exact h⟩⟩,by rw[jd (ne _ _ I.hd λ_ _ _ z=>by cases z)];exact I.hd,by rw[jd (ne _ _ I.hw λ_ _ _ z=>by cases z)];exact I.hw,I.n1,I.n2,I.n3⟩,?_⟩
 refine⟨λb v e n=>?_,λb xs e=>?_,λb v e=>?_⟩
 ·rw[jd λz=>n (by rw[z];simp)];exact e
 ·rw[jd (ne _ _ e λ_ _ _ z=>by cases z)];exact e
 ·by_cases z:b=x
  ·rw[z,jc];exact⟨_,rfl⟩
  ·rw[jd z];exact⟨v,e⟩
theorem RdI.kpL{p:Addr}{xs:List V}{y:HO}(I:RdI H x C dx pr pd pw wt rd R op du)(hp:H p=some (.lst xs))(m:p∈[x,pr,pd,pw]):Kp [x,pr,pd,pw] H (upd H p y):=(Kp.refl _ H).set hp (.inl m)
theorem RdI.nx{p:Addr}{xs:List V}(I:RdI H x C dx pr pd pw wt rd R op du)(hp:H p=some (.lst xs)):x≠p:=λz=>by rw[<-z,I.hx]at hp;cases hp
theorem RdI.putW(I:RdI H x C dx pr pd pw wt rd R op du)(wt':List W4):RdI (upd H pw (.lst (wt'.reverse.map λw=>V.str (ws w)))) x C dx pr pd pw wt' rd R op du:=by
 obtain⟨us,hr,rr⟩:=I.hr
 exact⟨by rw[jd (I.nx I.hw)];exact I.hx,⟨us,by rw[jd I.n2];exact hr,rr.kp (I.kpL I.hw (by simp))⟩,by rw[jd I.n3];exact I.hd,jc,I.n1,I.n2,I.n3⟩
theorem RdI.putD(I:RdI H x C dx pr pd pw wt rd R op du)(rd':List Nat):RdI (upd H pd (.lst (rd'.reverse.map nV))) x C dx pr pd pw wt rd' R op du:=by
 obtain⟨us,hr,rr⟩:=I.hr
 exact⟨by rw[jd (I.nx I.hd)];exact I.hx,⟨us,by rw[jd I.n1];exact hr,rr.kp (I.kpL I.hd (by simp))⟩,jc,by rw[jd I.n3.symm];exact I.hw,I.n1,I.n2,I.n3⟩
theorem RdI.new{p:Addr}{o:HO}(I:RdI H x C dx pr pd pw wt rd R op du)(hp:H p=none):RdI (upd H p o) x C dx pr pd pw wt rd R op du:=by
 obtain⟨us,hr,rr⟩:=I.hr
 have ne:∀b u,H b=some u->b≠p:=λb u e=>jh e hp
 exact⟨by rw[jd (ne _ _ I.hx)];exact I.hx,⟨us,by rw[jd (ne _ _ hr)];exact hr,rr.kp ((Kp.refl [] H).new hp)⟩,by rw[jd (ne _ _ I.hd)];exact I.hd,by rw[jd (ne _ _ I.hw)];exact I.hw,I.n1,I.n2,I.n3⟩
end
def spPR(C:Addr):Sp:=λvs H Q _=>∃(x dx pr pd pw a:Addr)(wt:List W4)(rd:List Nat)(R:List RE)(op:Int)(du:Bool)(r:RE),vs=[.ref x,.ref a]/\RdI H x C dx pr pd pw wt rd R op du/\H a=some (.tup (jco r))/\R.length<=100000/\rd.length<=100000 /\
 ∀H',RdI H' x C dx pr pd pw wt (R.length::rd) (R++[r]) op du->Kp [x,pr,pd,pw] H H'->Q .non H'
structure TPR(K:PySem.W.Frag)(mg:Str->Option Value)(C:Addr):Prop where
 n_len:mg "len"=none
 rc:RC K C
section
variable{P:Program}{w:World}{K:PySem.W.Frag}{mg:Str->Option Value}{base:Heap}
abbrev zh:Stmt:=jel (top 33) 6
theorem sc_Rd_put_row:FnScope ["self","row"] ["self","row"] (ji zh):=⟨rfl,rfl,rfl,by decide +kernel,rfl,by decide +kernel,by decide +kernel⟩
theorem ok_put_row{f C:Addr}{fd:FuncData}(F:Fun K "put_row" "Reading.put_row" zh f fd)(T:TPR K mg C):FnOk P w K mg base CX0 1 f fd ["self","row"] (spPR C):=by
 refine F.ok sc_Rd_put_row (λvs H Q E h=>?_) (λcdv A outer s H vs Q E hr h=>?_)
 ·obtain⟨x,dx,pr,pd,pw,a,wt,rd,R,op,du,r,rfl,_⟩:=h
  rfl
 ·obtain⟨x,dx,pr,pd,pw,a,wt,rd,R,op,du,r,rfl,I,ha,r9,d9,k⟩:=h
  have hu:=hr.units
  have hsz:sizeLine=16777216:=Ao
  obtain⟨us,er,rr⟩:=I.hr
  have ul:us.length=R.length:=Ip rr
  refine exQ (je (jz (yb Az A0 kc (kg (K:=K) rfl (qpv 0)) (ja (jr j9 (by rfl) T.n_len ku (ja (kg (K:=K) rfl (qpv 0)) jb)) jb) (jc8 (jdu _))))
  (jg (jz (yb Az A0 kc (kg (K:=K) rfl (qpv 0)) (ja (qpv 1) jb) (jc8 (jdu _)))))) ?_
  simp!
  refine I.ready T.rc rfl ⟨by show(jcp (H pd)).isSome=true;rw[I.hd];rfl,?_⟩
  refine I.rows T.rc rfl ?_
  rw[jfk,er]
  refine⟨us,rfl,?_⟩
  rw[jc5,I.hd]
  refine⟨_,rfl,by rw[Ae,O2];omega,?_⟩
  have e1:(.lst (rd.reverse.map nV++[V.int us.length]):HO)=.lst ((R.length::rd).reverse.map nV):=by rw[ul];simp[nV]
  rw[e1]
  have I1:=I.putD (R.length::rd)
  have k1:Kp [x,pr,pd,pw] H (upd H pd (.lst ((R.length::rd).reverse.map nV))):=I.kpL I.hd (by simp)
  have ha1:=k1.tup _ _ ha
  generalize upd H pd (.lst ((R.length::rd).reverse.map nV))=H1 at I1 k1 ha1⊢
  obtain⟨us1,er1,rr1⟩:=I1.hr
  have ul1:us1.length=R.length:=Ip rr1
  refine I1.rows T.rc rfl ⟨by show(jcp (H1 pr)).isSome=true;rw[er1];rfl,?_⟩
  rw[jc5,er1]
  have k2:Kp [x,pr,pd,pw] H1 (upd H1 pr (.lst (us1++[.ref a]))):=I1.kpL er1 (by simp)
  exact⟨_,rfl,by omega,k _ ⟨by rw[jd (I1.nx er1)];exact I1.hx,⟨_,jc,Wm (rr1.kp k2) ⟨a,rfl,k2.tup _ _ ha1⟩⟩,by rw[jd I1.n1.symm];exact I1.hd,by rw[jd I1.n2.symm];exact I1.hw,I1.n1,I1.n2,I1.n3⟩ (k1.trans k2)⟩
end
def KB:List (Key×V):=[(.inr "(",.int (-1)),(.inr "or",.int 0),(.inr "and",.int 1),(.inr "behind",.int 2),(.inr "not",.int 3),(.inr "letter",.int 4),(.inr "blank",.int 4),(.inr "nothing",.int 4)]
theorem ji2(w:W4):valV KB (.inr (ws w))=some (.int (bpi w)):=by
 cases w with
 |par=>decide +kernel
 |op w=>cases w <;> decide +kernel
 |no=>decide +kernel
theorem jrb(w:W4):(ws w=Str.ofString "not")↔w=.no:=by
 cases w with
 |par=>exact⟨λh=>absurd h (by decide +kernel),λh=>by cases h⟩
 |op w=>cases w <;> exact⟨λh=>absurd h (by decide +kernel),λh=>by cases h⟩
 |no=>exact⟨λ_=>rfl,λ_=>rfl⟩
def spBi(C:Addr):Sp:=λvs H Q _=>∃(x dx pr pd pw:Addr)(k:Int)(wt:List W4)(rd:List Nat)(R:List RE)(op:Int)(du:Bool)(wt':List W4)(rd':List Nat)(R':List RE),vs=[.ref x,.int k]/\RdI H x C dx pr pd pw wt rd R op du/\0<=k/\Bd k wt rd R wt' rd' R'/\R.length+wt.length<=90000/\rd.length<=90000 /\
 ∀H',RdI H' x C dx pr pd pw wt' rd' R' op du->Kp [x,pr,pd,pw] H H'->Q .non H'
structure TBi(P:Program)(w:World)(K:PySem.W.Frag)(mg:Str->Option Value)(C ab fp:Addr):Prop where
 rc:RC K C
 cls:Cls K C
 m_BINDS:mg "BINDS"=some (.ref ab)
 kb:KDict P w K ab KB
 d_put_row:Meth K C "put_row" fp
section
variable{P:Program}{w:World}{K:PySem.W.Frag}{mg:Str->Option Value}{base:Heap}
abbrev z6:Stmt:=jel (top 33) 5
theorem ja5:FnScope ["self","binds","word","last"] ["self","binds"] (ji z6):=⟨rfl,rfl,rfl,by decide +kernel,rfl,by decide +kernel,by decide +kernel⟩
theorem ok_bind{f C ab fp:Addr}{fd fdp:FuncData}(F:Fun K "bind" "Reading.bind" z6 f fd)(T:TBi P w K mg C ab fp)(b13z:Binds K fdp ["self","row"] [])(G13z:FnOk P w K mg base CX0 1 fp fdp ["self","row"] (spPR C)):FnOk P w K mg base CX0 2 f fd ["self","binds"] (spBi C):=by
 refine F.ok ja5 (λvs H Q E h=>?_) (λcdv A outer s H vs Q E hr h=>?_)
 ·obtain⟨x,dx,pr,pd,pw,k,wt,rd,R,op,du,wt',rd',R',rfl,_⟩:=h
  rfl
 ·obtain⟨x,dx,pr,pd,pw,k,wt,rd,R,op,du,wt',rd',R',rfl,I,k0,B,r9,d9,kk⟩:=h
  have hu:=hr.units
  have hsz:sizeLine=16777216:=Ao
  refine exQ (jg (jaz Ii (QW.pt (jca (jbd (kg (K:=K) rfl (qpv 0))) (jb4 (jq jck (zi (P:=P) (w:=w) (K:=K) rfl rfl rfl (j8 (v:=.ref _) rfl T.m_BINDS rfl) (jv ix_U (kg (K:=K) rfl (qpv 0)) (jau jef jf) (λ_ _=>rfl)) (λ_ _=>rfl)) (qpv 1) (jw _))))) (je (jm (i:=2) ja5.nd rfl (by first|exact Or.inl rfl|exact Or.inr rfl) (jah Iy Iz jaf (kg (K:=K) rfl (qpv 0)) (jc8 (jdu _))))
  (je (jm (i:=3) ja5.nd rfl (by first|exact Or.inl rfl|exact Or.inr rfl) (jah Iy Iz jaf (kg (K:=K) rfl (qpv 0)) (jc8 (jdu _))))
  (jg (jy (jq (ke hu) (qpv 2) jj (jw _)) (jg (jz (yv (qpv 0) T.cls T.d_put_row G13z (hr.mono (by decide)) b13z .nil jo (ja (km (ja (qpv 2) (ja (qpv 3) jb))) jb)))) (jg (jz (yv (qpv 0) T.cls T.d_put_row G13z (hr.mono (by decide)) b13z .nil jo (ja (km (ja (qpv 2) (ja (jah Iy Iz jaf (kg (K:=K) rfl (qpv 0)) (jc8 (jdu _))) (ja (qpv 3) jb)))) jb)))))))))) ?_
  simp!
  obtain⟨W,hW⟩:∃W:Nat->L2.St->Hp->Prop,W=λμ σ H'=>∃(wt1:List W4)(rd1:List Nat)(R1:List RE)(v2 v3:Option V),σ=[some (.ref x),some (.int k),v2,v3]/\RdI H' x C dx pr pd pw wt1 rd1 R1 op du/\Bd k wt1 rd1 R1 wt' rd' R'/\R1.length+wt1.length<=90000/\rd1.length<=90000/\Kp [x,pr,pd,pw] H H'/\μ=wt1.length:=⟨_,rfl⟩
  refine⟨W,?_,?_⟩
  ·rw[hW]
   exact⟨_,wt,rd,R,none,none,rfl,I,B,r9,d9,Kp.refl _ _,rfl⟩
  intro μ σ H1 hw
  rw[hW]at hw
  obtain⟨wt1,rd1,R1,v2,v3,rfl,I1,B1,r91,d91,k1,rfl⟩:=hw
  simp!
  refine I1.waiting T.rc rfl ?_
  rw[jed,I1.hw]
  refine⟨_,rfl,?_⟩
  cases wt1 with
  |nil =>
   cases B1
   exact kk _ I1 k1
  |cons w0 wt2 =>
   have e1:((w0::wt2).reverse.map λw=>V.str (ws w))=(wt2.reverse.map λw=>V.str (ws w))++[V.str (ws w0)]:=by simp
   have hwl:=I1.hw
   rw[e1]at hwl
   rw[e1,show(!((wt2.reverse.map λw=>V.str (ws w))++[V.str (ws w0)]).isEmpty)=true by simp,Ad rfl]
   refine I1.waiting T.rc rfl ?_
   rw[jec,hwl]
   refine⟨_,rfl,_,jga _ _,KB,T.kb,.inr (ws w0),rfl,_,ji2 w0,_,rfl,?_⟩
   by_cases c:k<=bpi w0
   ·rw[Ad c]
    refine⟨λσ' H'=>∃m',m'<wt2.length+1/\W m' σ' H',λ_ _ h=>h,?_⟩
    refine I1.waiting T.rc rfl ⟨by show(jcp (H1 pw)).isSome=true;rw[hwl];rfl,?_⟩
    rw[jc9,hwl]
    refine⟨_,rfl,V.str (ws w0),by simp,?_⟩
    rw[Ox]
    have I2:=I1.putW wt2
    have k2:Kp [x,pr,pd,pw] H1 (upd H1 pw (.lst (wt2.reverse.map λw=>V.str (ws w)))):=I1.kpL I1.hw (by simp)
    generalize upd H1 pw (.lst (wt2.reverse.map λw=>V.str (ws w)))=H2 at I2 k2⊢
    refine I2.ready T.rc rfl ⟨by show(jcp (H2 pd)).isSome=true;rw[I2.hd];rfl,?_⟩
    have lkp:∀op du,List.lookup (Str.ofString "put_row") (RF pr pd pw op du)=none:=λ_ _=>rfl
    simp only[List.length_cons]at r91
    cases w0 with
    |par=>exact absurd c (by simp only[bpi];omega)
    |no =>
     cases B1 with
     |stop h=>exact absurd c (by omega)
     |no hk B2 =>
      rename_i l rd2
      have e2:((l::rd2).reverse.map nV)=rd2.reverse.map nV++[nV l]:=by simp
      have hdl:=I2.hd
      rw[e2]at hdl
      rw[jc9,hdl]
      refine⟨_,rfl,nV l,by simp,?_⟩
      rw[Ox]
      have I3:=I2.putD rd2
      have k3:Kp [x,pr,pd,pw] H2 (upd H2 pd (.lst (rd2.reverse.map nV))):=I2.kpL I2.hd (by simp)
      generalize upd H2 pd (.lst (rd2.reverse.map nV))=H3 at I3 k3⊢
      rw[je3]
      refine⟨_,rfl,?_⟩
      rw[Ad (by simp[ws])]
      refine⟨dx,_,I3.hx,lkp _ _,by omega,λp hp=>?_⟩
      simp only[List.length_cons]at d91
      refine⟨x,dx,pr,pd,pw,p,wt2,rd2,R1,op,du,.no l,rfl,I3.new hp,jc,by omega,by omega,λH4 I4 k4=>?_⟩
      refine⟨wt2.length,by omega,?_⟩
      rw[hW]
      exact⟨wt2,_,_,_,_,rfl,I4,B2,by simp only[Ay,List.length_cons,List.length_nil];omega,by simp only[List.length_cons];omega,(k1.trans k2).trans ((k3.new hp).trans k4),rfl⟩
    |op w1 =>
     cases B1 with
     |stop h=>exact absurd c (by omega)
     |op hk B2 =>
      rename_i l f rd2
      have e2:((l::f::rd2).reverse.map nV)=(f::rd2).reverse.map nV++[nV l]:=by simp
      have hdl:=I2.hd
      rw[e2]at hdl
      rw[jc9,hdl]
      refine⟨_,rfl,nV l,by simp,?_⟩
      rw[Ox]
      have I3:=I2.putD (f::rd2)
      have k3:Kp [x,pr,pd,pw] H2 (upd H2 pd (.lst ((f::rd2).reverse.map nV))):=I2.kpL I2.hd (by simp)
      generalize upd H2 pd (.lst ((f::rd2).reverse.map nV))=H3 at I3 k3⊢
      rw[je3]
      refine⟨_,rfl,?_⟩
      rw[Aa (by simp only[decide_eq_true_eq];exact λz=>by cases(jrb _).mp z)]
      refine⟨dx,_,I3.hx,lkp _ _,?_⟩
      refine I3.ready T.rc rfl ⟨by show(jcp (H3 pd)).isSome=true;rw[I3.hd];rfl,?_⟩
      have e3:((f::rd2).reverse.map nV)=rd2.reverse.map nV++[nV f]:=by simp
      have hdl3:=I3.hd
      rw[e3]at hdl3
      rw[jc9,hdl3]
      refine⟨_,rfl,nV f,by simp,?_⟩
      rw[Ox]
      have I4:=I3.putD rd2
      have k4:Kp [x,pr,pd,pw] H3 (upd H3 pd (.lst (rd2.reverse.map nV))):=I3.kpL I3.hd (by simp)
      generalize upd H3 pd (.lst (rd2.reverse.map nV))=H4 at I4 k4⊢
      refine⟨by omega,λp hp=>?_⟩
      simp only[List.length_cons]at d91
      refine⟨x,dx,pr,pd,pw,p,wt2,rd2,R1,op,du,.bin w1 f l,rfl,I4.new hp,jc,by omega,by omega,λH5 I5 k5=>?_⟩
      refine⟨wt2.length,by omega,?_⟩
      rw[hW]
      exact⟨wt2,_,_,_,_,rfl,I5,B2,by simp only[Ay,List.length_cons,List.length_nil];omega,by simp only[List.length_cons];omega,((k1.trans k2).trans k3).trans ((k4.new hp).trans k5),rfl⟩
   ·rw[Aa c]
    cases B1 with
    |stop h=>exact kk _ I1 k1
    |no hk _=>exact absurd hk c
    |op hk _=>exact absurd hk c
end
def sgn(c:Nat):Str:=⟨#[c]⟩
theorem jdb(c d:Nat):(sgn c=sgn d)↔c=d:=by simp[sgn]
def lf(c:Nat):Option RE:=if c=46 then some .blank else if c=48 then some .nothing else if 97<=c/\c<=122 then some (.letter (sgn c))else none
inductive Bg (c:Nat) (wt:List W4) (rd:List Nat) (R:List RE) (op:Nat):List W4->List Nat->List RE->Nat->Bool->Prop
 |no:c=45->Bg c wt rd R op (.no::wt) rd R op true
 |par:c=40->Bg c wt rd R op (.par::wt) rd R (op+1) true
 |leaf {r:RE}:lf c=some r->Bg c wt rd R op wt (R.length::rd) (R++[r]) op false
def wc:BW->Nat
 |.or=>124
 |.and=>38
 |.beh=>0
inductive Sg (c:Nat) (wt:List W4) (rd:List Nat) (R:List RE) (op:Nat):Bool->List W4->List Nat->List RE->Nat->Bool->Prop
 |shut {wt':List W4}{rd':List Nat}{R':List RE}{o:Nat}:c=41->op=o+1->Bd 0 wt rd R (.par::wt') rd' R'->Sg c wt rd R op false wt' rd' R' o false
 |word {w:BW}{wt':List W4}{rd':List Nat}{R':List RE}:w≠.beh->c=wc w->Bd (bpi (.op w)) wt rd R wt' rd' R'->Sg c wt rd R op false (.op w::wt') rd' R' op true
 |part {wt':List W4}{rd':List Nat}{R':List RE}{o:Nat}{d:Bool}:Bg c wt rd R op wt' rd' R' o d->Sg c wt rd R op true wt' rd' R' o d
 |more {wt1 wt':List W4}{rd1 rd':List Nat}{R1 R':List RE}{o:Nat}{d:Bool}:Bd 2 wt rd R wt1 rd1 R1->Bg c (.op .beh::wt1) rd1 R1 op wt' rd' R' o d->Sg c wt rd R op false wt' rd' R' o d
def spWS(C:Addr):Sp:=λvs H Q _=>∃(x dx pr pd pw:Addr)(w:BW)(wt:List W4)(rd:List Nat)(R:List RE)(op:Int)(du:Bool)(wt':List W4)(rd':List Nat)(R':List RE),vs=[.ref x,.str (ew w)]/\RdI H x C dx pr pd pw wt rd R op du/\Bd (bpi (.op w)) wt rd R wt' rd' R'/\R.length+wt.length<=90000/\rd.length<=90000 /\
 ∀H',RdI H' x C dx pr pd pw (.op w::wt') rd' R' op true->Kp [x,pr,pd,pw] H H'->Q .non H'
structure TWS(P:Program)(w:World)(K:PySem.W.Frag)(mg:Str->Option Value)(C ab fb:Addr):Prop where
 rc:RC K C
 cls:Cls K C
 m_BINDS:mg "BINDS"=some (.ref ab)
 kb:KDict P w K ab KB
 d_bind:Meth K C "bind" fb
def spRS:Sp:=λvs H Q _=>∃(c:Nat)(r:RE),vs=[.str (sgn c)]/\lf c=some r/\∀p,H p=none->Q (.ref p) (upd H p (.tup (jco r)))
def spBg(C:Addr):Sp:=λvs H Q _=>∃(x dx pr pd pw:Addr)(c:Nat)(wt:List W4)(rd:List Nat)(R:List RE)(op:Nat)(wt':List W4)(rd':List Nat)(R':List RE)(o:Nat)(d:Bool),vs=[.ref x,.str (sgn c)]/\RdI H x C dx pr pd pw wt rd R (op:Int) true/\Bg c wt rd R op wt' rd' R' o d/\R.length<=90000/\wt.length<=90000/\rd.length<=90000 /\
 ∀H',RdI H' x C dx pr pd pw wt' rd' R' (o:Int) d->Kp [x,pr,pd,pw] H H'->Q .non H'
structure TBg(K:PySem.W.Frag)(mg:Str->Option Value)(C fr fp:Addr):Prop where
 rc:RC K C
 cls:Cls K C
 m26z:mg "row_of_sign"=some (.ref fr)
 d_put_row:Meth K C "put_row" fp
section
variable{P:Program}{w:World}{K:PySem.W.Frag}{mg:Str->Option Value}{base:Heap}
theorem lk_m(m:Str)(pr pd pw:Addr)(op:Int)(du:Bool)(h:(m == "rows")=false/\(m == "ready")=false/\(m == "waiting")=false/\(m == "opened")=false/\(m == "due")=false):List.lookup m (RF pr pd pw op du)=none:=by
 unfold RF
 simp only[List.lookup_cons,h.1,h.2.1,h.2.2.1,h.2.2.2.1,h.2.2.2.2,List.lookup_nil]
abbrev kn:Stmt:=jel (top 33) 3
theorem sc_Rd_wait_for_second:FnScope ["self","word"] ["self","word"] (ji kn):=⟨rfl,rfl,rfl,by decide +kernel,rfl,by decide +kernel,by decide +kernel⟩
theorem ok_wait_for_second{f C ab fb:Addr}{fd fdb:FuncData}(F:Fun K "wait_for_second" "Reading.wait_for_second" kn f fd)(T:TWS P w K mg C ab fb)(b8z:Binds K fdb ["self","binds"] [])(G8z:FnOk P w K mg base CX0 2 fb fdb ["self","binds"] (spBi C)):FnOk P w K mg base CX0 3 f fd ["self","word"] (spWS C):=by
 refine F.ok sc_Rd_wait_for_second (λvs H Q E h=>?_) (λcdv A outer s H vs Q E hr h=>?_)
 ·obtain⟨x,dx,pr,pd,pw,w1,wt,rd,R,op,du,wt',rd',R',rfl,_⟩:=h
  rfl
 ·obtain⟨x,dx,pr,pd,pw,w1,wt,rd,R,op,du,wt',rd',R',rfl,I,B,r9,d9,k⟩:=h
  have hu:=hr.units
  have hsz:sizeLine=16777216:=Ao
  refine exQ (je (jz (yv (qpv 0) T.cls T.d_bind G8z (hr.mono (by decide)) b8z .nil jo (ja (zi (P:=P) (w:=w) (K:=K) rfl rfl rfl (j8 (v:=.ref _) rfl T.m_BINDS rfl) (qpv 1) (λ_ _=>rfl)) jb)))
  (je (jz (yb Az A0 kc (kg (K:=K) rfl (qpv 0)) (ja (qpv 1) jb) (jc8 (jdu _))))
  (jg (jaj (K:=K) rfl (qpv 0) zu)))) ?_
  simp!
  refine⟨dx,_,I.hx,lk_m _ _ _ _ _ _ (by decide +kernel),KB,T.kb,.inr (ew w1),rfl,_,ji2 (.op w1),?_⟩
  have k0:0<=bpi (.op w1):=by cases w1 <;> decide
  refine⟨x,dx,pr,pd,pw,_,wt,rd,R,op,du,wt',rd',R',rfl,I,k0,B,r9,d9,λH1 I1 k1=>?_⟩
  have bl:=B.len
  refine I1.waiting T.rc rfl ⟨by show(jcp (H1 pw)).isSome=true;rw[I1.hw];rfl,?_⟩
  rw[jc5,I1.hw]
  refine⟨_,rfl,by rw[Ae,O2];omega,?_⟩
  have e1:(.lst ((wt'.reverse.map λw=>V.str (ws w))++[V.str (ew w1)]):HO)=.lst ((W4.op w1::wt').reverse.map λw=>V.str (ws w)):=by simp[ws]
  rw[e1]
  have I2:=I1.putW (.op w1::wt')
  have k2:Kp [x,pr,pd,pw] H1 (upd H1 pw (.lst ((W4.op w1::wt').reverse.map λw=>V.str (ws w)))):=I1.kpL I1.hw (by simp)
  generalize upd H1 pw (.lst ((W4.op w1::wt').reverse.map λw=>V.str (ws w)))=H2 at I2 k2⊢
  obtain⟨I3,k3⟩:=I2.fields op true
  exact I2.setDue T.rc rfl (k _ I3 ((k1.trans k2).trans k3))
abbrev yq:Stmt:=top 34
theorem sc_row_of_sign:FnScope ["sign"] ["sign"] (ji yq):=⟨rfl,rfl,rfl,by decide +kernel,rfl,by decide +kernel,by decide +kernel⟩
theorem ok_row_of_sign{f:Addr}{fd:FuncData}(F:Fun K "row_of_sign" "row_of_sign" yq f fd):FnOk P w K mg base CX0 1 f fd ["sign"] spRS:=by
 refine F.ok sc_row_of_sign (λvs H Q E h=>?_) (λcdv A outer s H vs Q E hr h=>?_)
 ·obtain⟨c,r,rfl,_⟩:=h
  rfl
 ·obtain⟨c,r,rfl,l,k⟩:=h
  have hu:=hr.units
  have hsz:sizeLine=16777216:=Ao
  refine exQ (je (jy (jq (ke hu) (qpv 0) jj (jw _)) (jg (jp (km (ja jj jb)))) j7)
  (je (jy (jq (ke hu) (qpv 0) jj (jw _)) (jg (jp (km (ja jj jb)))) j7)
  (jg (jp (km (ja jj (ja (qpv 0) jb))))))) ?_
  simp!
  unfold lf at l
  have e1:(sgn c=Str.ofString ".")↔c=46:=jdb c 46
  have e2:(sgn c=Str.ofString "0")↔c=48:=jdb c 48
  simp only[e1,e2]
  by_cases c1:c=46
  ·rw[Ad c1]at l
   cases l
   rw[Ad c1]
   exact⟨by omega,k⟩
  rw[Aa c1]at l⊢
  by_cases c2:c=48
  ·rw[Ad c2]at l
   cases l
   rw[Ad c2]
   exact⟨by omega,k⟩
  rw[Aa c2]at l⊢
  by_cases c3:97<=c/\c<=122
  ·rw[Ad c3]at l
   cases l
   exact⟨by omega,k⟩
  ·rw[Aa c3]at l
   cases l
abbrev yn:Stmt:=jel (top 33) 4
theorem sc_Rd_begin_part:FnScope ["self","sign"] ["self","sign"] (ji yn):=⟨rfl,rfl,rfl,by decide +kernel,rfl,by decide +kernel,by decide +kernel⟩
theorem ok_begin_part{f C fr fp:Addr}{fd fdr fdp:FuncData}(F:Fun K "begin_part" "Reading.begin_part" yn f fd)(T:TBg K mg C fr fp)(F26z:Fun K "row_of_sign" "row_of_sign" yq fr fdr)(b26z:Binds K fdr ["sign"] [])(G26z:FnOk P w K mg base CX0 1 fr fdr ["sign"] spRS)
  (b13z:Binds K fdp ["self","row"] []) (G13z:FnOk P w K mg base CX0 1 fp fdp ["self","row"] (spPR C)):FnOk P w K mg base CX0 2 f fd ["self","sign"] (spBg C):=by
 refine F.ok sc_Rd_begin_part (λvs H Q E h=>?_) (λcdv A outer s H vs Q E hr h=>?_)
 ·obtain⟨x,dx,pr,pd,pw,c,wt,rd,R,op,wt',rd',R',o,d,rfl,_⟩:=h
  rfl
 ·obtain⟨x,dx,pr,pd,pw,c,wt,rd,R,op,wt',rd',R',o,d,rfl,I,B,r9,w9,d9,k⟩:=h
  have hu:=hr.units
  have hsz:sizeLine=16777216:=Ao
  have e1:(sgn c=Str.ofString "-")↔c=45:=jdb c 45
  have e2:(sgn c=Str.ofString "(")↔c=40:=jdb c 40
  have app:∀(w0:W4)(Q':VK),Q' .non (upd H pw (.lst ((w0::wt).reverse.map λw=>V.str (ws w))))->je2 (.ref pw) [V.str (ws w0)] H Q':=λw0 Q' q=>by
   rw[jc5,I.hw]
   refine⟨_,rfl,by rw[Ae,O2];omega,?_⟩
   have:(.lst ((wt.reverse.map λw=>V.str (ws w))++[V.str (ws w0)]):HO)=.lst ((w0::wt).reverse.map λw=>V.str (ws w)):=by simp
   rw[this];exact q
  have isl:isL (.ref pw) H:=by show(jcp (H pw)).isSome=true;rw[I.hw];rfl
  have kw:∀w0:W4,Kp [x,pr,pd,pw] H (upd H pw (.lst ((w0::wt).reverse.map λw=>V.str (ws w)))):=λw0=>I.kpL I.hw (by simp)
  refine exQ (jg (jy (jq (ke hu) (qpv 1) jj (jw _)) (jg (jz (yb Az A0 kc (kg (K:=K) rfl (qpv 0)) (ja jj jb) (jc8 (jdu _))))) (jg (jy (jq (ke hu) (qpv 1) jj (jw _)) (je (jz (yb Az A0 kc (kg (K:=K) rfl (qpv 0)) (ja jj jb) (jc8 (jdu _))))
  (jg (jbi (K:=K) rfl (qpv 0) jf jqr))) (je (jz (yv (qpv 0) T.cls T.d_put_row G13z (hr.mono (by decide)) b13z .nil jo (ja (jk G26z (hr.mono (by decide)) rfl T.m26z F26z.kp b26z .nil jo (ja (qpv 1) jb)) jb)))
  (jg (jaj (K:=K) rfl (qpv 0) zu))))))) ?_
  simp! [e1,e2]
  cases B with
  |no h =>
   rw[Ad h]
   exact I.waiting T.rc rfl ⟨isl,app .no _ (k _ (I.putW _) (kw _))⟩
  |par h =>
   rw[Aa (by omega),Ad h]
   refine I.waiting T.rc rfl ⟨isl,app .par _ ?_⟩
   have I2:=I.putW (.par::wt)
   have k2:=kw .par
   generalize upd H pw (.lst ((W4.par::wt).reverse.map λw=>V.str (ws w)))=H2 at I2 k2⊢
   obtain⟨I3,k3⟩:=I2.fields (op+1) true
   exact I2.addO T.rc rfl (k _ I3 (k2.trans k3))
  |leaf h =>
   have n1:¬c=45:=λz=>by subst z;cases h
   have n2:¬c=40:=λz=>by subst z;cases h
   rw[Aa n1,Aa n2]
   refine⟨dx,_,I.hx,lk_m _ _ _ _ _ _ (by decide +kernel),c,_,rfl,h,λp hp=>?_⟩
   refine⟨x,dx,pr,pd,pw,p,wt,rd,R,op,true,_,rfl,I.new hp,jc,by omega,by omega,λH2 I2 k2=>?_⟩
   obtain⟨I3,k3⟩:=I2.fields op false
   exact I2.setDue T.rc rfl (k _ I3 ((((Kp.refl _ H).new hp).trans k2).trans k3))
end
theorem lt1(c d:Nat):([c]:List Nat)<[d]↔c<d:=by
 rw[List.cons_lt_cons_iff]
 simp
def KW:List (Key×V):=[(.inr "|",.str "or"),(.inr "&",.str "and")]
theorem jgp(c:Nat):valV KW (.inr (sgn c))=if c=124 then some (.str "or")else if c=38 then some (.str "and")else none:=by
 unfold KW
 by_cases c1:c=124
 ·subst c1;rfl
 by_cases c2:c=38
 ·subst c2;rfl
 rw[Aa c1,Aa c2,jcx,jcx,joq]
 ·exact λz=>c2 ((jdb c 38).mp (Sum.inr.inj z).symm)
 ·exact λz=>c1 ((jdb c 124).mp (Sum.inr.inj z).symm)
theorem Bg.sign{c:Nat}{wt wt':List W4}{rd rd':List Nat}{R R':List RE}{op o:Nat}{d:Bool}(h:Bg c wt rd R op wt' rd' R' o d):c=45\/c=40\/c=46\/c=48\/(97<=c/\c<=122):=by
 cases h with
 |no h=>exact .inl h
 |par h=>exact .inr (.inl h)
 |leaf h =>
  unfold lf at h
  by_cases c1:c=46
  ·exact .inr (.inr (.inl c1))
  by_cases c2:c=48
  ·exact .inr (.inr (.inr (.inl c2)))
  by_cases c3:97<=c/\c<=122
  ·exact .inr (.inr (.inr (.inr c3)))
  rw[Aa c1,Aa c2,Aa c3]at h
  cases h
theorem Bg.len{c:Nat}{wt wt':List W4}{rd rd':List Nat}{R R':List RE}{op o:Nat}{d:Bool}(h:Bg c wt rd R op wt' rd' R' o d):R'.length<=R.length+1/\wt'.length<=wt.length+1/\rd'.length<=rd.length+1/\R'.length+wt'.length<=R.length+wt.length+1:=by
 cases h <;> simp <;> omega
theorem Sg.len{c:Nat}{wt wt':List W4}{rd rd':List Nat}{R R':List RE}{op o:Nat}{b d:Bool}(h:Sg c wt rd R op b wt' rd' R' o d):R'.length+wt'.length+rd'.length<=R.length+wt.length+rd.length+3:=by
 cases h with
 |shut _ _ B=>have:=B.len;simp only[List.length_cons]at this;omega
 |word _ _ B=>have:=B.len;simp only[List.length_cons];omega
 |part B=>have:=B.len;omega
 |more B1 B2=>have:=B1.len;have:=B2.len;simp only[List.length_cons]at this;omega
def spTk(C:Addr):Sp:=λvs H Q _=>∃(x dx pr pd pw:Addr)(c:Nat)(wt:List W4)(rd:List Nat)(R:List RE)(op:Nat)(b:Bool)(wt':List W4)(rd':List Nat)(R':List RE)(o:Nat)(d:Bool),vs=[.ref x,.str (sgn c)]/\RdI H x C dx pr pd pw wt rd R (op:Int) b/\Sg c wt rd R op b wt' rd' R' o d/\R.length+wt.length+rd.length<=80000 /\
 ∀H',RdI H' x C dx pr pd pw wt' rd' R' (o:Int) d->Kp [x,pr,pd,pw] H H'->Q .non H'
def stA(o:Nat)(d:Bool)(c:Nat):Option (Nat×Bool) :=
 if c=40 then some (o+1,true)else if c=45 then some (o,true)else if(lf c).isSome then some (o,false)else if d then none else
 if c=41 then(if o=0 then none else some (o-1,false))else if c=124\/c=38 then some (o,true)else none
def fitB(o:Nat)(d:Bool)(c:Nat):Bool:=(stA o d c).isSome
def spFi(C:Addr):Sp:=λvs H Q _=>∃(x dx pr pd pw:Addr)(c:Nat)(wt:List W4)(rd:List Nat)(R:List RE)(op:Nat)(b:Bool),vs=[.ref x,.str (sgn c)]/\RdI H x C dx pr pd pw wt rd R (op:Int) b/\∀H',Kp [] H H'->Q (.bl (fitB op b c)) H'
def spIn(C:Addr):Sp:=λvs H Q _=>∃(x dx:Addr),vs=[.ref x]/\H x=some (.ins C dx [])/\∀(pr pd pw:Addr)(H':Hp),RdI H' x C dx pr pd pw [] [] [] 0 true->H pr=none->H pd=none->H pw=none->Kp [x] H H'->Q .non H'
structure TTk(P:Program)(w:World)(K:PySem.W.Frag)(mg:Str->Option Value)(C ab aw fb fs fg:Addr):Prop where
 rc:RC K C
 cls:Cls K C
 m_BINDS:mg "BINDS"=some (.ref ab)
 kb:KDict P w K ab KB
 m_WORDS:mg "WORDS"=some (.ref aw)
 kw:KDict P w K aw KW
 wm:(aw == sysModules)=false
 d_bind:Meth K C "bind" fb
 d_wait_for_second:Meth K C "wait_for_second" fs
 d_begin_part:Meth K C "begin_part" fg
structure TFi(P:Program)(w:World)(K:PySem.W.Frag)(mg:Str->Option Value)(C aw:Addr):Prop where
 rc:RC K C
 m_WORDS:mg "WORDS"=some (.ref aw)
 kw:KDict P w K aw KW
 wm:(aw == sysModules)=false
section
variable{K:PySem.W.Frag}{H:Hp}{x C dx:Addr}{fs fs':List (Str×V)}{f:Str}{σ:L2.St}{i:Nat}{D:Ends}
theorem jh2(e:σ[i]?=some (some (.ref x)))(hx:H x=some (.ins C dx fs))(c:Cls K C)(n:NoAttr K C f)(l:fs.length<1000)(q:∀p,H p=none->D.nx σ (upd (upd H p (.lst [])) x (.ins C dx (putF f (.ref p) fs)))):sFld K (tVar i) (tLst tNil) f D σ H :=
 ⟨Ia _,λp hp=>⟨.ref x,e,x,C,dx,fs,rfl,by rw[jd (jh hx hp)];exact hx,c,n,l,q p hp⟩⟩
theorem jlt{v:V}(e:σ[i]?=some (some (.ref x)))(hx:H x=some (.ins C dx fs))(c:Cls K C)(n:NoAttr K C f)(l:fs.length<1000)(q:D.nx σ (upd H x (.ins C dx (putF f v fs)))):sFld K (tVar i) (tC v) f D σ H:=⟨.ref x,e,x,C,dx,fs,rfl,hx,c,n,l,q⟩
theorem jkq{S:List Addr}(e:H x=some (.ins C dx fs))(m:x∈S):Kp S H (upd H x (.ins C dx fs')):=by
 refine⟨λb v e' n=>?_,λb xs e'=>?_,λb v e'=>?_⟩
 ·rw[jd λz=>n (by rw[z];exact m)];exact e'
 ·rw[jd λz=>by rw[z,e]at e';cases e'];exact e'
 ·by_cases z:b=x
  ·rw[z,jc];exact⟨_,rfl⟩
  ·rw[jd z];exact⟨v,e'⟩
theorem jfn{S:List Addr}{p:Addr}(hx:H x=some (.ins C dx fs))(hp:H p=none)(m:x∈S):upd (upd H p (.lst [])) x (.ins C dx fs') x=some (.ins C dx fs')/\upd (upd H p (.lst [])) x (.ins C dx fs') p=some (.lst [])/\Kp S H (upd (upd H p (.lst [])) x (.ins C dx fs')):=by
 have ne:=jh hx hp
 have h1:upd H p (.lst []) x=some (.ins C dx fs):=by rw[jd ne];exact hx
 exact⟨jc,by rw[jd ne.symm,jc],((Kp.refl S H).new hp).trans (jkq h1 m)⟩
end
section
variable{P:Program}{w:World}{K:PySem.W.Frag}{mg:Str->Option Value}{base:Heap}
abbrev jaa:Stmt:=jel (top 33) 2
theorem sc_Rd_take:FnScope ["self","sign"] ["self","sign"] (ji jaa):=⟨rfl,rfl,rfl,by decide +kernel,rfl,by decide +kernel,by decide +kernel⟩
theorem ok_take{f C ab aw fb fs fg:Addr}{fd fdb fds fdg:FuncData}(F:Fun K "take" "Reading.take" jaa f fd)(T:TTk P w K mg C ab aw fb fs fg)(b8z:Binds K fdb ["self","binds"] [])(G8z:FnOk P w K mg base CX0 2 fb fdb ["self","binds"] (spBi C))
  (b30z:Binds K fds ["self","word"] []) (G30z:FnOk P w K mg base CX0 3 fs fds ["self","word"] (spWS C)) (b31z:Binds K fdg ["self","sign"] []) (G31z:FnOk P w K mg base CX0 2 fg fdg ["self","sign"] (spBg C)):FnOk P w K mg base CX0 4 f fd ["self","sign"] (spTk C):=by
 refine F.ok sc_Rd_take (λvs H Q E h=>?_) (λcdv A outer s H vs Q E hr h=>?_)
 ·obtain⟨x,dx,pr,pd,pw,c,wt,rd,R,op,b,wt',rd',R',o,d,rfl,_⟩:=h
  rfl
 ·obtain⟨x,dx,pr,pd,pw,c,wt,rd,R,op,b,wt',rd',R',o,d,rfl,I,S,l9,k⟩:=h
  have hu:=hr.units
  have hsz:sizeLine=16777216:=Ao
  have e1:(sgn c=Str.ofString ")")↔c=41:=jdb c 41
  refine exQ (jg (jy (jq (ke hu) (qpv 1) jj (jw _)) (je (jz (yv (qpv 0) T.cls T.d_bind G8z (hr.mono (by decide)) b8z .nil jo (ja (zi (P:=P) (w:=w) (K:=K) rfl rfl rfl (j8 (v:=.ref _) rfl T.m_BINDS rfl) jj (λ_ _=>rfl)) jb)))
  (je (jz (jah Iy Iz jaf (kg (K:=K) rfl (qpv 0)) (jc8 (jdu _))))
  (jg (jbi (K:=K) rfl (qpv 0) jf jqs)))) (jg (jy (jbo (jby (P:=P) (w:=w) (K:=K) rfl rfl rfl (qpv 1) (j8 (v:=.ref _) rfl T.m_WORDS rfl)) (by with_unfolding_all rfl)) (jg (jz (yv (qpv 0) T.cls T.d_wait_for_second G30z (hr.mono (by decide)) b30z .nil jo (ja (zi (P:=P) (w:=w) (K:=K) rfl rfl rfl (j8 (v:=.ref _) rfl T.m_WORDS rfl) (qpv 1) (λ_ _=>rfl)) jb)))) (je (jy (jar (y0 (kg (K:=K) rfl (qpv 0)))) (jg (jz (yv (qpv 0) T.cls T.d_wait_for_second G30z (hr.mono (by decide)) b30z .nil jo (ja jj jb)))) j7)
  (jg (jz (yv (qpv 0) T.cls T.d_begin_part G31z (hr.mono (by decide)) b31z .nil jo (ja (qpv 1) jb))))))))) ?_
  simp! [e1]
  cases S with
  |shut h ho B =>
   rw[Ad h]
   have bl:=B.len
   refine⟨dx,_,I.hx,lk_m _ _ _ _ _ _ (by decide +kernel),KB,T.kb,.inr (ew .or),rfl,_,ji2 (.op .or),?_⟩
   refine⟨x,dx,pr,pd,pw,0,wt,rd,R,op,false,_,_,_,rfl,I,by omega,B,by omega,by omega,λH1 I1 k1=>?_⟩
   refine I1.waiting T.rc rfl ⟨by show(jcp (H1 pw)).isSome=true;rw[I1.hw];rfl,?_⟩
   have e2:((W4.par::wt').reverse.map λw=>V.str (ws w))=(wt'.reverse.map λw=>V.str (ws w))++[V.str (ws .par)]:=by simp
   have hwl:=I1.hw
   rw[e2]at hwl
   rw[jc9,hwl]
   refine⟨_,rfl,V.str (ws .par),by simp,?_⟩
   rw[Ox]
   have I2:=I1.putW wt'
   have k2:Kp [x,pr,pd,pw] H1 (upd H1 pw (.lst (wt'.reverse.map λw=>V.str (ws w)))):=I1.kpL I1.hw (by simp)
   generalize upd H1 pw (.lst (wt'.reverse.map λw=>V.str (ws w)))=H2 at I2 k2⊢
   obtain⟨I3,k3⟩:=I2.fields ((op:Int)-1) false
   refine I2.subO T.rc rfl ?_
   have eo:(op:Int)-1=(o:Int):=by omega
   rw[eo]at I3 k3⊢
   exact k _ I3 ((k1.trans k2).trans k3)
  |word h1 h2 B =>
   rename_i w1 wt1
   have n1:¬c=41:=by rw[h2];cases w1 <;> decide
   rw[Aa n1]
   refine⟨KW,T.kw,T.wm,.inr (sgn c),rfl,?_⟩
   have ev:valV KW (.inr (sgn c))=some (.str (ew w1)):=by
    rw[jgp,h2]
    cases w1 with
    |or=>rfl
    |and=>rfl
    |beh=>exact absurd rfl h1
   rw[ev,Ad (show(some (V.str (ew w1))).isSome=true from rfl)]
   refine⟨dx,_,I.hx,lk_m _ _ _ _ _ _ (by decide +kernel),KW,T.kw,.inr (sgn c),rfl,_,ev,?_⟩
   exact⟨x,dx,pr,pd,pw,w1,wt,rd,R,op,false,_,_,_,rfl,I,B,by omega,by omega,λH1 I1 k1=>k _ I1 k1⟩
  |part B =>
   have sn:=B.sign
   have n1:¬c=41:=by omega
   have ev:valV KW (.inr (sgn c))=none:=by rw[jgp,Aa (by omega),Aa (by omega)]
   rw[Aa n1]
   refine⟨KW,T.kw,T.wm,.inr (sgn c),rfl,?_⟩
   rw[ev,Aa (by simp)]
   refine I.due T.rc rfl ⟨_,rfl,?_⟩
   rw[Aa (by simp)]
   refine⟨dx,_,I.hx,lk_m _ _ _ _ _ _ (by decide +kernel),?_⟩
   exact⟨x,dx,pr,pd,pw,c,wt,rd,R,op,_,_,_,_,_,rfl,I,B,by omega,by omega,by omega,λH1 I1 k1=>k _ I1 k1⟩
  |more B1 B2 =>
   have sn:=B2.sign
   have bl:=B1.len
   have n1:¬c=41:=by omega
   have n2:¬c=124:=by omega
   have n3:¬c=38:=by omega
   have ev:valV KW (.inr (sgn c))=none:=by rw[jgp,Aa n2,Aa n3]
   rw[Aa n1]
   refine⟨KW,T.kw,T.wm,.inr (sgn c),rfl,?_⟩
   rw[ev,Aa (by simp)]
   refine I.due T.rc rfl ⟨_,rfl,?_⟩
   rw[Ad (by simp)]
   refine⟨dx,_,I.hx,lk_m _ _ _ _ _ _ (by decide +kernel),?_⟩
   refine⟨x,dx,pr,pd,pw,.beh,wt,rd,R,op,false,_,_,_,rfl,I,B1,by omega,by omega,λH1 I1 k1=>?_⟩
   refine⟨dx,_,I1.hx,lk_m _ _ _ _ _ _ (by decide +kernel),?_⟩
   exact⟨x,dx,pr,pd,pw,c,_,_,_,op,_,_,_,_,_,rfl,I1,B2,by omega,by simp only[List.length_cons];omega,by omega,λH2 I2 k2=>k _ I2 (k1.trans k2)⟩
abbrev z7:Stmt:=jel (top 33) 1
theorem sc_Rd_fits:FnScope ["self","sign"] ["self","sign"] (ji z7):=⟨rfl,rfl,rfl,by decide +kernel,rfl,by decide +kernel,by decide +kernel⟩
theorem ok_fits{f C aw:Addr}{fd:FuncData}(F:Fun K "fits" "Reading.fits" z7 f fd)(T:TFi P w K mg C aw):FnOk P w K mg base CX0 1 f fd ["self","sign"] (spFi C):=by
 refine F.ok sc_Rd_fits (λvs H Q E h=>?_) (λcdv A outer s H vs Q E hr h=>?_)
 ·obtain⟨x,dx,pr,pd,pw,c,wt,rd,R,op,b,rfl,_⟩:=h
  rfl
 ·obtain⟨x,dx,pr,pd,pw,c,wt,rd,R,op,b,rfl,I,k⟩:=h
  have hu:=hr.units
  have hsz:sizeLine=16777216:=Ao
  have e1:(sgn c=Str.ofString ")")↔c=41:=jdb c 41
  refine exQ (je (jy (jbo (jby (P:=P) (w:=w) (K:=K) rfl rfl rfl (qpv 1) (j8 (v:=.ref _) rfl T.m_WORDS rfl)) (by with_unfolding_all rfl)) (jg (jp (ja2 (kg (K:=K) rfl (qpv 0))))) j7)
  (je (jy (jq (ke hu) (qpv 1) jj (jw _)) (jg (jp (jag (ja2 (kg (K:=K) rfl (qpv 0))) (jai (zx ja4 (kg (K:=K) rfl (qpv 0)) jf (jw _)))))) j7)
  (jg (jp (jcj (zx (jce (K:=K) rfl) (qpv 1) (km (ja jj (ja jj (ja jj (ja jj jb))))) (by with_unfolding_all rfl)) (jai (qpe_chain jcf jcf jj (qpv 1) jj))))))) ?_
  simp! [e1]
  refine⟨KW,T.kw,T.wm,.inr (sgn c),rfl,?_⟩
  by_cases w1:c=124\/c=38
  ·have ev:(valV KW (.inr (sgn c))).isSome=true:=by
    rw[jgp]
    rcases w1 with rfl|rfl <;> rfl
   have ef:fitB op b c=!b:=by
    unfold fitB stA
    rcases w1 with rfl|rfl <;> cases b <;> simp[lf]
   rw[Ad ev]
   refine I.due T.rc rfl ⟨_,rfl,?_⟩
   rw[<-ef]
   exact k _ (Kp.refl _ _)
  have n2:¬c=124:=λz=>w1 (.inl z)
  have n3:¬c=38:=λz=>w1 (.inr z)
  rw[jgp,Aa n2,Aa n3,Aa (by simp)]
  by_cases w2:c=41
  ·rw[Ad w2]
   refine I.due T.rc rfl ⟨_,rfl,?_⟩
   subst w2
   cases b with
   |true =>
    rw[Aa (by simp)]
    have ef:fitB op true 41=false:=by simp[fitB,stA,lf]
    rw[<-ef]
    exact k _ (Kp.refl _ _)
   |false =>
    rw[Ad (by simp)]
    refine I.opened T.rc rfl ⟨_,rfl,?_⟩
    have ef:fitB op false 41=decide ((0:Int)<(op:Int)):=by
     cases op with
     |zero=>simp[fitB,stA,lf]
     |succ n=>simp[fitB,stA,lf]
    rw[<-ef]
    exact k _ (Kp.refl _ _)
  rw[Aa w2]
  refine⟨by omega,λp hp=>rInU.tupS (SqT.of jc) rfl rfl ⟨_,rfl,?_⟩⟩
  have q:=k _ ((Kp.refl [] H).new (o:=HO.tup [V.str (Str.ofString "-"),V.str (Str.ofString "("),V.str (Str.ofString "."),V.str (Str.ofString "0")]) hp)
  simp only[Iu,On]
  by_cases s1:c=45\/c=40\/c=46\/c=48
  ·have ef:fitB op b c=true:=by rcases s1 with rfl|rfl|rfl|rfl <;> simp[fitB,stA,lf]
   rw[Ad (by rcases s1 with rfl|rfl|rfl|rfl <;> decide +kernel),<-ef]
   exact q
  ·have iv:¬inV (V.str (sgn c)) [V.str (Str.ofString "-"),V.str (Str.ofString "("),V.str (Str.ofString "."),V.str (Str.ofString "0")]=true:=λz=>by
    unfold inV at z
    rw[List.any_eq_true]at z
    obtain⟨y,hy,e⟩:=z
    simp only[Aw,Ap,Wl]at hy
    have sq:∀d:Nat,eqV (V.str (sgn d)) (V.str (sgn c))=true->d=c:=λd h=>by simpa[eqV,sgn]using h
    rcases hy with rfl|rfl|rfl|rfl
    ·exact s1 (.inl (sq 45 e).symm)
    ·exact s1 (.inr (.inl (sq 40 e).symm))
    ·exact s1 (.inr (.inr (.inl (sq 46 e).symm)))
    ·exact s1 (.inr (.inr (.inr (sq 48 e).symm)))
   rw[Aa iv]
   have l1:((sgn c).cps.toList<(Str.ofString "a").cps.toList)↔c<97:=lt1 c 97
   have l2:((Str.ofString "z").cps.toList<(sgn c).cps.toList)↔122<c:=lt1 122 c
   have ef:fitB op b c=decide (97<=c/\c<=122):=by
    have l0:lf c=if 97<=c/\c<=122 then some (.letter (sgn c))else none:=by
     unfold lf
     rw[Aa (by omega),Aa (by omega)]
    unfold fitB stA
    rw[Aa (by omega),Aa (by omega),l0]
    by_cases h:97<=c/\c<=122
    ·rw[Ad h];simp[h]
    ·rw[Aa h,Ic h,Aa (by simp),Aa w2,Aa w1];cases b <;> rfl
   rw[ef]at q
   by_cases h1:c<97
   ·rw[Oy (l1.mpr h1),Aa (by simp)]
    rw[Ic (by omega)]at q
    exact q
   ·rw[Ic (λz=>h1 (l1.mp z)),Ad (by simp)]
    by_cases h2:122<c
    ·rw[Oy (l2.mpr h2)]
     rw[Ic (by omega)]at q
     exact q
    ·rw[Ic (λz=>h2 (l2.mp z))]
     rw[Oy (by omega)]at q
     exact q
abbrev z8:Stmt:=jel (top 33) 0
theorem sc_Rd_init:FnScope ["self"] ["self"] (ji z8):=⟨rfl,rfl,rfl,by decide +kernel,rfl,by decide +kernel,by decide +kernel⟩
theorem ok_init{f C:Addr}{fd:FuncData}(F:Fun K "__init__" "Reading.__init__" z8 f fd)(rc:RC K C):FnOk P w K mg base CX0 1 f fd ["self"] (spIn C):=by
 refine F.ok sc_Rd_init (λvs H Q E h=>?_) (λcdv A outer s H vs Q E hr h=>?_)
 ·obtain⟨x,dx,rfl,_⟩:=h
  rfl
 ·obtain⟨x,dx,rfl,hx,k⟩:=h
  have hu:=hr.units
  have hsz:sizeLine=16777216:=Ao
  refine exQ (je (jaj (K:=K) rfl (qpv 0) (j6 jb))
  (je (jaj (K:=K) rfl (qpv 0) (j6 jb))
  (je (jaj (K:=K) rfl (qpv 0) (j6 jb))
  (je (jaj (K:=K) rfl (qpv 0) jf)
  (jg (jaj (K:=K) rfl (qpv 0) zu)))))) ?_
  simp!
  refine jh2 rfl hx rc.cls rc.rows (by simp) λpr hpr=>?_
  obtain⟨x1,p1,k1⟩:=jfn (S:=[x]) hx hpr (fs':=putF "rows" (.ref pr) []) (.head _)
  generalize upd (upd H pr (.lst [])) x (.ins C dx (putF "rows" (.ref pr) []))=H1 at x1 p1 k1⊢
  simp!
  refine jh2 rfl x1 rc.cls rc.ready (by simp[putF]) λpd hpd=>?_
  obtain⟨x2,p2,k2⟩:=jfn (S:=[x]) x1 hpd (fs':=putF "ready" (.ref pd) (putF "rows" (.ref pr) [])) (.head _)
  have q2:=k2.old _ _ p1 (λm=>by rw[Ak.mp m,x1]at p1;cases p1)
  have hpd0:=k1.free hpd
  have n1:pr≠pd:=jh p1 hpd
  generalize upd (upd H1 pd (.lst [])) x (.ins C dx (putF "ready" (.ref pd) (putF "rows" (.ref pr) [])))=H2 at x2 p2 q2 k2⊢
  simp!
  refine jh2 rfl x2 rc.cls rc.waiting (Ut (Us (rfl:List.length _=2)) (by decide)) λpw hpw=>?_
  obtain⟨x3,p3,k3⟩:=jfn (S:=[x]) x2 hpw (fs':=putF "waiting" (.ref pw) (putF "ready" (.ref pd) (putF "rows" (.ref pr) []))) (.head _)
  have q3:=k3.old _ _ q2 (λm=>by rw[Ak.mp m,x2]at q2;cases q2)
  have r3:=k3.old _ _ p2 (λm=>by rw[Ak.mp m,x2]at p2;cases p2)
  have hpw0:=(k1.trans k2).free hpw
  have n2:pr≠pw:=jh q2 hpw
  have n3:pd≠pw:=jh p2 hpw
  generalize upd (upd H2 pw (.lst [])) x (.ins C dx (putF "waiting" (.ref pw) (putF "ready" (.ref pd) (putF "rows" (.ref pr) []))))=H3 at x3 p3 q3 r3 k3⊢
  simp!
  refine jlt rfl x3 rc.cls rc.opened (Ut (Us (rfl:List.length _=3)) (by decide)) ?_
  have k4:=jkq (S:=[x]) (fs':=putF "opened" (.int 0) (putF "waiting" (.ref pw) (putF "ready" (.ref pd) (putF "rows" (.ref pr) [])))) x3 (.head _)
  have x4:upd H3 x (.ins C dx (putF "opened" (.int 0) (putF "waiting" (.ref pw) (putF "ready" (.ref pd) (putF "rows" (.ref pr) []))))) x=_:=jc
  have nl:∀{b:Addr}{xs:List V},H3 b=some (.lst xs)->b∉[x]:=λe m=>by rw[Ak.mp m,x3]at e;cases e
  have p4:=k4.old _ _ p3 (nl p3)
  have q4:=k4.old _ _ q3 (nl q3)
  have r4:=k4.old _ _ r3 (nl r3)
  generalize upd H3 x (.ins C dx (putF "opened" (.int 0) (putF "waiting" (.ref pw) (putF "ready" (.ref pd) (putF "rows" (.ref pr) [])))))=H4 at x4 p4 q4 r4 k4⊢
  refine jlt rfl x4 rc.cls rc.due (Ut (Us (rfl:List.length _=4)) (by decide)) ?_
  have k5:=jkq (S:=[x]) (fs':=RF pr pd pw 0 true) x4 (.head _)
  have nl:∀{b:Addr}{xs:List V},H4 b=some (.lst xs)->b∉[x]:=λe m=>by rw[Ak.mp m,x4]at e;cases e
  exact k pr pd pw _ ⟨jc,⟨[],k5.old _ _ q4 (nl q4),.nil⟩,k5.old _ _ r4 (nl r4),k5.old _ _ p4 (nl p4),n1,n2,n3⟩ hpr hpd0 hpw0 ((((k1.trans k2).trans k3).trans k4).trans k5)
end
def RE.mp(g:Nat->Nat):RE->RE
 |.no i=>.no (g i)
 |.bin w i j=>.bin w (g i) (g j)
 |r=>r
def bn:BW->Nat
 |.or=>0
 |.and=>1
 |.beh=>2
theorem jep(w:BW):bpi (.op w)=(bn w:Int):=by cases w <;> rfl
theorem ji5(w:BW):bn w<=2:=by cases w <;> decide
def wl:BW->List Nat
 |.or=>[124]
 |.and=>[38]
 |.beh=>[]
inductive Ren (R0:List RE):Nat->Nat->List Nat->Prop
 |leaf {i b c:Nat}{r:RE}:R0[i]?=some r->lf c=some r->Ren R0 i b [c]
 |no {i b j:Nat}{t:List Nat}:R0[i]?=some (.no j)->b<=3->Ren R0 j 3 t->Ren R0 i b (45::t)
 |op {i b j k:Nat}{w:BW}{t u:List Nat}:R0[i]?=some (.bin w j k)->b<=bn w->Ren R0 j (bn w) t->Ren R0 k (bn w+1) u->Ren R0 i b (t++(wl w++u))
 |par {i b:Nat}{t:List Nat}:Ren R0 i 0 t->Ren R0 i b (40::(t++[41]))
def jjt(wt:List W4)(b:Int):Prop:=∀w∈wt.head?,bpi w<b
theorem jpu{c:Nat}{r:RE}(h:lf c=some r):(∀k,r.ok k)/\∀g,r.mp g=r:=by
 unfold lf at h
 split at h
 ·cases h;exact⟨λ_=>trivial,λ_=>rfl⟩
 ·split at h
  ·cases h;exact⟨λ_=>trivial,λ_=>rfl⟩
  ·split at h
   ·cases h;exact⟨λ_=>rfl,λ_=>rfl⟩
   ·cases h
def jlv:Sp:=λvs H Q _=>∃(b:Addr)(m:Int)(o:HO),vs=[.ref b,.int m]/\H b=some o/\BoxO o/\1<=m/\m<=1000/\∀d o' H',0<=d->d<m->BoxO o'->H' b=some o'->Kp [b] H H'->Q (.int d) H'
theorem BoxO.lst{o:HO}(h:BoxO o):∃xs,o=.lst xs:=by obtain⟨c,s,e,_⟩:=h;exact⟨_,e⟩
section
variable{P:Program}{w:World}{K:PySem.W.Frag}{mg:Str->Option Value}{base:Heap}
structure TRow(mg:Str->Option Value)(ft:Addr):Prop where
 m1z:mg "_law_take"=some (.ref ft)
abbrev yo:Stmt:=top 39
theorem sc__law_row_at:FnScope ["_law_box_here","_law_k"] ["_law_box_here","_law_k"] (ji yo):=⟨rfl,rfl,rfl,by decide +kernel,rfl,by decide +kernel,by decide +kernel⟩
theorem ok__law_row_at{f ft:Addr}{fd fdt:FuncData}(F:Fun K "_law_row_at" "_law_row_at" yo f fd)(T:TRow mg ft)(F1z:Fun K "_law_take" "_law_take" kf ft fdt)(b1z:Binds K fdt ["_law_box_here","_law_wide"] [])
  (G1z:FnOk P w K mg base CX0 1 ft fdt ["_law_box_here","_law_wide"] jdh):FnOk P w K mg base CX0 2 f fd ["_law_box_here","_law_k"] jlv:=by
 refine F.ok sc__law_row_at (λvs H Q E h=>?_) (λcdv A outer s H vs Q E hr h=>?_)
 ·obtain⟨b,m,o,rfl,_⟩:=h
  rfl
 ·obtain⟨b,m,o,rfl,hb,ho,m1,m2,k⟩:=h
  refine⟨_,(QSs.h (jg (jp (jv ix_U (j6 (ja (jn zk (qpv 1) jf) (ja (jk G1z (hr.mono (by decide)) rfl T.m1z F1z.kp b1z .nil jo (ja (qpv 0) (ja (qpv 1) jb))) jb))) (jk G1z (hr.mono (by decide)) rfl T.m1z F1z.kp b1z .nil jo (ja (qpv 0) (ja jf jb))) (λ_ _=>rfl))))),?_⟩
  have hsz:sizeLine=16777216:=Ao
  simp!
  refine⟨b,m,o,rfl,hb,ho,by omega,by omega,λd o1 d0 d1 ho1=>?_⟩
  refine⟨by omega,λp hp=>?_⟩
  have nbp:b≠p:=jh jc hp
  obtain⟨xs0,rfl⟩:=ho.lst
  obtain⟨xs1,rfl⟩:=id ho1.lst
  refine⟨b,2,_,rfl,by rw[jd nbp,jc],ho1,by omega,by omega,λe o2 e0 e1 ho2=>?_⟩
  have hp2:upd (upd (upd H b (.lst xs1)) p (.lst [V.int (m-1),V.int d])) b o2 p=some (.lst [V.int (m-1),V.int d]):=by rw[jd nbp.symm,jc]
  simp! [hp2]
  have kp:Kp [b] H (upd (upd (upd H b (.lst xs1)) p (.lst [V.int (m-1),V.int d])) b o2):=((((Kp.refl [b] H).set hb (.inl (.head _))).new hp).set (by rw[jd nbp,jc]) (.inl (by simp)))
  have:e=0\/e=1:=by omega
  rcases this with rfl|rfl
  ·exact⟨_,jl6 _ _,k _ o2 _ (by omega) (by omega) ho2 jc kp⟩
  ·exact⟨_,jl7 _ _ _,k _ o2 _ d0 d1 ho2 jc kp⟩
end
def lw(z:Str):Prop:=∀c∈z.cps.toList,97<=c/\c<=122
def RE.okz(k:Nat):RE->Prop
 |.nothing=>True
 |.blank=>True
 |.letter a=>a.length=1/\lw a
 |.no i=>i<k
 |.bin _ i j=>i<k/\j<k
def keyR:RE->Row
 |.nothing=>[.inr "nothing"]
 |.blank=>[.inr "blank"]
 |.letter a=>[.inr "letter",.inr a]
 |.no i=>[.inr "not",.inl (i:Int)]
 |.bin w i j=>[.inr (ew w),.inl (i:Int),.inl (j:Int)]
theorem jnk(r:RE):(keyR r).map kV=jco r:=by cases r <;> rfl
theorem jpp{k:Nat}{r:RE}(h:r.okz k):RowOk k (keyR r):=λi hi=>by
 cases r with
 |nothing=>simp[keyR]at hi
 |blank=>simp[keyR]at hi
 |letter a=>simp[keyR]at hi
 |no j=>simp[keyR]at hi;have:j<k:=h;omega
 |bin w j l=>simp[keyR]at hi;have h1:j<k:=h.1;have h2:l<k:=h.2;omega
structure Exp(H:Hp)(vs:List V)(rs:List RE):Prop where
 at_:Paired (λv r=>∃a,v=.ref a/\H a=some (.tup (jco r))) vs rs
 ok:∀(k:Nat)(r:RE),rs[k]?=some r->r.okz k
theorem jbe{α β:Type}{F:α->β->Prop}:∀{l:List α}{m:List β}{k:Nat}{v:α},Paired F l m->l[k]?=some v->∃r,m[k]?=some r/\F v r
 |_,_,k,v,.nil,e=>by simp at e
 |_,_,0,v,.cons (b:=b) h _,e=>by simp at e;subst e;exact⟨b,rfl,h⟩
 |_,_,k+1,v,.cons _ t,e=>by simp at e;obtain⟨r,h⟩:=jbe t e;exact⟨r,by simpa using h.1,h.2⟩
theorem Exp.kp{S:List Addr}{H H':Hp}{vs:List V}{rs:List RE}(E:Exp H vs rs)(k:Kp S H H'):Exp H' vs rs:=⟨Paired.mapP E.at_ λ_ _ ⟨a,e,h⟩=>⟨a,e,k.tup _ _ h⟩,E.ok⟩
theorem Exp.len{H:Hp}{vs:List V}{rs:List RE}(E:Exp H vs rs):vs.length=rs.length:=Ip E.at_
theorem Exp.get{H:Hp}{vs:List V}{rs:List RE}(E:Exp H vs rs){i:Nat}(h:i<rs.length):∃a,vs[i]?=some (.ref a)/\H a=some (.tup (jco (rs.getD i .nothing))):=by
 have hv:i<vs.length:=by rw[E.len];exact h
 obtain⟨r,e,a,e2,g⟩:=jbe E.at_ (An hv)
 refine⟨a,by rw[An hv,e2],?_⟩
 rw[Ag,e]
 exact g
structure Fx(H:Hp)(b q:Addr)(us:List V)(rs:List RE)(o:HO)(H1:Hp):Prop where
 hb:H1 b=some o
 ho:BoxO o
 hq:H1 q=some (.lst us)
 ex:Exp H1 us rs
 kp:Kp [b] H H1
theorem Fx.new{H H1:Hp}{b q:Addr}{us:List V}{rs:List RE}{o x:HO}{t:Addr}(F:Fx H b q us rs o H1)(ht:H1 t=none):Fx H b q us rs o (upd H1 t x) :=
 ⟨by rw[jd (jh F.hb ht)];exact F.hb,F.ho,by rw[jd (jh F.hq ht)];exact F.hq,F.ex.kp ((Kp.refl [b] H1).new ht),F.kp.new ht⟩
theorem Fx.step{H H1 H2:Hp}{b q:Addr}{us:List V}{rs:List RE}{o o':HO}(F:Fx H b q us rs o H1)(nbq:b≠q)(k:Kp [b] H1 H2)(ho:BoxO o')(hb:H2 b=some o'):Fx H b q us rs o' H2 :=
 ⟨hb,ho,k.old _ _ F.hq (by simpa using nbq.symm),F.ex.kp k,F.kp.trans k⟩
theorem Fx.box{H H1:Hp}{b q:Addr}{us:List V}{rs:List RE}{o o':HO}(F:Fx H b q us rs o H1)(nbq:b≠q)(ho:BoxO o'):Fx H b q us rs o' (upd H1 b o'):=by
 obtain⟨xs,rfl⟩:=F.ho.lst
 exact F.step nbq ((Kp.refl [b] H1).set F.hb (.inl (by simp))) ho jc
theorem jlj{rs:List RE}{r:RE}(h:∀(k:Nat) (x:RE),rs[k]?=some x->x.okz k)(hr:r.okz rs.length):∀(k:Nat)(x:RE),(rs++[r])[k]?=some x->x.okz k:=λk x e=>by
 by_cases hk:k<rs.length
 ·rw[A1 hk]at e;exact h k x e
 ·have hk':k=rs.length:=by
   have:=(Ai.mp e).1
   simp at this
   omega
  subst hk'
  simp at e
  subst e
  exact hr
theorem Fx.put{H H9:Hp}{b q t:Addr}{us:List V}{rs:List RE}{o:HO}(F:Fx H b q us rs o H9)(r:RE)(hr:r.okz rs.length)(ht:H9 t=some (.tup (jco r)))(hq0:H q=none)(nbq:b≠q):Fx H b q (us++[.ref t]) (rs++[r]) o (upd H9 q (.lst (us++[.ref t]))):=by
 have kq:Kp [q] H9 (upd H9 q (.lst (us++[.ref t]))):=(Kp.refl [q] H9).set F.hq (.inl (by simp))
 exact⟨by rw[jd nbq];exact F.hb,F.ho,jc,⟨Wm (F.ex.kp kq).at_ ⟨t,rfl,kq.tup _ _ ht⟩,jlj F.ex.ok hr⟩,F.kp.set F.hq (.inr hq0)⟩
theorem jfe{z:Str}{d:Int}(h0:0<=d)(h:d<(z.length:Int)):∃c,c∈sg z/\atI z.cps.toList d=some c:=by
 have hzl:z.cps.toList.length=z.length:=by simp[Str.length]
 exact⟨z.cps.toList[d.toNat]'(by omega),Um _,jcm h0 (by simp)⟩
def IE(H:Hp)(b q:Addr)(z:Str)(m:Int)(i:Nat):L2.St->Hp->Prop:=λσ H'=>∃(us:List V)(rs:List RE)(o:HO)(v4 v5 v6 v7:Option V),σ=[some (.ref b),some (.str z),some (.int m),some (.ref q),v4,v5,v6,v7]/\rs.length=i/\Fx H b q us rs o H'
def jo8:Sp:=λvs H Q _=>∃(b:Addr)(z:Str)(m:Nat)(o:HO),vs=[.ref b,.str z,.int (m:Int)]/\H b=some o/\BoxO o/\1<=z.length/\z.length<=1000/\lw z/\1<=m/\m<=900 /\
 ∀(t:Addr)(us:List V)(rs:List RE)(o':HO)(H':Hp),H' t=some (.tup us)->Exp H' us rs->1<=rs.length->rs.length<=m->BoxO o'->H' b=some o'->Kp [b] H H'->Q (.ref t) H'
structure TEx(mg:Str->Option Value)(ft fr:Addr):Prop where
 n_range:mg "range"=none
 n_len:mg "len"=none
 n_tuple:mg "tuple"=none
 m1z:mg "_law_take"=some (.ref ft)
 m12z:mg "_law_row_at"=some (.ref fr)
theorem jpn{c1 c2 A B:Prop}[Decidable c1][Decidable c2](h1:c1\/c2->A)(h2:¬c1->¬c2->B):if c1 then A else if c2 then A else B:=by
 by_cases a:c1
 ·rw[Ad a];exact h1 (.inl a)
 ·rw[Aa a]
  by_cases b:c2
  ·rw[Ad b];exact h1 (.inr b)
  ·rw[Aa b];exact h2 a b
section
variable{P:Program}{w:World}{K:PySem.W.Frag}{mg:Str->Option Value}{base:Heap}
abbrev kx:Stmt:=top 40
theorem yg:FnScope ["_law_box_here","_law_letters_here","_law_most","_law_rows","_law_k","_law_kind","_law_base","_law_word"] ["_law_box_here","_law_letters_here","_law_most"] (ji kx):=⟨rfl,rfl,rfl,by decide +kernel,rfl,by decide +kernel,by decide +kernel⟩
theorem ok__law_expression{f ft fr:Addr}{fd fdt fdr:FuncData}(F:Fun K "_law_expression" "_law_expression" kx f fd)(T:TEx mg ft fr)(F1z:Fun K "_law_take" "_law_take" kf ft fdt)(b1z:Binds K fdt ["_law_box_here","_law_wide"] [])
  (G1z:FnOk P w K mg base CX0 1 ft fdt ["_law_box_here","_law_wide"] jdh) (F12z:Fun K "_law_row_at" "_law_row_at" yo fr fdr) (b12z:Binds K fdr ["_law_box_here","_law_k"] [])
  (G12z:FnOk P w K mg base CX0 2 fr fdr ["_law_box_here","_law_k"] jlv):FnOk P w K mg base CX0 3 f fd ["_law_box_here","_law_letters_here","_law_most"] jo8:=by
 refine F.ok yg (λvs H Q E h=>?_) (λcdv A outer s H vs Q E hr h=>?_)
 ·obtain⟨b,z,m,o,rfl,_⟩:=h
  rfl
 ·obtain⟨b,z,m,o,rfl,hb,ho,z1,z2,zl,m1,m2,k⟩:=h
  have hu:=hr.units
  refine⟨_,(QSs.h (je (jm (i:=3) yg.nd rfl (by first|exact Or.inl rfl|exact Or.inr rfl) (j6 jb))
  (je (zm Ii rfl (jac rfl T.n_range (ja (jn jx jf (jk G1z (hr.mono (by decide)) rfl T.m1z F1z.kp b1z .nil jo (ja (qpv 0) (ja (qpv 2) jb)))) jb)) (kj (i:=4) yg.nd rfl (by first|exact Or.inl rfl|exact Or.inr rfl)) (je (jm (i:=5) yg.nd rfl (by first|exact Or.inl rfl|exact Or.inr rfl) (jk G1z (hr.mono (by decide)) rfl T.m1z F1z.kp b1z .nil jo (ja (qpv 0) (ja jf jb))))
  (jg (jy (QW.pt (jav (jq (ke hu) (qpv 4) jf (jw _)) (jas (jq jat (qpv 5) jf (jw _))))) (je (jm (i:=6) yg.nd rfl (by first|exact Or.inl rfl|exact Or.inr rfl) (j6 (ja (km (ja jj (ja (jv ix_U (qpv 1) (jk G1z (hr.mono (by decide)) rfl T.m1z F1z.kp b1z .nil jo (ja (qpv 0) (ja (jr j9 (by rfl) T.n_len ku (ja (qpv 1) jb)) jb))) (λ_ _=>rfl)) jb))) (ja (km (ja jj jb)) (ja (km (ja jj jb)) jb)))))
  (jg (jz (yb Az A0 kc (qpv 3) (ja (jv ix_U (qpv 6) (jv ix_U (j6 (ja jf (ja jf (ja jf (ja jf (ja jf (ja jf jb))))))) (jk G1z (hr.mono (by decide)) rfl T.m1z F1z.kp b1z .nil jo (ja (qpv 0) (ja jf jb))) (λ_ _=>rfl)) (λ_ _=>rfl)) jb) jct)))) (jg (jy (jq jat (qpv 5) jf (jw _)) (jg (jz (yb Az A0 kc (qpv 3) (ja (km (ja jj (ja (jk G12z (hr.mono (by decide)) rfl T.m12z F12z.kp b12z .nil jo (ja (qpv 0) (ja (qpv 4) jb))) jb))) jb) jct))) (je (jm (i:=7) yg.nd rfl (by first|exact Or.inl rfl|exact Or.inr rfl) (jv ix_U (j6 (ja jj (ja jj (ja jj (ja jj (ja jj (ja jj jb))))))) (jn zk (qpv 5) jf) (λ_ _=>rfl)))
  (jg (jz (yb Az A0 kc (qpv 3) (ja (km (ja (qpv 7) (ja (jk G12z (hr.mono (by decide)) rfl T.m12z F12z.kp b12z .nil jo (ja (qpv 0) (ja (qpv 4) jb))) (ja (jk G1z (hr.mono (by decide)) rfl T.m1z F1z.kp b1z .nil jo (ja (qpv 0) (ja (qpv 4) jb))) jb)))) jb) jct))))))))))
  (jg (jp (yr zt (by rfl) T.n_tuple jae (ja (qpv 3) jb))))))),?_⟩
  have hsz:sizeLine=16777216:=Ao
  simp!
  refine⟨by omega,λq hq=>?_⟩
  have nbq:b≠q:=jh hb hq
  refine⟨b,_,o,rfl,by rw[jd nbq];exact hb,ho,by omega,by omega,λd o1 d0 d1 ho1=>?_⟩
  obtain⟨n,rfl⟩:∃n:Nat,d=(n:Int):=⟨d.toNat,by omega⟩
  have en:(1+(n:Int)).toNat=n+1:=by omega
  obtain⟨xs0,rfl⟩:=ho.lst
  simp!
  refine⟨by omega,by omega,?_⟩
  rw[en]
  refine jdj (IE H b q z (m:Int)) ?_ ?_ ?_
  ·exact⟨[],[],_,none,none,none,none,rfl,rfl,jc,ho1,by rw[jd nbq.symm,jc],⟨.nil,λk r e=>by simp at e⟩,((Kp.refl [b] H).new hq).set (by rw[jd nbq];exact hb) (.inl (by simp))⟩
  ·rintro i σ H1 hi ⟨us,rs,o2,v4,v5,v6,v7,rfl,hl,F1⟩
   have lu:us.length=rs.length:=Ip F1.ex.at_
   simp!
   refine⟨b,12,_,rfl,F1.hb,F1.ho,by omega,by omega,λkd o3 kd0 kd1 ho3=>?_⟩
   have F2:=F1.box nbq ho3
   simp!
   refine jpn (λh1=>?_) (λh1 h2=>ite2 (λh3=>?_) (λh3=>?_))
   ·refine⟨by omega,b,z.length,_,rfl,F2.hb,F2.ho,by omega,by omega,λe o4 e0 e1 ho4=>?_⟩
    have F3:=F2.box nbq ho4
    obtain⟨ch,hch,ach⟩:=jfe e0 e1
    simp! [ach]
    refine⟨by omega,by omega,λt1 ht1=>⟨by omega,λt2 ht2=>⟨by omega,λt3 ht3=>⟨by omega,λt4 ht4=>?_⟩⟩⟩⟩
    have F3':=F1.box nbq ho4
    have F4:=(((F3'.new (x:=.tup [V.str (Str.ofString "letter"),V.str ⟨#[ch]⟩]) ht1).new (x:=.tup [V.str (Str.ofString "blank")]) ht2).new (x:=.tup [V.str (Str.ofString "nothing")]) ht3).new (x:=.lst [V.ref t1,V.ref t2,V.ref t3]) ht4
    have n12:t1≠t2:=jh jc ht2
    have n23:t2≠t3:=jh jc ht3
    have n34:t3≠t4:=jh jc ht4
    have n13:t1≠t3:=jh (by rw[jd n12,jc]) ht3
    have n24:t2≠t4:=jh (by rw[jd n23,jc]) ht4
    have n14:t1≠t4:=jh (by rw[jd n13,jd n12,jc]) ht4
    have g1:upd (upd (upd (upd (upd H1 b o4) t1 (.tup [V.str (Str.ofString "letter"),V.str ⟨#[ch]⟩])) t2 (.tup [V.str (Str.ofString "blank")])) t3 (.tup [V.str (Str.ofString "nothing")])) t4 (.lst [V.ref t1,V.ref t2,V.ref t3]) t1=some (.tup (jco (.letter ⟨#[ch]⟩))):=by rw[jd n14,jd n13,jd n12,jc];rfl
    have g2:upd (upd (upd (upd (upd H1 b o4) t1 (.tup [V.str (Str.ofString "letter"),V.str ⟨#[ch]⟩])) t2 (.tup [V.str (Str.ofString "blank")])) t3 (.tup [V.str (Str.ofString "nothing")])) t4 (.lst [V.ref t1,V.ref t2,V.ref t3]) t2=some (.tup (jco .blank)):=by rw[jd n24,jd n23,jc];rfl
    have g3:upd (upd (upd (upd (upd H1 b o4) t1 (.tup [V.str (Str.ofString "letter"),V.str ⟨#[ch]⟩])) t2 (.tup [V.str (Str.ofString "blank")])) t3 (.tup [V.str (Str.ofString "nothing")])) t4 (.lst [V.ref t1,V.ref t2,V.ref t3]) t3=some (.tup (jco .nothing)):=by rw[jd n34,jc];rfl
    have g4:upd (upd (upd (upd (upd H1 b o4) t1 (.tup [V.str (Str.ofString "letter"),V.str ⟨#[ch]⟩])) t2 (.tup [V.str (Str.ofString "blank")])) t3 (.tup [V.str (Str.ofString "nothing")])) t4 (.lst [V.ref t1,V.ref t2,V.ref t3]) t4=some (.lst [V.ref t1,V.ref t2,V.ref t3]):=jc
    revert F4 g1 g2 g3 g4
    generalize upd (upd (upd (upd (upd H1 b o4) t1 (.tup [V.str (Str.ofString "letter"),V.str ⟨#[ch]⟩])) t2 (.tup [V.str (Str.ofString "blank")])) t3 (.tup [V.str (Str.ofString "nothing")])) t4 (.lst [V.ref t1,V.ref t2,V.ref t3])=H5
    intro F4 g1 g2 g3 g4
    refine⟨by rw[F4.hq];rfl,by omega,λt5 ht5=>?_⟩
    have F5:=F4.new (x:=.lst [V.int 0,V.int 0,V.int 0,V.int 0,V.int 1,V.int 2]) ht5
    refine⟨b,_,_,rfl,F5.hb,F5.ho,by omega,by omega,λe o7 e0 e1 ho7=>?_⟩
    have F6:=F5.box nbq ho7
    have nb5:b≠t5:=jh F4.hb ht5
    have nb4:b≠t4:=λz=>by subst z;have:=F4.hb;rw[g4]at this;obtain⟨c,sd,q1,_⟩:=F4.ho;rw[q1]at this;cases this
    have n45:t4≠t5:=jh g4 ht5
    have i5:∀o,upd (upd H5 t5 o) b o7 t5=some o:=λo=>by rw[jd nb5.symm,jc]
    have i4:∀o,upd (upd H5 t5 o) b o7 t4=some (.lst [V.ref t1,V.ref t2,V.ref t3]):=λo=>by rw[jd nb4.symm,jd n45];exact g4
    simp! [i5,i4]
    have k6:Kp [b] H5 (upd (upd H5 t5 (.lst [V.int 0,V.int 0,V.int 0,V.int 0,V.int 1,V.int 2])) b o7):=by
     obtain⟨xs9,e9⟩:=F4.ho.lst
     have hb5:=F5.hb
     rw[e9]at hb5
     exact((Kp.refl [b] H5).new ht5).set hb5 (.inl (.head _))
    have pick:∀(r:RE)(t:Addr),r.okz rs.length->H5 t=some (.tup (jco r))->∃xs_1,jcp (upd (upd H5 t5 (.lst [V.int 0,V.int 0,V.int 0,V.int 0,V.int 1,V.int 2])) b o7 q)=some xs_1/\xs_1.length<sizeLine /\
      IE H b q z (m:Int) (i+1) [some (V.ref b),some (V.str z),some (V.int (m:Int)),some (V.ref q),some (V.int (0+(i:Int))),some (V.int kd),some (V.ref t4),v7] (upd (upd (upd H5 t5 (.lst [V.int 0,V.int 0,V.int 0,V.int 0,V.int 1,V.int 2])) b o7) q (.lst (xs_1++[V.ref t]))) :=
     λr t hr ht=>⟨us,by rw[F6.hq];rfl,by omega,us++[.ref t],rs++[r],o7,_,_,_,_,rfl,by simp[hl],F6.put r hr (k6.tup _ _ ht) hq nbq⟩
    have:e=0\/e=1\/e=2\/e=3\/e=4\/e=5:=by omega
    rcases this with rfl|rfl|rfl|rfl|rfl|rfl
    ·exact⟨_,jcm (by decide) rfl,_,by rw[i4];rfl,_,jcm (by decide) rfl,pick (.letter ⟨#[ch]⟩) t1 ⟨rfl,λc hc=>by simp at hc;subst hc;exact zl _ hch⟩ g1⟩
    ·exact⟨_,jcm (by decide) rfl,_,by rw[i4];rfl,_,jcm (by decide) rfl,pick (.letter ⟨#[ch]⟩) t1 ⟨rfl,λc hc=>by simp at hc;subst hc;exact zl _ hch⟩ g1⟩
    ·exact⟨_,jcm (by decide) rfl,_,by rw[i4];rfl,_,jcm (by decide) rfl,pick (.letter ⟨#[ch]⟩) t1 ⟨rfl,λc hc=>by simp at hc;subst hc;exact zl _ hch⟩ g1⟩
    ·exact⟨_,jcm (by decide) rfl,_,by rw[i4];rfl,_,jcm (by decide) rfl,pick (.letter ⟨#[ch]⟩) t1 ⟨rfl,λc hc=>by simp at hc;subst hc;exact zl _ hch⟩ g1⟩
    ·exact⟨_,jcm (by decide) rfl,_,by rw[i4];rfl,_,jcm (by decide) rfl,pick .blank t2 trivial g2⟩
    ·exact⟨_,jcm (by decide) rfl,_,by rw[i4];rfl,_,jcm (by decide) rfl,pick .nothing t3 trivial g3⟩
   ·refine⟨by rw[F2.hq];rfl,b,_,_,rfl,F2.hb,F2.ho,by omega,by omega,λe o7 H5 e0 e1 ho7 hb7 k7=>⟨by omega,λt ht=>?_⟩⟩
    obtain⟨j,rfl⟩:∃j:Nat,e=(j:Int):=⟨e.toNat,by omega⟩
    have F6:=(F2.step nbq k7 ho7 hb7).new (x:=.tup [V.str (Str.ofString "not"),V.int (j:Int)]) ht
    exact⟨us,by rw[F6.hq];rfl,by omega,us++[.ref t],rs++[.no j],o7,_,_,_,_,rfl,by simp[hl],F6.put (.no j) (show j<rs.length by omega) jc hq nbq⟩
   ·obtain⟨bb,hbb⟩:∃bb:BW,atI [V.str (Str.ofString "behind"),V.str (Str.ofString "behind"),V.str (Str.ofString "behind"),V.str (Str.ofString "or"),V.str (Str.ofString "or"),V.str (Str.ofString "and")] (kd-6)=some (.str (ew bb)):=by
     have:kd=6\/kd=7\/kd=8\/kd=9\/kd=10\/kd=11:=by omega
     rcases this with rfl|rfl|rfl|rfl|rfl|rfl
     ·exact⟨.beh,jcm (by decide) rfl⟩
     ·exact⟨.beh,jcm (by decide) rfl⟩
     ·exact⟨.beh,jcm (by decide) rfl⟩
     ·exact⟨.or,jcm (by decide) rfl⟩
     ·exact⟨.or,jcm (by decide) rfl⟩
     ·exact⟨.and,jcm (by decide) rfl⟩
    refine⟨by omega,λt0 ht0=>?_⟩
    have Fa:=F2.new (x:=.lst [V.str (Str.ofString "behind"),V.str (Str.ofString "behind"),V.str (Str.ofString "behind"),V.str (Str.ofString "or"),V.str (Str.ofString "or"),V.str (Str.ofString "and")]) ht0
    refine⟨_,hbb,by rw[Fa.hq];rfl,?_⟩
    refine⟨b,_,_,rfl,Fa.hb,Fa.ho,by omega,by omega,λe o7 H5 e0 e1 ho7 hb7 k7=>?_⟩
    have Fb:=Fa.step nbq k7 ho7 hb7
    refine⟨b,_,_,rfl,hb7,ho7,by omega,by omega,λe2 o8 e20 e21 ho8=>⟨by omega,λt ht=>?_⟩⟩
    obtain⟨j,rfl⟩:∃j:Nat,e=(j:Int):=⟨e.toNat,by omega⟩
    obtain⟨l,rfl⟩:∃l:Nat,e2=(l:Int):=⟨e2.toNat,by omega⟩
    have F6:=(Fb.box nbq ho8).new (x:=.tup [V.str (ew bb),V.int (j:Int),V.int (l:Int)]) ht
    exact⟨us,by rw[F6.hq];rfl,by omega,us++[.ref t],rs++[.bin bb j l],o8,_,_,_,_,rfl,by simp[hl],F6.put (.bin bb j l) (show j<rs.length/\l<rs.length by omega) jc hq nbq⟩
  ·rintro σ H1 ⟨us,rs,o2,v4,v5,v6,v7,rfl,hl,F1⟩
   simp!
   refine jdm F1.hq λt ht=>?_
   have kt:=(Kp.refl [b] H1).new (o:=.tup us) ht
   exact k t us rs o2 _ jc (F1.ex.kp kt) (by omega) (by omega) F1.ho (by rw[jd (jh F1.hb ht)];exact F1.hb) (F1.kp.trans kt)
end
theorem jhw(g:Nat->Nat)(r:RE):wpR g (keyR r)=keyR (r.mp g):=by cases r <;> simp[keyR,wpR,RE.mp,mapR]
theorem job{k:Nat}{r:RE}(h:r.ok k):RowOk k (keyR r):=λi hi=>by
 cases r with
 |nothing=>simp[keyR]at hi
 |blank=>simp[keyR]at hi
 |letter a=>simp[keyR]at hi
 |no j=>simp[keyR]at hi;have:j<k:=h;omega
 |bin w j l=>simp[keyR]at hi;have h1:j<k:=h.1;have h2:l<k:=h.2;omega
theorem jq1{R:List RE}(h:∀(k:Nat) (r:RE),R[k]?=some r->r.ok k):OkR (R.map keyR):=λk r e=>by
 rw[A3]at e
 obtain⟨s,es,rfl⟩:=Op.mp e
 exact job (h k s es)
theorem Kp.fresh{S:List Addr}{H H1 H2:Hp}(k0:Kp [] H H1)(k:Kp S H1 H2)(h:∀s∈S,H s=none):Kp [] H H2 :=
 ⟨λb v e _=>k.old b v (k0.old b v e (by simp)) (λm=>by rw[h b m]at e;cases e),λb xs e=>k.tup _ _ (k0.tup _ _ e),λb v e=>let⟨u,e'⟩:=k0.dom b v e;k.dom b u e'⟩
theorem RdI.kp0{H H':Hp}{x C dx pr pd pw:Addr}{wt:List W4}{rd:List Nat}{R:List RE}{op:Int}{du:Bool}(I:RdI H x C dx pr pd pw wt rd R op du)(k:Kp [] H H'):RdI H' x C dx pr pd pw wt rd R op du :=
 let⟨us,hr,rr⟩:=I.hr
 ⟨k.old _ _ I.hx (by simp),⟨us,k.old _ _ hr Ap,rr.kp k⟩,k.old _ _ I.hd (by simp),k.old _ _ I.hw (by simp),I.n1,I.n2,I.n3⟩
theorem RowE.rowsT{H:Hp}{us:List V}{R:List RE}(h:RowE H us R):RowsT H us (R.map keyR):=by
 induction h with
 |nil=>exact .nil
 |cons h _ ih =>
  obtain⟨a,e,h⟩:=h
  exact .cons ⟨a,e,by rw[jnk];exact h⟩ ih
section
variable{P:Program}{w:World}{K:PySem.W.Frag}{mg:Str->Option Value}{base:Heap}
abbrev zy:Stmt:=top 20
theorem sc_tidied:FnScope ["expression"] ["expression"] (ji zy):=⟨rfl,rfl,rfl,by decide +kernel,rfl,by decide +kernel,by decide +kernel⟩
structure TTi(mg:Str->Option Value)(fi:Addr):Prop where
 m22z:mg "in_order"=some (.ref fi)
theorem ok_tidied{f fi:Addr}{fd fdi:FuncData}(F:Fun K "tidied" "tidied" zy f fd)(T:TTi mg fi)(F22z:Fun K "in_order" "in_order" yt fi fdi)(b22z:Binds K fdi ["rows"] [])
  (G22z:FnOk P w K mg base CX0 3 fi fdi ["rows"] (spIO K)):FnOk P w K mg base CX0 4 f fd ["expression"] (spIO K):=by
 refine F.ok sc_tidied (λvs H Q E h=>?_) (λcdv A outer s H vs Q E hr h=>?_)
 ·obtain⟨a,us,R,rfl,_⟩:=h
  rfl
 ·obtain⟨a,us,R,rfl,hh⟩:=h
  have hu:=hr.units
  refine exQ (jg (jp (jk G22z (hr.mono (by decide)) rfl T.m22z F22z.kp b22z .nil jo (ja (qpv 0) jb)))) ?_
  simp!
  exact⟨a,us,R,rfl,hh⟩
end
def eh:RE->Str
 |.nothing=>"nothing"
 |.blank=>"blank"
 |.letter _=>"letter"
 |.no _=>"not"
 |.bin w _ _=>ew w
def bwd:BW->Int
 |.or=>0
 |.and=>1
 |.beh=>2
def bnd:RE->Int
 |.no _=>3
 |.bin w _ _=>bwd w
 |_=>4
def swd:BW->Str
 |.or=>"|"
 |.and=>"&"
 |.beh=>""
theorem ji6(r:RE):atI (jco r) 0=some (.str (eh r)):=by
 cases r <;> exact jcm (by decide) rfl
def ow:RE->Nat
 |.no _=>3
 |.bin w _ _=>bn w
 |_=>4
theorem jm1(r:RE):bnd r=(ow r:Int):=by
 cases r with
 |bin w i j=>cases w <;> rfl
 |_=>rfl
structure LB(rs:List RE)(L:Nat->Nat):Prop where
 at_:∀(k:Nat)(r:RE),rs[k]?=some r->match r with
  |.no j=>L j+7<=L k
  |.bin _ i j=>L i+L j+7<=L k
  |_=>7<=L k
 le:∀k,L k<=5000
theorem jdc(a b:Str):(a++b).length=a.length+b.length:=by simp[Str.length,Str.cps_append]
structure Shp(r:Row):Prop where
 hd:∃(w:Str)(rest:Row),r=.inr w::rest/\rest.length<=2/\(w="letter"->∃a:Str,rest=[.inr a])/\(w≠"letter"->∀x∈rest,∃i:Int,x=.inl i)
 st:∀z:Str,(Sum.inr z:L2.Key)∈r->lw z
theorem Shp.wp{r:Row}(h:Shp r)(g:Nat->Nat):Shp (wpR g r):=by
 obtain⟨⟨w,rest,rfl,l,h1,h2⟩,st⟩:=h
 refine⟨⟨w,wpR g rest,rfl,by unfold wpR;rw[Ae];exact l,λe=>?_,λe x hx=>?_⟩,λz hz=>?_⟩
 ·obtain⟨a,rfl⟩:=h1 e
  exact⟨a,rfl⟩
 ·obtain⟨y,hy,rfl⟩:=A7.mp hx
  obtain⟨i,rfl⟩:=h2 e y hy
  exact⟨_,rfl⟩
 ·obtain⟨y,hy,e⟩:=A7.mp hz
  cases y with
  |inl i=>simp[mapR]at e
  |inr s=>simp[mapR]at e;subst e;exact st s hy
theorem je0(s:String)(h:(Str.ofString s).cps.toList.all (λc=>decide (97<=c/\c<=122))=true):lw (Str.ofString s):=λc hc=>of_decide_eq_true (List.all_eq_true.mp h c hc)
theorem jpq{k:Nat}{r:RE}(h:r.okz k):Shp (keyR r):=by
 have n1:(Str.ofString "nothing")≠Str.ofString "letter":=by decide +kernel
 have n2:(Str.ofString "blank")≠Str.ofString "letter":=by decide +kernel
 have n3:(Str.ofString "not")≠Str.ofString "letter":=by decide +kernel
 have n4:∀w,ew w≠Str.ofString "letter":=λw=>by cases w <;> decide +kernel
 have w1:=je0 "nothing" (by decide +kernel)
 have w2:=je0 "blank" (by decide +kernel)
 have w3:=je0 "not" (by decide +kernel)
 have w5:=je0 "letter" (by decide +kernel)
 have w4:∀w,lw (ew w):=λw=>by
  cases w
  ·exact je0 "or" (by decide +kernel)
  ·exact je0 "and" (by decide +kernel)
  ·exact je0 "behind" (by decide +kernel)
 cases r with
 |nothing=>exact⟨⟨_,[],rfl,by simp,λe=>absurd e n1,by simp⟩,λz hz=>by simp[keyR]at hz;subst hz;exact w1⟩
 |blank=>exact⟨⟨_,[],rfl,by simp,λe=>absurd e n2,by simp⟩,λz hz=>by simp[keyR]at hz;subst hz;exact w2⟩
 |letter a=>exact⟨⟨_,[.inr a],rfl,by simp,λ_=>⟨a,rfl⟩,λe=>absurd rfl e⟩,λz hz=>by
   simp[keyR]at hz
   rcases hz with rfl|rfl
   ·exact w5
   ·exact h.2⟩
 |no j=>exact⟨⟨_,[.inl (j:Int)],rfl,by simp,λe=>absurd e n3,λ_ x hx=>⟨_,by simpa using hx⟩⟩,λz hz=>by simp[keyR]at hz;subst hz;exact w3⟩
 |bin w j l=>exact⟨⟨_,[.inl (j:Int),.inl (l:Int)],rfl,by simp,λe=>absurd e (n4 w),λ_ x hx=>by simp at hx;rcases hx with rfl|rfl <;> exact⟨_,rfl⟩⟩,λz hz=>by simp[keyR]at hz;subst hz;exact w4 w⟩
theorem jps{n:Nat}{S:List Nat}(nd:S.Nodup)(h:∀r∈S,r<n):S.length<=n:=by
 have q:=jff (zs:=List.range n) nd λx hx=>Ud.mpr (h x hx)
 simpa using q
theorem jn4(xs:List V):cutV xs none (some (-1))=xs.take (xs.length-1):=by
 unfold cutV
 have:HT.sIx xs.length xs.length (some (-1))=xs.length-1:=by
  show(if(-1:Int)<0 then((-1:Int)+(xs.length:Int)).toNat else min (-1:Int).toNat xs.length)=_
  rw[Ad (by decide)]
  omega
 rw[this,HT.sIx_none]
 simp
theorem Exp.take{H:Hp}{us:List V}{rs:List RE}(E:Exp H us rs)(n:Nat):Exp H (us.take n) (rs.take n):=by
 refine⟨?_,λk r e=>E.ok k r ?_⟩
 ·have:=E.at_
  clear E
  induction this generalizing n with
  |nil=>simp;exact .nil
  |cons h _ ih =>
   cases n with
   |zero=>exact .nil
   |succ n=>exact .cons h (ih n)
 ·rw[List.getElem?_take]at e
  split at e
  ·exact e
  ·cases e
theorem LB.take{rs:List RE}{L:Nat->Nat}(h:LB rs L)(n:Nat):LB (rs.take n) L:=⟨λk r e=>h.at_ k r (by
 rw[List.getElem?_take]at e
 split at e
 ·exact e
 ·cases e),h.le⟩
def jdy:RE->Prop
 |.nothing=>True
 |.blank=>True
 |.letter _=>True
 |_=>False
def CH(rs:List RE):Prop:=∀(k:Nat)(r:RE),rs[k]?=some r->jdy r\/(1<=k/\r=.no (k-1))\/(2<=k/\jdy (rs.getD (k-1) (.no 0))/\∃w,r=.bin w (k-2) (k-1)\/r=.bin w (k-1) (k-2))
theorem CH.no{rs:List RE}(h:CH rs)(h1:1<=rs.length):CH (rs++[.no (rs.length-1)]):=λk r e=>by
 by_cases hk:k<rs.length
 ·rw[A1 hk]at e
  rcases h k r e with q|q|⟨q1,q2,q3⟩
  ·exact .inl q
  ·exact .inr (.inl q)
  ·refine .inr (.inr ⟨q1,?_,q3⟩)
   rw[Ag,A1 (by omega),<-Ag];exact q2
 ·have hk':k=rs.length:=by
   have:=(Ai.mp e).1
   simp at this
   omega
  subst hk'
  rw[A8 (Af _)]at e
  simp at e
  subst e
  exact .inr (.inl ⟨h1,rfl⟩)
theorem CH.two{rs:List RE}(h:CH rs)(h1:1<=rs.length){lf:RE}(hl:jdy lf)(w:BW)(c:Bool):CH (rs++[lf]++[if c then .bin w (rs.length-1) rs.length else .bin w rs.length (rs.length-1)]):=λk r e=>by
 by_cases hk:k<rs.length
 ·rw[Ob,A1 hk]at e
  rcases h k r e with q|q|⟨q1,q2,q3⟩
  ·exact .inl q
  ·exact .inr (.inl q)
  ·refine .inr (.inr ⟨q1,?_,q3⟩)
   rw[Ag,Ob,A1 (by omega),<-Ag];exact q2
 ·by_cases hk2:k=rs.length
  ·subst hk2
   rw[A1 (by simp),A8 (Af _)]at e
   simp at e
   subst e
   exact .inl hl
  ·have hk':k=rs.length+1:=by
    have:=(Ai.mp e).1
    simp at this
    omega
   subst hk'
   rw[A8 (by simp)]at e
   simp at e
   refine .inr (.inr ⟨by omega,?_,w,?_⟩)
   ·rw[Ag,A1 (by simp),Nat.add_sub_cancel,A8 (Af _)]
    simpa using hl
   ·subst e
    cases c
    ·exact .inr (by simp)
    ·exact .inl (by simp)
theorem CH.one(a:Str):CH [.letter a]:=λk r e=>by
 cases k with
 |zero=>cases e;exact .inl trivial
 |succ k=>simp at e
def spCh:Sp:=λvs H Q _=>∃(b:Addr)(z:Str)(o:HO),vs=[.ref b,.str z,.int 16]/\H b=some o/\BoxO o/\1<=z.length/\z.length<=1000/\lw z /\
 ∀(t:Addr)(us:List V)(rs:List RE)(o':HO)(H':Hp),H' t=some (.tup us)->Exp H' us rs->1<=rs.length->rs.length<=50->CH rs->BoxO o'->H' b=some o'->Kp [b] H H'->Q (.ref t) H'
structure TCh(mg:Str->Option Value)(ft:Addr):Prop where
 n_range:mg "range"=none
 n_len:mg "len"=none
 n_tuple:mg "tuple"=none
 m1z:mg "_law_take"=some (.ref ft)
section
variable{P:Program}{w:World}{K:PySem.W.Frag}{mg:Str->Option Value}{base:Heap}
abbrev yx:Stmt:=top 41
theorem yj:FnScope ["_law_box_here","_law_letters_here","_law_most","_law_rows","_law_k","_law_kind","_law_base","_law_leaf","_law_word","_law_last"] ["_law_box_here","_law_letters_here","_law_most"] (ji yx):=⟨rfl,rfl,rfl,by decide +kernel,rfl,by decide +kernel,by decide +kernel⟩
theorem ok__law_chain{f ft:Addr}{fd fdt:FuncData}(F:Fun K "_law_chain" "_law_chain" yx f fd)(T:TCh mg ft)(F1z:Fun K "_law_take" "_law_take" kf ft fdt)(b1z:Binds K fdt ["_law_box_here","_law_wide"] [])
  (G1z:FnOk P w K mg base CX0 1 ft fdt ["_law_box_here","_law_wide"] jdh):FnOk P w K mg base CX0 2 f fd ["_law_box_here","_law_letters_here","_law_most"] spCh:=by
 refine F.ok yj (λvs H Q E h=>?_) (λcdv A outer s H vs Q E hr h=>?_)
 ·obtain⟨b,z,o,rfl,_⟩:=h
  rfl
 ·obtain⟨b,z,o,rfl,hb,ho,z1,z2,zl,k⟩:=h
  have hu:=hr.units
  have hsz:sizeLine=16777216:=Ao
  refine⟨_,(QSs.h (je (jm (i:=3) yj.nd rfl (by first|exact Or.inl rfl|exact Or.inr rfl) (j6 (ja (km (ja jj (ja (jv ix_U (qpv 1) (jk G1z (hr.mono (by decide)) rfl T.m1z F1z.kp b1z .nil jo (ja (qpv 0) (ja (jr j9 (by rfl) T.n_len ku (ja (qpv 1) jb)) jb))) (λ_ _=>rfl)) jb))) jb)))
  (je (zm Ii rfl (jac rfl T.n_range (ja (jk G1z (hr.mono (by decide)) rfl T.m1z F1z.kp b1z .nil jo (ja (qpv 0) (ja (qpv 2) jb))) jb)) (kj (i:=4) yj.nd rfl (by first|exact Or.inl rfl|exact Or.inr rfl)) (je (jm (i:=5) yj.nd rfl (by first|exact Or.inl rfl|exact Or.inr rfl) (jk G1z (hr.mono (by decide)) rfl T.m1z F1z.kp b1z .nil jo (ja (qpv 0) (ja jf jb))))
  (jg (jy (jq jat (qpv 5) jf (jw _)) (jg (jz (yb Az A0 kc (qpv 3) (ja (km (ja jj (ja (jn zk (jr j9 (by rfl) T.n_len ku (ja (qpv 3) jb)) jf) jb))) jb) jct))) (je (jm (i:=6) yj.nd rfl (by first|exact Or.inl rfl|exact Or.inr rfl) (j6 (ja (km (ja jj (ja (jv ix_U (qpv 1) (jk G1z (hr.mono (by decide)) rfl T.m1z F1z.kp b1z .nil jo (ja (qpv 0) (ja (jr j9 (by rfl) T.n_len ku (ja (qpv 1) jb)) jb))) (λ_ _=>rfl)) jb))) (ja (km (ja jj jb)) (ja (km (ja jj jb)) jb)))))
  (je (jm (i:=7) yj.nd rfl (by first|exact Or.inl rfl|exact Or.inr rfl) (jv ix_U (qpv 6) (jv ix_U (j6 (ja jf (ja jf (ja jf (ja jf (ja jf (ja jf jb))))))) (jn jab (qpv 5) jf) (λ_ _=>rfl)) (λ_ _=>rfl)))
  (je (jm (i:=8) yj.nd rfl (by first|exact Or.inl rfl|exact Or.inr rfl) (jv ix_U (j6 (ja jj (ja jj (ja jj jb)))) (jk G1z (hr.mono (by decide)) rfl T.m1z F1z.kp b1z .nil jo (ja (qpv 0) (ja jf jb))) (λ_ _=>rfl)))
  (je (jz (yb Az A0 kc (qpv 3) (ja (qpv 7) jb) jct))
  (je (jm (i:=9) yj.nd rfl (by first|exact Or.inl rfl|exact Or.inr rfl) (jn zk (jr j9 (by rfl) T.n_len ku (ja (qpv 3) jb)) jf))
  (jg (jz (yb Az A0 kc (qpv 3) (ja (jv ix_U (j6 (ja (km (ja (qpv 8) (ja (jn zk (qpv 9) jf) (ja (qpv 9) jb)))) (ja (km (ja (qpv 8) (ja (qpv 9) (ja (jn zk (qpv 9) jf) jb)))) jb))) (jk G1z (hr.mono (by decide)) rfl T.m1z F1z.kp b1z .nil jo (ja (qpv 0) (ja jf jb))) (λ_ _=>rfl)) jb) jct))))))))))))
  (jg (jp (yr zt (by rfl) T.n_tuple jae (ja (qpv 3) jb))))))),?_⟩
  simp!
  refine⟨by omega,b,z.length,o,rfl,hb,ho,by omega,by omega,λe o1 e0 e1 ho1=>?_⟩
  obtain⟨ch,hch,ach⟩:=jfe e0 e1
  simp! [ach]
  refine⟨by omega,by omega,λt1 ht1=>⟨by omega,λq hq=>?_⟩⟩
  obtain⟨xs0,rfl⟩:=id ho.lst
  obtain⟨xs1,rfl⟩:=id ho1.lst
  have nb1:b≠t1:=jh jc ht1
  have nbq:b≠q:=jh (by rw[jd nb1,jc]) hq
  have n1q:t1≠q:=jh jc hq
  refine⟨b,16,_,rfl,by rw[jd nbq,jd nb1,jc],ho1,by omega,by omega,λd o2 d0 d1 ho2=>⟨d,rfl,by omega,by omega,?_⟩⟩
  obtain⟨n,rfl⟩:∃n:Nat,d=(n:Int):=⟨d.toNat,by omega⟩
  rw[Int.toNat_natCast]
  have hq0:H q=none:=by rw[jd n1q.symm,jd nbq.symm]at hq;exact hq
  have kb0:Kp [b] H (upd (upd (upd H b (.lst xs1)) t1 (.tup [V.str (Str.ofString "letter"),V.str ⟨#[ch]⟩])) q (.lst [V.ref t1])):=(((Kp.refl [b] H).set hb (.inl (.head _))).new ht1).new hq
  have F0:Fx H b q [.ref t1] [.letter ⟨#[ch]⟩] (.lst xs1) (upd (upd (upd H b (.lst xs1)) t1 (.tup [V.str (Str.ofString "letter"),V.str ⟨#[ch]⟩])) q (.lst [V.ref t1])) :=
   ⟨by rw[jd nbq,jd nb1,jc],ho1,jc,⟨.cons ⟨t1,rfl,by rw[jd n1q,jc];rfl⟩ .nil,λk r e=>by
    cases k with
    |zero=>cases e;exact⟨rfl,λc hc=>by simp at hc;subst hc;exact zl _ hch⟩
    |succ k=>simp at e⟩,kb0⟩
  have F0':=F0.box nbq ho2
  refine jdj (λi σ H'=>∃(us:List V)(rs:List RE)(o:HO)(v4 v5 v6 v7 v8 v9:Option V),σ=[some (.ref b),some (.str z),some (.int 16),some (.ref q),v4,v5,v6,v7,v8,v9]/\rs.length<=2*i+1/\1<=rs.length/\CH rs/\Fx H b q us rs o H') ?_ ?_ ?_
  ·exact⟨_,_,_,none,none,none,none,none,none,rfl,by simp,by simp,CH.one _,F0'⟩
  ·rintro i σ H1 hi ⟨us,rs,o3,v4,v5,v6,v7,v8,v9,rfl,hl,h1,hch1,F1⟩
   have lu:us.length=rs.length:=Ip F1.ex.at_
   simp!
   refine⟨b,9,_,rfl,F1.hb,F1.ho,by omega,by omega,λkd o3 kd0 kd1 ho3=>?_⟩
   have F2:=F1.box nbq ho3
   have eq2:=F2.hq
   simp! [eq2]
   refine ite2 (λh3=>?_) (λh3=>?_)
   ·refine⟨by omega,λt ht=>?_⟩
    have er:[V.str (Str.ofString "not"),V.int ((us.length:Int)-1)]=jco (.no (rs.length-1)):=by rw[lu,show((rs.length:Int)-1)=((rs.length-1:Nat):Int)by omega];rfl
    rw[er]
    have F6:=F2.new (x:=.tup (jco (.no (rs.length-1)))) ht
    exact⟨us,by rw[F6.hq];rfl,by omega,us++[.ref t],rs++[.no (rs.length-1)],o3,_,_,_,_,_,_,⟨rfl,rfl,rfl,rfl,rfl,rfl⟩,by simp;omega,by simp,hch1.no h1,F6.put (.no (rs.length-1)) (show rs.length-1<rs.length by omega) jc hq0 nbq⟩
   ·refine⟨by omega,b,z.length,_,rfl,F2.hb,F2.ho,by omega,by omega,λe o4 e0 e1 ho4=>?_⟩
    obtain⟨ch,hch,ach⟩:=jfe e0 e1
    simp! [ach]
    refine⟨by omega,by omega,λt1 ht1=>⟨by omega,λt2 ht2=>⟨by omega,λt3 ht3=>⟨by omega,λt4 ht4=>⟨by omega,λt5 ht5=>?_⟩⟩⟩⟩⟩
    have F3':=F1.box nbq ho4
    have F4:=(((F3'.new (x:=.tup [V.str (Str.ofString "letter"),V.str ⟨#[ch]⟩]) ht1).new (x:=.tup [V.str (Str.ofString "blank")]) ht2).new (x:=.tup [V.str (Str.ofString "nothing")]) ht3).new (x:=.lst [V.ref t1,V.ref t2,V.ref t3]) ht4
    have n12:t1≠t2:=jh jc ht2
    have n23:t2≠t3:=jh jc ht3
    have n34:t3≠t4:=jh jc ht4
    have n13:t1≠t3:=jh (by rw[jd n12,jc]) ht3
    have n16:t2≠t4:=jh (by rw[jd n23,jc]) ht4
    have n14:t1≠t4:=jh (by rw[jd n13,jd n12,jc]) ht4
    have g1:upd (upd (upd (upd (upd H1 b o4) t1 (.tup [V.str (Str.ofString "letter"),V.str ⟨#[ch]⟩])) t2 (.tup [V.str (Str.ofString "blank")])) t3 (.tup [V.str (Str.ofString "nothing")])) t4 (.lst [V.ref t1,V.ref t2,V.ref t3]) t1=some (.tup (jco (.letter ⟨#[ch]⟩))):=by rw[jd n14,jd n13,jd n12,jc];rfl
    have g2:upd (upd (upd (upd (upd H1 b o4) t1 (.tup [V.str (Str.ofString "letter"),V.str ⟨#[ch]⟩])) t2 (.tup [V.str (Str.ofString "blank")])) t3 (.tup [V.str (Str.ofString "nothing")])) t4 (.lst [V.ref t1,V.ref t2,V.ref t3]) t2=some (.tup (jco .blank)):=by rw[jd n16,jd n23,jc];rfl
    have g3:upd (upd (upd (upd (upd H1 b o4) t1 (.tup [V.str (Str.ofString "letter"),V.str ⟨#[ch]⟩])) t2 (.tup [V.str (Str.ofString "blank")])) t3 (.tup [V.str (Str.ofString "nothing")])) t4 (.lst [V.ref t1,V.ref t2,V.ref t3]) t3=some (.tup (jco .nothing)):=by rw[jd n34,jc];rfl
    have g4:upd (upd (upd (upd (upd H1 b o4) t1 (.tup [V.str (Str.ofString "letter"),V.str ⟨#[ch]⟩])) t2 (.tup [V.str (Str.ofString "blank")])) t3 (.tup [V.str (Str.ofString "nothing")])) t4 (.lst [V.ref t1,V.ref t2,V.ref t3]) t4=some (.lst [V.ref t1,V.ref t2,V.ref t3]):=jc
    revert F4 g1 g2 g3 g4 ht5
    generalize upd (upd (upd (upd (upd H1 b o4) t1 (.tup [V.str (Str.ofString "letter"),V.str ⟨#[ch]⟩])) t2 (.tup [V.str (Str.ofString "blank")])) t3 (.tup [V.str (Str.ofString "nothing")])) t4 (.lst [V.ref t1,V.ref t2,V.ref t3])=H5
    intro ht5 F4 g1 g2 g3 g4
    obtain⟨j,lf,tl,hj1,hj2,hlf,okl,htl⟩:∃(j:Int)(lf:RE)(tl:Addr),atI [V.int 0,V.int 0,V.int 0,V.int 0,V.int 1,V.int 2] (kd%6)=some (.int j)/\atI [V.ref t1,V.ref t2,V.ref t3] j=some (.ref tl)/\jdy lf/\(∀k,lf.okz k)/\H5 tl=some (.tup (jco lf)):=by
     have:kd%6=0\/kd%6=1\/kd%6=2\/kd%6=3\/kd%6=4\/kd%6=5:=by omega
     rcases this with e|e|e|e|e|e <;> rw[e]
     ·exact⟨0,.letter ⟨#[ch]⟩,t1,rfl,rfl,trivial,λ_=>⟨rfl,λc hc=>by simp at hc;subst hc;exact zl _ hch⟩,g1⟩
     ·exact⟨0,.letter ⟨#[ch]⟩,t1,rfl,rfl,trivial,λ_=>⟨rfl,λc hc=>by simp at hc;subst hc;exact zl _ hch⟩,g1⟩
     ·exact⟨0,.letter ⟨#[ch]⟩,t1,rfl,rfl,trivial,λ_=>⟨rfl,λc hc=>by simp at hc;subst hc;exact zl _ hch⟩,g1⟩
     ·exact⟨0,.letter ⟨#[ch]⟩,t1,rfl,rfl,trivial,λ_=>⟨rfl,λc hc=>by simp at hc;subst hc;exact zl _ hch⟩,g1⟩
     ·exact⟨1,.blank,t2,rfl,rfl,trivial,λ_=>trivial,g2⟩
     ·exact⟨2,.nothing,t3,rfl,rfl,trivial,λ_=>trivial,g3⟩
    have F5:=F4.new (x:=.lst [V.int 0,V.int 0,V.int 0,V.int 0,V.int 1,V.int 2]) ht5
    have g45:upd H5 t5 (.lst [V.int 0,V.int 0,V.int 0,V.int 0,V.int 1,V.int 2]) t4=some (.lst [V.ref t1,V.ref t2,V.ref t3]):=by rw[jd (jh g4 ht5)];exact g4
    have htl5:upd H5 t5 (.lst [V.int 0,V.int 0,V.int 0,V.int 0,V.int 1,V.int 2]) tl=some (.tup (jco lf)):=by rw[jd (jh htl ht5)];exact htl
    generalize upd H5 t5 (.lst [V.int 0,V.int 0,V.int 0,V.int 0,V.int 1,V.int 2])=H6 at F5 g45 htl5⊢
    refine⟨by decide,_,hj1,?_⟩
    simp! [g45]
    refine⟨_,hj2,by omega,λt6 ht6=>?_⟩
    have F7:=F5.new (x:=.lst [V.str (Str.ofString "behind"),V.str (Str.ofString "or"),V.str (Str.ofString "and")]) ht6
    have nb6:b≠t6:=jh F5.hb ht6
    have htl7:upd H6 t6 (.lst [V.str (Str.ofString "behind"),V.str (Str.ofString "or"),V.str (Str.ofString "and")]) tl=some (.tup (jco lf)):=by rw[jd (jh htl5 ht6)];exact htl5
    refine⟨b,3,_,rfl,F7.hb,F7.ho,by omega,by omega,λe2 o8 e20 e21 ho8=>?_⟩
    have F8:=F7.box nbq ho8
    have htl8:=(show Kp [b] (upd H6 t6 (.lst [V.str (Str.ofString "behind"),V.str (Str.ofString "or"),V.str (Str.ofString "and")])) (upd (upd H6 t6 (.lst [V.str (Str.ofString "behind"),V.str (Str.ofString "or"),V.str (Str.ofString "and")])) b o8)by
     obtain⟨x9,e9⟩:=F7.ho.lst
     have h9:=F7.hb
     rw[e9]at h9
     exact(Kp.refl [b] _).set h9 (.inl (.head _))).tup _ _ htl7
    have g68:upd (upd H6 t6 (.lst [V.str (Str.ofString "behind"),V.str (Str.ofString "or"),V.str (Str.ofString "and")])) b o8 t6=some (.lst [V.str (Str.ofString "behind"),V.str (Str.ofString "or"),V.str (Str.ofString "and")]):=by rw[jd nb6.symm,jc]
    generalize upd (upd H6 t6 (.lst [V.str (Str.ofString "behind"),V.str (Str.ofString "or"),V.str (Str.ofString "and")])) b o8=H8 at F8 htl8 g68⊢
    obtain⟨ww,hww⟩:∃ww:BW,atI [V.str (Str.ofString "behind"),V.str (Str.ofString "or"),V.str (Str.ofString "and")] e2=some (.str (ew ww)):=by
     have:e2=0\/e2=1\/e2=2:=by omega
     rcases this with rfl|rfl|rfl
     ·exact⟨.beh,rfl⟩
     ·exact⟨.or,rfl⟩
     ·exact⟨.and,rfl⟩
    have eq8:=F8.hq
    simp! [g68,eq8]
    refine⟨_,hww,by omega,by omega,?_⟩
    have ll:((us++[V.ref tl]).length:Int)-1=(rs.length:Int):=by rw[Ay,lu];simp
    have ll2:(rs.length:Int)-1=((rs.length-1:Nat):Int):=by omega
    rw[ll,ll2]
    have F9:=F8.put lf (okl _) htl8 hq0 nbq
    generalize upd H8 q (.lst (us++[.ref tl]))=H9 at F9⊢
    intro p hp
    refine⟨by omega,λp1 hp1=>⟨by omega,λp2 hp2=>?_⟩⟩
    have F12:=((F9.new (x:=.tup (jco (.bin ww (rs.length-1) rs.length))) hp).new (x:=.tup (jco (.bin ww rs.length (rs.length-1)))) hp1).new (x:=.lst [.ref p,.ref p1]) hp2
    have np1:p≠p1:=jh jc hp1
    have n12':p1≠p2:=jh jc hp2
    have np2:p≠p2:=jh (by rw[jd np1,jc]) hp2
    have c1:upd (upd (upd H9 p (.tup (jco (.bin ww (rs.length-1) rs.length)))) p1 (.tup (jco (.bin ww rs.length (rs.length-1))))) p2 (.lst [.ref p,.ref p1]) p=some (.tup (jco (.bin ww (rs.length-1) rs.length))):=by rw[jd np2,jd np1,jc]
    have c2:upd (upd (upd H9 p (.tup (jco (.bin ww (rs.length-1) rs.length)))) p1 (.tup (jco (.bin ww rs.length (rs.length-1))))) p2 (.lst [.ref p,.ref p1]) p1=some (.tup (jco (.bin ww rs.length (rs.length-1)))):=by rw[jd n12',jc]
    have c3:upd (upd (upd H9 p (.tup (jco (.bin ww (rs.length-1) rs.length)))) p1 (.tup (jco (.bin ww rs.length (rs.length-1))))) p2 (.lst [.ref p,.ref p1]) p2=some (.lst [.ref p,.ref p1]):=jc
    have nb2:b≠p2:=jh ((F9.new (x:=.tup (jco (.bin ww (rs.length-1) rs.length))) hp).new (x:=.tup (jco (.bin ww rs.length (rs.length-1)))) hp1).hb hp2
    show jdh _ (upd (upd (upd H9 p (.tup (jco (.bin ww (rs.length-1) rs.length)))) p1 (.tup (jco (.bin ww rs.length (rs.length-1))))) p2 (.lst [.ref p,.ref p1])) _ _
    generalize upd (upd (upd H9 p (.tup (jco (.bin ww (rs.length-1) rs.length)))) p1 (.tup (jco (.bin ww rs.length (rs.length-1))))) p2 (.lst [.ref p,.ref p1])=H12 at F12 c1 c2 c3⊢
    refine⟨b,2,_,rfl,F12.hb,F12.ho,by omega,by omega,λe3 o10 e30 e31 ho10=>?_⟩
    have F13:=F12.box nbq ho10
    have k13:Kp [b] H12 (upd H12 b o10):=by
     obtain⟨x9,e9⟩:=F12.ho.lst
     have h9:=F12.hb
     rw[e9]at h9
     exact(Kp.refl [b] _).set h9 (.inl (.head _))
    have d1:=k13.tup _ _ c1
    have d2:=k13.tup _ _ c2
    have d3:=k13.old _ _ c3 (by simpa using nb2.symm)
    generalize upd H12 b o10=H13 at F13 d1 d2 d3⊢
    simp! [d3]
    have h2:=hch1.two h1 hlf ww
    have:e3=0\/e3=1:=by omega
    rcases this with rfl|rfl
    ·exact⟨_,rfl,us++[.ref tl],by rw[F13.hq];rfl,by simp;omega,us++[.ref tl]++[.ref p],rs++[lf]++[.bin ww (rs.length-1) rs.length],o10,_,_,_,_,_,_,⟨rfl,rfl,rfl,rfl,rfl,rfl⟩,by simp;omega,by simp,h2 true,F13.put (.bin ww (rs.length-1) rs.length) (by rw[Ay];exact⟨by simp;omega,by simp⟩) d1 hq0 nbq⟩
    ·exact⟨_,rfl,us++[.ref tl],by rw[F13.hq];rfl,by simp;omega,us++[.ref tl]++[.ref p1],rs++[lf]++[.bin ww rs.length (rs.length-1)],o10,_,_,_,_,_,_,⟨rfl,rfl,rfl,rfl,rfl,rfl⟩,by simp;omega,by simp,h2 false,F13.put (.bin ww rs.length (rs.length-1)) (by rw[Ay];exact⟨by simp,by simp;omega⟩) d2 hq0 nbq⟩
  ·rintro σ H1 ⟨us,rs,o3,v4,v5,v6,v7,v8,v9,rfl,hl,h1,hch1,F1⟩
   have eq1:=F1.hq
   simp!
   refine jdm eq1 λt ht=>?_
   have F2:=F1.new (x:=.tup us) ht
   exact k t us rs _ _ jc F2.ex h1 (by omega) hch1 F2.ho F2.hb F2.kp
end
def LX(k:Nat):Nat:=if k<9 then 14*2^k-7 else 0
theorem jrc(k:Nat):LX k<=5000:=by
 unfold LX
 split
 ·rename_i h
  have:=Nat.pow_le_pow_right (n:=2) (by omega) (show k<=8 by omega)
  omega
 ·omega
theorem jqy{H:Hp}{us:List V}{rs:List RE}(E:Exp H us rs)(h:rs.length<=8):LB rs LX:=by
 refine⟨λk r e=>?_,jrc⟩
 have kl:=(Ai.mp e).1
 have ok:=E.ok k r e
 have ek:LX k=14*2^k-7:=Ad (by omega)
 have p1:1<=2^k:=Nat.one_le_two_pow
 have lt:∀j,j<k->LX j=14*2^j-7/\2*2^j<=2^k/\1<=2^j:=λj hj=>by
  refine⟨Ad (by omega),?_,Nat.one_le_two_pow⟩
  have:=Nat.pow_le_pow_right (n:=2) (by omega) (show j+1<=k by omega)
  rw[Nat.pow_succ]at this
  omega
 cases r with
 |no j=>have h1:=lt j ok;show LX j+7<=LX k;omega
 |bin w i j=>have h1:=lt i ok.1;have h2:=lt j ok.2;show LX i+LX j+7<=LX k;omega
 |nothing=>show 7<=LX k;omega
 |blank=>show 7<=LX k;omega
 |letter a=>show 7<=LX k;omega
instance (r:RE):Decidable (jdy r):=by
 cases r <;> unfold jdy <;> infer_instance
def LC(rs:List RE)(k:Nat):Nat:=if 100<=k then 0 else if jdy (rs.getD k (.no 0))then 7 else 14*k+7
theorem ji3(rs:List RE)(k:Nat):LC rs k<=14*k+7/\LC rs k<=5000:=by
 unfold LC
 split
 ·omega
 ·split <;> omega
theorem joc{rs:List RE}(ch:CH rs)(h:rs.length<=50):LB rs (LC rs):=by
 refine⟨λk r e=>?_,λk=>(ji3 rs k).2⟩
 have kl:=(Ai.mp e).1
 have ed:rs.getD k (.no 0)=r:=by rw[Ag,e];rfl
 have n1:¬100<=k:=by omega
 rcases ch k r e with q|⟨q1,rfl⟩|⟨q1,q2,w,q3⟩
 ·have ek:LC rs k=7:=by unfold LC;rw[Aa n1,ed,Ad q]
  cases r with
  |no j=>exact absurd q id
  |bin w i j=>exact absurd q id
  |nothing=>show 7<=LC rs k;omega
  |blank=>show 7<=LC rs k;omega
  |letter a=>show 7<=LC rs k;omega
 ·have ek:LC rs k=14*k+7:=by unfold LC;rw[Aa n1,ed,Aa (show ¬jdy (RE.no (k-1))from id)]
  have:=(ji3 rs (k-1)).1
  show LC rs (k-1)+7<=LC rs k
  omega
 ·have e1:LC rs (k-1)=7:=by unfold LC;rw[Aa (by omega),Ad q2]
  have:=(ji3 rs (k-2)).1
  rcases q3 with rfl|rfl
  ·have ek:LC rs k=14*k+7:=by unfold LC;rw[Aa n1,ed,Aa (show ¬jdy (RE.bin w (k-2) (k-1))from id)]
   show LC rs (k-2)+LC rs (k-1)+7<=LC rs k
   omega
  ·have ek:LC rs k=14*k+7:=by unfold LC;rw[Aa n1,ed,Aa (show ¬jdy (RE.bin w (k-1) (k-2))from id)]
   show LC rs (k-1)+LC rs (k-2)+7<=LC rs k
   omega
theorem TidP.shp{rs:List RE}(okz:∀(k:Nat) (r:RE),rs[k]?=some r->r.okz k)(n1:1<=rs.length){F:List Row}(t:TidP (rs.map keyR) F):(∀r∈F,Shp r)/\F.length<=rs.length:=by
 obtain⟨h,H,rfl⟩:=t
 have ok:OkR (rs.map keyR):=λk r e=>by
  rw[A3]at e
  obtain⟨s,es,rfl⟩:=Op.mp e
  exact jpp (okz k s es)
 have O:=jeb ok H (by rw[Ae];exact n1)
 refine⟨λr hr=>?_,?_⟩
 ·obtain⟨v,hv,rfl⟩:=A7.mp hr
  have vl:=O.lt v hv
  rw[Ae]at vl
  have e:rs[v]?=some rs[v]:=An vl
  have:RwA (rs.map keyR) h v=wpR h (keyR rs[v]):=by
   unfold RwA
   rw[Ag,A3,e];rfl
  rw[this]
  exact((jpq (okz v _ e)).wp h).wp _
 ·rw[jew]
  have:=jps O.nd O.lt
  rwa[Ae]at this
def spG(D:Hp->V->List V->Prop)(R:Hp->Prop):Sp:=λvs H Q _=>∃v l,vs=[v]/\R H/\D H v l/\∀p H',H' p=some (.lst l)->H p=none->Kp [] H H'->Q (.ref p) H'
structure Lm(P:Program)(w:World)(K:PySem.W.Frag)(mg:Str->Option Value)(base:Heap)(fp:Addr)(o:Obj)(fd:FuncData)(psp:List Str)(D:Hp->V->List V->Prop)(R:Hp->Prop):Prop where
 dat:o.data=.func fd
 fn:FnOk P w K mg base CX0 3 fp fd psp (spG D R)
 bi:Binds K fd psp []
 at_:∀H,R H->H fp=some (FZ o)
 kr:∀H H',Kp [] H H'->R H->R H'
 kd:∀H H' v l,Kp [] H H'->D H v l->D H' v l
def spSg(P:Program)(w:World)(K:PySem.W.Frag)(mg:Str->Option Value)(base:Heap):Sp:=λvs H Q _=>∃a rows pc T fp o fd psp D R,Lm P w K mg base fp o fd psp D R/\R H/\vs=[.ref a,.ref fp]/\H a=some (.tup rows)/\(∀k v,rows[k]?=some v->D H v (pc k))/\Wr4 rows.length pc T/\∀H',Kp [] H H'->Q (.int (tx T (rows.length-1)).length) H'
def spWn(P:Program)(w:World)(K:PySem.W.Frag)(mg:Str->Option Value)(base:Heap):Sp:=λvs H Q _=>∃a rows pc T fp o fd psp D R,Lm P w K mg base fp o fd psp D R/\R H/\vs=[.ref a,.ref fp]/\H a=some (.tup rows)/\(∀k v,rows[k]?=some v->D H v (pc k))/\Wr4 rows.length pc T/\∀H',Kp [] H H'->Q (.str (tx T (rows.length-1))) H'
structure TSg(K:PySem.W.Frag)(mg:Str->Option Value)(tk:Tok):Prop where
 n_isinstance:mg "isinstance"=none
 n_min:mg "min"=none
 n_len:mg "len"=none
 n_sum:mg "sum"=none
 n_str:mg "str"=none
 m_MOST_SIGNS:mg "MOST_SIGNS"=some (.int 100000 tk)
 iss:PySem.W.kitOne K (.type "str") (.type "str")=some true
 isi:PySem.W.kitOne K (.type "int") (.type "str")=some false
def lnI(T:List Str)(x:V):V:=.int ((pcL T x).length:Int)
section
variable{P:Program}{w:World}{K:PySem.W.Frag}{mg:Str->Option Value}{base:Heap}
abbrev y8:Stmt:=top 24
theorem jal:FnScope ["rows","pieces","counts","row","count"] ["rows","pieces"] (ji y8):=⟨rfl,rfl,rfl,by decide +kernel,rfl,by decide +kernel,by decide +kernel⟩
theorem ok_signs_of{f:Addr}{fd:FuncData}{tk:Tok}(F:Fun K "signs_of" "signs_of" y8 f fd)(T:TSg K mg tk):FnOk P w K mg base CX0 4 f fd ["rows","pieces"] (spSg P w K mg base):=by
 refine F.ok jal (λvs H Q E h=>?_) (λcdv A outer s H vs Q E hr h=>?_)
 ·obtain⟨a,rows,pc,T,fp,o,fd',psp,D,R,L,hR,rfl,_⟩:=h
  rfl
 ·obtain⟨a,rows,pc,TT,fp,o,fd',psp,D,R,L,hR,rfl,ha,hrows,W,k⟩:=h
  refine⟨_,(QSs.h (je (jm (i:=2) jal.nd rfl (by first|exact Or.inl rfl|exact Or.inr rfl) (j6 jb))
  (je (zm Ii rfl (jaq (K:=K) (qpv 0) rfl) (kj (i:=3) jal.nd rfl (by first|exact Or.inl rfl|exact Or.inr rfl)) (je (jm (i:=4) jal.nd rfl (by first|exact Or.inl rfl|exact Or.inr rfl) (jr (call_sumU rfl) (by rfl) T.n_sum bt_sum (ja (jbz rfl (jd1 (sc:=ji y8) (N:=["rows","pieces","counts","row","count"]) (Nc:=["piece","counts"]) (js:=[none,some 2]) (by decide +kernel)) (jaq (K:=K) (jbs (P:=P) (w:=w) (K:=K) (mg:=mg) (base:=base) (k:=3) rfl rfl rfl rfl rfl 1 (hr.mono (by decide)) (ja (qpv 3) jb)) rfl) (λ_ _ _ _=>(kj (i:=0) (show List.Nodup [("piece":Str),("counts":Str)]from by decide +kernel) rfl (by first|exact Or.inl rfl|exact Or.inr rfl))) (λ_ _ _ _=>(jbu (y0 (jr (yd (K:=K) rfl) (by rfl) T.n_isinstance kh (ja (qpv 0) (ja (zo (v:=.ty "str") rfl T.n_str jcc rfl) jb)))) (jr j9 (by rfl) T.n_len ku (ja (qpv 0) jb)) (jv ix_U (qpv 1) (qpv 0) (λ_ _=>rfl))))) jb)))
  (jg (jz (yb Az A0 kc (qpv 2) (ja (jr (call_minU rfl) (by rfl) T.n_min bt_min (ja (qpv 4) (ja (jn jx (j8 (v:=.int 100000) rfl T.m_MOST_SIGNS ⟨_,rfl⟩) jf) jb))) jb) jct)))))
  (jg (jp (jv ix_U (qpv 2) (jau jef jf) (λ_ _=>rfl))))))),?_⟩
  have hsz:sizeLine=16777216:=Ao
  simp!
  refine⟨by omega,λc hc=>?_⟩
  have hac:a≠c:=jh ha hc
  have ha2:∀o,upd H c o a=some (.tup rows):=λo=>by rw[jd hac];exact ha
  simp! [ha2]
  refine jgh (xs:=rows) (λi σ H'=>∃v1 v2,σ=[some (.ref a),some (.ref fp),some (.ref c),v1,v2]/\Kp [] H H'/\H' c=some (.lst ((List.range i).map λj=>.int ((tx TT j).length:Int)))) ?_ ?_ ?_ ?_
  ·exact⟨none,none,rfl,(Kp.refl [] H).new hc,jc⟩
  ·rintro i σ H' _ ⟨v1,v2,rfl,kp,_⟩
   exact kp.tup _ _ ha
  ·rintro i x σ H' hx ⟨v1,v2,rfl,kp,hc'⟩
   have hi:i<rows.length:=(Ai.mp hx).1
   simp!
   refine⟨o,fd',L.dat,psp,spG D R,L.fn,L.bi,L.at_ _ (L.kr _ _ kp hR),x,pc i,rfl,L.kr _ _ kp hR,L.kd _ _ _ _ kp (hrows i x hx),λp H1 hp1 hp0 kp1=>?_⟩
   simp! [hp1]
   intro D2 hD2
   have hc1:H1 c=some (.lst ((List.range i).map λj=>.int ((tx TT j).length:Int))):=kp1.old _ _ hc' Ap
   have ncD:c≠D2:=jh hc1 hD2
   have hz:(pc i).length<=sizeLine:=by have:=W.sz i hi;omega
   refine jm4 (lnI TT) hp1 hD2 hz (λy hy l Q' hq=>?_) λv=>?_
   ·rcases W.ok i hi y hy with⟨s,rfl⟩|⟨j,rfl,hj⟩
    ·simp!
     refine⟨_,TyOf.str _,true,T.iss,?_⟩
     simp!
     refine⟨?_,?_⟩
     ·have:=W.pc_le hi hy
      simp only[pcL,jcv]at this
      omega
     ·exact(O0 (λn:Nat=>Q' (.int (n:Int)) _) (jcv s)).mp hq
    ·simp!
     refine⟨_,TyOf.int _,false,T.isi,?_⟩
     simp!
     refine⟨_,by rw[jd ncD,hc1];rfl,.int ((tx TT j).length:Int),jcm (by omega) (by simp[hj]),?_⟩
     have:lnI TT (.int (j:Int))=.int ((tx TT j).length:Int):=by simp[lnI,pcL,jcv]
     rw[this]at hq
     exact hq
   ·refine⟨(pc i).map λx=>((pcL TT x).length:Int),by rw[jc,Oc];rfl,?_⟩
    have e1:((pc i).map λx=>((pcL TT x).length:Int)).sum=(((tx TT i).length:Nat):Int):=by
     rw[<-W.sum hi,<-jlx,Oc];rfl
    have b1:=W.bd i
    rw[e1]
    refine⟨λn hn=>?_,by omega,?_⟩
    ·obtain⟨x,_,rfl⟩:=A7.mp hn
     omega
    have hc3:upd H1 D2 (.lst ((pc i).map (lnI TT))) c=some (.lst ((List.range i).map λj=>.int ((tx TT j).length:Int))):=by rw[jd ncD];exact hc1
    simp! [hc3]
    rw[Aa (by omega)]
    have few:=W.few
    refine⟨by simp;omega,_,_,⟨rfl,rfl⟩,?_,?_⟩
    ·refine((kp.trans kp1).new hD2).set hc3 (.inr hc)
    ·rw[List.range_succ,Is];rfl
  ·rintro σ H' ⟨v1,v2,rfl,kp,hc'⟩
   simp! [hc']
   have:=W.pos
   exact⟨_,jjw (by rw[Ae,List.length_range,A3,List.getElem?_range (by omega)];rfl),k H' kp⟩
structure TWn(mg:Str->Option Value)(fs:Addr)(tk:Tok):Prop where
 n_isinstance:mg "isinstance"=none
 n_list:mg "list"=none
 n_reversed:mg "reversed"=none
 n_len:mg "len"=none
 n_str:mg "str"=none
 m_MOST_SIGNS:mg "MOST_SIGNS"=some (.int 100000 tk)
 m28z:mg "signs_of"=some (.ref fs)
abbrev zq:Stmt:=top 23
theorem jao:FnScope ["rows","pieces","texts","due","piece"] ["rows","pieces"] (ji zq):=⟨rfl,rfl,rfl,by decide +kernel,rfl,by decide +kernel,by decide +kernel⟩
def jek(H:Hp)(a:Addr):List V:=(jcp (H a)).getD []
theorem ok_written{f fs:Addr}{fd fds:FuncData}{tk:Tok}(F:Fun K "written" "written" zq f fd)(T:TWn mg fs tk)
  (iss:PySem.W.kitOne K (.type "str") (.type "str")=some true) (isi:PySem.W.kitOne K (.type "int") (.type "str")=some false)
  (F28z:Fun K "signs_of" "signs_of" y8 fs fds) (b28z:Binds K fds ["rows","pieces"] []) (G28z:FnOk P w K mg base CX0 4 fs fds ["rows","pieces"] (spSg P w K mg base)):FnOk P w K mg base CX0 5 f fd ["rows","pieces"] (spWn P w K mg base):=by
 refine F.ok jao (λvs H Q E h=>?_) (λcdv A outer s H vs Q E hr h=>?_)
 ·obtain⟨a,rows,pc,T,fp,o,fd',psp,D,R,L,hR,rfl,_⟩:=h
  rfl
 ·obtain⟨a,rows,pc,TT,fp,o,fd',psp,D,R,L,hR,rfl,ha,hrows,W,k⟩:=h
  refine⟨_,(QSs.h (je (jy (jq ja4 (jk G28z (hr.mono (by decide)) rfl T.m28z F28z.kp b28z .nil jo (ja (qpv 0) (ja (qpv 1) jb))) (j8 (v:=.int 100000) rfl T.m_MOST_SIGNS ⟨_,rfl⟩) (jw _)) (jg qps_never) j7)
  (je (jm (i:=2) jao.nd rfl (by first|exact Or.inl rfl|exact Or.inr rfl) (j6 jb))
  (je (jm (i:=3) jao.nd rfl (by first|exact Or.inl rfl|exact Or.inr rfl) (j6 (ja (jn zk (jr j9 (by rfl) T.n_len ku (ja (qpv 0) jb)) jf) jb)))
  (je (jaz Ii (jbd (qpv 3)) (je (jm (i:=4) jao.nd rfl (by first|exact Or.inl rfl|exact Or.inr rfl) (jah Iy Iz jaf (qpv 3) jct))
  (jg (jy (y0 (jr (yd (K:=K) rfl) (by rfl) T.n_isinstance kh (ja (qpv 4) (ja (zo (v:=.ty "str") rfl T.n_str jcc rfl) jb)))) (jg (jz (yb Az A0 kc (qpv 2) (ja (qpv 4) jb) jct))) (jg (jz (yb PySem.F.slot_list_extend PySem.F.type_list_extend mt_extendU (qpv 3) (ja (qpe_listRev rfl rfl T.n_list rfl T.n_reversed (jbs (P:=P) (w:=w) (K:=K) (mg:=mg) (base:=base) (k:=3) rfl rfl rfl rfl rfl 1 (hr.mono (by decide)) (ja (jv ix_U (qpv 0) (qpv 4) (λ_ _=>rfl)) jb))) jb) jct)))))))
  (jg (jp (jb7 PySem.F.slot_str_join PySem.F.type_str_join jbx jj (ja (qpv 2) jb) jnp)))))))),?_⟩
  have hsz:sizeLine=16777216:=Ao
  have hpos:=W.pos
  have few:=W.few
  simp!
  refine⟨a,rows,pc,TT,fp,o,fd',psp,D,R,L,hR,rfl,ha,hrows,W,λH1 kp1=>?_⟩
  have bd:=W.bd (rows.length-1)
  refine⟨_,rfl,?_⟩
  rw[Aa (by omega)]
  have ha1:=kp1.tup _ _ ha
  refine⟨by omega,λt ht=>?_⟩
  have hat:a≠t:=jh ha1 ht
  have ha2:∀o,upd H1 t o a=some (.tup rows):=λo=>by rw[jd hat];exact ha1
  simp! [ha2]
  refine⟨by omega,λd hd=>?_⟩
  have htd:t≠d:=jh jc hd
  have hd0:H1 d=none:=by rw[jd htd.symm]at hd;exact hd
  refine jos (λσ H'=>∃(v1:Option V)(ys:List Str)(xs:List V),σ=[some (.ref a),some (.ref fp),some (.ref t),some (.ref d),v1]/\Kp [] H1 H'/\H' t=some (.lst (ys.map V.str))/\H' d=some (.lst xs)/\(∀x∈xs,isPc rows.length x) /\
   (ys.map sg).flatten++cat TT xs.reverse=sg (tx TT (rows.length-1))/\ys.length+jcs TT xs<=200000) (λ_ H'=>jcs TT (jek H' d)) ?_ ?_ ?_
  ·refine⟨none,[],[.int ((rows.length:Int)-1)],rfl,((Kp.refl [] H1).new ht).new hd,by rw[jd htd,jc];rfl,jc,?_,?_,?_⟩
   ·intro x hx
    simp at hx
    subst hx
    exact .inr ⟨rows.length-1,by congr 1;omega,by omega⟩
   ·have e:((rows.length:Int)-1).toNat=rows.length-1:=by omega
    simp[cat,pcL,e]
   ·have e:((rows.length:Int)-1).toNat=rows.length-1:=by omega
    simp[jcs,pw4,e]
    omega
  ·rintro σ H' ⟨v1,ys,xs,rfl,kp,hT,hd',hok,heq,hw⟩
   simp! [hd']
   have hge:=jgo TT W.one xs hok
   cases hxs:xs.isEmpty with
   |true =>
    have:xs=[]:=List.isEmpty_iff.mp hxs
    subst this
    simp! [hT]
    have e:(ys.map sg).flatten=sg (tx TT (rows.length-1)):=by simpa[cat]using heq
    have e2:Txt.join (Str.ofString "") ys=tx TT (rows.length-1):=jfo (by rw[jo0,e])
    have e3:(ys.map (·.length)).sum=(tx TT (rows.length-1)).length:=by
     rw[<-jcv,<-e,List.length_flatten,Oc]
     have:∀l:List Str,(l.map (·.length)).sum=(l.map (List.length∘sg)).sum:=by
      intro l
      induction l with
      |nil=>rfl
      |cons z l ih=>simp only[Ax,List.sum_cons,ih,Function.comp,jcv]
     exact this ys
    refine⟨ys,hT,?_,?_⟩
    ·rw[e3]
     show _+ys.length*0<=_
     omega
    ·rw[e2]
     exact k H' (kp1.trans kp)
   |false =>
    have hne:xs≠[]:=by intro z;subst z;simp at hxs
    obtain⟨y,hy⟩:∃y,xs[xs.length-1]?=some y:=by
     have:0<xs.length:=List.length_pos_iff.mpr hne
     exact⟨xs[xs.length-1]'(by omega),by simp⟩
    have exs:=jlo hy
    have hym:y∈xs:=A6 hy
    have hl0:jcs TT (jek H' d)=jcs TT xs.dropLast+pw4 TT y:=by
     have:jek H' d=xs:=by simp[jek,hd',jcp]
     rw[this]
     conv=>lhs;rw[exs]
     rw[jc6]
     simp[jcs]
    have hw2:jcs TT xs=jcs TT xs.dropLast+pw4 TT y:=by
     conv=>lhs;rw[exs]
     rw[jc6]
     simp[jcs]
    have hcat:cat TT xs.reverse=pcL TT y++cat TT xs.dropLast.reverse:=by
     conv=>lhs;rw[exs]
     rw[List.reverse_append,jd5]
     simp[cat]
    have hokd:∀x∈xs.dropLast,isPc rows.length x:=λx hx=>hok x (List.dropLast_subset _ hx)
    simp!
    refine⟨y,hy,?_⟩
    have kp2:Kp [] H1 (upd H' d (.lst xs.dropLast)):=kp.set hd' (.inr hd0)
    have ht2:∀o,upd H' d o t=some (.lst (ys.map V.str)):=λo=>by rw[jd htd];exact hT
    rcases hok y hym with⟨z,rfl⟩|⟨i,rfl,hi⟩
    ·simp!
     refine⟨_,TyOf.str _,iss,by rw[ht2];rfl,ys.map V.str,by rw[ht2];rfl,by rw[Ae];omega,⟨kp2.set (ht2 _) (.inr ht),ys++[z],by simp,xs.dropLast,by rw[jd htd.symm,jc],hokd,?_,?_⟩,?_⟩
     ·rw[<-heq,hcat,Is,List.flatten_append,Ob]
      simp[pcL]
     ·rw[hw2]at hw
      simp[pw4]at hw
      rw[Ay]
      simp
      omega
     ·rw[hl0]
      have:jek (upd (upd H' d (.lst xs.dropLast)) t (.lst (ys.map V.str++[.str z]))) d=xs.dropLast:=by simp[jek,jd htd.symm,jc,jcp]
      rw[this]
      simp[pw4]
    ·simp!
     refine⟨_,TyOf.int _,false,isi,?_⟩
     have ha3:=kp2.tup _ _ ha1
     simp! [ha3]
     obtain⟨v,hv⟩:∃v,rows[i]?=some v:=⟨rows[i]'hi,by simp⟩
     refine⟨o,fd',L.dat,psp,spG D R,L.fn,L.bi,?_⟩
     refine⟨_,jcm (by omega) (by simpa using hv),L.at_ _ (L.kr _ _ (kp1.trans kp2) hR),v,pc i,rfl,L.kr _ _ (kp1.trans kp2) hR,L.kd _ _ _ _ (kp1.trans kp2) (hrows i v hv),λp H2 hp hp0 kp3=>?_⟩
     simp! [hp]
     intro l hl
     have hd2:H2 d=some (.lst xs.dropLast):=kp3.old _ _ jc Ap
     have hdl:d≠l:=jh hd2 hl
     have hd3:∀o,upd H2 l o d=some (.lst xs.dropLast):=λo=>by rw[jd hdl];exact hd2
     simp! [hd3]
     have hwt:=W.wt i hi
     have e4:pw4 TT (.int (i:Int))=4*(tx TT i).length-2:=by simp[pw4]
     rw[e4]at hw2 hl0
     have hge2:=jgo TT W.one _ hokd
     have hsz2:=W.sz i hi
     refine⟨by rw[O2];omega,?_⟩
     have hT2:H2 t=some (.lst (ys.map V.str)):=kp3.old _ _ (ht2 _) Ap
     have htl:t≠l:=jh hT2 hl
     refine⟨⟨((kp2.trans kp3).new hl).set (hd3 _) (.inr hd0),ys,by rw[jd htd,jd htl];exact hT2,?_,?_,?_⟩,?_⟩
     ·intro x hx
      rcases Ie.mp hx with h|h
      ·exact hokd x h
      ·exact(W.ok i hi x (List.mem_reverse.mp h)).mono (by omega)
     ·rw[<-heq,hcat,List.reverse_append,List.reverse_reverse,jd5,<-W.eq i hi]
      simp[pcL]
     ·rw[jc6,jfq]
      omega
     ·rw[hl0]
      have:jek (upd (upd H2 l (.lst (pc i).reverse)) d (.lst (xs.dropLast++(pc i).reverse))) d=xs.dropLast++(pc i).reverse:=by simp[jek,jc,jcp]
      rw[this,jc6,jfq]
      omega
  ·intro σ H' Q1 Q2 hq h
   obtain⟨v,e,h⟩:=h
   refine⟨v,e,?_⟩
   replace h:rTru v H' Q1:=h
   show rTru v H' Q2
   unfold rTru at h⊢
   split at h
   ·exact hq _ _ h
   ·exact hq _ _ h
   ·exact hq _ _ h
   ·exact⟨h.1,hq _ _ h.2⟩
   ·obtain⟨xs,e,h⟩:=h
    exact⟨xs,e,hq _ _ h⟩
   ·exact h.elim
end
def KS:List (Key×V):=[(.inr "or",.str "|"),(.inr "and",.str "&"),(.inr "behind",.str "")]
theorem jmi(r:RE):valV KB (.inr (eh r))=some (.int (bnd r)):=by
 cases r with
 |bin w i j=>cases w <;> rfl
 |_=>rfl
theorem jrk(w:BW):valV KS (.inr (ew w))=some (.str (swd w)):=by
 cases w <;> rfl
def bp(rs:List RE)(i:Nat)(b:Int):List V:=if bnd (rs.getD i .nothing)<b then[.str "(",.int (i:Int),.str ")"]else[.int (i:Int)]
def pcs(rs:List RE):RE->List V
 |.nothing=>[.str "0"]
 |.blank=>[.str "."]
 |.letter a=>[.str a]
 |.no i=>[.str "-"]++bp rs i 3
 |.bin w i j=>bp rs i (bwd w)++[.str (swd w)]++bp rs j (bwd w+1)
theorem jeq(rs:List RE)(i:Nat)(b:Int):(bp rs i b).length<=3:=by unfold bp;split <;> simp
structure TBP(P:Program)(w:World)(K:PySem.W.Frag)(mg:Str->Option Value)(ab:Addr):Prop where
 m_BINDS:mg "BINDS"=some (.ref ab)
 kb:KDict P w K ab KB
def spBP:Sp:=λvs H Q _=>∃(a:Addr)(us:List V)(rs:List RE)(i:Nat)(b:Int),vs=[.ref a,.int (i:Int),.int b]/\H a=some (.tup us)/\Exp H us rs/\i<rs.length/\∀p,H p=none->Q (.ref p) (upd H p (.lst (bp rs i b)))
structure TPO(P:Program)(w:World)(K:PySem.W.Frag)(mg:Str->Option Value)(ab as fb:Addr):Prop where
 m_BINDS:mg "BINDS"=some (.ref ab)
 m_SIGNS:mg "SIGNS"=some (.ref as)
 m9z:mg "bound_part"=some (.ref fb)
 kb:KDict P w K ab KB
 ks:KDict P w K as KS
theorem w1:¬eh (.no i)=Str.ofString "letter":=(by decide +kernel:¬Str.ofString "not"=Str.ofString "letter")
theorem w2:¬eh (.no i)=Str.ofString "blank":=(by decide +kernel:¬Str.ofString "not"=Str.ofString "blank")
theorem w3:¬eh (.no i)=Str.ofString "nothing":=(by decide +kernel:¬Str.ofString "not"=Str.ofString "nothing")
theorem w4(w:BW)(i j:Nat):¬eh (.bin w i j)=Str.ofString "letter"/\¬eh (.bin w i j)=Str.ofString "blank"/\¬eh (.bin w i j)=Str.ofString "nothing"/\¬eh (.bin w i j)=Str.ofString "not" :=
 (show ¬ew w=Str.ofString "letter"/\¬ew w=Str.ofString "blank"/\¬ew w=Str.ofString "nothing"/\¬ew w=Str.ofString "not"by cases w <;> decide +kernel)
def spPO:Sp:=λvs H Q _=>∃(a c:Addr)(us:List V)(rs:List RE)(r:RE),vs=[.ref a,.ref c]/\H a=some (.tup us)/\Exp H us rs/\r.ok rs.length/\H c=some (.tup (jco r))/\∀p H',H p=none->H' p=some (.lst (pcs rs r))->Kp [] H H'->Q (.ref p) H'
section
variable{P:Program}{w:World}{K:PySem.W.Frag}{mg:Str->Option Value}{base:Heap}
abbrev yz:Stmt:=top 31
theorem sc_bound_part:FnScope ["expression","number","binds"] ["expression","number","binds"] (ji yz):=⟨rfl,rfl,rfl,by decide +kernel,rfl,by decide +kernel,by decide +kernel⟩
theorem ok_bound_part{f ab:Addr}{fd:FuncData}(F:Fun K "bound_part" "bound_part" yz f fd)(T:TBP P w K mg ab):FnOk P w K mg base CX0 1 f fd ["expression","number","binds"] spBP:=by
 refine F.ok sc_bound_part (λvs H Q E h=>?_) (λcdv A outer s H vs Q E hr h=>?_)
 ·obtain⟨a,us,rs,i,b,rfl,_⟩:=h
  rfl
 ·obtain⟨a,us,rs,i,b,rfl,ha,ex,hi,k⟩:=h
  have hu:=hr.units
  have hu1:=jmg hr
  have hsz:sizeLine=16777216:=Ao
  obtain⟨c,hc1,hc2⟩:=ex.get hi
  refine⟨_,(QSs.h (je (jy (jq jat (zi (P:=P) (w:=w) (K:=K) rfl rfl rfl (j8 (v:=.ref _) rfl T.m_BINDS rfl) (jv ix_U (jv ix_U (qpv 0) (qpv 1) (λ_ _=>rfl)) jf (λ_ _=>rfl)) (λ_ _=>rfl)) (qpv 2) (jw _)) (jg (jp (j6 (ja jj (ja (qpv 1) (ja jj jb)))))) j7)
  (jg (jp (j6 (ja (qpv 1) jb)))))),?_⟩
  simp! [ha]
  refine⟨_,jdv hc1,?_⟩
  simp! [hc2]
  refine⟨_,ji6 _,?_⟩
  refine⟨KB,T.kb,.inr (eh _),rfl,_,jmi _,?_⟩
  simp!
  refine ite2 (λh=>⟨by omega,λp hp=>?_⟩) (λh=>⟨by omega,λp hp=>?_⟩)
  ·have:=k p hp
   unfold bp at this
   rw[Ad h]at this
   exact this
  ·have:=k p hp
   unfold bp at this
   rw[Aa h]at this
   exact this
abbrev zf:Stmt:=top 30
theorem jay:FnScope ["expression","row","word","binds"] ["expression","row"] (ji zf):=⟨rfl,rfl,rfl,by decide +kernel,rfl,by decide +kernel,by decide +kernel⟩
theorem ok_pieces_of{f ab as fb:Addr}{fd fdb:FuncData}(F:Fun K "pieces_of" "pieces_of" zf f fd)(T:TPO P w K mg ab as fb)(F9z:Fun K "bound_part" "bound_part" yz fb fdb)(b9z:Binds K fdb ["expression","number","binds"] [])
  (G9z:FnOk P w K mg base CX0 1 fb fdb ["expression","number","binds"] spBP):FnOk P w K mg base CX0 2 f fd ["expression","row"] spPO:=by
 refine F.ok jay (λvs H Q E h=>?_) (λcdv A outer s H vs Q E hr h=>?_)
 ·obtain⟨a,c,us,rs,r,rfl,_⟩:=h
  rfl
 ·obtain⟨a,c,us,rs,r,rfl,ha,ex,ok,hc,k⟩:=h
  have hu:=hr.units
  have hu1:=jmg hr
  have hsz:sizeLine=16777216:=Ao
  refine⟨_,(QSs.h (je (jm (i:=2) jay.nd rfl (by first|exact Or.inl rfl|exact Or.inr rfl) (jv ix_U (qpv 1) jf (λ_ _=>rfl)))
  (je (jy (jq (ke hu) (qpv 2) jj (jw _)) (jg (jp (j6 (ja (jv ix_U (qpv 1) jf (λ_ _=>rfl)) jb)))) j7)
  (je (jy (jq (ke hu) (qpv 2) jj (jw _)) (jg (jp (j6 (ja jj jb)))) j7)
  (je (jy (jq (ke hu) (qpv 2) jj (jw _)) (jg (jp (j6 (ja jj jb)))) j7)
  (je (jm (i:=3) jay.nd rfl (by first|exact Or.inl rfl|exact Or.inr rfl) (zi (P:=P) (w:=w) (K:=K) rfl rfl rfl (j8 (v:=.ref _) rfl T.m_BINDS rfl) (qpv 2) (λ_ _=>rfl)))
  (je (jy (jq (ke hu) (qpv 2) jj (jw _)) (jg (jp (jn jx (j6 (ja jj jb)) (jk G9z (hr.mono (by decide)) rfl T.m9z F9z.kp b9z .nil jo (ja (qpv 0) (ja (jv ix_U (qpv 1) jf (λ_ _=>rfl)) (ja (qpv 3) jb))))))) j7)
  (jg (jp (jn jx (jn jx (jk G9z (hr.mono (by decide)) rfl T.m9z F9z.kp b9z .nil jo (ja (qpv 0) (ja (jv ix_U (qpv 1) jf (λ_ _=>rfl)) (ja (qpv 3) jb)))) (j6 (ja (zi (P:=P) (w:=w) (K:=K) rfl rfl rfl (j8 (v:=.ref _) rfl T.m_SIGNS rfl) (qpv 2) (λ_ _=>rfl)) jb))) (jk G9z (hr.mono (by decide)) rfl T.m9z F9z.kp b9z .nil jo (ja (qpv 0) (ja (jv ix_U (qpv 1) jf (λ_ _=>rfl)) (ja (jn jx (qpv 3) jf) jb)))))))))))))),?_⟩
  simp! [hc]
  refine⟨_,ji6 _,?_⟩
  cases r with
  |letter z =>
   simp! [hc]
   rw[Ad (show eh (.letter z)=Str.ofString "letter"from rfl)]
   exact⟨_,jcm (by decide) rfl,by omega,λp hp=>k p _ hp jc ((Kp.refl [] H).new hp)⟩
  |blank =>
   simp! [hc]
   rw[Aa (by decide +kernel),Ad (show eh .blank=Str.ofString "blank"from rfl)]
   exact⟨by omega,λp hp=>k p _ hp jc ((Kp.refl [] H).new hp)⟩
  |nothing =>
   simp! [hc]
   rw[Aa (by decide +kernel),Aa (by decide +kernel),Ad (show eh .nothing=Str.ofString "nothing"from rfl)]
   exact⟨by omega,λp hp=>k p _ hp jc ((Kp.refl [] H).new hp)⟩
  |no i =>
   have hi:i<rs.length:=ok
   simp! [hc]
   rw[Aa w1,Aa w2,Aa w3]
   refine⟨KB,T.kb,.inr (eh (.no i)),rfl,_,jmi _,?_⟩
   rw[Ad (show eh (.no i)=Str.ofString "not"from rfl)]
   refine⟨by omega,λp hp=>?_⟩
   have k1:Kp [] H (upd H p (.lst [.str (Str.ofString "-")])):=(Kp.refl [] H).new hp
   refine⟨_,by rw[k1.tup _ _ hc];rfl,_,jcm (by decide) rfl,a,us,rs,i,3,rfl,k1.tup _ _ ha,ex.kp k1,hi,λq hq=>?_⟩
   have bl:=jeq rs i 3
   have npq:p≠q:=jh jc hq
   refine rAddW.lst (by rw[jd npq,jc]) jc (by simp;omega) λt ht=>k t _ ?_ jc ((k1.new hq).new ht)
   exact(k1.new hq).free ht
  |bin ww i j =>
   have hi:i<rs.length:=ok.1
   have hj:j<rs.length:=ok.2
   simp! [hc]
   rw[Aa (w4 ww i j).1,Aa (w4 ww i j).2.1,Aa (w4 ww i j).2.2.1]
   refine⟨KB,T.kb,.inr (ew ww),rfl,_,jmi (.bin ww i j),?_⟩
   rw[Aa (w4 ww i j).2.2.2]
   refine⟨_,jcm (by decide) rfl,a,us,rs,i,bwd ww,rfl,ha,ex,hi,λq hq=>?_⟩
   have bl:=jeq rs i (bwd ww)
   have bl2:=jeq rs j (bwd ww+1)
   refine⟨KS,T.ks,.inr (ew ww),rfl,_,jrk ww,by omega,λq2 hq2=>?_⟩
   have nq:q≠q2:=jh jc hq2
   have k2:=((Kp.refl [] H).new (o:=.lst (bp rs i (bwd ww))) hq).new (o:=.lst [.str (swd ww)]) hq2
   refine rAddW.lst (by rw[jd nq,jc]) jc (by simp;omega) λq3 hq3=>?_
   have k3:=k2.new (o:=.lst (bp rs i (bwd ww)++[.str (swd ww)])) hq3
   have e3:upd (upd (upd H q (.lst (bp rs i (bwd ww)))) q2 (.lst [.str (swd ww)])) q3 (.lst (bp rs i (bwd ww)++[.str (swd ww)])) q3=some (.lst (bp rs i (bwd ww)++[.str (swd ww)])):=jc
   generalize upd (upd (upd H q (.lst (bp rs i (bwd ww)))) q2 (.lst [.str (swd ww)])) q3 (.lst (bp rs i (bwd ww)++[.str (swd ww)]))=H3 at k3 e3⊢
   refine⟨_,by rw[k3.tup _ _ hc];rfl,_,jcm (by decide) rfl,?_⟩
   simp! [jfi,bnd]
   refine⟨a,us,rs,j,bwd ww+1,rfl,k3.tup _ _ ha,ex.kp k3,hj,λq4 hq4=>?_⟩
   have n4:q3≠q4:=jh e3 hq4
   exact rAddW.lst (by rw[jd n4];exact e3) jc (by simp;omega) λt ht=>k t _ ((k3.new hq4).free ht) jc ((k3.new hq4).new ht)
end
abbrev LQ:Str:="show_expression"++".<locals>."++"<lambda>"
structure TSE(P:Program)(w:World)(K:PySem.W.Frag)(mg:Str->Option Value)(base:Heap)(fw fpo c Pt:Addr)(pm:Value):Prop where
 m2z:mg "written"=some (.ref fw)
 m24z:mg "pieces_of"=some (.ref fpo)
 pm:(mg "__name__").getD .none=pm
 hd:PySem.W.CodeHd base c Pt
 bl:base.BuiltinsAt mg Pt
def spSE(Pt:Addr):Sp:=λvs H Q _=>∃(a:Addr)(us:List V)(rs:List RE)(T:List Str),vs=[.ref a]/\H a=some (.tup us)/\Exp H us rs/\TabOk H Pt LQ/\Wr4 rs.length (λk=>pcs rs (rs.getD k .nothing)) T/\∀H',Kp [Pt] H H'->TabOk H' Pt LQ->Q (.str (tx T (rs.length-1))) H'
def DE(rs:List RE)(H:Hp)(v:V)(l:List V):Prop:=∃c r,v=.ref c/\H c=some (.tup (jco r))/\r.ok rs.length/\l=pcs rs r
section
variable{P:Program}{w:World}{K:PySem.W.Frag}{mg:Str->Option Value}{base:Heap}
abbrev ki:Stmt:=top 29
theorem sc_show_expression:FnScope ["expression"] ["expression"] (ji ki):=⟨rfl,rfl,rfl,by decide +kernel,rfl,by decide +kernel,by decide +kernel⟩
def lamE:Expr:=match jt ki with
 |[.Return (some (.Call _ [_,l] _ _)) _]=>l
 |_=>.Name "" ⟨0,0,0,0⟩
def lamA:Arguments:=match lamE with
 |.Lambda a _ _ _=>a
 |_=>ju (.Pass ⟨0,0,0,0⟩)
def lamB:Expr:=match lamE with
 |.Lambda _ b _ _=>b
 |_=>.Name "" ⟨0,0,0,0⟩
def lamS:Scope:=match lamE with
 |.Lambda _ _ c _=>c
 |_=>ji (.Pass ⟨0,0,0,0⟩)
theorem jrl:LamScope ["row"] ["expression"] lamS:=⟨rfl,rfl,rfl,by decide +kernel,by decide +kernel,by decide +kernel,by decide +kernel,λx h=>by
 have hn:lamS.names=[(Str.ofString "row",.local),(Str.ofString "expression",.free),(Str.ofString "pieces_of",.globalImplicit)]:=rfl
 rw[hn,List.lookup_cons]at h
 split at h
 ·cases h
 ·rw[List.lookup_cons]at h
  split at h
  ·rename_i e
   rw[eq_of_beq e]
   exact Ak.mpr rfl
  ·rw[List.lookup_cons]at h
   split at h
   ·cases h
   ·cases h⟩
theorem RE.ok.up{r:RE}{k n:Nat}(h:r.ok k)(l:k<=n):r.ok n:=by
 cases r with
 |no i=>exact Aq h l
 |bin w i j=>exact⟨Aq h.1 l,Aq h.2 l⟩
 |letter a=>exact h
 |_=>trivial
theorem jg4{r:RE}{k:Nat}(h:r.okz k):r.ok k:=by
 cases r with
 |letter a=>exact h.1
 |_=>exact h
theorem us1{C:List Value->Prop}(h:∀v0:Value,C [v0])(us:List Value)(e:us.length=1):C us:=by
 cases us with
 |nil=>exact absurd e.symm (I0 _)
 |cons v0 us =>
  cases us with
  |nil=>exact h v0
  |cons _ _=>exact absurd (Oh (e)) (I0 _)
theorem ok_show_expression{f fw fpo c Pt:Addr}{fd fdw fdp:FuncData}{pm:Value}(F:Fun K "show_expression" "show_expression" ki f fd)(T:TSE P w K mg base fw fpo c Pt pm)(hcd:fd.code=.ref c)
  (F2z:Fun K "written" "written" zq fw fdw) (b2z:Binds K fdw ["rows","pieces"] []) (G2z:FnOk P w K mg base CX0 5 fw fdw ["rows","pieces"] (spWn P w K mg base))
  (F24z:Fun K "pieces_of" "pieces_of" zf fpo fdp) (b24z:Binds K fdp ["expression","row"] []) (G24z:FnOk P w K mg base CX0 2 fpo fdp ["expression","row"] spPO):FnOk P w K mg base CX0 6 f fd ["expression"] (spSE Pt):=by
 refine F.okC sc_show_expression (λvs H Q E h=>?_) (λA outer s H vs Q E hr h=>?_)
 ·obtain⟨a,us,rs,T,rfl,_⟩:=h
  rfl
 ·obtain⟨a,us,rs,TT,rfl,ha,ex,tb,W,k⟩:=h
  have hu:=hr.units
  refine⟨_,(QSs.h (jg (jp (qpe_callC [(0,s.heap.objs.size+1)] (by intro j hj;simp only[Aw,Ap,Wl]at hj;rcases hj with rfl <;> exact⟨_,rfl,rfl,rfl,rfl⟩) G2z (hr.mono (by decide)) rfl T.m2z F2z.kp b2z (ja (qpv 0) (ja (qpe_lambda (Pt:=Pt) rfl T.pm hcd T.hd T.bl) jb)))))),?_⟩
  simp!
  refine⟨tb,λfl c' ct H1 hfl k1 e1 cz tb1=>?_⟩
  refine⟨λj hj=>by cases Ak.mp hj;exact⟨_,rfl⟩,λcs hcs=>?_⟩
  obtain⟨o,rfl,hn,u,ho,ru⟩:∃o,cs=[(s.heap.objs.size+1,o)]/\H1 (s.heap.objs.size+1)=none/\∃u,o.data=.cell (some u)/\RelV (.ref a) u:=by
   cases hcs with
   |cons h t =>
    cases t
    rename_i p
    obtain⟨c1,o1⟩:=p
    obtain⟨e1,e2,v,u,e3,e4,e5⟩:=h
    cases(Au (Au e3))
    cases(show c1=s.heap.objs.size+1 from e1)
    exact⟨o1,rfl,e2,u,e4,e5⟩
  generalize s.heap.objs.size+1=n1 at e1 hn
  have lk:∀b,b≠n1->([(n1,o)]:List (Addr×Obj)).lookup b=none:=λb h=>by
   rw[List.lookup_cons]
   have:(b == n1)=false:=by simpa using h
   rw[this];rfl
  have sh:∀b v,H1 b=some v->jda H1 [(n1,o)] b=some v:=λb v e=>by rw[jc0 (lk b (jh e hn))];exact e
  have kS:Kp [] H1 (jda H1 [(n1,o)]):=⟨λb v e _=>sh b v e,λb xs e=>sh b _ e,λb v e=>⟨v,sh b v e⟩⟩
  have e1':H1 fl=some (FZ (PySem.W.kla_obj "<lambda>" LQ lamA lamB lamS [("expression",n1)] pm c' ct)):=e1
  have cap:Caps (jda H1 [(n1,o)]) [("expression",n1)] ["expression"] [.ref a]:=by
   have en:jda H1 [(n1,o)] n1=some (FZ o):=je4 (by simp[List.lookup])
   refine⟨rfl,λi x v q1 q2=>?_,λx hx=>?_,λp hp=>?_,λx y c q1 q2=>?_⟩
   ·cases i with
    |zero=>cases q1;cases q2;exact⟨n1,o,u,rfl,en,ho,ru⟩
    |succ i=>simp at q1
   ·cases Ak.mp hx;exact⟨n1,rfl⟩
   ·cases Ak.mp hp;exact⟨o,some u,en,ho⟩
   ·rw[List.lookup_cons]at q1 q2
    split at q1
    ·split at q2
     ·rename_i z1 _ z2;rw[eq_of_beq z1,eq_of_beq z2]
     ·cases q2
    ·cases q1
  let R:Hp->Prop:=λH=>H fl=some (FZ (PySem.W.kla_obj "<lambda>" LQ lamA lamB lamS [("expression",n1)] pm c' ct))/\CodeZ H c' LQ/\Caps H [("expression",n1)] ["expression"] [.ref a]/\H a=some (.tup us)/\Exp H us rs
  have L:Lm P w K mg base fl (PySem.W.kla_obj "<lambda>" LQ lamA lamB lamS [("expression",n1)] pm c' ct) (PySem.W.kla_fn "<lambda>" LQ lamA lamB lamS [("expression",n1)] pm (.ref c') ct) ["row"] (DE rs) R:=by
   refine⟨rfl,jqq (fs:=["expression"]) jrl (λvs H Q E h=>?_) (λvs H Q E h=>?_),.all (us1 λ_=>rfl),λH h=>h.1,λH H' k h=>⟨k.old _ _ h.1 (by simp),h.2.1.kp k (by simp),h.2.2.1.kp k (by simp),k.tup _ _ h.2.2.2.1,h.2.2.2.2.kp k⟩,λH H' v l k h=>?_⟩
   ·obtain⟨v,l,rfl,_⟩:=h
    rfl
   ·obtain⟨v,l,rfl,hR,⟨cc,r,rfl,hcc,okr,rfl⟩,q⟩:=h
    refine⟨hR.1,hR.2.1,[.ref a],hR.2.2.1,λA outer s hr=>⟨_,QE.h (jk G24z (hr.mono (by decide)) rfl T.m24z F24z.kp b24z .nil jo (ja (qpv 1) (ja (qpv 0) jb))),?_⟩⟩
    simp!
    have ne:∀b v,H b=some v->(∀o,v≠FZ o)->b∉[n1]:=λb v e n m=>by
     obtain⟨o2,u2,e2,_⟩:=hR.2.2.1.fz _ (.head _)
     rw[Ak.mp m]at e
     rw[show H n1=some (FZ o2)from e2]at e
     exact n o2 (Au e).symm
    have tk:∀b xs,H b=some (.tup xs)->hideC H ([n1]) b=some (.tup xs):=λb xs e=>by rw[jcq (ne b _ e (λ_ z=>by cases z))];exact e
    refine⟨a,cc,us,rs,r,rfl,tk _ _ hR.2.2.2.1,⟨Paired.mapP hR.2.2.2.2.at_ λ_ _ ⟨b,z1,z2⟩=>⟨b,z1,tk _ _ z2⟩,hR.2.2.2.2.ok⟩,okr,tk _ _ hcc,λp H' hp e kk no=>?_⟩
    have np:p∉[n1]:=λm=>by rw[no p m]at e;cases e
    exact q p _ ((jcz np).trans e) ((jcq np).symm.trans hp) kk.backC
   ·obtain⟨cc,r,rfl,hcc,r2⟩:=h
    exact⟨cc,r,rfl,k.tup _ _ hcc,r2⟩
  have hR:R (jda H1 [(n1,o)]):=⟨sh _ _ e1',cz.kp kS (by simp),cap,sh _ _ (k1.tup _ _ ha),(ex.kp k1).kp kS⟩
  refine⟨a,us,λk=>pcs rs (rs.getD k .nothing),TT,fl,_,_,_,DE rs,R,L,hR,rfl,hR.2.2.2.1,λkk v e=>?_,by rw[ex.len];exact W,λH2 k2=>?_⟩
  ·obtain⟨r,e2,cc,e3,e4⟩:=jbe hR.2.2.2.2.at_ e
   have hk:kk<rs.length:=(Ai.mp e2).1
   refine⟨cc,r,e3,e4,(jg4 (ex.ok kk r e2)).up (U9 hk),?_⟩
   show pcs rs (rs.getD kk .nothing)=_
   rw[Ag,e2];rfl
  ·rw[ex.len]
   have k3:Kp [] H1 (hideC H2 [n1]):=by
    have kk:=kS.trans k2
    have ne:∀b v,H1 b=some v->b∉[n1]:=λb v e m=>by rw[Ak.mp m,hn]at e;cases e
    exact⟨λb v e m=>by rw[jcq (ne b _ e)];exact kk.old b v e m,λb xs e=>by rw[jcq (ne b _ e)];exact kk.tup b xs e,λb v e=>by rw[jcq (ne b _ e)];exact kk.dom b v e⟩
   exact k _ (k1.trans (k3.mono (by simp))) (tb1.kp k3 (by simp) (by simp))
end
def ets(rs:List RE):List RE->List Str->List Str
 |[],T=>T
 |r::l,T=>ets rs l (T++[⟨(cat T (pcs rs r)).toArray⟩])
def TX(rs:List RE):List Str:=ets rs rs []
theorem jj4(rs:List RE):∀(l:List RE)(r:RE)(T:List Str),ets rs (l++[r]) T=ets rs l T++[⟨(cat (ets rs l T) (pcs rs r)).toArray⟩]
 |[],r,T=>rfl
 |x::l,r,T=>jj4 rs l r _
theorem jhs(rs:List RE):∀(l:List RE)(T:List Str),(ets rs l T).length=T.length+l.length
 |[],T=>rfl
 |x::l,T=>by
  show(ets rs l _).length=_
  rw[jhs rs l]
  simp
  omega
theorem jli(rs:List RE):∀(l:List RE)(T:List Str),∃u,ets rs l T=T++u
 |[],T=>⟨[],by simp[ets]⟩
 |x::l,T=>by
  obtain⟨u,hu⟩:=jli rs l (T++[⟨(cat T (pcs rs x)).toArray⟩])
  exact⟨_::u,by rw[show ets rs (x::l) T=ets rs l (T++[⟨(cat T (pcs rs x)).toArray⟩])from rfl,hu,Ob];rfl⟩
theorem jgq(rs:List RE):(TX rs).length=rs.length:=by unfold TX;rw[jhs];simp
theorem jlh(rs:List RE):∀(l m:List RE)(T:List Str),ets rs (l++m) T=ets rs m (ets rs l T)
 |[],m,T=>rfl
 |x::l,m,T=>jlh rs l m _
theorem jpz{T u:List Str}{k:Nat}(h:k<=T.length){x:V}(hx:isPc k x):pcL (T++u) x=pcL T x:=by
 rcases hx with⟨s,rfl⟩|⟨i,rfl,hi⟩
 ·rfl
 ·simp only[pcL,tx,Int.toNat_natCast]
  rw[A1 (by omega)]
theorem jld{T u:List Str}{k:Nat}(h:k<=T.length):∀{l:List V},(∀x∈l,isPc k x)->cat (T++u) l=cat T l
 |[],_=>rfl
 |x::l,hx=>by
  have e:∀T,cat T (x::l)=pcL T x++cat T l:=λT=>by simp[cat]
  rw[e,e,jpz h (hx x (.head _)),jld h λy hy=>hx y (.tail _ hy)]
theorem jl8{rs:List RE}{i k:Nat}{b:Int}(h:i<k):∀x∈bp rs i b,isPc k x:=by
 intro x hx
 unfold bp at hx
 split at hx
 ·simp at hx
  rcases hx with rfl|rfl|rfl
  ·exact .inl ⟨_,rfl⟩
  ·exact .inr ⟨i,rfl,h⟩
  ·exact .inl ⟨_,rfl⟩
 ·simp at hx
  subst hx
  exact .inr ⟨i,rfl,h⟩
theorem jch{rs:List RE}{k:Nat}:∀{r:RE},r.ok k->∀x∈pcs rs r,isPc k x
 |.nothing,_,x,hx=>by simp[pcs]at hx;exact .inl ⟨_,hx⟩
 |.blank,_,x,hx=>by simp[pcs]at hx;exact .inl ⟨_,hx⟩
 |.letter a,_,x,hx=>by simp[pcs]at hx;exact .inl ⟨_,hx⟩
 |.no i,ok,x,hx=>by
  rcases Ie.mp hx with hx|hx
  ·exact .inl ⟨_,Ak.mp hx⟩
  ·exact jl8 ok x hx
 |.bin w i j,ok,x,hx=>by
  rcases Ie.mp hx with hx|hx
  ·rcases Ie.mp hx with hx|hx
   ·exact jl8 ok.1 x hx
   ·exact .inl ⟨_,Ak.mp hx⟩
  ·exact jl8 ok.2 x hx
theorem pcs_len(rs:List RE)(r:RE):(pcs rs r).length<=100:=by
 cases r with
 |no i=>have:=jeq rs i 3;simp[pcs];omega
 |bin w i j=>have:=jeq rs i (bwd w);have:=jeq rs j (bwd w+1);simp[pcs];omega
 |_=>simp[pcs]
def okE(rs:List RE):Prop:=∀(k:Nat)(r:RE),rs[k]?=some r->r.ok k
theorem jeg{rs:List RE}(ok:okE rs){k:Nat}(hk:k<rs.length):sg (tx (TX rs) k)=cat (TX rs) (pcs rs (rs.getD k .nothing)):=by
 have er:rs[k]?=some (rs.getD k .nothing):=by rw[Ag,An hk];rfl
 have hr:=ok k _ er
 have e1:rs=(rs.take k++[rs.getD k .nothing])++rs.drop (k+1):=by
  have:rs.take (k+1)=rs.take k++[rs.getD k .nothing]:=by rw[Oz,er];rfl
  rw[<-this,U7]
 have e2:TX rs=ets rs (rs.drop (k+1)) (ets rs (rs.take k) []++[⟨(cat (ets rs (rs.take k) []) (pcs rs (rs.getD k .nothing))).toArray⟩]):=by
  unfold TX
  conv=>lhs;arg 2;rw[e1]
  rw[jlh,jj4]
 obtain⟨u,hu⟩:=jli rs (rs.drop (k+1)) (ets rs (rs.take k) []++[⟨(cat (ets rs (rs.take k) []) (pcs rs (rs.getD k .nothing))).toArray⟩])
 rw[hu]at e2
 have hl:(ets rs (rs.take k) []).length=k:=by rw[jhs,Il];simp;omega
 have e3:tx (TX rs) k=⟨(cat (ets rs (rs.take k) []) (pcs rs (rs.getD k .nothing))).toArray⟩:=by
  rw[e2]
  unfold tx
  rw[A1 (by simp[hl]),A8 (by omega),hl]
  simp
 rw[e3,e2,Ob,jld (k:=k) (by omega) (jch hr)]
 simp[sg]
theorem jgb(T:List Str)(a b:List V):(cat T (a++b)).length=(cat T a).length+(cat T b).length:=by rw[jd5,Ay]
theorem bp_w{rs:List RE}{T:List Str}{i:Nat}{b:Int}(h:1<=(tx T i).length):jcs T (bp rs i b)<=4*(cat T (bp rs i b)).length-2/\1<=(cat T (bp rs i b)).length:=by
 unfold bp
 split
 ·simp[jcs,pw4,cat,pcL,jcv]
  have:(Str.ofString "(").length=1:=by decide +kernel
  have:(Str.ofString ")").length=1:=by decide +kernel
  omega
 ·simp[jcs,pw4,cat,pcL,jcv]
  omega
theorem jgr{rs:List RE}(ok:okE rs):∀k,k<rs.length->1<=(tx (TX rs) k).length/\jcs (TX rs) (pcs rs (rs.getD k .nothing))<4*(tx (TX rs) k).length-2:=by
 intro k
 induction k using Nat.strongRecOn with
 |ind k ih =>
  intro hk
  have e:=jeg ok hk
  have er:rs[k]?=some (rs.getD k .nothing):=by rw[Ag,An hk];rfl
  have hr:=ok k _ er
  have el:(tx (TX rs) k).length=(cat (TX rs) (pcs rs (rs.getD k .nothing))).length:=by rw[<-e,jcv]
  rw[el]
  generalize rs.getD k .nothing=r at hr
  cases r with
  |nothing=>simp[pcs,jcs,pw4,cat,pcL,jcv];decide +kernel
  |blank=>simp[pcs,jcs,pw4,cat,pcL,jcv];decide +kernel
  |letter a =>
   have ha:a.length=1:=hr
   simp[pcs,jcs,pw4,cat,pcL,jcv]
   omega
  |no i =>
   have hi:i<k:=hr
   have:=bp_w (rs:=rs) (T:=TX rs) (b:=3) (ih i hi (by omega)).1
   have h1:(Str.ofString "-").length=1:=by decide +kernel
   have h2:(cat (TX rs) [V.str (Str.ofString "-")]).length=1:=by simp[cat,pcL,jcv];exact h1
   have h3:jcs (TX rs) [V.str (Str.ofString "-")]=1:=rfl
   unfold pcs
   rw[jgb,jc6,h2,h3]
   omega
  |bin ww i j =>
   have hi:i<k:=hr.1
   have hj:j<k:=hr.2
   have b1:=bp_w (rs:=rs) (T:=TX rs) (b:=bwd ww) (ih i hi (by omega)).1
   have b2:=bp_w (rs:=rs) (T:=TX rs) (b:=bwd ww+1) (ih j hj (by omega)).1
   have h3:jcs (TX rs) [V.str (swd ww)]=1:=rfl
   unfold pcs
   rw[jgb,jc6,jgb,jc6,h3]
   omega
theorem jrd{rs:List RE}(ok:okE rs)(h1:1<=rs.length)(h2:rs.length<=1000)(bd:∀k,(tx (TX rs) k).length<=50000):Wr4 rs.length (λk=>pcs rs (rs.getD k .nothing)) (TX rs):=by
 refine⟨h1,h2,jgq rs,λk hk=>?_,λk _=>pcs_len rs _,λk hk=>jeg ok hk,bd,λk hk=>(jgr ok k hk).1,λk hk=>(jgr ok k hk).2⟩
 have er:rs[k]?=some (rs.getD k .nothing):=by rw[Ag,An hk];rfl
 exact jch (ok k _ er)
def wE(rs:List RE)(i b:Nat):List Nat:=if ow (rs.getD i .nothing)<b then 40::(sg (tx (TX rs) i)++[41])else sg (tx (TX rs) i)
theorem jhr(rs:List RE)(i b:Nat):cat (TX rs) (bp rs i (b:Int))=wE rs i b:=by
 unfold bp wE
 rw[jm1]
 have e1:sg (Str.ofString "(")=[40]:=by decide +kernel
 have e2:sg (Str.ofString ")")=[41]:=by decide +kernel
 by_cases c:ow (rs.getD i .nothing)<b
 ·rw[Ad (by omega),Ad c]
  simp[cat,pcL,e1,e2]
 ·rw[Aa (by omega),Aa c]
  simp[cat,pcL]
theorem jqi(w:BW):bwd w=(bn w:Int):=by cases w <;> rfl
def okZ(rs:List RE):Prop:=∀(k:Nat)(r:RE),rs[k]?=some r->r.okz k
theorem okZ.ok{rs:List RE}(h:okZ rs):okE rs:=λk r e=>jg4 (h k r e)
theorem okZ.r{rs:List RE}(h:okZ rs):OkR (rs.map keyR):=jq1 λk r e=>jg4 (h k r e)
theorem jfc{rs:List RE}{k:Nat}(hk:k<rs.length):rs[k]?=some (rs.getD k .nothing):=by rw[Ag,An hk];rfl
theorem jdz{rs:List RE}{k:Nat}{r:RE}(e:rs[k]?=some r):k<rs.length/\rs.getD k .nothing=r:=⟨(Ai.mp e).1,by rw[Ag,e];rfl⟩
theorem jpr{r:RE}{k:Nat}(h:r.okz k)(h4:ow r=4)(rs:List RE):∃c,lf c=some r/\cat (TX rs) (pcs rs r)=[c]:=by
 cases r with
 |nothing=>exact⟨48,rfl,by simp[pcs,cat,pcL];decide +kernel⟩
 |blank=>exact⟨46,rfl,by simp[pcs,cat,pcL];decide +kernel⟩
 |letter z =>
  have hl:z.cps.toList.length=1:=by have:z.length=1:=h.1;simpa[Str.length]using this
  obtain⟨c,hc⟩:=List.length_eq_one_iff.mp hl
  have cz:97<=c/\c<=122:=h.2 c (by rw[hc];exact .head _)
  have ez:z=sgn c:=by
   have:z.cps=#[c]:=by rw[<-Array.toList_inj];simpa using hc
   show z=⟨#[c]⟩
   rw[<-this]
  refine⟨c,?_,by simp[pcs,cat,pcL,sg,hc]⟩
  unfold lf
  rw[Aa (by omega),Aa (by omega),Ad cz,ez]
 |no j=>exact absurd h4 (by simp[ow])
 |bin w j l=>exact absurd h4 (by cases w <;> simp[ow,bn])
theorem jf4{rs:List RE}(ok:okZ rs){k j:Nat}(e:rs[k]?=some (.no j)):sg (tx (TX rs) k)=45::wE rs j 3:=by
 obtain⟨hk,eg⟩:=jdz e
 rw[jeg ok.ok hk,eg,<-jhr]
 have e1:sg (Str.ofString "-")=[45]:=by decide +kernel
 unfold pcs
 rw[jd5]
 show cat (TX rs) [V.str (Str.ofString "-")]++_=_
 simp[cat,pcL,e1]
theorem jex{rs:List RE}(ok:okZ rs){k i j:Nat}{w:BW}(e:rs[k]?=some (.bin w i j)):sg (tx (TX rs) k)=wE rs i (bn w)++(wl w++wE rs j (bn w+1)):=by
 obtain⟨hk,eg⟩:=jdz e
 rw[jeg ok.ok hk,eg,<-jhr,<-jhr]
 unfold pcs
 rw[jd5,jd5,Ob,jqi,show((bn w:Int)+1)=((bn w+1:Nat):Int)by omega]
 have e1:cat (TX rs) [V.str (swd w)]=wl w:=by cases w <;> (simp[cat,pcL,swd,wl];decide +kernel)
 rw[e1]
theorem jh4{rs:List RE}(ok:okZ rs){k:Nat}{r:RE}(e:rs[k]?=some r)(h4:ow r=4):∃c,lf c=some r/\sg (tx (TX rs) k)=[c]:=by
 obtain⟨hk,eg⟩:=jdz e
 obtain⟨c,h1,h2⟩:=jpr (ok k r e) h4 rs
 exact⟨c,h1,by rw[jeg ok.ok hk,eg,h2]⟩
theorem jd4(rs:List RE)(k b:Nat):(sg (tx (TX rs) k)).length<=(wE rs k b).length/\(wE rs k b).length<=(sg (tx (TX rs) k)).length+2:=by
 unfold wE
 split
 ·simp only[List.length_cons,Ay,List.length_nil];omega
 ·omega
theorem Ren.min{rs:List RE}(ok:okZ rs){i b:Nat}{t:List Nat}(h:Ren rs i b t):b<=4->(wE rs i b).length<=t.length:=by
 induction h with
 |@leaf i b c r e l =>
  intro hb
  have h4:ow r=4:=by
   unfold lf at l
   split at l
   ·cases l;rfl
   ·split at l
    ·cases l;rfl
    ·split at l
     ·cases l;rfl
     ·cases l
  obtain⟨c',h1,h2⟩:=jh4 ok e h4
  obtain⟨hk,eg⟩:=jdz e
  unfold wE
  rw[eg,Aa (by omega),h2];simp
 |@no i b j t e hb _ ih =>
  intro _
  obtain⟨hk,eg⟩:=jdz e
  have:=ih (by omega)
  unfold wE
  rw[eg,Aa (by simp only[ow];omega),jf4 ok e]
  simp;omega
 |@op i b j k w t u e hb _ _ ih1 ih2 =>
  intro _
  obtain⟨hk,eg⟩:=jdz e
  have hw:=ji5 w
  have:=ih1 (by omega)
  have:=ih2 (by omega)
  unfold wE
  rw[eg,Aa (by simp only[ow];omega),jex ok e]
  simp;omega
 |@par i b t _ ih =>
  intro _
  have h1:=ih (by omega)
  have h2:=(jd4 rs i 0).1
  have h3:=(jd4 rs i b).2
  simp;omega
theorem LB.txl{rs:List RE}{L:Nat->Nat}(lb:LB rs L)(ok:okZ rs):∀k,k<rs.length->(sg (tx (TX rs) k)).length+2<=L k:=by
 intro k
 induction k using Nat.strongRecOn with
 |ind k ih =>
  intro hk
  have er:=jfc hk
  have hr:=ok k _ er
  have hb:=lb.at_ k _ er
  generalize rs.getD k .nothing=r at er hr hb
  have leaf:ow r=4->7<=L k->(sg (tx (TX rs) k)).length+2<=L k:=λh4 h7=>by
   obtain⟨c,h1,h2⟩:=jh4 ok er h4
   rw[h2];simp;omega
  cases r with
  |no j =>
   have hj:j<k:=hr
   have h1:=ih j hj (by omega)
   have h2:=(jd4 rs j 3).2
   have hb:L j+7<=L k:=hb
   rw[jf4 ok er]
   simp;omega
  |bin w i j =>
   have hi:i<k:=hr.1
   have hj:j<k:=hr.2
   have h1:=ih i hi (by omega)
   have h2:=ih j hj (by omega)
   have h3:=(jd4 rs i (bn w)).2
   have h4:=(jd4 rs j (bn w+1)).2
   have hb:L i+L j+7<=L k:=hb
   have h5:(wl w).length<=1:=by cases w <;> simp[wl]
   rw[jex ok er]
   simp;omega
  |_=>exact leaf rfl hb
theorem joa{r s:RE}(h:keyR r=keyR s):r=s:=by
 have w0:∀w w':BW,ew w=ew w'->w=w':=λw w'=>by cases w <;> cases w' <;> first|(intro _;rfl)|(intro h;exact absurd h (by decide +kernel))
 have w1:∀w,ew w≠Str.ofString "not"/\ew w≠Str.ofString "letter":=λw=>by cases w <;> decide +kernel
 cases r <;> cases s <;> simp[keyR]at h⊢
 all_goals first
  |exact h
  |exact(absurd h (by decide +kernel))
  |exact(absurd h.1 (by decide +kernel))
  |(obtain⟨h1,h2,h3⟩:=h;exact⟨w0 _ _ h1,by omega,by omega⟩)
  |omega
theorem jrm(g:Nat->Nat)(r:RE):ow (r.mp g)=ow r:=by cases r <;> rfl
theorem jq8{rs rs':List RE}(ok:okZ rs)(ok':okZ rs'){g:Nat->Nat}{S:Nat->Prop}(hS:∀x,S x->∃r,rs[x]?=some r/\rs'[g x]?=some (r.mp g)/\∀p∈ptR (keyR r),S p):∀x,S x->sg (tx (TX rs) x)=sg (tx (TX rs') (g x)):=by
 intro x
 induction x using Nat.strongRecOn with
 |ind x ih =>
  intro sx
  obtain⟨r,e,e',hp⟩:=hS x sx
  have hr:=ok x r e
  have we:∀p b,p<x->S p->wE rs p b=wE rs' (g p) b:=λp b hpx sp=>by
   obtain⟨q,q1,q2,_⟩:=hS p sp
   unfold wE
   rw[ih p hpx sp,(jdz q1).2,(jdz q2).2,jrm]
  have leaf:ow r=4->r.mp g=r->sg (tx (TX rs) x)=sg (tx (TX rs') (g x)):=λh4 hm=>by
   obtain⟨hk,eg⟩:=jdz e
   obtain⟨hk',eg'⟩:=jdz e'
   rw[jeg ok.ok hk,jeg ok'.ok hk',eg,eg',hm]
   cases r with
   |no j=>exact absurd h4 (by simp[ow])
   |bin w j l=>exact absurd h4 (by cases w <;> simp[ow,bn])
   |_=>rfl
  cases r with
  |no j=>rw[jf4 ok e,jf4 (j:=g j) ok' e',we j 3 hr (hp j (by simp[keyR,ptR,ptK]))]
  |bin w i j=>rw[jex ok e,jex (i:=g i) (j:=g j) ok' e',we i _ hr.1 (hp i (by simp[keyR,ptR,ptK])),we j _ hr.2 (hp j (by simp[keyR,ptR,ptK]))]
  |_=>exact leaf rfl rfl
theorem jqb{rs rs':List RE}(ok:okZ rs)(ok':okZ rs')(n1:1<=rs.length)(t:TidP (rs.map keyR) (rs'.map keyR)):sg (tx (TX rs) (rs.length-1))=sg (tx (TX rs') (rs'.length-1))/\∀k,k<rs'.length->∃v,v<rs.length/\sg (tx (TX rs) v)=sg (tx (TX rs') k):=by
 obtain⟨h,H,e⟩:=t
 have n1':1<=(rs.map keyR).length:=by rw[Ae];exact n1
 have la:=jgk ok.r H n1'
 have O:=jeb ok.r H n1'
 have ll:rs'.length=(ordR (rs.map keyR) h).length:=by rw[<-jew,<-e,Ae]
 have key:=jq8 (rs:=rs) (rs':=rs') ok ok' (g:=λx=>(ordR (rs.map keyR) h).idxOf (h x)) (S:=λx=>h x∈ordR (rs.map keyR) h/\x<(rs.map keyR).length) (λx ⟨h1,h2⟩=>by
  have rw:=joj H h2 h1
  have h2':x<rs.length:=by rwa[Ae]at h2
  have ex:=jfc h2'
  have eg:(rs.map keyR).getD x []=keyR (rs.getD x .nothing):=by rw[Ag,A3,ex];rfl
  rw[eg,<-e,jhw,A3]at rw
  obtain⟨s,es,eq⟩:=Op.mp rw
  refine⟨_,ex,by rw[es,joa eq],λp hp=>?_⟩
  have hp':p∈own (rs.map keyR) x:=by unfold own;rw[eg];exact hp
  have pl:=jg5 ok.r x h2 p hp'
  refine⟨jnr ok.r H n1' h1 _ ?_,by omega⟩
  rw[jn2 H h2]
  exact A7.mpr ⟨p,hp',rfl⟩)
 have sl:h ((rs.map keyR).length-1)∈ordR (rs.map keyR) h:=by
  obtain⟨t,e⟩:=O.la
  rw[e];simp
 refine⟨?_,λk hk=>?_⟩
 ·have:=key (rs.length-1) ⟨by rw[Ae]at sl;exact sl,by rw[Ae];omega⟩
  rw[this,ll,<-la.1,Ae]
 ·rw[ll]at hk
  have ek:(ordR (rs.map keyR) h)[k]?=some (ordR (rs.map keyR) h)[k]:=An hk
  have vm:=Um hk
  have vl:=O.lt _ vm
  have hv:h (ordR (rs.map keyR) h)[k]=(ordR (rs.map keyR) h)[k]:=O.hd _ vm
  have:=key (ordR (rs.map keyR) h)[k] ⟨by rw[hv];exact vm,vl⟩
  refine⟨_,by rw[Ae]at vl;exact vl,?_⟩
  rw[this,hv,jcb O.nd ek]
theorem jq6{rs rs':List RE}(ok:okZ rs)(ok':okZ rs')(n1:1<=rs.length)(t:TidP (rs.map keyR) (rs'.map keyR)):sg (tx (TX rs) (rs.length-1))=sg (tx (TX rs') (rs'.length-1)):=(jqb ok ok' n1 t).1
theorem jq5{rs:List RE}(ok:okZ rs)(n1:1<=rs.length){F:List Row}(t:TidP (rs.map keyR) F):∃rs',F=rs'.map keyR/\okZ rs'/\1<=rs'.length:=by
 obtain⟨h,H,rfl⟩:=t
 have n1':1<=(rs.map keyR).length:=by rw[Ae];exact n1
 have O:=jeb ok.r H n1'
 have ef:tidR (rs.map keyR) h=((ordR (rs.map keyR) h).map λv=>((rs.getD v .nothing).mp h).mp λx=>(ordR (rs.map keyR) h).idxOf x).map keyR:=by
  rw[Oc]
  refine O3 λv hv=>?_
  have vl:=O.lt v hv
  rw[Ae]at vl
  show wpR _ (RwA (rs.map keyR) h v)=keyR _
  unfold RwA
  rw[Ag,A3,jfc vl]
  show wpR _ (wpR h (keyR _))=_
  rw[jhw,jhw]
 refine⟨_,ef,λk r e=>?_,by rw[Ae];exact(jgk ok.r H n1').2⟩
 have rk:=jnw ok.r H n1'
 have rk2:=rk k (keyR r) (by rw[ef,A3,e];rfl)
 rw[A3]at e
 obtain⟨v,ev,rfl⟩:=Op.mp e
 have vl:=O.lt v (A6 ev)
 rw[Ae]at vl
 have hv:=ok v _ (jfc vl)
 generalize rs.getD v .nothing=r at hv rk2
 cases r with
 |letter a=>exact hv
 |no i =>
  have:=rk2 ((ordR (rs.map keyR) h).idxOf (h i):Int) (by simp[keyR,RE.mp])
  show(ordR (rs.map keyR) h).idxOf (h i)<k
  omega
 |bin w i j =>
  have h1:=rk2 ((ordR (rs.map keyR) h).idxOf (h i):Int) (by simp[keyR,RE.mp])
  have h2:=rk2 ((ordR (rs.map keyR) h).idxOf (h j):Int) (by simp[keyR,RE.mp])
  show(ordR (rs.map keyR) h).idxOf (h i)<k/\(ordR (rs.map keyR) h).idxOf (h j)<k
  omega
 |_=>trivial
def cx:List W4->Nat
 |.op w::_=>bn w+1
 |.no::_=>3
 |_=>0
def np:List W4->Nat
 |[]=>0
 |.par::wt=>np wt+1
 |_::wt=>np wt
inductive Sk (R:List RE):List W4->List Nat->List Nat->Prop
 |nil:Sk R [] [] []
 |par {wt:List W4}{rd t:List Nat}:Sk R wt rd t->Sk R (.par::wt) rd (t++[40])
 |no {wt:List W4}{rd t:List Nat}:Sk R wt rd t->Sk R (.no::wt) rd (t++[45])
 |op {wt:List W4}{rd t u:List Nat}{w:BW}{j:Nat}:Sk R wt rd t->Ren R j (bn w) u->jjt wt (bn w)->j<R.length->Sk R (.op w::wt) (j::rd) (t++(u++wl w))
theorem Ren.pre{R R':List RE}(p:R <+: R'){i b:Nat}{t:List Nat}(h:Ren R i b t):Ren R' i b t:=by
 obtain⟨x,rfl⟩:=p
 have g:∀{i:Nat}{r:RE},R[i]?=some r->(R++x)[i]?=some r:=fun{i r} e=>by rw[A1 (Ai.mp e).1];exact e
 induction h with
 |leaf e l=>exact .leaf (g e) l
 |no e b _ ih=>exact .no (g e) b ih
 |op e b _ _ ih1 ih2=>exact .op (g e) b ih1 ih2
 |par _ ih=>exact .par ih
theorem Sk.pre{R R':List RE}(p:R <+: R'){wt:List W4}{rd t:List Nat}(h:Sk R wt rd t):Sk R' wt rd t:=by
 induction h with
 |nil=>exact .nil
 |par _ ih=>exact .par ih
 |no _ ih=>exact .no ih
 |op _ r l j ih=>exact .op ih (r.pre p) l (Aq j p.length_le)
theorem jrg(wt:List W4):cx wt<=3:=by
 cases wt with
 |nil=>exact Ia _
 |cons w wt =>
  cases w with
  |par=>exact Ia _
  |op w=>have:=ji5 w;show bn w+1<=3;omega
  |no=>exact Af _
theorem jql{wt:List W4}{b:Nat}(hb:b<=2)(h:jjt wt b):cx wt<=b:=by
 cases wt with
 |nil=>exact Ia _
 |cons w wt =>
  have:=h w rfl
  cases w with
  |par=>exact Ia _
  |op w=>rw[jep]at this;show bn w+1<=b;omega
  |no=>have:(3:Int)<b:=this;omega
theorem jbl{R:List RE}(ok:okZ R){r:RE}(h:r.okz R.length):okZ (R++[r]):=jlj ok h
theorem jhy(R:List RE)(r:RE):(R++[r])[R.length]?=some r:=by rw[A8 (Af _)];simp
theorem ji4(k:Nat)(hk:k<=2):∀(wt:List W4)(rd:List Nat)(R:List RE)(t u:List Nat)(j:Nat),okZ R->Sk R wt rd t->(∀b,b<=max k (cx wt)->Ren R j b u)->j+1=R.length ->
  ∃(R':List RE)(wt':List W4)(rd' t' u':List Nat)(j':Nat),Bd (k:Int) wt (j::rd) R wt' (j'::rd') R'/\okZ R'/\Sk R' wt' rd' t'/\Ren R' j' k u'/\jjt wt' k/\np wt'=np wt/\t'++u'=t++u/\j'+1=R'.length:=by
 intro wt
 induction wt with
 |nil =>
  intro rd R t u j ok s r hj
  exact⟨R,[],rd,t,u,j,.nil,ok,s,r k (by omega),(λw hw=>nomatch hw),rfl,rfl,hj⟩
 |cons w wt ih =>
  intro rd R t u j ok s r hj
  have stop:bpi w<k->∃(R':List RE)(wt':List W4)(rd' t' u':List Nat)(j':Nat),Bd (k:Int) (w::wt) (j::rd) R wt' (j'::rd') R'/\okZ R'/\Sk R' wt' rd' t'/\Ren R' j' k u'/\jjt wt' k/\np wt'=np (w::wt)/\t'++u'=t++u/\j'+1=R'.length:=λh=>⟨R,w::wt,rd,t,u,j,.stop h,ok,s,r k (by omega),(λv hv=>by cases hv;exact h),rfl,rfl,hj⟩
  cases s with
  |par s=>exact stop (by show(-1:Int)<k;omega)
  |@no _ _ t s =>
   have e:=jhy R (.no j)
   have p:R <+: R++[RE.no j]:=⟨_,rfl⟩
   have r3:Ren R j 3 u:=r 3 (by show 3<=max k 3;omega)
   have c3:=jrg wt
   obtain⟨R',wt',rd',t',u',j',h0,h1,h2,h3,h4,h5,h6,h7⟩:=ih rd (R++[.no j]) t (45::u) R.length (jbl ok (r:=.no j) (show j<R.length by omega)) (s.pre p) (λb hb=>.no e (by omega) (r3.pre p)) (by simp)
   exact⟨R',wt',rd',t',u',j',.no (by omega) h0,h1,h2,h3,h4,h5,by rw[h6];simp,h7⟩
  |@op _ rd t u1 w f s r1 tl fl =>
   by_cases c:bn w<k
   ·exact stop (by rw[jep];omega)
   ·have e:=jhy R (.bin w f j)
    have p:R <+: R++[RE.bin w f j]:=⟨_,rfl⟩
    have r3:Ren R j (bn w+1) u:=r _ (by show bn w+1<=max k (bn w+1);omega)
    have hw:=ji5 w
    have cc:=jql hw tl
    obtain⟨R',wt',rd',t',u',j',h0,h1,h2,h3,h4,h5,h6,h7⟩:=ih rd (R++[.bin w f j]) t (u1++(wl w++u)) R.length (jbl ok (r:=.bin w f j) (show f<R.length/\j<R.length by omega)) (s.pre p) (λb hb=>.op e (by omega) (r1.pre p) (r3.pre p)) (by simp)
    exact⟨R',wt',rd',t',u',j',.op (by rw[jep];omega) h0,h1,h2,h3,h4,h5,by rw[h6];simp,h7⟩
def At(t:List Nat)(o:Nat)(d:Bool)(wt:List W4)(rd:List Nat)(R:List RE):Prop:=okZ R/\np wt=o /\
 if d then Sk R wt rd t else ∃(t1 u:List Nat)(j:Nat)(rd0:List Nat),rd=j::rd0/\Sk R wt rd0 t1/\t=t1++u/\(∀b,Ren R j b u)/\j+1=R.length
theorem jq0{c:Nat}{r:RE}(h:lf c=some r)(k:Nat):r.okz k:=by
 unfold lf at h
 split at h
 ·cases h;trivial
 ·split at h
  ·cases h;trivial
  ·split at h
   ·rename_i h1
    cases h
    exact⟨rfl,λd hd=>by simp[sgn]at hd;subst hd;exact h1⟩
   ·cases h
theorem At.part{t:List Nat}{o o':Nat}{d d':Bool}{c:Nat}{wt:List W4}{rd:List Nat}{R:List RE}(h:At t o d wt rd R)
  (g:∀wt rd R,okZ R->np wt=o->Sk R wt rd t->∃wt' rd' R',Bg c wt rd R o wt' rd' R' o' d'/\At (t++[c]) o' d' wt' rd' R'):∃wt' rd' R',Sg c wt rd R o d wt' rd' R' o' d'/\At (t++[c]) o' d' wt' rd' R':=by
 cases d with
 |true =>
  obtain⟨ok,n,s⟩:=h
  obtain⟨wt',rd',R',h1,h2⟩:=g wt rd R ok n s
  exact⟨wt',rd',R',.part h1,h2⟩
 |false =>
  obtain⟨ok,n,t1,u,j,rd0,rfl,s,rfl,r,hj⟩:=h
  obtain⟨R',wt',rd',t',u',j',h0,h1,h2,h3,h4,h5,h6,h7⟩:=ji4 2 (by omega) wt rd0 R t1 u j ok s (λb _=>r b) hj
  have sk:=Sk.op (w:=.beh) h2 h3 h4 (by omega)
  have sk':Sk R' (.op .beh::wt') (j'::rd') (t1++u):=by rw[<-h6];simpa[wl]using sk
  obtain⟨wt2,rd2,R2,g1,g2⟩:=g _ _ R' h1 (by rw[<-n,<-h5];rfl) sk'
  exact⟨wt2,rd2,R2,.more h0 g1,g2⟩
theorem At.step{t:List Nat}{o o':Nat}{d d':Bool}{c:Nat}{wt:List W4}{rd:List Nat}{R:List RE}(h:At t o d wt rd R)(e:stA o d c=some (o',d')):∃wt' rd' R',Sg c wt rd R o d wt' rd' R' o' d'/\At (t++[c]) o' d' wt' rd' R':=by
 unfold stA at e
 split at e
 ·rename_i c1
  subst c1
  cases e
  exact h.part λwt rd R ok n s=>⟨_,_,_,.par rfl,ok,by rw[<-n];rfl,Sk.par s⟩
 split at e
 ·rename_i c1
  subst c1
  cases e
  exact h.part λwt rd R ok n s=>⟨_,_,_,.no rfl,ok,by rw[<-n];rfl,Sk.no s⟩
 split at e
 ·rename_i c1
  cases e
  obtain⟨r,l⟩:=O1.mp c1
  exact h.part λwt rd R ok n s=>⟨_,_,_,.leaf l,jbl ok (jq0 l _),n,t,[c],R.length,rd,rfl,Sk.pre ⟨_,rfl⟩ s,rfl,λb=>.leaf (jhy R r) l,by simp⟩
 split at e
 ·cases e
 rename_i c0
 have d0:d=false:=by
  cases d with
  |true=>exact absurd rfl c0
  |false=>rfl
 subst d0
 obtain⟨ok,n,t1,u,j,rd0,rfl,s,rfl,r,hj⟩:=h
 split at e
 ·rename_i c1
  subst c1
  split at e
  ·cases e
  ·rename_i o0
   cases e
   obtain⟨R',wt',rd',t',u',j',h0,h1,h2,h3,h4,h5,h6,h7⟩:=ji4 0 (by omega) wt rd0 R t1 u j ok s (λb _=>r b) hj
   cases h2 with
   |nil=>exact absurd (h5.trans n) (λz=>o0 z.symm)
   |@par wt2 _ t2 s2 =>
    refine⟨wt2,j'::rd',R',.shut rfl (by omega) h0,h1,by have:np wt2+1=np wt:=h5;omega,t2,40::(u'++[41]),j',rd',rfl,s2,?_,λb=>.par h3,h7⟩
    rw[<-h6];simp
   |no s2=>exact absurd (h4 _ rfl) (by decide)
   |op s2=>exact absurd (h4 _ rfl) (by rw[jep];omega)
 split at e
 ·rename_i c1
  cases e
  have wd:∀w:BW,w≠.beh->c=wc w->wl w=[c]->∃wt' rd' R',Sg c wt (j::rd0) R o false wt' rd' R' o true/\At (t1++u++[c]) o true wt' rd' R':=λw nb ec hw=>by
   obtain⟨R',wt',rd',t',u',j',h0,h1,h2,h3,h4,h5,h6,h7⟩:=ji4 (bn w) (ji5 w) wt rd0 R t1 u j ok s (λb _=>r b) hj
   rw[<-jep]at h0
   refine⟨.op w::wt',j'::rd',R',.word nb ec h0,h1,by rw[<-n,<-h5];rfl,?_⟩
   have:=Sk.op (w:=w) h2 h3 h4 (by omega)
   show Sk R' _ _ _
   rw[<-h6,<-hw];simpa using this
  rcases c1 with rfl|rfl
  ·exact wd .or (by simp) rfl rfl
  ·exact wd .and (by simp) rfl rfl
 ·cases e
theorem At.nil:At [] 0 true [] [] []:=⟨λk r e=>(by simp at e),rfl,.nil⟩
theorem At.done{t:List Nat}{wt:List W4}{rd:List Nat}{R:List RE}(a:At t 0 false wt rd R):∃j R',Bd 0 wt rd R [] [j] R'/\okZ R'/\j+1=R'.length/\Ren R' j 0 t:=by
 obtain⟨ok,n,t1,u,j,rd0,rfl,s,rfl,r,hj⟩:=a
 obtain⟨R',wt',rd',t',u',j',h0,h1,h2,h3,h4,h5,h6,h7⟩:=ji4 0 (by omega) wt rd0 R t1 u j ok s (λb _=>r b) hj
 cases h2 with
 |nil=>exact⟨j',R',h0,h1,h7,by rw[<-h6];simpa using h3⟩
 |par s2=>exact absurd (h5.trans n) (by simp[np])
 |no s2=>exact absurd (h4 _ rfl) (by decide)
 |op s2=>exact absurd (h4 _ rfl) (by rw[jep];omega)
def meth(st:Stmt):Stmt:=jel st 0
theorem apl(a b:Str):(a++b).length=a.length+b.length:=by
 show(a.cps++b.cps).size=_
 simp[Str.length]
def jmu(K:PySem.W.Frag)(fld:Str)(ok:V->Hp->Prop):Sp:=λvs H Q _=>∃(e C D N:Addr)(x:V),vs=[.ref e,x]/\H e=some (ExO e C none)/\XC K C D N/\PySem.W.findIn K (.ref C) fld=some none/\ok x H /\
 ∀dx,H dx=none->Q .non (upd (upd H dx (.xd [(fld,x)])) e (ExO e C (some dx)))
def okI:V->Hp->Prop:=λx _=>∃i:Int,x=.int i/\i.natAbs<10^20
structure TIni(K:PySem.W.Frag)(mg:Str->Option Value)(D:Addr):Prop where
 m_CalmError:mg "CalmError"=some (.ref D)
 xd:XD K D
theorem jqx{H:Hp}{e dx:Addr}{o1 o2 d:HO}(he:H e=none)(hd:upd H e o1 dx=none):Kp [] H (jdn (upd (upd (upd H e o1) dx d) e o2) e)/\jdn (upd (upd (upd H e o1) dx d) e o2) e dx=some d:=by
 have ne:dx≠e:=λz=>by rw[z,jc]at hd;cases hd
 rw[jd ne]at hd
 have go:∀a u,H a=some u->jdn (upd (upd (upd H e o1) dx d) e o2) e a=some u:=λa u h=>by
  have n1:=jh h he
  have n2:=jh h hd
  rw[jdf n1,jd n1,jd n2,jd n1];exact h
 exact⟨⟨λa u h _=>go a u h,λa xs h=>go a _ h,λa u h=>⟨u,go a u h⟩⟩,by rw[jdf ne,jd ne,jc]⟩
def wat:List Nat->Nat->Nat->Bool->Option Nat
 |[],i,o,d=>if d=true\/0<o then some i else none
 |c::t,i,o,d=>match stA o d c with
  |some (o',d')=>wat t (i+1) o' d'
  |none=>some i
def jo9(cT:Addr):Sp:=λvs H Q E=>∃(T:Str),vs=[.str T]/\T.length<=5000 /\
 (wat T.cps.toList 0 0 true=none->∀(R0:List RE) q us' F H',okZ R0->1<=R0.length->R0.length<=3*T.length->Ren R0 (R0.length-1) 0 T.cps.toList->TidP (R0.map keyR) F->H q=none->H' q=some (.tup us')->RowsT H' us' F->Kp [] H H'->Q (.ref q) H') /\
 (∀i dx H',wat T.cps.toList 0 0 true=some i->Kp [] H H'->H' dx=some (.xd [("at",.int (i:Int))])->E (.ref cT) (some dx) H')
structure TRx(P:Program)(w:World)(K:PySem.W.Frag)(mg:Str->Option Value)(C ab fi fF ft fb ftd cT NT D fT:Addr):Prop where
 rc:RC K C
 cls:Cls K C
 mkR:Mk K C fi
 m_Reading:mg "Reading"=some (.ref C)
 n_enumerate:mg "enumerate"=none
 n_tuple:mg "tuple"=none
 n_len:mg "len"=none
 m_BINDS:mg "BINDS"=some (.ref ab)
 kb:KDict P w K ab KB
 m29z:mg "tidied"=some (.ref ftd)
 d_fits:Meth K C "fits" fF
 d_take:Meth K C "take" ft
 d_bind:Meth K C "bind" fb
 m_BadText:mg "BadText"=some (.ref cT)
 c_BadText:XC K cT D NT
 i_BadText:PySem.W.nsIn K NT "__init__"=some (some (.ref fT))
 f_BadText:∃o,K.lookup fT=some o/\o.cls=.type "function"
 nfT:PySem.W.findIn K (.ref cT) "at"=some none
section
variable{P:Program}{w:World}{K:PySem.W.Frag}{mg:Str->Option Value}{base:Heap}
abbrev yh:Stmt:=meth (top 5)
theorem sc_BadText__init__:FnScope ["self","at"] ["self","at"] (ji yh):=⟨rfl,rfl,rfl,by decide +kernel,rfl,by decide +kernel,by decide +kernel⟩
theorem ok_BadText__init__{f D0:Addr}{fd:FuncData}(F:Fun K "__init__" "BadText.__init__" yh f fd)(T:TIni K mg D0):FnOk P w K mg base CX0 1 f fd ["self","at"] (jmu K "at" okI):=by
 refine F.ok sc_BadText__init__ (λvs H Q E h=>?_) (λcdv A outer s H vs Q E hr h=>?_)
 ·obtain⟨e,C,D,N,x,rfl,_⟩:=h
  rfl
 ·obtain⟨e,C,D,N,x,rfl,he,c,nf,ok,k⟩:=h
  have hu:=hr.units
  have hgd:=hr.gd
  have hsz:sizeLine=16777216:=Ao
  have l0:(Str.empty++Str.ofString "not the form that is due at ").length<=100:=by decide +kernel
  obtain⟨i,rfl,hi⟩:=ok
  refine⟨_,(QSs.h (je (jz (qpe_excInit rfl T.xd rfl T.m_CalmError (ja (qpv 0) (ja (qpe_joined (jb2 jj (jb2 (qpe_fmtI (qpv 1)) qpj_nil))) jb))))
  (jg (qps_excSet rfl (qpv 0) (qpv 1) rfl)))),?_⟩
  simp!
  refine⟨by omega,hi,λz hz=>⟨by rw[apl];omega,by rw[apl];omega,e,_,⟨rfl,rfl⟩,C,he,D,N,c,C,he,D,N,c,nf,k⟩⟩
abbrev ky:Stmt:=top 32
theorem zc:FnScope ["text","reading","place","sign"] ["text"] (ji ky):=⟨rfl,rfl,rfl,by decide +kernel,rfl,by decide +kernel,by decide +kernel⟩
theorem ok_read_expression{f C ab fi fF ft fb ftd cT NT D fT:Addr}{fd fdi fdF fdt fdb fdd fdT:FuncData}(F:Fun K "read_expression" "read_expression" ky f fd)(T:TRx P w K mg C ab fi fF ft fb ftd cT NT D fT)
  (b_BadText:Binds K fdT ["self","at"] []) (G_BadText:FnOk P w K mg base CX0 1 fT fdT ["self","at"] (jmu K "at" okI))
  (b33z:Binds K fdi ["self"] []) (G33z:FnOk P w K mg base CX0 1 fi fdi ["self"] (spIn C)) (b32z:Binds K fdF ["self","sign"] []) (G32z:FnOk P w K mg base CX0 1 fF fdF ["self","sign"] (spFi C))
  (b0z:Binds K fdt ["self","sign"] []) (G0z:FnOk P w K mg base CX0 4 ft fdt ["self","sign"] (spTk C)) (b8z:Binds K fdb ["self","binds"] []) (G8z:FnOk P w K mg base CX0 2 fb fdb ["self","binds"] (spBi C))
  (F29z:Fun K "tidied" "tidied" zy ftd fdd) (b29z:Binds K fdd ["expression"] []) (G29z:FnOk P w K mg base CX0 4 ftd fdd ["expression"] (spIO K)):FnOk P w K mg base (CXE P w) 5 f fd ["text"] (jo9 cT):=by
 refine F.okE zc (λvs H Q E h=>?_) (λcdv A outer s H vs Q E hr h=>?_)
 ·obtain⟨T,rfl,_⟩:=h
  rfl
 ·obtain⟨Tx,rfl,t9,kG,kT⟩:=h
  have hu:=hr.units
  have hsz:sizeLine=16777216:=Ao
  have raise:∀(i:Nat)(H1:Hp),Kp [] H H1->i<=5000->wat Tx.cps.toList 0 0 true=some i->∀e,H1 e=none->jmu K "at" okI [.ref e,.int (i:Int)] (upd H1 e (ExO e cT none)) (λv H2=>v=.non/\∃C D' N dx,H2 e=some (ExO e C dx)/\XC K C D' N/\H e=none/\E (.ref C) dx (jdn H2 e)) E0:=by
   intro i H1 kp hi ev e he
   refine⟨e,cT,D,NT,_,rfl,jc,T.c_BadText,T.nfT,⟨_,rfl,by omega⟩,λdx hdx=>⟨rfl,?_⟩⟩
   obtain⟨k3,e3⟩:=jqx (o2:=ExO e cT (some dx)) (d:=.xd [("at",.int (i:Int))]) he hdx
   exact⟨cT,D,NT,some dx,jc,T.c_BadText,kp.free he,kT i dx _ ev (kp.trans k3) e3⟩
  refine exQ (je (jm (i:=1) zc.nd rfl (by first|exact Or.inl rfl|exact Or.inr rfl) (qpe_make0 T.mkR G33z (hr.mono (by decide)) rfl T.m_Reading b33z .nil jo))
  (je (zm jmo rfl (ja7 rfl T.n_enumerate (ja (qpv 0) jb)) (jbn (n:=2) rfl (z4 (kj (i:=2) zc.nd rfl (by first|exact Or.inl rfl|exact Or.inr rfl)) (z4 (kj (i:=3) zc.nd rfl (by first|exact Or.inl rfl|exact Or.inr rfl)) jbf)) (K:=K) rfl) (yw (jy (jar (y0 (yv (qpv 1) T.cls T.d_fits G32z (hr.mono (by decide)) b32z .nil jo (ja (qpv 3) jb)))) (jg (jbv rfl rfl rfl jif (jb1 rfl T.c_BadText T.i_BadText T.f_BadText G_BadText (hr.mono (by decide)) b_BadText rfl T.m_BadText (ja (qpv 2) jb)))) j7)
  (jg (jz (yv (qpv 1) T.cls T.d_take G0z (hr.mono (by decide)) b0z .nil jo (ja (qpv 3) jb))))))
  (yw (jy (QW.pt (jav (y0 (kg (K:=K) rfl (qpv 1))) (jas (jq ja4 (kg (K:=K) rfl (qpv 1)) jf (jw _))))) (jg (jbv rfl rfl rfl jif (jb1 rfl T.c_BadText T.i_BadText T.f_BadText G_BadText (hr.mono (by decide)) b_BadText rfl T.m_BadText (ja (jr j9 (by rfl) T.n_len ku (ja (qpv 0) jb)) jb)))) j7)
  (je (jz (yv (qpv 1) T.cls T.d_bind G8z (hr.mono (by decide)) b8z .nil jo (ja (zi (P:=P) (w:=w) (K:=K) rfl rfl rfl (j8 (v:=.ref _) rfl T.m_BINDS rfl) jj (λ_ _=>rfl)) jb)))
  (jg (jp (jk G29z (hr.mono (by decide)) rfl T.m29z F29z.kp b29z .nil jo (ja (yr zt (by rfl) T.n_tuple jae (ja (kg (K:=K) rfl (qpv 1)) jb)) jb)))))))) ?_
  simp!
  intro x dx hx hdx nxd
  have nd:x≠dx:=nxd.symm
  have hx1:upd H dx (HO.own x) x=none:=by rw[jd nd];exact hx
  have k0:Kp [] H (upd (upd H dx (HO.own x)) x (HO.ins C dx [])):=((Kp.refl [] H).new hdx).new hx1
  refine⟨x,dx,rfl,jc,λpr pd pw H2 I hpr hpd hpw k2=>⟨rfl,?_⟩⟩
  have fr:∀b∈[x,pr,pd,pw],H b=none:=λb hb=>by
   simp only[Aw,Ap,Wl]at hb
   rcases hb with rfl|rfl|rfl|rfl
   ·exact hx
   ·exact k0.free hpr
   ·exact k0.free hpd
   ·exact k0.free hpw
  have k02:Kp [] H H2:=Kp.fresh k0 k2 λb hb=>by rw[Ak.mp hb];exact hx
  refine jnn (λi σ H'=>∃(wt:List W4)(rd:List Nat)(R:List RE)(op:Nat)(b:Bool)(v2 v3:Option V),σ=[some (.str Tx),some (.ref x),v2,v3]/\RdI H' x C dx pr pd pw wt rd R (op:Int) b/\At (Tx.cps.toList.take i) op b wt rd R/\wat (Tx.cps.toList.drop i) i op b=wat Tx.cps.toList 0 0 true/\R.length+wt.length+rd.length<=3*i/\Kp [] H H') ⟨[],[],[],0,true,none,none,rfl,I,At.nil,rfl,by simp,k02⟩ ?_ ?_
  ·rintro i σ H3 Tt hi ⟨wt,rd,R,op,b,v2,v3,rfl,I3,at3,w3,l3,k3⟩ hTt
   refine⟨Tt,jd3 Tx i,rfl,SqT.of jc,rfl,⟨_,_,rfl,⟨_,_,rfl,rfl,?_⟩⟩⟩
   have I4:=I3.new (o:=.tup (jd3 Tx i)) hTt
   have k4:=k3.new (o:=.tup (jd3 Tx i)) hTt
   generalize upd H3 Tt (.tup (jd3 Tx i))=H4 at I4 k4⊢
   have hil:i<Tx.cps.toList.length:=by simpa[Str.length]using hi
   have tl:Tx.cps.toList.length=Tx.length:=by simp[Str.length]
   have dr:Tx.cps.toList.drop i=Tx.cps.toList.getD i 0::Tx.cps.toList.drop (i+1):=by
    rw[List.drop_eq_getElem_cons hil,Ag,An hil];rfl
   have tk:Tx.cps.toList.take (i+1)=Tx.cps.toList.take i++[Tx.cps.toList.getD i 0]:=by
    rw[Oz,Ag,An hil];rfl
   rw[dr]at w3
   generalize Tx.cps.toList.getD i 0=c at w3 tk⊢
   refine⟨λσ H'=>σ=[some (.str Tx),some (.ref x),some (.int (i:Int)),some (.str (sgn c))]/\Kp [] H4 H'/\fitB op b c=true,?_,?_⟩
   ·simp!
    refine⟨dx,_,I4.hx,lk_m _ _ _ _ _ _ (by decide +kernel),?_⟩
    refine⟨x,dx,pr,pd,pw,c,wt,rd,R,op,b,rfl,I4,λH5 k5=>⟨_,rfl,?_⟩⟩
    cases ef:fitB op b c with
    |true=>rw[Aa (by simp)];exact⟨rfl,k5,rfl⟩
    |false =>
     rw[Ad (by simp)]
     refine λe he=>raise i H5 (k4.trans k5) (by omega) ?_ e he
     rw[<-w3]
     have:stA op b c=none:=by unfold fitB at ef;simpa using ef
     simp[wat,this]
   rintro _ H5 ⟨rfl,k5,ef⟩
   have I5:=I4.kp0 k5
   obtain⟨od,es⟩:=O1.mp ef
   obtain⟨o',d'⟩:=od
   obtain⟨wt',rd',R',sg,at4⟩:=at3.step es
   have sl:=sg.len
   simp!
   refine⟨dx,_,I5.hx,lk_m _ _ _ _ _ _ (by decide +kernel),?_⟩
   refine⟨x,dx,pr,pd,pw,c,wt,rd,R,op,b,_,_,_,_,_,rfl,I5,sg,by omega,λH6 I6 k6=>?_⟩
   refine⟨_,_,_,_,_,_,_,⟨rfl,rfl⟩,I6,by rw[tk];exact at4,?_,by omega,Kp.fresh (k4.trans k5) k6 fr⟩
   rw[<-w3]
   simp[wat,es]
  ·rintro σ H3 ⟨wt,rd,R,op,b,v2,v3,rfl,I3,at3,w3,l3,k3⟩
   have e0:Tx.cps.toList.drop Tx.length=[]:=List.drop_eq_nil_of_le (by simp[Str.length])
   have e1:Tx.cps.toList.take Tx.length=Tx.cps.toList:=Iv (by simp[Str.length])
   rw[e0]at w3
   rw[e1]at at3
   refine⟨λσ H'=>σ=[some (.str Tx),some (.ref x),v2,v3]/\H3=H'/\op=0/\b=false,?_,?_⟩
   ·simp!
    refine I3.due T.rc rfl ⟨_,rfl,?_⟩
    have bad:(b=true\/0<op)->wat Tx.cps.toList 0 0 true=some Tx.length:=λh=>by rw[<-w3];unfold wat;rw[Ad h]
    cases b with
    |true =>
     rw[Ad rfl]
     exact⟨by omega,λe he=>raise Tx.length H3 k3 t9 (bad (.inl rfl)) e he⟩
    |false =>
     rw[Aa (by simp)]
     refine I3.opened T.rc rfl ⟨_,rfl,?_⟩
     by_cases ho:0<op
     ·rw[Ad (by simpa using ho)]
      exact⟨by omega,λe he=>raise Tx.length H3 k3 t9 (bad (.inr ho)) e he⟩
     ·rw[Aa (by simp;omega)]
      exact⟨rfl,by omega,rfl⟩
   rintro _ _ ⟨rfl,rfl,rfl,rfl⟩
   have good:wat Tx.cps.toList 0 0 true=none:=by rw[<-w3];rfl
   obtain⟨j,R1,B,okR1,jl,rn⟩:=at3.done
   have bl:=B.len
   simp!
   refine⟨dx,_,I3.hx,lk_m _ _ _ _ _ _ (by decide +kernel),KB,T.kb,.inr (ew .or),rfl,_,ji2 (.op .or),?_⟩
   refine⟨x,dx,pr,pd,pw,0,_,_,_,_,_,_,_,_,rfl,I3,by omega,B,by omega,by omega,λH4 I4 k4=>?_⟩
   have k4':=Kp.fresh k3 k4 fr
   refine I4.rows T.rc rfl ?_
   obtain⟨us,hr4,rr4⟩:=I4.hr
   refine jdm hr4 λl hl=>?_
   have k5:Kp [] H4 (upd H4 l (.tup us)):=(Kp.refl [] H4).new hl
   have rt:RowsT (upd H4 l (.tup us)) us (R1.map keyR):=(rr4.kp k5).rowsT
   refine⟨l,us,R1.map keyR,rfl,SqT.of jc,rt,okR1.r,λr hr=>?_,by rw[Ae];omega,by rw[Ae];omega,λq us' F H5 tp hq fz rts k6=>?_⟩
   ·obtain⟨e,_,rfl⟩:=A7.mp hr
    cases e <;> simp[keyR]
   ·exact kG good R1 q us' F H5 okR1 (by omega) (by have:=B.len;omega) (by rw[show R1.length-1=j by omega];exact rn) tp (k4'.free (k5.free hq)) fz rts ((k4'.trans k5).trans k6)
end
def watI(z:Str):Int:=match wat z.cps.toList 0 0 true with
 |some i=>(i:Int)
 |none=>-1
theorem jpv(c:Nat):(lf c).isSome=true↔(c=46\/c=48\/(97<=c/\c<=122)):=by
 unfold lf
 split
 ·simp_all
 ·split
  ·simp_all
  ·split
   ·simp_all
   ·simp_all
theorem jre(c:Nat):c∈(Str.ofString "abcdefghijklmnopqrstuvwxyz.0").cps.toList↔(c=46\/c=48\/(97<=c/\c<=122)):=by
 rw[show(Str.ofString "abcdefghijklmnopqrstuvwxyz.0").cps.toList=(List.range 26).map (·+97)++[46,48]by decide +kernel]
 simp only[Ie,A7,Ud,Aw,Ap,Wl]
 constructor
 ·rintro(⟨x,hx,rfl⟩|rfl|rfl)
  ·exact .inr (.inr (by omega))
  ·exact .inl rfl
  ·exact .inr (.inl rfl)
 ·rintro(rfl|rfl|h)
  ·exact .inr (.inl rfl)
  ·exact .inr (.inr rfl)
  ·exact .inl ⟨c-97,by omega,by omega⟩
def spWa:Sp:=λvs H Q _=>∃(z:Str),vs=[.str z]/\z.length<=5000/\∀H',Kp [] H H'->Q (.int (watI z)) H'
structure TWa(mg:Str->Option Value):Prop where
 n_enumerate:mg "enumerate"=none
 n_int:mg "int"=none
 n_len:mg "len"=none
section
variable{P:Program}{w:World}{K:PySem.W.Frag}{mg:Str->Option Value}{base:Heap}
abbrev ya:Stmt:=top 47
theorem ka:FnScope ["_law_text","_law_waiting","_law_due","_law_at","_law_sign_here"] ["_law_text"] (ji ya):=⟨rfl,rfl,rfl,by decide +kernel,rfl,by decide +kernel,by decide +kernel⟩
theorem ok__law_wrong_at{f:Addr}{fd:FuncData}(F:Fun K "_law_wrong_at" "_law_wrong_at" ya f fd)(T:TWa mg):FnOk P w K mg base CX0 1 f fd ["_law_text"] spWa:=by
 refine F.ok ka (λvs H Q E h=>?_) (λcdv A outer s H vs Q E hr h=>?_)
 ·obtain⟨z,rfl,_⟩:=h
  rfl
 ·obtain⟨z,rfl,z9,k⟩:=h
  have hu:=hr.units
  have hsz:sizeLine=16777216:=Ao
  refine exQ (je (jm (i:=1) ka.nd rfl (by first|exact Or.inl rfl|exact Or.inr rfl) jf)
  (je (jm (i:=2) ka.nd rfl (by first|exact Or.inl rfl|exact Or.inr rfl) zu)
  (je (zm Ii rfl (ja7 rfl T.n_enumerate (ja (qpv 0) jb)) (jbn (n:=2) rfl (z4 (kj (i:=3) ka.nd rfl (by first|exact Or.inl rfl|exact Or.inr rfl)) (z4 (kj (i:=4) ka.nd rfl (by first|exact Or.inl rfl|exact Or.inr rfl)) jbf)) (K:=K) rfl) (jg (jy (QW.pt (jav (jq (ke hu) (qpv 4) jj (jw _)) (jas (jq (ke hu) (qpv 4) jj (jw _))))) (je (jm (i:=2) ka.nd rfl (by first|exact Or.inl rfl|exact Or.inr rfl) zu)
  (jg (jm (i:=1) ka.nd rfl (by first|exact Or.inl rfl|exact Or.inr rfl) (jn jx (qpv 1) (yr jba (by rfl) T.n_int ja9 (ja (zx (ke hu) (qpv 4) jj (jw _)) jb)))))) (jg (jy (jq (jce (K:=K) rfl) (qpv 4) jj (by with_unfolding_all rfl)) (jg (jm (i:=2) ka.nd rfl (by first|exact Or.inl rfl|exact Or.inr rfl) zu)) (jg (jy (QW.pt (jav (y0 (qpv 2)) (jav (jq (jbq (K:=K) rfl) (qpv 4) jj (by with_unfolding_all rfl)) (jas (QW.pt (jca (jq (ke hu) (qpv 4) jj (jw _)) (jb4 (jq (ke hu) (qpv 1) jf (jw _))))))))) (jg (jp (qpv 3))) (jg (jy (jq (ke hu) (qpv 4) jj (jw _)) (jg (jm (i:=1) ka.nd rfl (by first|exact Or.inl rfl|exact Or.inr rfl) (jn zk (qpv 1) jf))) (jg (jm (i:=2) ka.nd rfl (by first|exact Or.inl rfl|exact Or.inr rfl) zu)))))))))))
  (jg (jp (jv ix_U (j6 (ja (jau jef jf) (ja (jr j9 (by rfl) T.n_len ku (ja (qpv 0) jb)) jb))) (yr jba (by rfl) T.n_int ja9 (ja (jcj (qpv 2) (jai (zx ja4 (qpv 1) jf (jw _)))) jb)) (λ_ _=>rfl))))))) ?_
  simp!
  obtain⟨W,hW⟩:∃W:Nat->L2.St->Hp->Prop,W=λi σ H'=>∃(o:Nat)(d:Bool)(v3 v4:Option V),σ=[some (.str z),some (.int (o:Int)),some (.bl d),v3,v4]/\wat (z.cps.toList.drop i) i o d=wat z.cps.toList 0 0 true/\Kp [] H H':=⟨_,rfl⟩
  refine jnn W (by rw[hW];exact⟨0,true,none,none,rfl,rfl,Kp.refl _ _⟩) ?_ ?_
  ·intro i σ H3 Tt hi hw hTt
   rw[hW]at hw
   obtain⟨o,d,v3,v4,rfl,w3,k3⟩:=hw
   refine⟨Tt,jd3 z i,rfl,SqT.of jc,rfl,⟨_,_,rfl,⟨_,_,rfl,rfl,?_⟩⟩⟩
   have k4:=k3.new (o:=.tup (jd3 z i)) hTt
   generalize upd H3 Tt (.tup (jd3 z i))=H4 at k4⊢
   have hil:i<z.cps.toList.length:=by simpa[Str.length]using hi
   have tl:z.cps.toList.length=z.length:=by simp[Str.length]
   have dr:z.cps.toList.drop i=z.cps.toList.getD i 0::z.cps.toList.drop (i+1):=by
    rw[List.drop_eq_getElem_cons hil,Ag,An hil];rfl
   rw[dr]at w3
   generalize z.cps.toList.getD i 0=c at w3⊢
   have q1:((⟨#[c]⟩:Str)=Str.ofString "(")↔c=40:=jdb c 40
   have q2:((⟨#[c]⟩:Str)=Str.ofString "-")↔c=45:=jdb c 45
   have q3:((⟨#[c]⟩:Str)=Str.ofString ")")↔c=41:=jdb c 41
   have q4:hasS (Str.ofString "abcdefghijklmnopqrstuvwxyz.0") (⟨#[c]⟩:Str)=true↔(lf c).isSome=true:=by
    rw[jge,jpv,decide_eq_true_iff,jre]
   have q5:hasS (Str.ofString "|&)") (⟨#[c]⟩:Str)=decide (c=124\/c=38\/c=41):=by
    rw[jge]
    exact decide_eq_decide.mpr (by rw[show(Str.ofString "|&)").cps.toList=[124,38,41]by decide +kernel];simp)
   simp! [q1,q2,q3,q4,q5]
   have ret:stA o d c=none->Q (V.int (i:Int)) H4:=λe=>by
    have:watI z=(i:Int):=by
     unfold watI
     rw[<-w3]
     simp[wat,e]
    rw[<-this]
    exact k _ k4
   have go:∀o' d' v3 v4,stA o d c=some (o',d')->W (i+1) [some (.str z),some (.int (o':Nat)),some (.bl d'),v3,v4] H4:=λo' d' v3 v4 e=>by
    rw[hW]
    refine⟨o',d',v3,v4,rfl,?_,k4⟩
    rw[<-w3]
    simp[wat,e]
   refine ite2 (λc1=>?_) (λc1=>ite2 (λc2=>?_) (λc2=>ite2 (λc3=>?_) (λc3=>?_)))
   ·rw[Ad c1]
    exact go (o+1) true _ _ (by simp[stA,c1])
   ·rw[Aa c1,Int.add_zero]
    exact go o true _ _ (by unfold stA;rw[Aa c1,Ad c2])
   ·exact go o false _ _ (by unfold stA;rw[Aa c1,Aa c2,Ad c3])
   ·have es:stA o d c=if d=true then none else if c=41 then(if o=0 then none else some (o-1,false))else if c=124\/c=38 then some (o,true)else none:=by unfold stA;rw[Aa c1,Aa c2,Aa c3]
    cases d with
    |true=>rw[Ad rfl];exact ret (by rw[es,Ad rfl])
    |false =>
     rw[Aa (by simp)]
     rw[Aa (by simp)]at es
     by_cases c4:c=124\/c=38\/c=41
     ·rw[Oy c4,Aa (by simp)]
      by_cases c5:c=41
      ·rw[Ad c5]
       by_cases c6:o=0
       ·rw[Ad (by omega)]
        exact ret (by rw[es,Ad c5,Ad c6])
       ·rw[Aa (by omega),Ad c5,show((o:Int)-1)=((o-1:Nat):Int)by omega]
        exact go (o-1) false _ _ (by rw[es,Ad c5,Aa c6])
      ·rw[Aa c5,Aa c5]
       exact go o true _ _ (by rw[es,Aa c5,Ad (by omega)])
     ·rw[Ic c4,Ad (by simp)]
      exact ret (by rw[es,Aa (by omega),Aa (by omega)])
  ·intro σ H3 hw
   rw[hW]at hw
   obtain⟨o,d,v3,v4,rfl,w3,k3⟩:=hw
   have e0:z.cps.toList.drop z.length=[]:=List.drop_eq_nil_of_le (by simp[Str.length])
   rw[e0]at w3
   simp!
   have wt0:watI z=if d=true\/0<o then(z.length:Int)else -1:=by
    unfold watI
    rw[<-w3]
    unfold wat
    split <;> simp_all
   refine⟨by omega,by omega,λp hp=>?_⟩
   have q:=k _ (k3.new (o:=.lst [V.int (-1),V.int (z.length:Int)]) hp)
   rw[wt0]at q
   cases d with
   |true=>rw[Ad rfl];rw[Ad (.inl rfl)]at q;exact q
   |false =>
    rw[Aa (by simp)]
    by_cases ho:0<o
    ·rw[Ad (.inr ho)]at q
     rw[Ad (by omega)]
     exact⟨_,jcm (by decide) rfl,q⟩
    ·rw[Aa (by simp;omega)]at q
     rw[Aa (by omega)]
     exact⟨_,jcm (by decide) rfl,q⟩
end
structure SB(H:Hp)(b:Addr)(H':Hp):Prop where
 kp:Kp [b] H H'
 bx:∃o,H' b=some o/\BoxO o
theorem SB.take{H H':Hp}{b:Addr}{o1:HO}(h:SB H b H')(ho1:BoxO o1):SB H b (upd H' b o1):=by
 obtain⟨kp,o,hb,ho⟩:=h
 obtain⟨xs,rfl⟩:=ho.lst
 exact⟨kp.set hb (.inl (.head _)),o1,jc,ho1⟩
theorem SB.new{H H':Hp}{b p:Addr}{x:HO}(h:SB H b H')(hp:H' p=none):SB H b (upd H' p x):=by
 obtain⟨kp,o,hb,ho⟩:=h
 exact⟨kp.new hp,o,by rw[jd (jh hb hp)];exact hb,ho⟩
theorem SB.keep{H H' H2:Hp}{b:Addr}(h:SB H b H')(k:Kp [] H' H2):SB H b H2:=by
 obtain⟨kp,o,hb,ho⟩:=h
 exact⟨kp.trans (k.mono (by simp)),o,k.old _ _ hb Ap,ho⟩
theorem SB.trans{H H' H2:Hp}{b:Addr}(h:SB H b H')(k:SB H' b H2):SB H b H2:=⟨h.kp.trans k.kp,k.bx⟩
theorem SB.tq{H H':Hp}{b:Addr}(h:SB H b H'){w:Int}(w0:0<w)(w1:w<1073741824){Q:VK}{E:XK}(q:∀d H2,0<=d->d<w->SB H b H2->Kp [b] H' H2->Q (.int d) H2):jdh [.ref b,.int w] H' Q E:=by
 obtain⟨o,hb,ho⟩:=h.bx
 refine⟨b,w,o,rfl,hb,ho,w0,w1,λd o' d0 d1 ho'=>q d _ d0 d1 (h.take ho') ?_⟩
 obtain⟨xs,rfl⟩:=ho.lst
 exact(Kp.refl [b] H').set hb (.inl (.head _))
theorem SB.ne{H H':Hp}{b p:Addr}(h:SB H b H')(hp:H' p=none):p≠b:=by
 obtain⟨o,hb,_⟩:=h.bx
 exact(jh hb hp).symm
theorem jqh{l:List V}{M:V->Prop}(h:∀v∈l,M v){d:Int}(d0:0<=d)(d1:d<(l.length:Int)):∃v,atI l d=some v/\M v:=by
 have hd:d.toNat<l.length:=by omega
 exact⟨l[d.toNat],jcm d0 (An hd),h _ (Um hd)⟩
theorem jly:∀l:List Nat,(l.map λ_=>1).sum=l.length
 |[]=>rfl
 |_::l=>by
  rw[Ax,List.sum_cons,jly l,List.length_cons]
  omega
def lvs(l:List Nat):List Nat:=l.filter λc=>!decide (c=40\/c=41)
theorem jqk(z:Str){d:Int}(d0:0<=d)(h:d<=(z.length:Int)):((cutS z none (some d)).length:Int)<=d:=by
 obtain⟨n,rfl⟩:=Int.eq_ofNat_of_zero_le d0
 unfold cutS
 rw[HT.sIx_none,HT.sIx_nat]
 simp[Str.length]
 omega
theorem jqj(z:Str){d:Int}(d0:0<=d)(h:d<=(z.length:Int)):((cutS z (some d) none).length:Int)<=z.length-d:=by
 obtain⟨n,rfl⟩:=Int.eq_ofNat_of_zero_le d0
 unfold cutS
 rw[HT.sIx_none,HT.sIx_nat]
 simp[Str.length]at h⊢
 omega
def spLv:Sp:=λvs H Q _=>∃(z:Str),vs=[.str z]/\z.length<=5000/\∀H',Kp [] H H'->Q (.str ⟨(lvs z.cps.toList).toArray⟩) H'
section
variable{P:Program}{w:World}{K:PySem.W.Frag}{mg:Str->Option Value}{base:Heap}
abbrev yi:Stmt:=top 48
theorem sc__law_leaves:FnScope ["_law_text"] ["_law_text"] (ji yi):=⟨rfl,rfl,rfl,by decide +kernel,rfl,by decide +kernel,by decide +kernel⟩
theorem ok__law_leaves{f:Addr}{fd:FuncData}(F:Fun K "_law_leaves" "_law_leaves" yi f fd):FnOk P w K mg base CX0 1 f fd ["_law_text"] spLv:=by
 refine F.ok sc__law_leaves (λvs H Q E h=>?_) (λcdv A outer s H vs Q E hr h=>?_)
 ·obtain⟨z,rfl,_⟩:=h
  rfl
 ·obtain⟨z,rfl,z9,k⟩:=h
  have hu:=hr.units
  have hsz:sizeLine=16777216:=Ao
  refine exQ (jg (jp (jb7 PySem.F.slot_str_join PySem.F.type_str_join jbx jj (ja (jbh rfl (jd1 (sc:=ji yi) (N:=["_law_text"]) (Nc:=["_law_sign_here"]) (js:=[none]) (by decide +kernel)) (jaq (K:=K) (qpv 0) rfl) (λ_ _ _ _=>(kj (i:=0) (show List.Nodup [("_law_sign_here":Str)]from by decide +kernel) rfl (by first|exact Or.inl rfl|exact Or.inr rfl))) (λ_ _ _ _=>(jq (jbq (K:=K) rfl) (qpv 0) jj (by with_unfolding_all rfl))) (λ_ _ _ _=>(qpv 0))) jb) jnp))) ?_
  simp!
  intro D hD
  refine jl9 (λc=>!decide (c=40\/c=41)) (λc=>V.str (sgn c)) (by omega) (λc _ l Q' q=>?_) (λc _ _ l Q' q=>by simp!;exact q) (λv=>?_)
  ·have e5:hasS (Str.ofString "()") (⟨#[c]⟩:Str)=decide (c=40\/c=41):=by
    rw[jge]
    exact decide_eq_decide.mpr (by rw[show(Str.ofString "()").cps.toList=[40,41]by decide +kernel];simp)
   simp! [e5]
   exact q
  ·have el:(z.cps.toList.filter λc=>!decide (c=40\/c=41)).length<=5000:=by
    have:=Ug (λc=>!decide (c=40\/c=41)) z.cps.toList
    have tl:z.cps.toList.length=z.length:=by simp[Str.length]
    omega
   refine⟨(lvs z.cps.toList).map sgn,by rw[jc,Oc];rfl,?_,?_⟩
   ·have e1:(((lvs z.cps.toList).map sgn).map (·.length))=(lvs z.cps.toList).map λ_=>1:=by rw[Oc];rfl
    have e2:(Str.ofString "").length=0:=by decide +kernel
    rw[e1,e2]
    have:=jly (lvs z.cps.toList)
    have el2:(lvs z.cps.toList).length<=5000:=el
    omega
   ·have ej:Txt.join (Str.ofString "") ((lvs z.cps.toList).map sgn)=⟨(lvs z.cps.toList).toArray⟩:=jfo (by
     rw[jo0,Oc]
     show((lvs z.cps.toList).map λc=>[c]).flatten=lvs z.cps.toList
     induction lvs z.cps.toList with
     |nil=>rfl
     |cons c l ih=>rw[Ax,List.flatten_cons,ih];rfl)
    rw[ej]
    exact k _ ((Kp.refl [] H).new hD)
def spSi:Sp:=λvs H Q _=>∃(b:Addr),vs=[.ref b]/\SB H b H/\∀(c:Nat)(H':Hp),SB H b H'->Q (.str (sgn c)) H'
structure TSi(mg:Str->Option Value)(ft:Addr):Prop where
 n_len:mg "len"=none
 m1z:mg "_law_take"=some (.ref ft)
abbrev yu:Stmt:=top 44
theorem jaw:FnScope ["_law_box_here","_law_plain","_law_some"] ["_law_box_here"] (ji yu):=⟨rfl,rfl,rfl,by decide +kernel,rfl,by decide +kernel,by decide +kernel⟩
theorem ok__law_sign{f ft:Addr}{fd fdt:FuncData}(F:Fun K "_law_sign" "_law_sign" yu f fd)(T:TSi mg ft)(F1z:Fun K "_law_take" "_law_take" kf ft fdt)(b1z:Binds K fdt ["_law_box_here","_law_wide"] [])
  (G1z:FnOk P w K mg base CX0 1 ft fdt ["_law_box_here","_law_wide"] jdh):FnOk P w K mg base CX0 2 f fd ["_law_box_here"] spSi:=by
 refine F.ok jaw (λvs H Q E h=>?_) (λcdv A outer s H vs Q E hr h=>?_)
 ·obtain⟨b,rfl,_⟩:=h
  rfl
 ·obtain⟨b,rfl,sb,k⟩:=h
  have hu:=hr.units
  have hsz:sizeLine=16777216:=Ao
  refine exQ (je (jm (i:=1) jaw.nd rfl (by first|exact Or.inl rfl|exact Or.inr rfl) jj)
  (je (jm (i:=2) jaw.nd rfl (by first|exact Or.inl rfl|exact Or.inr rfl) (jv ix_U (j6 (ja jj (ja jj (ja jj (ja jj (ja (jn jx (qpv 1) jj) jb)))))) (jk G1z (hr.mono (by decide)) rfl T.m1z F1z.kp b1z .nil jo (ja (qpv 0) (ja jf jb))) (λ_ _=>rfl)))
  (jg (jp (jv ix_U (qpv 2) (jk G1z (hr.mono (by decide)) rfl T.m1z F1z.kp b1z .nil jo (ja (qpv 0) (ja (jr j9 (by rfl) T.n_len ku (ja (qpv 2) jb)) jb))) (λ_ _=>rfl)))))) ?_
  simp!
  have l1:(Str.ofString " !#$'*+,/123456789:;<=>?@ABCDEFGHIJKLMNOPQRSTUVWXYZ[]^_{}~").length<=100:=by decide +kernel
  have l2:(Str.ofString "\"\n\\").length<=100:=by decide +kernel
  have l3:1<=(Str.ofString "\"\n\\").length:=by decide +kernel
  generalize Str.ofString " !#$'*+,/123456789:;<=>?@ABCDEFGHIJKLMNOPQRSTUVWXYZ[]^_{}~"=y1 at l1⊢
  generalize Str.ofString "\"\n\\"=y2 at l2 l3⊢
  refine⟨by omega,by omega,λp hp=>?_⟩
  have sb0:=sb.new (x:=.lst [V.str (Str.ofString "()"),V.str (Str.ofString "-|&"),V.str (Str.ofString ".0"),V.str (Str.ofString "abcdefghijklmnopqrstuvwxyz"),V.str (y1++y2)]) hp
  have ep:upd H p (.lst [V.str (Str.ofString "()"),V.str (Str.ofString "-|&"),V.str (Str.ofString ".0"),V.str (Str.ofString "abcdefghijklmnopqrstuvwxyz"),V.str (y1++y2)]) p=some (.lst [V.str (Str.ofString "()"),V.str (Str.ofString "-|&"),V.str (Str.ofString ".0"),V.str (Str.ofString "abcdefghijklmnopqrstuvwxyz"),V.str (y1++y2)]):=jc
  have np:=sb.ne hp
  generalize upd H p (.lst [V.str (Str.ofString "()"),V.str (Str.ofString "-|&"),V.str (Str.ofString ".0"),V.str (Str.ofString "abcdefghijklmnopqrstuvwxyz"),V.str (y1++y2)])=H0 at sb0 ep⊢
  refine sb0.tq (by omega) (by omega) λd H1 d0 d1 sb1 k1=>?_
  have ep1:=k1.old _ _ ep (by simp[np])
  obtain⟨v,ev,y,rfl,y1l,y9⟩:=jqh (M:=λv=>∃y:Str,v=.str y/\1<=y.length/\y.length<=1000) (l:=[V.str (Str.ofString "()"),V.str (Str.ofString "-|&"),V.str (Str.ofString ".0"),V.str (Str.ofString "abcdefghijklmnopqrstuvwxyz"),V.str (y1++y2)]) (λv hv=>by
   simp only[Aw,Ap,Wl]at hv
   rcases hv with rfl|rfl|rfl|rfl|rfl
   ·exact⟨_,rfl,by decide +kernel⟩
   ·exact⟨_,rfl,by decide +kernel⟩
   ·exact⟨_,rfl,by decide +kernel⟩
   ·exact⟨_,rfl,by decide +kernel⟩
   ·exact⟨_,rfl,by rw[jdc];omega⟩) d0 d1
  show rIxU (V.ref p) (V.int d) H1 _
  simp! [ep1]
  refine⟨_,ev,?_⟩
  simp!
  refine⟨by omega,sb1.tq (by omega) (by omega) λg H2 g0 g1 sb2 k2=>?_⟩
  show rIxU (V.str y) (V.int g) H2 _
  rw[jgm]
  have gl:g.toNat<y.cps.toList.length:=by have:y.cps.toList.length=y.length:=(by simp[Str.length]);omega
  exact⟨by omega,_,jcm g0 (An gl),k _ _ sb2⟩
def spSp:Sp:=λvs H Q _=>∃(b:Addr)(z:Str),vs=[.ref b,.str z]/\SB H b H/\1<=z.length/\z.length<=1000/\∀(t:Str)(H':Hp),t.length<=z.length+1->SB H b H'->Q (.str t) H'
structure TSp(mg:Str->Option Value)(ft fs:Addr):Prop where
 n_len:mg "len"=none
 m1z:mg "_law_take"=some (.ref ft)
 m4z:mg "_law_sign"=some (.ref fs)
abbrev yp:Stmt:=top 45
theorem jak:FnScope ["_law_box_here","_law_text","_law_at","_law_way"] ["_law_box_here","_law_text"] (ji yp):=⟨rfl,rfl,rfl,by decide +kernel,rfl,by decide +kernel,by decide +kernel⟩
theorem ok__law_spoilt{f ft fs:Addr}{fd fdt fds:FuncData}(F:Fun K "_law_spoilt" "_law_spoilt" yp f fd)(T:TSp mg ft fs)(F1z:Fun K "_law_take" "_law_take" kf ft fdt)(b1z:Binds K fdt ["_law_box_here","_law_wide"] [])
  (G1z:FnOk P w K mg base CX0 1 ft fdt ["_law_box_here","_law_wide"] jdh) (F4z:Fun K "_law_sign" "_law_sign" yu fs fds) (b4z:Binds K fds ["_law_box_here"] []) (G4z:FnOk P w K mg base CX0 2 fs fds ["_law_box_here"] spSi):FnOk P w K mg base CX0 3 f fd ["_law_box_here","_law_text"] spSp:=by
 refine F.ok jak (λvs H Q E h=>?_) (λcdv A outer s H vs Q E hr h=>?_)
 ·obtain⟨b,z,rfl,_⟩:=h
  rfl
 ·obtain⟨b,z,rfl,sb,z1,z9,k⟩:=h
  have hu:=hr.units
  have hsz:sizeLine=16777216:=Ao
  refine exQ (je (jm (i:=2) jak.nd rfl (by first|exact Or.inl rfl|exact Or.inr rfl) (jk G1z (hr.mono (by decide)) rfl T.m1z F1z.kp b1z .nil jo (ja (qpv 0) (ja (jr j9 (by rfl) T.n_len ku (ja (qpv 1) jb)) jb))))
  (je (jm (i:=3) jak.nd rfl (by first|exact Or.inl rfl|exact Or.inr rfl) (jk G1z (hr.mono (by decide)) rfl T.m1z F1z.kp b1z .nil jo (ja (qpv 0) (ja jf jb))))
  (yw (jy (jq (ke hu) (qpv 3) jf (jw _)) (jg (jp (y3 (jap (K:=K) rfl) (qpv 1) zp (zd (qpv 2))))) j7)
  (yw (jy (jq (ke hu) (qpv 3) jf (jw _)) (jg (jp (jn jx (y3 (jap (K:=K) rfl) (qpv 1) zp (zd (qpv 2))) (y3 (jap (K:=K) rfl) (qpv 1) (zd (jn jx (qpv 2) jf)) zp)))) j7)
  (yw (jy (jq (ke hu) (qpv 3) jf (jw _)) (jg (jp (jn jx (jn jx (y3 (jap (K:=K) rfl) (qpv 1) zp (zd (qpv 2))) (jk G4z (hr.mono (by decide)) rfl T.m4z F4z.kp b4z .nil jo (ja (qpv 0) jb))) (y3 (jap (K:=K) rfl) (qpv 1) (zd (jn jx (qpv 2) jf)) zp)))) j7)
  (jg (jp (jn jx (jn jx (y3 (jap (K:=K) rfl) (qpv 1) zp (zd (jn zk (jn jx (qpv 2) (qpv 3)) jf))) (jk G4z (hr.mono (by decide)) rfl T.m4z F4z.kp b4z .nil jo (ja (qpv 0) jb))) (y3 (jap (K:=K) rfl) (qpv 1) (zd (jn zk (jn jx (qpv 2) (qpv 3)) jf)) zp))))))))) ?_
  simp!
  have cl:=fun(d:Int) (d0:0<=d) (h:d<=(z.length:Int))=>jqk z d0 h
  have ch:=fun(d:Int) (d0:0<=d) (h:d<=(z.length:Int))=>jqj z d0 h
  have dn:SB H b H:=sb
  refine⟨by omega,sb.tq (by omega) (by omega) λd H1 d0 d1 sb1 k1=>sb1.tq (by omega) (by omega) λg H2 g0 g1 sb2 k2=>?_⟩
  have sl:∀c,(sgn c).length=1:=λc=>rfl
  have J:∀v,v=[some (V.ref b),some (V.str z),some (V.int d),some (V.int g)]->v=[some (V.ref b),some (V.str z),some (V.int d),some (V.int g)]:=λv h=>h
  refine⟨λσ H'=>σ=[some (.ref b),some (.str z),some (.int d),some (.int g)]/\H2=H'/\g≠0,?_,?_⟩
  ·simp!
   refine ite2 (λ_=>?_) (λh=>h)
   have:=cl d (by omega) (by omega)
   exact⟨by omega,k _ _ (by omega) sb2⟩
  rintro _ _ ⟨rfl,rfl,g3⟩
  refine⟨λσ H'=>σ=[some (.ref b),some (.str z),some (.int d),some (.int g)]/\H2=H'/\g≠1,?_,?_⟩
  ·simp!
   refine ite2 (λ_=>?_) (λh=>h)
   have:=cl d (by omega) (by omega)
   have:=ch (d+1) (by omega) (by omega)
   exact⟨by omega,by omega,by omega,k _ _ (by rw[jdc];omega) sb2⟩
  rintro _ _ ⟨rfl,rfl,g4⟩
  refine⟨λσ H'=>σ=[some (.ref b),some (.str z),some (.int d),some (.int g)]/\H2=H'/\g≠2,?_,?_⟩
  ·simp!
   refine ite2 (λ_=>?_) (λh=>h)
   have:=cl d (by omega) (by omega)
   have:=ch (d+1) (by omega) (by omega)
   refine⟨by omega,b,rfl,⟨Kp.refl _ _,sb2.bx⟩,λc H3 sb3=>?_⟩
   have:=sl c
   simp!
   refine⟨by omega,by omega,?_,k _ _ ?_ (sb2.trans sb3)⟩
   ·rw[jdc];omega
   ·rw[jdc,jdc];omega
  rintro _ _ ⟨rfl,rfl,g5⟩
  simp!
  have:=cl (d+g-3) (by omega) (by omega)
  have:=ch (d+g-3) (by omega) (by omega)
  refine⟨by omega,b,rfl,⟨Kp.refl _ _,sb2.bx⟩,λc H3 sb3=>?_⟩
  have:=sl c
  simp!
  refine⟨by omega,by omega,?_,k _ _ ?_ (sb2.trans sb3)⟩
  ·rw[jdc];omega
  ·rw[jdc,jdc];omega
def spFr:Sp:=λvs H Q _=>∃(b:Addr),vs=[.ref b]/\SB H b H/\∀(t:Str)(H':Hp),t.length<=41->SB H b H'->Q (.str t) H'
structure TFr(mg:Str->Option Value)(ft fs fw:Addr):Prop where
 n_len:mg "len"=none
 n_range:mg "range"=none
 m1z:mg "_law_take"=some (.ref ft)
 m4z:mg "_law_sign"=some (.ref fs)
 m7z:mg "_law_wrong_at"=some (.ref fw)
abbrev ye:Stmt:=top 46
theorem kz:FnScope ["_law_box_here","_law_text","_law_k","_law_sign_here","_law_turn"] ["_law_box_here"] (ji ye):=⟨rfl,rfl,rfl,by decide +kernel,rfl,by decide +kernel,by decide +kernel⟩
theorem ok__law_free_text{f ft fs fw:Addr}{fd fdt fds fdw:FuncData}(F:Fun K "_law_free_text" "_law_free_text" ye f fd)(T:TFr mg ft fs fw)(F1z:Fun K "_law_take" "_law_take" kf ft fdt)(b1z:Binds K fdt ["_law_box_here","_law_wide"] [])
  (G1z:FnOk P w K mg base CX0 1 ft fdt ["_law_box_here","_law_wide"] jdh) (F4z:Fun K "_law_sign" "_law_sign" yu fs fds) (b4z:Binds K fds ["_law_box_here"] []) (G4z:FnOk P w K mg base CX0 2 fs fds ["_law_box_here"] spSi)
  (F7z:Fun K "_law_wrong_at" "_law_wrong_at" ya fw fdw) (b7z:Binds K fdw ["_law_text"] []) (G7z:FnOk P w K mg base CX0 1 fw fdw ["_law_text"] spWa):FnOk P w K mg base CX0 3 f fd ["_law_box_here"] spFr:=by
 refine F.ok kz (λvs H Q E h=>?_) (λcdv A outer s H vs Q E hr h=>?_)
 ·obtain⟨b,rfl,_⟩:=h
  rfl
 ·obtain⟨b,rfl,sb,k⟩:=h
  have hu:=hr.units
  have hsz:sizeLine=16777216:=Ao
  refine exQ (je (jm (i:=1) kz.nd rfl (by first|exact Or.inl rfl|exact Or.inr rfl) jj)
  (je (zm Ii rfl (jac rfl T.n_range (ja (jk G1z (hr.mono (by decide)) rfl T.m1z F1z.kp b1z .nil jo (ja (qpv 0) (ja jf jb))) jb)) (kj (i:=2) kz.nd rfl (by first|exact Or.inl rfl|exact Or.inr rfl)) (je (jm (i:=3) kz.nd rfl (by first|exact Or.inl rfl|exact Or.inr rfl) (jk G4z (hr.mono (by decide)) rfl T.m4z F4z.kp b4z .nil jo (ja (qpv 0) jb)))
  (je (zm Ii rfl (jac rfl T.n_range (ja jf jb)) (kj (i:=4) kz.nd rfl (by first|exact Or.inl rfl|exact Or.inr rfl)) (jg (jy (jq (ke hu) (jk G7z (hr.mono (by decide)) rfl T.m7z F7z.kp b7z .nil jo (ja (jn jx (qpv 1) (qpv 3)) jb)) (jr j9 (by rfl) T.n_len ku (ja (qpv 1) jb)) (jw _)) (jg (jm (i:=3) kz.nd rfl (by first|exact Or.inl rfl|exact Or.inr rfl) (jk G4z (hr.mono (by decide)) rfl T.m4z F4z.kp b4z .nil jo (ja (qpv 0) jb)))) j7)))
  (jg (jm (i:=1) kz.nd rfl (by first|exact Or.inl rfl|exact Or.inr rfl) (jn jx (qpv 1) (qpv 3)))))))
  (jg (jp (qpv 1))))) ?_
  simp!
  refine sb.tq (by omega) (by omega) λd H1 d0 d1 sb1 k1=>?_
  simp!
  refine⟨by omega,by omega,?_⟩
  have sl:∀c,(sgn c).length=1:=λc=>rfl
  refine jdj (λi σ H'=>∃(t:Str)(v2 v3 v4:Option V),σ=[some (.ref b),some (.str t),v2,v3,v4]/\t.length<=i/\SB H b H') ⟨Str.ofString "",none,none,none,rfl,by decide +kernel,sb1⟩ ?_ ?_
  ·rintro i σ H2 hi ⟨t,v2,v3,v4,rfl,tl,sb2⟩
   have i9:i<41:=by omega
   simp!
   refine⟨b,rfl,⟨Kp.refl _ _,sb2.bx⟩,λc H3 sb3=>?_⟩
   have sb3:=sb2.trans sb3
   simp!
   refine⟨by omega,by omega,?_⟩
   refine jdj (λj σ H'=>∃(c:Nat)(v4:Option V),σ=[some (.ref b),some (.str t),some (.int (0+(i:Int))),some (.str (sgn c)),v4]/\SB H b H') ⟨c,v4,rfl,sb3⟩ ?_ ?_
   ·rintro j σ H4 hj ⟨c,v4,rfl,sb4⟩
    have:=sl c
    simp!
    refine⟨by omega,_,rfl,by rw[jdc];omega,λH5 k5=>?_⟩
    simp!
    refine⟨by omega,ite2 (λ_=>?_) (λ_=>⟨c,_,⟨rfl,rfl⟩,sb4.keep k5⟩)⟩
    refine⟨b,rfl,⟨Kp.refl _ _,(sb4.keep k5).bx⟩,λc2 H6 sb6=>⟨c2,_,⟨rfl,rfl⟩,(sb4.keep k5).trans sb6⟩⟩
   ·rintro σ H4 ⟨c,v4,rfl,sb4⟩
    have:=sl c
    simp!
    exact⟨by omega,_,_,_,_,⟨rfl,rfl,rfl,rfl⟩,by rw[jdc];omega,sb4⟩
  ·rintro σ H2 ⟨t,v2,v3,v4,rfl,tl,sb2⟩
   simp!
   exact k t H2 (by omega) sb2
end
structure KCl(K:PySem.W.Frag)(c D N:Addr)(fld:Str)(os:List Addr):Prop where
 xc:XC K c D N
 xi:XI K c
 nf:PySem.W.findIn K (.ref c) fld=some none
 ko:∀o∈os,PySem.W.kitOne K (.ref c) (.ref o)=some false
theorem KCl.any{K:PySem.W.Frag}{c D N:Addr}{fld:Str}{os:List Addr}(h:KCl K c D N fld os):∀l:List Addr,(∀o∈l,o∈os)->PySem.W.kitAny K (.ref c) (l.map Value.ref)=some false
 |[],_=>rfl
 |o::l,hl=>by
  simp only[Ax,PySem.W.kitAny,h.ko o (hl o (.head _)),h.any l λx hx=>hl x (.tail _ hx)]
def spRd:Sp:=λvs H Q _=>∃(T:Str),vs=[.str T]/\T.length<=5000 /\
 (wat T.cps.toList 0 0 true=none->∀(R0:List RE) q us' F H',okZ R0->1<=R0.length->R0.length<=3*T.length->Ren R0 (R0.length-1) 0 T.cps.toList->TidP (R0.map keyR) F->H' q=some (.tup us')->RowsT H' us' F->Kp [] H H'->Q (.ref q) H') /\
 (∀i p H',wat T.cps.toList 0 0 true=some i->Kp [] H H'->H' p=some (.lst [.int (i:Int),.bl true])->Q (.ref p) H')
structure TRd(K:PySem.W.Frag)(mg:Str->Option Value)(D cT NT fr:Addr)(cL cR cW cN cC cK cM cO cE cG cY:Addr):Prop where
 n_isinstance:mg "isinstance"=none
 n_ValueError:mg "ValueError"=none
 m25z:mg "read_expression"=some (.ref fr)
 m_CalmError:mg "CalmError"=some (.ref D)
 m_BadText:mg "BadText"=some (.ref cT)
 xt_BadText:XT K cT
 m_BadLetters:mg "BadLetters"=some (.ref cL)
 m_BadRoom:mg "BadRoom"=some (.ref cR)
 m_BadRow:mg "BadRow"=some (.ref cW)
 m_NoLetter:mg "NoLetter"=some (.ref cN)
 m_NotCalm:mg "NotCalm"=some (.ref cC)
 m_NotClosed:mg "NotClosed"=some (.ref cK)
 m_NoName:mg "NoName"=some (.ref cM)
 m_NoRow:mg "NoRow"=some (.ref cO)
 m_OtherLetters:mg "OtherLetters"=some (.ref cE)
 m_TooLong:mg "TooLong"=some (.ref cG)
 m_TooMany:mg "TooMany"=some (.ref cY)
 kT:KCl K cT D NT "at" [cL,cR,cW,cN,cC,cK,cM,cO,cE,cG,cY]
 kD:PySem.W.kitOne K (.ref cT) (.ref D)=some true
 kV:PySem.W.kitOne K (.ref cT) (.type "ValueError")=some true
section
variable{P:Program}{w:World}{K:PySem.W.Frag}{mg:Str->Option Value}{base:Heap}
abbrev ze:Stmt:=top 49
theorem zr:FnScope ["_law_text","_law_found","e","_law_alone"] ["_law_text"] (ji ze):=⟨rfl,rfl,rfl,by decide +kernel,rfl,by decide +kernel,by decide +kernel⟩
theorem ok__law_read{f D cT NT fr cL cR cW cN cC cK cM cO cE cG cY:Addr}{fd fdr:FuncData}(F:Fun K "_law_read" "_law_read" ze f fd)(T:TRd K mg D cT NT fr cL cR cW cN cC cK cM cO cE cG cY)(F25z:Fun K "read_expression" "read_expression" ky fr fdr)(b25z:Binds K fdr ["text"] [])
  (G25z:FnOk P w K mg base (CXE P w) 5 fr fdr ["text"] (jo9 cT)):FnOk P w K mg base CX0 6 f fd ["_law_text"] spRd:=by
 refine F.ok zr (λvs H Q E h=>?_) (λcdv A outer s H vs Q E hr h=>?_)
 ·obtain⟨z,rfl,_⟩:=h
  rfl
 ·obtain⟨z,rfl,z9,kG,kB⟩:=h
  have hu:=hr.units
  have hgd:=hr.gd
  have hsz:sizeLine=16777216:=Ao
  refine exQ (je (qps_tryA (i:=1) (j:=2) rfl G25z (hr.mono (by decide)) rfl T.m25z F25z.kp b25z (ja (qpv 0) jb) T.xt_BadText rfl T.m_BadText (λA' h1 h2 h3 h4=>(je (jm (i:=3) zr.nd rfl (by first|exact Or.inl rfl|exact Or.inr rfl) (ja2 (jr (ja3 (K:=K) rfl) (by rfl) T.n_isinstance kh (ja (qpv 2) (ja (km (ja (j8 (v:=.ref _) rfl T.m_BadLetters rfl) (ja (j8 (v:=.ref _) rfl T.m_BadRoom rfl) (ja (j8 (v:=.ref _) rfl T.m_BadRow rfl) (ja (j8 (v:=.ref _) rfl T.m_NoLetter rfl) (ja (j8 (v:=.ref _) rfl T.m_NotCalm rfl) (ja (j8 (v:=.ref _) rfl T.m_NotClosed rfl) jb))))))) jb)))))
  (je (jm (i:=3) zr.nd rfl (by first|exact Or.inl rfl|exact Or.inr rfl) (jag (qpv 3) (jai (ja2 (jr (ja3 (K:=K) rfl) (by rfl) T.n_isinstance kh (ja (qpv 2) (ja (km (ja (j8 (v:=.ref _) rfl T.m_NoName rfl) (ja (j8 (v:=.ref _) rfl T.m_NoRow rfl) (ja (j8 (v:=.ref _) rfl T.m_OtherLetters rfl) (ja (j8 (v:=.ref _) rfl T.m_TooLong rfl) (ja (j8 (v:=.ref _) rfl T.m_TooMany rfl) jb)))))) jb)))))))
  (jg (jm (i:=1) zr.nd rfl (by first|exact Or.inl rfl|exact Or.inr rfl) (j6 (ja (qpe_excFldW rfl (qpv 2) rfl) (ja (jag (qpv 3) (jag (jr (ja3 (K:=K) rfl) (by rfl) T.n_isinstance kh (ja (qpv 2) (ja (j8 (v:=.ref _) rfl T.m_CalmError rfl) jb))) (jai (jr (ja3 (K:=K) rfl) (by rfl) T.n_isinstance kh (ja (qpv 2) (ja (zo (v:=.ty "ValueError") rfl T.n_ValueError bt_ValueError rfl) jb)))))) jb)))))))) ⟨rfl,rfl⟩ rfl (λ_ _ z=>z) zr.nd rfl rfl rfl rfl)
  (jg (jp (qpv 1)))) ?_
  simp!
  refine⟨z,rfl,z9,λe R0 q us' F1 H' okR n1 n3 rn tp hq fz rt kp=>?_,λi dx H' e kp hd=>?_⟩
  ·exact kG e R0 q us' F1 H' okR n1 n3 rn tp fz rt kp
  ·refine⟨cT,D,NT,rfl,T.kT.xc,.inr rfl,λa ha=>?_⟩
   simp!
   refine⟨by omega,λp' hp'=>?_⟩
   have k2:Kp [] H' (upd (upd H' a (ExW a cT (some dx))) p' (.tup [.ref cL,.ref cR,.ref cW,.ref cN,.ref cC,.ref cK])):=((Kp.refl [] H').new ha).new hp'
   have ha2:upd (upd H' a (ExW a cT (some dx))) p' (.tup [.ref cL,.ref cR,.ref cW,.ref cN,.ref cC,.ref cK]) a=some (ExW a cT (some dx)):=by rw[jd (jh jc hp'),jc]
   have et:jf3 (upd (upd H' a (ExW a cT (some dx))) p' (.tup [.ref cL,.ref cR,.ref cW,.ref cN,.ref cC,.ref cK])) p' [cL,cR,cW,cN,cC,cK]:=jc
   generalize upd (upd H' a (ExW a cT (some dx))) p' (.tup [.ref cL,.ref cR,.ref cW,.ref cN,.ref cC,.ref cK])=H2 at k2 ha2 et
   have hd2:=k2.old _ _ hd Ap
   have ea:ExAtW H2 a cT:=⟨some dx,ha2,λd e=>by cases e;exact⟨_,hd2⟩⟩
   refine⟨cT,ea,D,NT,T.kT.xc,T.kT.xi,false,.inr ⟨_,et,T.kT.any _ λo ho=>Wg (i:=6) ho⟩,?_⟩
   rw[Ad (by simp)]
   refine⟨by omega,λp2 hp2=>?_⟩
   have k3:Kp [] H2 (upd H2 p2 (.tup [.ref cM,.ref cO,.ref cE,.ref cG,.ref cY])):=(Kp.refl [] H2).new hp2
   have ha3:upd H2 p2 (.tup [.ref cM,.ref cO,.ref cE,.ref cG,.ref cY]) a=some (ExW a cT (some dx)):=by rw[jd (jh ha2 hp2)];exact ha2
   have et3:jf3 (upd H2 p2 (.tup [.ref cM,.ref cO,.ref cE,.ref cG,.ref cY])) p2 [cM,cO,cE,cG,cY]:=jc
   generalize upd H2 p2 (.tup [.ref cM,.ref cO,.ref cE,.ref cG,.ref cY])=H3 at k3 ha3 et3⊢
   have hd3:=k3.old _ _ hd2 Ap
   have ea3:ExAtW H3 a cT:=⟨some dx,ha3,λd e=>by cases e;exact⟨_,hd3⟩⟩
   refine⟨cT,ea3,D,NT,T.kT.xc,T.kT.xi,false,.inr ⟨_,et3,T.kT.any _ λo ho=>List.mem_of_mem_drop (i:=6) ho⟩,cT,D,NT,dx,ha3,_,hd3,T.kT.xc,T.kT.nf,.int (i:Int),rfl,?_⟩
   rw[Ad (by simp)]
   refine⟨cT,ea3,D,NT,T.kT.xc,T.kT.xi,true,.inl T.kD,?_⟩
   rw[Ad rfl]
   exact⟨cT,ea3,D,NT,T.kT.xc,T.kT.xi,true,T.kV,by omega,λp hp=>kB i p _ e (((kp.trans k2).trans k3).new hp) jc⟩
end
def lwS(rs:List RE)(i:Nat)(b:Int):Str:=if bnd (rs.getD i .nothing)<b then(Str.ofString "(")++tx (TX rs) i++(Str.ofString ")")else tx (TX rs) i
theorem jo2(rs:List RE)(i:Nat):lwS rs i 0=tx (TX rs) i:=by
 unfold lwS
 rw[jm1,Aa (by omega)]
def spLW(n:Nat):Sp:=λvs H Q _=>∃(a:Addr)(us:List V)(rs:List RE)(i:Nat)(b:Int),vs=[.ref a,.int (i:Int),.int b]/\H a=some (.tup us)/\Exp H us rs/\i<rs.length/\i<=n/\b<=4/\(∀k,(tx (TX rs) k).length<=50000)/\∀H',Kp [] H H'->Q (.str (lwS rs i b)) H'
structure TLW(mg:Str->Option Value)(f:Addr):Prop where
 m3z:mg "_law_written"=some (.ref f)
theorem jjx(rs:List RE)(j:Nat)(b:Int):cat (TX rs) (bp rs j b)=sg (lwS rs j b):=by
 unfold bp lwS
 split
 ·rw[jes,jes];simp[cat,pcL]
 ·simp[cat,pcL]
theorem jhz{rs:List RE}(bd:∀k,(tx (TX rs) k).length<=50000)(j:Nat)(b:Int):(lwS rs j b).length<=50002:=by
 have:=bd j
 have l2:(Str.ofString "(").length=1:=by decide +kernel
 have l3:(Str.ofString ")").length=1:=by decide +kernel
 unfold lwS
 split
 ·have:(Str.ofString "("++tx (TX rs) j++Str.ofString ")").length=(Str.ofString "(").length+(tx (TX rs) j).length+(Str.ofString ")").length:=by simp[Str.length,Str.cps_append];omega
  omega
 ·omega
def KL:List (Key×V):=[(.inr "or",.int 0),(.inr "and",.int 1),(.inr "behind",.int 2),(.inr "not",.int 3)]
def KM:List (Key×V):=[(.inr "nothing",.str "0"),(.inr "blank",.str ".")]
theorem jrj(r:RE):(valV (jc3 [] KL) (.inr (eh r))).getD (.int 4)=.int (bnd r):=by
 cases r with
 |bin w i j=>cases w <;> rfl
 |_=>rfl
section
variable{P:Program}{w:World}{K:PySem.W.Frag}{mg:Str->Option Value}{base:Heap}
abbrev yf:Stmt:=top 42
theorem zb:FnScope ["_law_rows","_law_at","_law_bond","_law_row","_law_own","_law_text"] ["_law_rows","_law_at","_law_bond"] (ji yf):=⟨rfl,rfl,rfl,by decide +kernel,rfl,by decide +kernel,by decide +kernel⟩
theorem ok__law_written{f:Addr}{fd:FuncData}(F:Fun K "_law_written" "_law_written" yf f fd)(T:TLW mg f)(b3z:Binds K fd ["_law_rows","_law_at","_law_bond"] []):∀n,FnOk P w K mg base CX0 (n+1) f fd ["_law_rows","_law_at","_law_bond"] (spLW n):=by
 intro n
 induction n using Nat.strongRecOn with
 |ind n ih =>
 refine F.ok zb (λvs H Q E h=>?_) (λcdv A outer s H vs Q E hr h=>?_)
 ·obtain⟨a,us,rs,i,b,rfl,_⟩:=h
  rfl
 ·obtain⟨a,us,rs,i,b,rfl,ha,ex,hi,hin,hb4,bd,k⟩:=h
  have hu:=hr.units
  have hu1:=jmg hr
  have hsz:sizeLine=16777216:=Ao
  have F3z:=F
  have G3z:FnOk P w K mg base CX0 n f fd ["_law_rows","_law_at","_law_bond"] (λvs H Q E=>∃m,m<n/\spLW m vs H Q E):=⟨λvs H Q E ⟨m,hm,h⟩=>(ih m hm).len _ _ _ _ h,λA outer s H args us vs Q E hr he hb hv ⟨m,hm,h⟩=>((ih m hm).mono (by omega:m+1<=n)).run A outer s H args us vs Q E hr he hb hv h⟩
  refine⟨_,(QSs.h (je (jm (i:=3) zb.nd rfl (by first|exact Or.inl rfl|exact Or.inr rfl) (jv ix_U (qpv 0) (qpv 1) (λ_ _=>rfl)))
  (je (jm (i:=4) zb.nd rfl (by first|exact Or.inl rfl|exact Or.inr rfl) (jbt hu1 (jb0 (z5 jj jf (z5 jj jf (z5 jj jf (z5 jj jf jb3))))) (jv ix_U (qpv 3) jf (λ_ _=>rfl)) jf ⟨rfl,rfl,rfl,rfl⟩))
  (yw (jy (jq (ke hu) (qpv 4) jf (jw _)) (jg (jp (jbt hu1 (jb0 (z5 jj jj (z5 jj jj jb3))) (jv ix_U (qpv 3) jf (λ_ _=>rfl)) (jv ix_U (qpv 3) (jau jef jf) (λ_ _=>rfl)) ⟨rfl,rfl,rfl,rfl⟩))) j7)
  (yw (jy (jq (ke hu) (qpv 4) jf (jw _)) (jg (jm (i:=5) zb.nd rfl (by first|exact Or.inl rfl|exact Or.inr rfl) (jn jx jj (jk G3z hr rfl T.m3z F3z.kp b3z .nil jo (ja (qpv 0) (ja (jv ix_U (qpv 3) jf (λ_ _=>rfl)) (ja jf jb))))))) (jg (jm (i:=5) zb.nd rfl (by first|exact Or.inl rfl|exact Or.inr rfl) (jn jx (jn jx (jk G3z hr rfl T.m3z F3z.kp b3z .nil jo (ja (qpv 0) (ja (jv ix_U (qpv 3) jf (λ_ _=>rfl)) (ja (qpv 4) jb)))) (jv ix_U (j6 (ja jj (ja jj (ja jj jb)))) (qpv 4) (λ_ _=>rfl))) (jk G3z hr rfl T.m3z F3z.kp b3z .nil jo (ja (qpv 0) (ja (jv ix_U (qpv 3) jf (λ_ _=>rfl)) (ja (jn jx (qpv 4) jf) jb))))))))
  (yw (jy (jq jat (qpv 4) (qpv 2) (jw _)) (jg (jp (jn jx (jn jx jj (qpv 5)) jj))) j7)
  (jg (jp (qpv 5))))))))),?_⟩
  obtain⟨c,hc1,hc2⟩:=ex.get hi
  have okr:=jg4 <| ex.ok i _ (show rs[i]?=some (rs.getD i .nothing)by rw[Ag,An hi];rfl)
  have et:=jeg (rs:=rs) (okZ.ok ex.ok) hi
  have ho1:=jgr (rs:=rs) (okZ.ok ex.ok)
  unfold lwS at k
  generalize rs.getD i .nothing=r at hc2 okr et k
  simp!
  refine⟨us,by rw[ha];rfl,_,jdv hc1,λp hp=>⟨KL,rfl,by decide,.inl ⟨_,.inl jc⟩,?_⟩⟩
  have k0:Kp [] H (upd H p (.dK (jc3 [] KL))):=(Kp.refl [] H).new hp
  have ep:upd H p (.dK (jc3 [] KL)) p=some (.dK (jc3 [] KL)):=jc
  generalize upd H p (.dK (jc3 [] KL))=H0 at k0 ep⊢
  have hc0:=k0.tup _ _ hc2
  simp! [hc0]
  refine⟨_,ji6 r,_,DGet.k (k:=.inr (eh r)) ep,?_⟩
  rw[jrj r]
  refine⟨λσ H'=>[some (.ref a),some (.int (i:Int)),some (.int b),some (.ref c),some (.int (bnd r)),none]=σ/\Kp [] H H'/\bnd r≠4,?_,?_⟩
  ·simp! [hc0]
   refine ite2 (λh4 p2 hp2=>?_) (λh=>⟨k0,h⟩)
   have k9:=k0.new (o:=.dK (jc3 [] KM)) hp2
   have kk:=k _ k9
   rw[Aa (by omega)]at kk
   have leaf:∀x:Str,((valV (jc3 [] KM) (.inr (eh r))).getD ((jco r).getLast?.getD .non))=.str x->pcs rs r=[.str x]->((valV (jc3 [] KM) (.inr (eh r))).getD ((jco r).getLast?.getD .non))=.str (tx (TX rs) i):=λx e1 e2=>by
    rw[e1]
    refine O0 V.str (jfo ?_)
    rw[et,e2]
    simp[cat,pcL]
   have hl:((valV (jc3 [] KM) (.inr (eh r))).getD ((jco r).getLast?.getD .non))=.str (tx (TX rs) i):=by
    cases r with
    |letter z=>exact leaf z rfl rfl
    |blank=>exact leaf _ rfl rfl
    |nothing=>exact leaf _ rfl rfl
    |no j=>exact absurd h4 (by simp[bnd])
    |bin ww j l=>cases ww <;> exact absurd h4 (by simp[bnd,bwd])
   refine⟨KM,rfl,by decide,.inl ⟨_,.inl jc⟩,_,by rw[k9.tup _ _ hc2];rfl,_,ji6 r,_,by rw[k9.tup _ _ hc2];rfl,(jco r).getLast?.getD .non,?_,_,DGet.k (k:=.inr (eh r)) jc,by rw[hl];exact kk⟩
   cases r <;> exact jjw rfl
  rintro _ H1 ⟨rfl,k1,n4⟩
  have hc1':=k1.tup _ _ hc2
  refine⟨λσ H'=>[some (.ref a),some (.int (i:Int)),some (.int b),some (.ref c),some (.int (bnd r)),some (.str (tx (TX rs) i))]=σ/\Kp [] H H',?_,?_⟩
  ·simp! [hc1']
   refine ite2 (λh3=>?_) (λh3=>?_)
   ·cases r with
    |no j =>
     have hj:j<i:=okr
     refine⟨_,jcm (by decide) rfl,j,by omega,a,us,rs,j,3,rfl,k1.tup _ _ ha,ex.kp k1,by omega,Af _,by decide,bd,λH2 k2=>?_⟩
     show rAddW (.str (Str.ofString "-")) (.str (lwS rs j 3)) H2 _
     rw[jd2]
     have l1:=jhz bd j 3
     have l2:(Str.ofString "-").length=1:=by decide +kernel
     refine⟨by omega,O0 V.str (jfo ?_),k1.trans k2⟩
     rw[et,jes,<-jjx]
     simp[pcs,cat,pcL]
    |bin ww j l=>cases ww <;> exact absurd h3 (by simp[bnd,bwd])
    |_=>exact absurd h3 (by simp[bnd])
   ·cases r with
    |bin ww j l =>
     have hj:j<i:=okr.1
     have hl:l<i:=okr.2
     have hb:bwd ww<=2:=by cases ww <;> decide
     refine⟨_,jcm (by decide) rfl,j,by omega,a,us,rs,j,bwd ww,rfl,k1.tup _ _ ha,ex.kp k1,by omega,Af _,by omega,bd,λH2 k2=>⟨by omega,λp2 hp2=>⟨.str (swd ww),by cases ww <;> rfl,?_⟩⟩⟩
     have l1:=jhz bd j (bwd ww)
     have l2:=jhz bd l (bwd ww+1)
     have l3:(swd ww).length<=1:=by cases ww <;> decide +kernel
     rw[jd2]
     have k3:=(k1.trans k2).new (o:=.lst [V.str (Str.ofString "|"),V.str (Str.ofString "&"),V.str (Str.ofString "")]) hp2
     refine⟨by omega,_,by rw[k3.tup _ _ hc2];rfl,_,jcm (by decide) rfl,l,by omega,a,us,rs,l,bwd ww+1,rfl,k3.tup _ _ ha,ex.kp k3,by omega,Af _,by omega,bd,λH4 k4=>?_⟩
     show rAddW (.str (lwS rs j (bwd ww)++swd ww)) (.str (lwS rs l (bwd ww+1))) H4 _
     rw[jd2]
     have l4:(lwS rs j (bwd ww)++swd ww).length=(lwS rs j (bwd ww)).length+(swd ww).length:=by simp[Str.length,Str.cps_append]
     refine⟨by omega,O0 V.str (jfo ?_),k3.trans k4⟩
     rw[et,jes,jes,<-jjx,<-jjx]
     simp[pcs,cat,pcL]
    |no j=>exact absurd rfl h3
    |_=>exact absurd rfl n4
  rintro _ H2 ⟨rfl,k2⟩
  refine⟨λσ H'=>[some (.ref a),some (.int (i:Int)),some (.int b),some (.ref c),some (.int (bnd r)),some (.str (tx (TX rs) i))]=σ/\Kp [] H H'/\¬bnd r<b,?_,?_⟩
  ·simp!
   refine ite2 (λhb=>?_) (λhb=>⟨k2,hb⟩)
   have l1:=bd i
   have l2:(Str.ofString "(").length=1:=by decide +kernel
   have l3:(Str.ofString ")").length=1:=by decide +kernel
   have l4:(Str.ofString "("++tx (TX rs) i).length=1+(tx (TX rs) i).length:=by rw[<-l2];simp[Str.length,Str.cps_append]
   have:=k H2 k2
   rw[Ad hb]at this
   exact⟨by omega,by omega,this⟩
  rintro _ H3 ⟨rfl,k3,nb⟩
  simp!
  have:=k H3 k3
  rw[Aa nb]at this
  exact this
end
def spFt:Sp:=λvs H Q _=>∃(a:Addr)(us:List V)(rs:List RE)(L:Nat->Nat),vs=[.ref a,.int 190]/\H a=some (.tup us)/\Exp H us rs/\LB rs L/\L 0<=190/\1<=rs.length/\rs.length<=60/\∀(a':Addr)(us':List V)(rs':List RE)(H':Hp),(tx (TX rs') (rs'.length-1)).length<=190->H' a'=some (.tup us')->Exp H' us' rs'->LB rs' L->1<=rs'.length->rs'.length<=rs.length->Kp [] H H'->Q (.ref a') H'
structure TFt(mg:Str->Option Value)(fw:Addr):Prop where
 n_len:mg "len"=none
 m3z:mg "_law_written"=some (.ref fw)
section
variable{P:Program}{w:World}{K:PySem.W.Frag}{mg:Str->Option Value}{base:Heap}
abbrev yk:Stmt:=top 43
theorem ja0:FnScope ["_law_rows","_law_most"] ["_law_rows","_law_most"] (ji yk):=⟨rfl,rfl,rfl,by decide +kernel,rfl,by decide +kernel,by decide +kernel⟩
theorem ok__law_fitting{f fw:Addr}{fd fdw:FuncData}(F:Fun K "_law_fitting" "_law_fitting" yk f fd)(T:TFt mg fw)(F3z:Fun K "_law_written" "_law_written" yf fw fdw)(b3z:Binds K fdw ["_law_rows","_law_at","_law_bond"] [])(G0:∀n,FnOk P w K mg base CX0 (n+1) fw fdw ["_law_rows","_law_at","_law_bond"] (spLW n)):FnOk P w K mg base CX0 62 f fd ["_law_rows","_law_most"] spFt:=by
 have G3z:=G0 60
 refine F.ok ja0 (λvs H Q E h=>?_) (λcdv A outer s H vs Q E hr h=>?_)
 ·obtain⟨a,us,rs,L,rfl,_⟩:=h
  rfl
 ·obtain⟨a,us,rs,L,rfl,ha,ex,lb,l0,n1,n9,k⟩:=h
  have hu:=hr.units
  have hsz:sizeLine=16777216:=Ao
  refine exQ (je (jaz Ii (jq ja4 (jr j9 (by rfl) T.n_len ku (ja (jk G3z (hr.mono (by decide)) rfl T.m3z F3z.kp b3z .nil jo (ja (qpv 0) (ja (jn zk (jr j9 (by rfl) T.n_len ku (ja (qpv 0) jb)) jf) (ja jf jb)))) jb)) (qpv 1) (jw _)) (jg (jm (i:=0) ja0.nd rfl (by first|exact Or.inl rfl|exact Or.inr rfl) (y3 (jap (K:=K) rfl) (qpv 0) zp (zd (jau jef jf))))))
  (jg (jp (qpv 0)))) ?_
  simp!
  obtain⟨W,hW⟩:∃W:Nat->L2.St->Hp->Prop,W=λμ σ H'=>∃(a1:Addr)(us1:List V)(rs1:List RE),σ=[some (.ref a1),some (.int 190)]/\H' a1=some (.tup us1)/\Exp H' us1 rs1/\LB rs1 L/\1<=rs1.length/\rs1.length<=rs.length/\Kp [] H H'/\μ=rs1.length:=⟨_,rfl⟩
  refine⟨W,?_,?_⟩
  ·rw[hW]
   exact⟨_,a,us,rs,rfl,ha,ex,lb,n1,Af _,Kp.refl _ _,rfl⟩
  intro μ σ H1 hw
  rw[hW]at hw
  obtain⟨a1,us1,rs1,rfl,ha1,ex1,lb1,n11,n91,k1,rfl⟩:=hw
  have ul:=ex1.len
  simp! [ha1]
  refine⟨a1,us1,rs1,rs1.length-1,0,by rw[ul];simp;omega,ha1,ex1,by omega,by omega,by omega,λk=>?_,λH2 k2=>?_⟩
  ·by_cases c:k<rs1.length
   ·have:=lb1.txl ex1.ok k c
    have:=lb1.le k
    rw[jcv]at *
    omega
   ·unfold tx
    rw[Of (by rw[jgq];omega)]
    exact Ia _
  have tl:=lb1.txl ex1.ok (rs1.length-1) (by omega)
  rw[jcv]at tl
  show jg6 [V.str (lwS rs1 (rs1.length-1) 0)] H2 _
  rw[jo2]
  obtain⟨T1,hT1⟩:∃T1,T1=tx (TX rs1) (rs1.length-1):=⟨_,rfl⟩
  rw[<-hT1]at tl⊢
  rw[jfl]
  have l5:=lb1.le (rs1.length-1)
  refine⟨by omega,_,rfl,?_⟩
  by_cases c:(190:Int)<(T1.length:Int)
  ·rw[Ad c]
   have n2:2<=rs1.length:=by
    apply Classical.byContradiction
    intro z
    have:rs1.length-1=0:=by omega
    rw[this]at tl
    omega
   refine⟨λσ' H'=>∃m',m'<rs1.length/\W m' σ' H',λ_ _ h=>h,?_⟩
   refine rSlU.tup (k2.tup _ _ ha1) (λz=>?_) λp hp=>?_
   ·have:=z.2
    have e:HT.sIx us1.length us1.length (some (-1))=us1.length-1:=by
     show(if(-1:Int)<0 then((-1:Int)+(us1.length:Int)).toNat else min (-1:Int).toNat us1.length)=_
     rw[Ad (by decide)];omega
    omega
   ·rw[jn4]
    have k3:Kp [] H2 (upd H2 p (.tup (us1.take (us1.length-1)))):=(Kp.refl [] H2).new hp
    refine⟨(rs1.take (us1.length-1)).length,by rw[Il];omega,?_⟩
    rw[hW]
    exact⟨p,_,rs1.take (us1.length-1),rfl,jc,((ex1.kp k2).kp k3).take _,lb1.take _,by rw[Il];omega,by rw[Il];omega,(k1.trans k2).trans k3,rfl⟩
  ·rw[Aa c]
   exact k a1 us1 rs1 H2 (by rw[<-hT1];omega) (k2.tup _ _ ha1) (ex1.kp k2) lb1 n11 n91 (k1.trans k2)
end
theorem jqz{c d:Nat}{r:RE}(h:lf c=some r)(h':lf d=some r):c=d:=by
 unfold lf at h h'
 split at h
 ·split at h'
  ·omega
  ·split at h'
   ·rw[<-h]at h';cases h'
   ·split at h' <;> (rw[<-h]at h';cases h')
 ·split at h
  ·split at h'
   ·rw[<-h]at h';cases h'
   ·split at h'
    ·omega
    ·split at h' <;> (rw[<-h]at h';cases h')
  ·split at h
   ·split at h'
    ·rw[<-h]at h';cases h'
    ·split at h'
     ·rw[<-h]at h';cases h'
     ·split at h'
      ·rw[<-h]at h'
       simp only[Option.some.injEq,RE.letter.injEq]at h'
       exact((jdb d c).mp h').symm
      ·rw[<-h]at h';cases h'
   ·cases h
theorem jde(a b:List Nat):lvs (a++b)=lvs a++lvs b:=Uv ..
theorem jmk(rs:List RE)(i b:Nat):lvs (wE rs i b)=lvs (sg (tx (TX rs) i)):=by
 unfold wE
 split
 ·rw[show(40::(sg (tx (TX rs) i)++[41]))=[40]++(sg (tx (TX rs) i)++[41])from rfl,jde,jde]
  simp[lvs]
 ·rfl
theorem Ren.lvs{rs:List RE}(ok:okZ rs){i b:Nat}{t:List Nat}(h:Ren rs i b t):lvs t=lvs (sg (tx (TX rs) i)):=by
 induction h with
 |@leaf i b c r e l =>
  have h4:ow r=4:=by
   have:=(jpu l).2 (λx=>x+1)
   cases r with
   |no j=>simp[RE.mp]at this
   |bin w j k=>simp[RE.mp]at this
   |_=>rfl
  obtain⟨c',h1,h2⟩:=jh4 ok e h4
  rw[h2,jqz l h1]
 |@no i b j t e _ _ ih =>
  rw[jf4 ok e,show(45::t)=[45]++t from rfl,show(45::wE rs j 3)=[45]++wE rs j 3 from rfl,jde,jde,jmk,ih]
 |@op i b j k w t u e _ _ _ ih1 ih2=>rw[jex ok e,jde,jde,jde,jde,jmk,jmk,ih1,ih2]
 |@par i b t _ ih =>
  rw[show(40::(t++[41]))=[40]++(t++[41])from rfl,jde,jde,<-ih]
  simp[My.lvs]
theorem part_le{rs:List RE}(ok:okZ rs){x p:Nat}(hx:x<rs.length)(hp:p∈own (rs.map keyR) x):(sg (tx (TX rs) p)).length<=(sg (tx (TX rs) x)).length:=by
 have e:=jfc hx
 have eg:(rs.map keyR).getD x []=keyR (rs.getD x .nothing):=by rw[Ag,A3,e];rfl
 unfold own at hp
 rw[eg]at hp
 generalize rs.getD x .nothing=r at e hp
 cases r with
 |no j =>
  have:j=p:=by simpa[keyR,ptR,ptK]using hp
  subst this
  rw[jf4 ok e]
  have:=(jd4 rs j 3).1
  simp;omega
 |bin w i j =>
  have hp:i=p\/j=p:=by simpa[keyR,ptR,ptK]using hp
  have h1:=(jd4 rs i (bn w)).1
  have h2:=(jd4 rs j (bn w+1)).1
  rw[jex ok e]
  rcases hp with rfl|rfl <;> (simp;omega)
 |nothing=>simp[keyR,ptR,ptK]at hp
 |blank=>simp[keyR,ptR,ptK]at hp
 |letter a=>simp[keyR,ptR,ptK]at hp
theorem jq3{rs:List RE}(ok:okZ rs){x v:Nat}(hx:x<rs.length)(h:Rch (own (rs.map keyR)) x v):v<rs.length/\(sg (tx (TX rs) v)).length<=(sg (tx (TX rs) x)).length:=by
 induction h with
 |refl=>exact⟨hx,Af _⟩
 |@step y p _ hp ih =>
  have pl:=jg5 ok.r y (by rw[Ae];exact ih.1) p hp
  exact⟨by have:=ih.1;omega,Ib (part_le ok ih.1 hp) ih.2⟩
theorem jp2{R0 rs:List RE}(ok0:okZ R0)(ok:okZ rs)(n0:1<=R0.length)(n1:1<=rs.length)(n9:rs.length<=1000)(tp:TidP (R0.map keyR) (rs.map keyR)){t:List Nat}(rn:Ren R0 (R0.length-1) 0 t)(tl:t.length<=5000):Wr4 rs.length (λk=>pcs rs (rs.getD k .nothing)) (TX rs)/\(tx (TX rs) (rs.length-1)).length<=5000/\lvs (sg (tx (TX rs) (rs.length-1)))=lvs t:=by
 have e:=jq6 ok0 ok n0 tp
 have m:=rn.min ok0 (by omega)
 have m2:=(jd4 R0 (R0.length-1) 0).1
 have l9:(sg (tx (TX rs) (rs.length-1))).length<=5000:=by rw[<-e];omega
 refine⟨jrd ok.ok n1 n9 λk=>?_,by rw[jcv]at l9;exact l9,by rw[<-e];exact(rn.lvs ok0).symm⟩
 by_cases c:k<rs.length
 ·obtain⟨h,H,ef⟩:=tp
  have cm:=joo ok0.r H (by rw[Ae];exact n0)
  rw[<-ef]at cm
  have hk:k∈wk (own (rs.map keyR)) ((rs.map keyR).length-1) []:=by rw[cm,Ud,Ae];exact c
  rcases jn1 (jg5 ok.r) _ (by rw[Ae];omega) [] k hk with h|h
  ·simp at h
  ·rw[Ae]at h
   have:=(jq3 ok (by omega) h).2
   rw[jcv]at this
   omega
 ·unfold tx
  rw[Of (by rw[jgq];omega)]
  exact Ia _
theorem jok{H:Hp}{us:List V}{rs:List RE}(h:RowsT H us (rs.map keyR))(ok:okZ rs):Exp H us rs:=by
 refine⟨?_,ok⟩
 clear ok
 generalize e:rs.map keyR=R at h
 induction h generalizing rs with
 |nil=>cases rs with
  |nil=>exact .nil
  |cons _ _=>cases e
 |cons h _ ih =>
  cases rs with
  |nil=>cases e
  |cons r rs =>
   simp only[Ax,List.cons.injEq]at e
   obtain⟨a,e1,h⟩:=h
   exact .cons ⟨a,e1,by rw[<-jnk,e.1];exact h⟩ (ih e.2)
def spR8(Pt:Addr):Sp:=λvs H Q _=>∃(z:Str),vs=[.str z]/\z.length<=300/\TabOk H Pt LQ/\∀H',Kp [Pt] H H'->TabOk H' Pt LQ->Q (.bl true) H'
structure TR8(K:PySem.W.Frag)(mg:Str->Option Value)(fw fr fl fs:Addr):Prop where
 n_isinstance:mg "isinstance"=none
 n_tuple:mg "tuple"=none
 n_list:mg "list"=none
 n_bool:mg "bool"=none
 tt:PySem.W.kitOne K (.type "tuple") (.type "tuple")=some true
 ll:PySem.W.kitOne K (.type "list") (.type "list")=some true
 ib:PySem.W.kitOne K (.type "int") (.type "bool")=some false
 m7z:mg "_law_wrong_at"=some (.ref fw)
 m19z:mg "_law_read"=some (.ref fr)
 m11z:mg "_law_leaves"=some (.ref fl)
 m27z:mg "show_expression"=some (.ref fs)
section
variable{P:Program}{w:World}{K:PySem.W.Frag}{mg:Str->Option Value}{base:Heap}
abbrev yy:Stmt:=top 50
theorem jam:FnScope ["_law_text","_law_due","_law_found"] ["_law_text"] (ji yy):=⟨rfl,rfl,rfl,by decide +kernel,rfl,by decide +kernel,by decide +kernel⟩
theorem ok__law_right{f fw fr fl fs Pt:Addr}{fd fdw fdr fdl fds:FuncData}(F:Fun K "_law_right" "_law_right" yy f fd)(T:TR8 K mg fw fr fl fs)
  (F7z:Fun K "_law_wrong_at" "_law_wrong_at" ya fw fdw) (b7z:Binds K fdw ["_law_text"] []) (G7z:FnOk P w K mg base CX0 1 fw fdw ["_law_text"] spWa)
  (F19z:Fun K "_law_read" "_law_read" ze fr fdr) (b19z:Binds K fdr ["_law_text"] []) (G19z:FnOk P w K mg base CX0 6 fr fdr ["_law_text"] spRd)
  (F11z:Fun K "_law_leaves" "_law_leaves" yi fl fdl) (b11z:Binds K fdl ["_law_text"] []) (G11z:FnOk P w K mg base CX0 1 fl fdl ["_law_text"] spLv)
  (F27z:Fun K "show_expression" "show_expression" ki fs fds) (b27z:Binds K fds ["expression"] []) (G27z:FnOk P w K mg base CX0 6 fs fds ["expression"] (spSE Pt)):FnOk P w K mg base CX0 7 f fd ["_law_text"] (spR8 Pt):=by
 refine F.ok jam (λvs H Q E h=>?_) (λcdv A outer s H vs Q E hr h=>?_)
 ·obtain⟨z,rfl,_⟩:=h
  rfl
 ·obtain⟨z,rfl,z9,tb,k⟩:=h
  have hu:=hr.units
  have hsz:sizeLine=16777216:=Ao
  refine exQ (je (jm (i:=1) jam.nd rfl (by first|exact Or.inl rfl|exact Or.inr rfl) (jk G7z (hr.mono (by decide)) rfl T.m7z F7z.kp b7z .nil jo (ja (qpv 0) jb)))
  (je (jm (i:=2) jam.nd rfl (by first|exact Or.inl rfl|exact Or.inr rfl) (jk G19z (hr.mono (by decide)) rfl T.m19z F19z.kp b19z .nil jo (ja (qpv 0) jb)))
  (je (jy (jq jat (qpv 1) jf (jw _)) (jg (jp (jag (jr (yd (K:=K) rfl) (by rfl) T.n_isinstance kh (ja (qpv 2) (ja (zo (v:=.ty "tuple") rfl T.n_tuple jae rfl) jb))) (jai (zx (ke hu) (jk G11z (hr.mono (by decide)) rfl T.m11z F11z.kp b11z .nil jo (ja (jk G27z (hr.mono (by decide)) rfl T.m27z F27z.kp b27z .nil jo (ja (qpv 2) jb)) jb)) (jk G11z (hr.mono (by decide)) rfl T.m11z F11z.kp b11z .nil jo (ja (qpv 0) jb)) (jw _)))))) j7)
  (jg (jp (jag (jr (yd (K:=K) rfl) (by rfl) T.n_isinstance kh (ja (qpv 2) (ja (zo (v:=.ty "list") rfl T.n_list jbj rfl) jb))) (jag (ja2 (jr (yd (K:=K) rfl) (by rfl) T.n_isinstance kh (ja (jv ix_U (qpv 2) jf (λ_ _=>rfl)) (ja (zo (v:=.ty "bool") rfl T.n_bool bt_bool rfl) jb)))) (jai (zx (ke hu) (qpv 2) (j6 (ja (qpv 1) (ja zu jb))) (jw _)))))))))) ?_
  simp!
  refine⟨z,rfl,by omega,λH1 k1=>⟨z,rfl,by omega,λe R0 q us' F1 H2 ok0 n0 n3 rn tp hq rt k2=>?_,λi p H2 e k2 hp=>?_⟩⟩
  ·have ew:watI z=-1:=by unfold watI;rw[e]
   obtain⟨rs,ef,ok,n1⟩:=jq5 ok0 n0 tp
   subst ef
   have n9:rs.length<=1000:=by have:=(tp.shp ok0 n0).2;rw[Ae]at this;omega
   have zl:z.cps.toList.length=z.length:=by simp[Str.length]
   obtain⟨wr,tl,lv⟩:=jp2 ok0 ok n0 n1 n9 tp rn (by omega)
   rw[ew]
   simp!
   rw[Ad (by decide)]
   refine⟨_,.tup hq,_,T.tt,?_⟩
   rw[Ad rfl]
   have k12:Kp [] H H2:=k1.trans k2
   refine⟨q,us',rs,TX rs,rfl,hq,jok rt ok,tb.kp k12 (by simp) (by simp),wr,λH3 k3 tb3=>?_⟩
   refine⟨_,rfl,tl,λH4 k4=>⟨z,rfl,by omega,λH5 k5=>?_⟩⟩
   have e5:lvs (tx (TX rs) (rs.length-1)).cps.toList=lvs z.cps.toList:=lv
   rw[e5]
   simp!
   rw[Oy trivial]
   exact k _ ((k12.mono (by simp)).trans (k3.trans ((k4.trans k5).mono (by simp)))) (tb3.kp (k4.trans k5) (by simp) (by simp))
  ·have ew:watI z=(i:Int):=by unfold watI;rw[e]
   rw[ew]
   simp! [hp]
   rw[Aa (by omega)]
   refine⟨_,.lst hp,_,T.ll,?_⟩
   rw[Ad rfl]
   refine⟨_,.int _,_,T.ib,?_⟩
   rw[Ad (by simp)]
   refine⟨by omega,λp1 hp1=>?_⟩
   have k12:Kp [] H H2:=k1.trans k2
   have k3:Kp [] H2 (upd H2 p1 (.lst [.int (i:Int),.bl true])):=(Kp.refl [] H2).new hp1
   have r1:∀{p':Addr}{H':Hp},H' p'=some (.lst [.int (i:Int),.bl true])->Rep H' (.ref p') (.list [.int (i:Int),.bool true]):=λh=>by
    simp only[Rep]
    exact⟨_,_,rfl,h,by simp[Reps,Rep]⟩
   refine⟨_,_,r1 (k3.old _ _ hp Ap),r1 jc,?_,?_,?_⟩
   ·simp[SeqAt.shaped,PyData.canLay0,PyData.canLayAll0,PyData.depth,PyData.depthAll]
   ·simp[SeqAt.shaped,PyData.canLay0,PyData.canLayAll0,PyData.depth,PyData.depthAll]
   ·have:PyData.eqv (.list [.int (i:Int),.bool true]) (.list [.int (i:Int),.bool true])=true:=by simp[PyData.eqv,PyData.eqvAll]
    rw[this]
    exact k _ ((k12.trans k3).mono (by simp)) (tb.kp (k12.trans k3) (by simp) (by simp))
end
def jhc(K:PySem.W.Frag)(Pt:Addr):Sp:=λvs H Q _=>∃(a:Addr)(ns:List Int),vs=[.ref a]/\SqL K H a (ns.map V.int)/\ns.length<=63/\a≠Pt/\TabOk H Pt LQ/\∀H',Q (.bl true) H'
structure TLT(mg:Str->Option Value)(fb fl fe ft fc ff fw fr fs fx:Addr):Prop where
 n_range:mg "range"=none
 n_len:mg "len"=none
 m10z:mg "_law_box"=some (.ref fb)
 m18z:mg "_law_letters"=some (.ref fl)
 m15z:mg "_law_expression"=some (.ref fe)
 m1z:mg "_law_take"=some (.ref ft)
 m14z:mg "_law_chain"=some (.ref fc)
 m16z:mg "_law_fitting"=some (.ref ff)
 m3z:mg "_law_written"=some (.ref fw)
 m6z:mg "_law_right"=some (.ref fr)
 m20z:mg "_law_spoilt"=some (.ref fs)
 m17z:mg "_law_free_text"=some (.ref fx)
section
variable{P:Program}{w:World}{K:PySem.W.Frag}{mg:Str->Option Value}{base:Heap}
abbrev jan:Stmt:=top 51
theorem jad:FnScope ["_law_script","_law_box_here","_law_letters_here","_law_rows","_law_text","_law_k"] ["_law_script"] (ji jan):=⟨rfl,rfl,rfl,by decide +kernel,rfl,by decide +kernel,by decide +kernel⟩
theorem ok_law{f fb fl fe ft fc ff fw fr fs fx Pt:Addr}{fd fdb fdl fde fdt fdc fdf fdw fdr fds fdx:FuncData}(F:Fun K "law" "law" jan f fd)(T:TLT mg fb fl fe ft fc ff fw fr fs fx)
  (F10z:Fun K "_law_box" "_law_box" zj fb fdb) (b10z:Binds K fdb ["_law_script","_law_k"] []) (G10z:FnOk P w K mg base CX0 1 fb fdb ["_law_script","_law_k"] (jo7 K))
  (F18z:Fun K "_law_letters" "_law_letters" ym fl fdl) (b18z:Binds K fdl ["_law_box_here","_law_most"] []) (G18z:FnOk P w K mg base CX0 2 fl fdl ["_law_box_here","_law_most"] jiv)
  (F15z:Fun K "_law_expression" "_law_expression" kx fe fde) (b15z:Binds K fde ["_law_box_here","_law_letters_here","_law_most"] []) (G15z:FnOk P w K mg base CX0 3 fe fde ["_law_box_here","_law_letters_here","_law_most"] jo8)
  (F1z:Fun K "_law_take" "_law_take" kf ft fdt) (b1z:Binds K fdt ["_law_box_here","_law_wide"] []) (G1z:FnOk P w K mg base CX0 1 ft fdt ["_law_box_here","_law_wide"] jdh)
  (F14z:Fun K "_law_chain" "_law_chain" yx fc fdc) (b14z:Binds K fdc ["_law_box_here","_law_letters_here","_law_most"] []) (G14z:FnOk P w K mg base CX0 2 fc fdc ["_law_box_here","_law_letters_here","_law_most"] spCh)
  (F16z:Fun K "_law_fitting" "_law_fitting" yk ff fdf) (b16z:Binds K fdf ["_law_rows","_law_most"] []) (G16z:FnOk P w K mg base CX0 62 ff fdf ["_law_rows","_law_most"] spFt)
  (F3z:Fun K "_law_written" "_law_written" yf fw fdw) (b3z:Binds K fdw ["_law_rows","_law_at","_law_bond"] []) (G0:∀n,FnOk P w K mg base CX0 (n+1) fw fdw ["_law_rows","_law_at","_law_bond"] (spLW n))
  (F6z:Fun K "_law_right" "_law_right" yy fr fdr) (b6z:Binds K fdr ["_law_text"] []) (G6z:FnOk P w K mg base CX0 7 fr fdr ["_law_text"] (spR8 Pt))
  (F20z:Fun K "_law_spoilt" "_law_spoilt" yp fs fds) (b20z:Binds K fds ["_law_box_here","_law_text"] []) (G20z:FnOk P w K mg base CX0 3 fs fds ["_law_box_here","_law_text"] spSp)
  (F17z:Fun K "_law_free_text" "_law_free_text" ye fx fdx) (b17z:Binds K fdx ["_law_box_here"] []) (G17z:FnOk P w K mg base CX0 3 fx fdx ["_law_box_here"] spFr) :
  FnOk P w K mg base CX0 64 f fd ["_law_script"] (jhc K Pt):=by
 have G3z:=G0 60
 refine F.ok jad (λvs H Q E h=>?_) (λcdv A outer s H vs Q E hr h=>?_)
 ·obtain⟨a,is,rfl,_⟩:=h
  rfl
 ·obtain⟨a,is,rfl,hS,hil,naP,tb,kQ⟩:=h
  have hu:=hr.units
  have hsz:sizeLine=16777216:=Ao
  refine exQ (je (jm (i:=1) jad.nd rfl (by first|exact Or.inl rfl|exact Or.inr rfl) (jk G10z (hr.mono (by decide)) rfl T.m10z F10z.kp b10z .nil jo (ja (qpv 0) (ja jf jb))))
  (je (jm (i:=2) jad.nd rfl (by first|exact Or.inl rfl|exact Or.inr rfl) (jk G18z (hr.mono (by decide)) rfl T.m18z F18z.kp b18z .nil jo (ja (qpv 1) (ja jf jb))))
  (je (jm (i:=3) jad.nd rfl (by first|exact Or.inl rfl|exact Or.inr rfl) (jk G15z (hr.mono (by decide)) rfl T.m15z F15z.kp b15z .nil jo (ja (qpv 1) (ja (qpv 2) (ja jf jb)))))
  (yw (jy (jq (ke hu) (jk G1z (hr.mono (by decide)) rfl T.m1z F1z.kp b1z .nil jo (ja (qpv 1) (ja jf jb))) jf (jw _)) (jg (jm (i:=3) jad.nd rfl (by first|exact Or.inl rfl|exact Or.inr rfl) (jk G14z (hr.mono (by decide)) rfl T.m14z F14z.kp b14z .nil jo (ja (qpv 1) (ja (qpv 2) (ja jf jb)))))) j7)
  (je (jm (i:=3) jad.nd rfl (by first|exact Or.inl rfl|exact Or.inr rfl) (jk G16z (hr.mono (by decide)) rfl T.m16z F16z.kp b16z .nil jo (ja (qpv 3) (ja jf jb))))
  (je (jm (i:=4) jad.nd rfl (by first|exact Or.inl rfl|exact Or.inr rfl) (jk G3z (hr.mono (by decide)) rfl T.m3z F3z.kp b3z .nil jo (ja (qpv 3) (ja (jn zk (jr j9 (by rfl) T.n_len ku (ja (qpv 3) jb)) jf) (ja jf jb)))))
  (yw (jy (QW.pt (jav (jar (y0 (jk G6z (hr.mono (by decide)) rfl T.m6z F6z.kp b6z .nil jo (ja (qpv 4) jb)))) (jas (jar (y0 (jk G6z (hr.mono (by decide)) rfl T.m6z F6z.kp b6z .nil jo (ja jj jb))))))) (jg (jp zu)) j7)
  (je (zm Ii rfl (qpi_range2 rfl T.n_range (ja jf (ja (jn jx jf (jr j9 (by rfl) T.n_len ku (ja (y3 (jap (K:=K) rfl) (qpv 0) (zd jf) (zd jf)) jb))) jb))) (kj (i:=5) jad.nd rfl (by first|exact Or.inl rfl|exact Or.inr rfl)) (je (jm (i:=1) jad.nd rfl (by first|exact Or.inl rfl|exact Or.inr rfl) (jk G10z (hr.mono (by decide)) rfl T.m10z F10z.kp b10z .nil jo (ja (qpv 0) (ja (qpv 5) jb))))
  (jg (jy (QW.pt (jav (jar (y0 (jk G6z (hr.mono (by decide)) rfl T.m6z F6z.kp b6z .nil jo (ja (jk G20z (hr.mono (by decide)) rfl T.m20z F20z.kp b20z .nil jo (ja (qpv 1) (ja (qpv 4) jb))) jb)))) (jas (jar (y0 (jk G6z (hr.mono (by decide)) rfl T.m6z F6z.kp b6z .nil jo (ja (jk G17z (hr.mono (by decide)) rfl T.m17z F17z.kp b17z .nil jo (ja (qpv 1) jb)) jb))))))) (jg (jp zu)) j7))))
  (jg (jp (jk G6z (hr.mono (by decide)) rfl T.m6z F6z.kp b6z .nil jo (ja (qpv 4) jb)))))))))))) ?_
  simp!
  refine⟨a,0,is,rfl,hS,by omega,by omega,λb o hb ho=>?_⟩
  have kb:Kp [] H (upd H b o):=(Kp.refl [] H).new hb
  have eb:upd H b o b=some o:=jc
  generalize upd H b o=H0 at kb eb⊢
  have fr1:∀s∈[b],H s=none:=λs hs=>by rw[Ak.mp hs];exact hb
  refine⟨b,4,o,rfl,eb,ho,by omega,by omega,λz o1 H1 hz ho1 eb1 k1=>?_⟩
  have zl:lw z:=hz.az
  have z1:=hz.lo
  have z9:=hz.hi
  refine⟨b,z,7,o1,rfl,eb1,ho1,by omega,by omega,zl,by omega,by omega,λt us rs o2 H2 ht ex n1 n8 ho2 eb2 k2=>?_⟩
  have k02:Kp [b] H0 H2:=k1.trans k2
  have sb2:SB H2 b H2:=⟨Kp.refl _ _,o2,eb2,ho2⟩
  obtain⟨J1,hJ1⟩:∃J:L2.St->Hp->Prop,J=λσ H'=>∃(t:Addr)(us:List V)(rs:List RE)(L:Nat->Nat),σ=[some (.ref a),some (.ref b),some (.str z),some (.ref t),none,none]/\H' t=some (.tup us)/\Exp H' us rs/\LB rs L/\L 0<=190/\1<=rs.length/\rs.length<=60/\Kp [b] H0 H':=⟨_,rfl⟩
  refine⟨J1,?_,?_⟩
  ·simp!
   refine sb2.tq (by omega) (by omega) λd H3 d0 d1 sb3 k3=>?_
   simp!
   refine ite2 (λ_=>?_) (λ_=>?_)
   ·obtain⟨o3,hb3,ho3⟩:=sb3.bx
    refine⟨b,z,o3,rfl,hb3,ho3,by omega,by omega,zl,λt us rs o4 H4 ht ex n1 n5 ch ho4 eb4 k4=>?_⟩
    rw[hJ1]
    have:=(ji3 rs 0).1
    exact⟨t,us,rs,LC rs,rfl,ht,ex,joc ch n5,by omega,n1,by omega,(k02.trans k3).trans k4⟩
   ·rw[hJ1]
    exact⟨t,us,rs,LX,rfl,k3.tup _ _ ht,ex.kp k3,jqy ex (by omega),by decide,n1,by omega,k02.trans k3⟩
  intro σ H3 hj
  rw[hJ1]at hj
  obtain⟨t,us,rs,L,rfl,ht,ex,lb,l0,n1,n6,k3⟩:=hj
  simp!
  refine⟨t,us,rs,L,rfl,ht,ex,lb,l0,n1,n6,λa4 us4 rs4 H4 tl4 ha4 ex4 lb4 n14 n64 k4=>?_⟩
  have ul4:=ex4.len
  simp! [ha4]
  have ok4:okZ rs4:=ex4.ok
  have bd4:∀k,(tx (TX rs4) k).length<=50000:=λk=>by
   by_cases c:k<rs4.length
   ·have:=lb4.txl ok4 k c
    have:=lb4.le k
    rw[jcv]at *
    omega
   ·unfold tx
    rw[Of (by rw[jgq];omega)]
    exact Ia _
  refine⟨a4,us4,rs4,rs4.length-1,0,by rw[ul4];simp;omega,ha4,ex4,by omega,by omega,by omega,bd4,λH5 k5=>?_⟩
  rw[jo2]
  have t1:=(jgr ok4.ok (rs4.length-1) (by omega)).1
  generalize tx (TX rs4) (rs4.length-1)=Z at tl4 t1⊢
  have k05:Kp [] H H5:=Kp.fresh kb (k3.trans ((k4.trans k5).mono (by simp))) fr1
  have tb5:=tb.kp k05 (by simp) (by simp)
  have R:∀(z:Str)(H':Hp)(Q':VK),z.length<=300->Kp [Pt] H H'->TabOk H' Pt LQ->(∀H3,Kp [Pt] H H3->TabOk H3 Pt LQ->Q' (.bl true) H3)->spR8 Pt [.str z] H' Q' E0:=λz H' Q' zl kk tb' q=>⟨z,rfl,zl,tb',λH3 k3 tb3=>q H3 (kk.trans k3) tb3⟩
  refine⟨λσ H'=>σ=[some (.ref a),some (.ref b),some (.str z),some (.ref a4),some (.str Z),none]/\Kp [Pt] H H'/\TabOk H' Pt LQ,?_,?_⟩
  ·simp!
   refine R Z H5 _ (by omega) (k05.mono (by simp)) tb5 λH6 k6 tb6=>⟨true,rfl,?_⟩
   rw[Aa (by decide)]
   refine R _ H6 _ (by decide +kernel) k6 tb6 λH7 k7 tb7=>⟨true,rfl,?_⟩
   rw[Aa (by decide)]
   exact⟨k7,tb7⟩
  rintro _ H6 ⟨rfl,k6,tb6⟩
  simp!
  refine rSlU.sq (k6.seq (by simpa using naP) hS) λp hp=>?_
  have cl:=jem (is.map V.int) (some 3) (some 9)
  rw[Ae]at cl
  generalize cutV (is.map V.int) (some 3) (some 9)=cu at cl
  have k7:Kp [] H6 (upd H6 p (.lst cu)):=(Kp.refl [] H6).new hp
  have ep:upd H6 p (.lst cu) p=some (.lst cu):=jc
  generalize upd H6 p (.lst cu)=H7 at k7 ep⊢
  simp! [ep]
  refine⟨1,_,⟨rfl,rfl⟩,by omega,?_⟩
  refine jdj (λi σ H'=>∃b' v5,σ=[some (.ref a),some (.ref b'),some (.str z),some (.ref a4),some (.str Z),v5]/\Kp [Pt] H H'/\TabOk H' Pt LQ) ⟨b,none,rfl,k6.trans (k7.mono (by simp)),tb6.kp k7 (by simp) (by simp)⟩ ?_ ?_
  ·rintro i σ H8 hi ⟨b',v5,rfl,k8,tb8⟩
   have i9:i<=100:=by omega
   simp!
   refine⟨a,_,is,rfl,k8.seq (by simpa using naP) hS,by omega,by omega,λb2 o2 hb2 ho2=>?_⟩
   have kb2:Kp [] H8 (upd H8 b2 o2):=(Kp.refl [] H8).new hb2
   have sb3:SB (upd H8 b2 o2) b2 (upd H8 b2 o2):=⟨Kp.refl _ _,o2,jc,ho2⟩
   generalize upd H8 b2 o2=H9 at kb2 sb3⊢
   have nb2:b2≠Pt:=by
    obtain⟨ps,hPt,_⟩:=tb8
    exact(jh hPt hb2).symm
   have fr2:∀s∈[b2],H8 s=none:=λs hs=>by rw[Ak.mp hs];exact hb2
   simp!
   refine⟨b2,Z,rfl,sb3,t1,by omega,λT1 H10 l10 sb10=>?_⟩
   have k810:Kp [] H8 H10:=Kp.fresh kb2 sb10.kp fr2
   have k10:Kp [Pt] H H10:=k8.trans (k810.mono (by simp))
   refine⟨T1,rfl,by omega,tb8.kp k810 (by simp) (by simp),λH11 k11 tb11=>⟨true,rfl,?_⟩⟩
   rw[Aa (by decide)]
   obtain⟨o10,hb10,ho10⟩:=sb10.bx
   refine⟨b2,rfl,⟨Kp.refl _ _,o10,k11.old _ _ hb10 (by simp[nb2]),ho10⟩,λT2 H12 l12 sb12=>?_⟩
   have hb11:=k11.old _ _ hb10 (by simp[nb2])
   have k12:Kp [Pt] H8 H12:=((k810.mono (by simp)).trans k11).trans' sb12.kp λx hx=>.inr (fr2 x hx)
   have tb12:TabOk H12 Pt LQ:=tb11.kp sb12.kp (by simp[nb2.symm]) (λc o e m=>by
    rw[Ak.mp m,hb11]at e
    obtain⟨xs,rfl⟩:=ho10.lst
    cases e)
   refine⟨T2,rfl,by omega,tb12,λH13 k13 tb13=>⟨true,rfl,?_⟩⟩
   rw[Aa (by decide)]
   exact⟨_,_,⟨rfl,rfl⟩,(k8.trans k12).trans k13,tb13⟩
  ·rintro σ H8 ⟨b',v5,rfl,k8,tb8⟩
   simp!
   exact R Z H8 _ (by omega) k8 tb8 λH9 _ _=>kQ H9
end
theorem c_of{K:PySem.W.Frag}{hh:Heap}(X:K.In hh){b c:Addr}{fd:FuncData}{oc:Value}{od:Option Addr}{osl:Array (Option Value)}(h3:PySem.W.nsIn K mainGlobals "show_expression"=some (some (.ref b)))(h4:K.lookup b=some ⟨oc,od,.func fd,osl⟩)(h5:fd.code=.ref c)(h6:PySem.W.codeHdIn K c 266=true):∃c,PySem.W.CodeHd hh c 266:=⟨c,PySem.W.codeHd_of_K X h6⟩
theorem jgf{P:Program}{w:World}{K:PySem.W.Frag}{a:Addr}{kvs:List (Key×V)}{es:Array DictEntry}{ep:Nat}(lk:K.lookup a=some {cls:=.type "dict",data:=.dict es ep})
  (h:Paired (fun(e:DictEntry) (kv:Key×V)=>∃x t,e.key=.str x t/\e.hash=PyData.keyHash w.params x/\kv.1=.inr x/\RelV kv.2 e.val) es.toList kvs) (nd:(kvs.map Prod.fst).Nodup):KDict P w K a kvs:=by
 have key:∀{l:List DictEntry}{kvs:List (Key×V)},Paired (fun(e:DictEntry) (kv:Key×V)=>∃x t,e.key=.str x t/\e.hash=PyData.keyHash w.params x/\kv.1=.inr x/\RelV kv.2 e.val) l kvs->∃m:List (Str×Tok×Value),l=m.map (entS w)/\KV kvs (m.map λp=>((Sum.inr p.1:Key),p.2.2)):=by
  intro l kvs h
  induction h with
  |nil=>exact⟨[],rfl,.nil⟩
  |cons h _ ih =>
   obtain⟨x,t,e1,e2,e3,e4⟩:=h
   obtain⟨m,f1,f2⟩:=ih
   rename_i e kv _ _ _
   refine⟨(x,t,e.val)::m,?_,.cons ⟨e3,e4⟩ f2⟩
   rw[Ax,<-f1]
   obtain⟨hh,kk,vv⟩:=e
   cases e1
   cases e2
   rfl
 obtain⟨m,e1,e2⟩:=key h
 exact KDict.of lk e1 e2 nd
theorem us2{C:List Value->Prop}(h:∀v0 v1:Value,C [v0,v1])(us:List Value)(e:us.length=2):C us:=by
 cases us with
 |nil=>exact absurd e.symm (I0 _)
 |cons v0 us =>
  cases us with
  |nil=>exact absurd (Oh (e.symm)) (I0 _)
  |cons v1 us =>
   cases us with
   |nil=>exact h v0 v1
   |cons _ _=>exact absurd (Oh (Oh (e))) (I0 _)
theorem us3{C:List Value->Prop}(h:∀v0 v1 v2:Value,C [v0,v1,v2])(us:List Value)(e:us.length=3):C us:=by
 cases us with
 |nil=>exact absurd e.symm (I0 _)
 |cons v0 us =>
  cases us with
  |nil=>exact absurd (Oh (e.symm)) (I0 _)
  |cons v1 us =>
   cases us with
   |nil=>exact absurd (Oh (Oh (e.symm))) (I0 _)
   |cons v2 us =>
    cases us with
    |nil=>exact h v0 v1 v2
    |cons _ _=>exact absurd (Oh (Oh (Oh (e)))) (I0 _)
theorem all_mk{l:PySem.W.OpenLaw}{w:World}{K:PySem.W.Frag}{h:Heap}{mg:Str->Option Value}{fa f1 f2 f3 f4 f5 f6 f7 f8 f9 f10 f11 f12 f13 f14 f15 f16 f17 f18 f19 f20 f21 f22 f23 f24 f25 f26 f27 f28:Addr}(X:K.In h)(G:h.Ns mainGlobals mg)(hfa:mg "law"=some (.ref fa))
  {od1 od2 od3 od4 od5 od6 od7 od8 od9 od10 od11 od12 od13 od14 od15 od16 od17 od18 od19 od20 od21 od22 od23 od24 od25 od26 od27 od28 an1 an2 an3 an4 an5 an6 an7 an8 an9 an10 an11 an12 an13 an14 an15 an16 an17 an18 an19 an20 an21 an22 an23 an24 an25 an26 an27 an28:Option Addr}{sl1 sl2 sl3 sl4 sl5 sl6 sl7 sl8 sl9 sl10 sl11 sl12 sl13 sl14 sl15 sl16 sl17 sl18 sl19 sl20 sl21 sl22 sl23 sl24 sl25 sl26 sl27 sl28:Array (Option Value)}{oc1 kV1 dc1 pm1 cd1 ct1 oc2 kV2 dc2 pm2 cd2 ct2 oc3 kV3 dc3 pm3 cd3 ct3 oc4 kV4 dc4 pm4 cd4 ct4 oc5 kV5 dc5 pm5 cd5 ct5 oc6 kV6 dc6 pm6 cd6 ct6 oc7 kV7 dc7 pm7 cd7 ct7 oc8 kV8 dc8 pm8 cd8 ct8 oc9 kV9 dc9 pm9 cd9 ct9 oc10 kV10 dc10 pm10 cd10 ct10 oc11 kV11 dc11 pm11 cd11 ct11 oc12 kV12 dc12 pm12 cd12 ct12 oc13 kV13 dc13 pm13 cd13 ct13 oc14 kV14 dc14 pm14 cd14 ct14 oc15 kV15 dc15 pm15 cd15 ct15 oc16 kV16 dc16 pm16 cd16 ct16 oc17 kV17 dc17 pm17 cd17 ct17 oc18 kV18 dc18 pm18 cd18 ct18 oc19 kV19 dc19 pm19 cd19 ct19 oc20 kV20 dc20 pm20 cd20 ct20 oc21 kV21 dc21 pm21 cd21 ct21 oc22 kV22 dc22 pm22 cd22 ct22 oc23 kV23 dc23 pm23 cd23 ct23 oc24 kV24 dc24 pm24 cd24 ct24 oc25 kV25 dc25 pm25 cd25 ct25 oc26 kV26 dc26 pm26 cd26 ct26 oc27 kV27 dc27 pm27 cd27 ct27 oc28 kV28 dc28 pm28 cd28 ct28:Value}
  {C ab aw as cc:Addr}{esb esw ess:Array DictEntry}{epb epw eps:Nat}{tkm:Tok}{M0:Addr}{vd0 va0:Option Addr}{vs0:Array (Option Value)}{vo0 vk0 vq0 vp0 vc0 vt0:Value}{M1:Addr}{vd1 va1:Option Addr}{vs1:Array (Option Value)}{vo1 vk1 vq1 vp1 vc1 vt1:Value}{M2:Addr}{vd2 va2:Option Addr}{vs2:Array (Option Value)}{vo2 vk2 vq2 vp2 vc2 vt2:Value}{M3:Addr}{vd3 va3:Option Addr}{vs3:Array (Option Value)}{vo3 vk3 vq3 vp3 vc3 vt3:Value}{M4:Addr}{vd4 va4:Option Addr}{vs4:Array (Option Value)}{vo4 vk4 vq4 vp4 vc4 vt4:Value}{M5:Addr}{vd5 va5:Option Addr}{vs5:Array (Option Value)}{vo5 vk5 vq5 vp5 vc5 vt5:Value}{M6:Addr}{vd6 va6:Option Addr}{vs6:Array (Option Value)}{vo6 vk6 vq6 vp6 vc6 vt6:Value}{D:Addr}{ND:Addr}{nmD qD:Str}{bsD subD:List Value}{snD:List Str}{abD:Bool}{colD:Option Bool}{ddD:Option Addr}{noD:Value}{kgD khD kiD kjD kkD:Option Value}{ndD:Option Addr}{esD:Array DictEntry}{enD:Nat}{nlD:Array (Option Value)}{C0 N0:Addr}{nm0 q0:Str}{bs0 sub0:List Value}{sn0:List Str}{ab0:Bool}{col0:Option Bool}{dd0:Option Addr}{ka0 kb0 kc0 kd0 kf0:Option Value}{C1 N1:Addr}{nm1 q1:Str}{bs1 sub1:List Value}{sn1:List Str}{ab1:Bool}{col1:Option Bool}{dd1:Option Addr}{ka1 kb1 kc1 kd1 kf1:Option Value}{C2 N2:Addr}{nm2 q2:Str}{bs2 sub2:List Value}{sn2:List Str}{ab2:Bool}{col2:Option Bool}{dd2:Option Addr}{ka2 kb2 kc2 kd2 kf2:Option Value}{C3 N3:Addr}{nm3 q3:Str}{bs3 sub3:List Value}{sn3:List Str}{ab3:Bool}{col3:Option Bool}{dd3:Option Addr}{ka3 kb3 kc3 kd3 kf3:Option Value}{C4 N4:Addr}{nm4 q4:Str}{bs4 sub4:List Value}{sn4:List Str}{ab4:Bool}{col4:Option Bool}{dd4:Option Addr}{ka4 kb4 kc4 kd4 kf4:Option Value}{C5 N5:Addr}{nm5 q5:Str}{bs5 sub5:List Value}{sn5:List Str}{ab5:Bool}{col5:Option Bool}{dd5:Option Addr}{ka5 kb5 kc5 kd5 kf5:Option Value}{C6 N6:Addr}{nm6 q6:Str}{bs6 sub6:List Value}{sn6:List Str}{ab6:Bool}{col6:Option Bool}{dd6:Option Addr}{ka6 kb6 kc6 kd6 kf6:Option Value}{C7 N7:Addr}{nm7 q7:Str}{bs7 sub7:List Value}{sn7:List Str}{ab7:Bool}{col7:Option Bool}{dd7:Option Addr}{ka7 kb7 kc7 kd7 kf7:Option Value}{C8 N8:Addr}{nm8 q8:Str}{bs8 sub8:List Value}{sn8:List Str}{ab8:Bool}{col8:Option Bool}{dd8:Option Addr}{ka8 kb8 kc8 kd8 kf8:Option Value}{C9 N9:Addr}{nm9 q9:Str}{bs9 sub9:List Value}{sn9:List Str}{ab9:Bool}{col9:Option Bool}{dd9:Option Addr}{ka9 kb9 kc9 kd9 kf9:Option Value}{C10 N10:Addr}{nm10 q10:Str}{bs10 sub10:List Value}{sn10:List Str}{ab10:Bool}{col10:Option Bool}{dd10:Option Addr}{ka10 kb10 kc10 kd10 kf10:Option Value}{C11 N11:Addr}{nm11 q11:Str}{bs11 sub11:List Value}{sn11:List Str}{ab11:Bool}{col11:Option Bool}{dd11:Option Addr}{ka11 kb11 kc11 kd11 kf11:Option Value}{noT:Value}{ndT:Option Addr}{esT:Array DictEntry}{enT:Nat}{nlT:Array (Option Value)}{fT:Addr}{vdT vaT:Option Addr}{vsT:Array (Option Value)}{vkT voT vpT vcT vtT:Value}
  (a1:PySem.W.nsIn K mainGlobals "parts_of"=some (some (.ref f1))) (l1:K.lookup f1=some ⟨oc1,od1,.func (PySem.W.fnOf "parts_of" "parts_of" (ju y6) (jt y6) (ji y6) .none kV1 dc1 pm1 an1 cd1 ct1),sl1⟩) (c1:PySem.W.codeIn K cd1 "parts_of"=true) (k1:PySem.W.keepIn K (.ref f1)=true)
  (a2:PySem.W.nsIn K mainGlobals "with_parts"=some (some (.ref f2))) (l2:K.lookup f2=some ⟨oc2,od2,.func (PySem.W.fnOf "with_parts" "with_parts" (ju yc) (jt yc) (ji yc) .none kV2 dc2 pm2 an2 cd2 ct2),sl2⟩) (c2:PySem.W.codeIn K cd2 "with_parts"=true) (k2:PySem.W.keepIn K (.ref f2)=true)
  (a3:PySem.W.nsIn K mainGlobals "in_order"=some (some (.ref f3))) (l3:K.lookup f3=some ⟨oc3,od3,.func (PySem.W.fnOf "in_order" "in_order" (ju yt) (jt yt) (ji yt) .none kV3 dc3 pm3 an3 cd3 ct3),sl3⟩) (c3:PySem.W.codeIn K cd3 "in_order"=true) (k3:PySem.W.keepIn K (.ref f3)=true)
  (a4:PySem.W.nsIn K mainGlobals "heads_of"=some (some (.ref f4))) (l4:K.lookup f4=some ⟨oc4,od4,.func (PySem.W.fnOf "heads_of" "heads_of" (ju y4) (jt y4) (ji y4) .none kV4 dc4 pm4 an4 cd4 ct4),sl4⟩) (c4:PySem.W.codeIn K cd4 "heads_of"=true) (k4:PySem.W.keepIn K (.ref f4)=true)
  (a5:PySem.W.nsIn K mainGlobals "tidied"=some (some (.ref f5))) (l5:K.lookup f5=some ⟨oc5,od5,.func (PySem.W.fnOf "tidied" "tidied" (ju zy) (jt zy) (ji zy) .none kV5 dc5 pm5 an5 cd5 ct5),sl5⟩) (c5:PySem.W.codeIn K cd5 "tidied"=true) (k5:PySem.W.keepIn K (.ref f5)=true)
  (a6:PySem.W.nsIn K mainGlobals "written"=some (some (.ref f6))) (l6:K.lookup f6=some ⟨oc6,od6,.func (PySem.W.fnOf "written" "written" (ju zq) (jt zq) (ji zq) .none kV6 dc6 pm6 an6 cd6 ct6),sl6⟩) (c6:PySem.W.codeIn K cd6 "written"=true) (k6:PySem.W.keepIn K (.ref f6)=true)
  (a7:PySem.W.nsIn K mainGlobals "signs_of"=some (some (.ref f7))) (l7:K.lookup f7=some ⟨oc7,od7,.func (PySem.W.fnOf "signs_of" "signs_of" (ju y8) (jt y8) (ji y8) .none kV7 dc7 pm7 an7 cd7 ct7),sl7⟩) (c7:PySem.W.codeIn K cd7 "signs_of"=true) (k7:PySem.W.keepIn K (.ref f7)=true)
  (a8:PySem.W.nsIn K mainGlobals "show_expression"=some (some (.ref f8))) (l8:K.lookup f8=some ⟨oc8,od8,.func (PySem.W.fnOf "show_expression" "show_expression" (ju ki) (jt ki) (ji ki) .none kV8 dc8 pm8 an8 cd8 ct8),sl8⟩) (c8:PySem.W.codeIn K cd8 "show_expression"=true) (k8:PySem.W.keepIn K (.ref f8)=true)
  (a9:PySem.W.nsIn K mainGlobals "pieces_of"=some (some (.ref f9))) (l9:K.lookup f9=some ⟨oc9,od9,.func (PySem.W.fnOf "pieces_of" "pieces_of" (ju zf) (jt zf) (ji zf) .none kV9 dc9 pm9 an9 cd9 ct9),sl9⟩) (c9:PySem.W.codeIn K cd9 "pieces_of"=true) (k9:PySem.W.keepIn K (.ref f9)=true)
  (a10:PySem.W.nsIn K mainGlobals "bound_part"=some (some (.ref f10))) (l10:K.lookup f10=some ⟨oc10,od10,.func (PySem.W.fnOf "bound_part" "bound_part" (ju yz) (jt yz) (ji yz) .none kV10 dc10 pm10 an10 cd10 ct10),sl10⟩) (c10:PySem.W.codeIn K cd10 "bound_part"=true) (k10:PySem.W.keepIn K (.ref f10)=true)
  (a11:PySem.W.nsIn K mainGlobals "read_expression"=some (some (.ref f11))) (l11:K.lookup f11=some ⟨oc11,od11,.func (PySem.W.fnOf "read_expression" "read_expression" (ju ky) (jt ky) (ji ky) .none kV11 dc11 pm11 an11 cd11 ct11),sl11⟩) (c11:PySem.W.codeIn K cd11 "read_expression"=true) (k11:PySem.W.keepIn K (.ref f11)=true)
  (a12:PySem.W.nsIn K mainGlobals "row_of_sign"=some (some (.ref f12))) (l12:K.lookup f12=some ⟨oc12,od12,.func (PySem.W.fnOf "row_of_sign" "row_of_sign" (ju yq) (jt yq) (ji yq) .none kV12 dc12 pm12 an12 cd12 ct12),sl12⟩) (c12:PySem.W.codeIn K cd12 "row_of_sign"=true) (k12:PySem.W.keepIn K (.ref f12)=true)
  (a13:PySem.W.nsIn K mainGlobals "_law_box"=some (some (.ref f13))) (l13:K.lookup f13=some ⟨oc13,od13,.func (PySem.W.fnOf "_law_box" "_law_box" (ju zj) (jt zj) (ji zj) .none kV13 dc13 pm13 an13 cd13 ct13),sl13⟩) (c13:PySem.W.codeIn K cd13 "_law_box"=true) (k13:PySem.W.keepIn K (.ref f13)=true)
  (a14:PySem.W.nsIn K mainGlobals "_law_take"=some (some (.ref f14))) (l14:K.lookup f14=some ⟨oc14,od14,.func (PySem.W.fnOf "_law_take" "_law_take" (ju kf) (jt kf) (ji kf) .none kV14 dc14 pm14 an14 cd14 ct14),sl14⟩) (c14:PySem.W.codeIn K cd14 "_law_take"=true) (k14:PySem.W.keepIn K (.ref f14)=true)
  (a15:PySem.W.nsIn K mainGlobals "_law_letters"=some (some (.ref f15))) (l15:K.lookup f15=some ⟨oc15,od15,.func (PySem.W.fnOf "_law_letters" "_law_letters" (ju ym) (jt ym) (ji ym) .none kV15 dc15 pm15 an15 cd15 ct15),sl15⟩) (c15:PySem.W.codeIn K cd15 "_law_letters"=true) (k15:PySem.W.keepIn K (.ref f15)=true)
  (a16:PySem.W.nsIn K mainGlobals "_law_row_at"=some (some (.ref f16))) (l16:K.lookup f16=some ⟨oc16,od16,.func (PySem.W.fnOf "_law_row_at" "_law_row_at" (ju yo) (jt yo) (ji yo) .none kV16 dc16 pm16 an16 cd16 ct16),sl16⟩) (c16:PySem.W.codeIn K cd16 "_law_row_at"=true) (k16:PySem.W.keepIn K (.ref f16)=true)
  (a17:PySem.W.nsIn K mainGlobals "_law_expression"=some (some (.ref f17))) (l17:K.lookup f17=some ⟨oc17,od17,.func (PySem.W.fnOf "_law_expression" "_law_expression" (ju kx) (jt kx) (ji kx) .none kV17 dc17 pm17 an17 cd17 ct17),sl17⟩) (c17:PySem.W.codeIn K cd17 "_law_expression"=true) (k17:PySem.W.keepIn K (.ref f17)=true)
  (a18:PySem.W.nsIn K mainGlobals "_law_chain"=some (some (.ref f18))) (l18:K.lookup f18=some ⟨oc18,od18,.func (PySem.W.fnOf "_law_chain" "_law_chain" (ju yx) (jt yx) (ji yx) .none kV18 dc18 pm18 an18 cd18 ct18),sl18⟩) (c18:PySem.W.codeIn K cd18 "_law_chain"=true) (k18:PySem.W.keepIn K (.ref f18)=true)
  (a19:PySem.W.nsIn K mainGlobals "_law_written"=some (some (.ref f19))) (l19:K.lookup f19=some ⟨oc19,od19,.func (PySem.W.fnOf "_law_written" "_law_written" (ju yf) (jt yf) (ji yf) .none kV19 dc19 pm19 an19 cd19 ct19),sl19⟩) (c19:PySem.W.codeIn K cd19 "_law_written"=true) (k19:PySem.W.keepIn K (.ref f19)=true)
  (a20:PySem.W.nsIn K mainGlobals "_law_fitting"=some (some (.ref f20))) (l20:K.lookup f20=some ⟨oc20,od20,.func (PySem.W.fnOf "_law_fitting" "_law_fitting" (ju yk) (jt yk) (ji yk) .none kV20 dc20 pm20 an20 cd20 ct20),sl20⟩) (c20:PySem.W.codeIn K cd20 "_law_fitting"=true) (k20:PySem.W.keepIn K (.ref f20)=true)
  (a21:PySem.W.nsIn K mainGlobals "_law_sign"=some (some (.ref f21))) (l21:K.lookup f21=some ⟨oc21,od21,.func (PySem.W.fnOf "_law_sign" "_law_sign" (ju yu) (jt yu) (ji yu) .none kV21 dc21 pm21 an21 cd21 ct21),sl21⟩) (c21:PySem.W.codeIn K cd21 "_law_sign"=true) (k21:PySem.W.keepIn K (.ref f21)=true)
  (a22:PySem.W.nsIn K mainGlobals "_law_spoilt"=some (some (.ref f22))) (l22:K.lookup f22=some ⟨oc22,od22,.func (PySem.W.fnOf "_law_spoilt" "_law_spoilt" (ju yp) (jt yp) (ji yp) .none kV22 dc22 pm22 an22 cd22 ct22),sl22⟩) (c22:PySem.W.codeIn K cd22 "_law_spoilt"=true) (k22:PySem.W.keepIn K (.ref f22)=true)
  (a23:PySem.W.nsIn K mainGlobals "_law_free_text"=some (some (.ref f23))) (l23:K.lookup f23=some ⟨oc23,od23,.func (PySem.W.fnOf "_law_free_text" "_law_free_text" (ju ye) (jt ye) (ji ye) .none kV23 dc23 pm23 an23 cd23 ct23),sl23⟩) (c23:PySem.W.codeIn K cd23 "_law_free_text"=true) (k23:PySem.W.keepIn K (.ref f23)=true)
  (a24:PySem.W.nsIn K mainGlobals "_law_wrong_at"=some (some (.ref f24))) (l24:K.lookup f24=some ⟨oc24,od24,.func (PySem.W.fnOf "_law_wrong_at" "_law_wrong_at" (ju ya) (jt ya) (ji ya) .none kV24 dc24 pm24 an24 cd24 ct24),sl24⟩) (c24:PySem.W.codeIn K cd24 "_law_wrong_at"=true) (k24:PySem.W.keepIn K (.ref f24)=true)
  (a25:PySem.W.nsIn K mainGlobals "_law_leaves"=some (some (.ref f25))) (l25:K.lookup f25=some ⟨oc25,od25,.func (PySem.W.fnOf "_law_leaves" "_law_leaves" (ju yi) (jt yi) (ji yi) .none kV25 dc25 pm25 an25 cd25 ct25),sl25⟩) (c25:PySem.W.codeIn K cd25 "_law_leaves"=true) (k25:PySem.W.keepIn K (.ref f25)=true)
  (a26:PySem.W.nsIn K mainGlobals "_law_read"=some (some (.ref f26))) (l26:K.lookup f26=some ⟨oc26,od26,.func (PySem.W.fnOf "_law_read" "_law_read" (ju ze) (jt ze) (ji ze) .none kV26 dc26 pm26 an26 cd26 ct26),sl26⟩) (c26:PySem.W.codeIn K cd26 "_law_read"=true) (k26:PySem.W.keepIn K (.ref f26)=true)
  (a27:PySem.W.nsIn K mainGlobals "_law_right"=some (some (.ref f27))) (l27:K.lookup f27=some ⟨oc27,od27,.func (PySem.W.fnOf "_law_right" "_law_right" (ju yy) (jt yy) (ji yy) .none kV27 dc27 pm27 an27 cd27 ct27),sl27⟩) (c27:PySem.W.codeIn K cd27 "_law_right"=true) (k27:PySem.W.keepIn K (.ref f27)=true)
  (a28:PySem.W.nsIn K mainGlobals "law"=some (some (.ref f28))) (l28:K.lookup f28=some ⟨oc28,od28,.func (PySem.W.fnOf "law" "law" (ju jan) (jt jan) (ji jan) .none kV28 dc28 pm28 an28 cd28 ct28),sl28⟩) (c28:PySem.W.codeIn K cd28 "law"=true) (k28:PySem.W.keepIn K (.ref f28)=true)
  (z_len:PySem.W.nsIn K mainGlobals "len"=some none)
  (z_int:PySem.W.nsIn K mainGlobals "int"=some none)
  (z_range:PySem.W.nsIn K mainGlobals "range"=some none)
  (z_list:PySem.W.nsIn K mainGlobals "list"=some none)
  (z_tuple:PySem.W.nsIn K mainGlobals "tuple"=some none)
  (z_isinstance:PySem.W.nsIn K mainGlobals "isinstance"=some none)
  (z_str:PySem.W.nsIn K mainGlobals "str"=some none)
  (z_bool:PySem.W.nsIn K mainGlobals "bool"=some none)
  (z_enumerate:PySem.W.nsIn K mainGlobals "enumerate"=some none)
  (z_min:PySem.W.nsIn K mainGlobals "min"=some none)
  (z_sum:PySem.W.nsIn K mainGlobals "sum"=some none)
  (z_reversed:PySem.W.nsIn K mainGlobals "reversed"=some none)
  (z_ValueError:PySem.W.nsIn K mainGlobals "ValueError"=some none)
  (aC:PySem.W.nsIn K mainGlobals "Reading"=some (some (.ref C)))
  (Cpg:PySem.W.plainGet K C Str.empty=true)
  (Chd:PySem.W.hasDictIn K C=true)
  (Cpo:PySem.W.plainOver K C=true)
  (Csa:PySem.W.findIn K (.ref C) "__setattr__"=some (some (.builtin "object.__setattr__")))
  (Cmk:PySem.W.makesIn K C=true)
  (Ckp:PySem.W.keepIn K (.ref C)=true)
  (Nrows:PySem.W.findIn K (.ref C) "rows"=some none)
  (Nready:PySem.W.findIn K (.ref C) "ready"=some none)
  (Nwaiting:PySem.W.findIn K (.ref C) "waiting"=some none)
  (Nopened:PySem.W.findIn K (.ref C) "opened"=some none)
  (Ndue:PySem.W.findIn K (.ref C) "due"=some none)
  (fm0:PySem.W.findIn K (.ref C) "__init__"=some (some (.ref M0)))
  (lm0:K.lookup M0=some ⟨vo0,vd0,.func (PySem.W.fnOf "__init__" "Reading.__init__" (ju z8) (jt z8) (ji z8) .none vk0 vq0 vp0 va0 vc0 vt0),vs0⟩)
  (cm0:PySem.W.codeIn K vc0 "Reading.__init__"=true)
  (km0:PySem.W.keepIn K (.ref M0)=true)
  (im0:PySem.W.isFn K (.ref M0)=true)
  (fm1:PySem.W.findIn K (.ref C) "fits"=some (some (.ref M1)))
  (lm1:K.lookup M1=some ⟨vo1,vd1,.func (PySem.W.fnOf "fits" "Reading.fits" (ju z7) (jt z7) (ji z7) .none vk1 vq1 vp1 va1 vc1 vt1),vs1⟩)
  (cm1:PySem.W.codeIn K vc1 "Reading.fits"=true)
  (km1:PySem.W.keepIn K (.ref M1)=true)
  (im1:PySem.W.isFn K (.ref M1)=true)
  (fm2:PySem.W.findIn K (.ref C) "take"=some (some (.ref M2)))
  (lm2:K.lookup M2=some ⟨vo2,vd2,.func (PySem.W.fnOf "take" "Reading.take" (ju jaa) (jt jaa) (ji jaa) .none vk2 vq2 vp2 va2 vc2 vt2),vs2⟩)
  (cm2:PySem.W.codeIn K vc2 "Reading.take"=true)
  (km2:PySem.W.keepIn K (.ref M2)=true)
  (im2:PySem.W.isFn K (.ref M2)=true)
  (fm3:PySem.W.findIn K (.ref C) "wait_for_second"=some (some (.ref M3)))
  (lm3:K.lookup M3=some ⟨vo3,vd3,.func (PySem.W.fnOf "wait_for_second" "Reading.wait_for_second" (ju kn) (jt kn) (ji kn) .none vk3 vq3 vp3 va3 vc3 vt3),vs3⟩)
  (cm3:PySem.W.codeIn K vc3 "Reading.wait_for_second"=true)
  (km3:PySem.W.keepIn K (.ref M3)=true)
  (im3:PySem.W.isFn K (.ref M3)=true)
  (fm4:PySem.W.findIn K (.ref C) "begin_part"=some (some (.ref M4)))
  (lm4:K.lookup M4=some ⟨vo4,vd4,.func (PySem.W.fnOf "begin_part" "Reading.begin_part" (ju yn) (jt yn) (ji yn) .none vk4 vq4 vp4 va4 vc4 vt4),vs4⟩)
  (cm4:PySem.W.codeIn K vc4 "Reading.begin_part"=true)
  (km4:PySem.W.keepIn K (.ref M4)=true)
  (im4:PySem.W.isFn K (.ref M4)=true)
  (fm5:PySem.W.findIn K (.ref C) "bind"=some (some (.ref M5)))
  (lm5:K.lookup M5=some ⟨vo5,vd5,.func (PySem.W.fnOf "bind" "Reading.bind" (ju z6) (jt z6) (ji z6) .none vk5 vq5 vp5 va5 vc5 vt5),vs5⟩)
  (cm5:PySem.W.codeIn K vc5 "Reading.bind"=true)
  (km5:PySem.W.keepIn K (.ref M5)=true)
  (im5:PySem.W.isFn K (.ref M5)=true)
  (fm6:PySem.W.findIn K (.ref C) "put_row"=some (some (.ref M6)))
  (lm6:K.lookup M6=some ⟨vo6,vd6,.func (PySem.W.fnOf "put_row" "Reading.put_row" (ju zh) (jt zh) (ji zh) .none vk6 vq6 vp6 va6 vc6 vt6),vs6⟩)
  (cm6:PySem.W.codeIn K vc6 "Reading.put_row"=true)
  (km6:PySem.W.keepIn K (.ref M6)=true)
  (im6:PySem.W.isFn K (.ref M6)=true)
  (eb:PySem.W.nsIn K mainGlobals "BINDS"=some (some (.ref ab)))
  (lb:K.lookup ab=some {cls:=.type "dict",data:=.dict esb epb})
  (vb:Paired (fun(e:DictEntry) (kv:Key×V)=>∃x t,e.key=.str x t/\e.hash=PyData.keyHash w.params x/\kv.1=.inr x/\RelV kv.2 e.val) esb.toList KB)
  (nb:(KB.map Prod.fst).Nodup)
  (ew:PySem.W.nsIn K mainGlobals "WORDS"=some (some (.ref aw)))
  (lw:K.lookup aw=some {cls:=.type "dict",data:=.dict esw epw})
  (vw:Paired (fun(e:DictEntry) (kv:Key×V)=>∃x t,e.key=.str x t/\e.hash=PyData.keyHash w.params x/\kv.1=.inr x/\RelV kv.2 e.val) esw.toList KW)
  (nw:(KW.map Prod.fst).Nodup)
  (sw:(aw == sysModules)=false)
  (es':PySem.W.nsIn K mainGlobals "SIGNS"=some (some (.ref as)))
  (ls:K.lookup as=some {cls:=.type "dict",data:=.dict ess eps})
  (vs':Paired (fun(e:DictEntry) (kv:Key×V)=>∃x t,e.key=.str x t/\e.hash=PyData.keyHash w.params x/\kv.1=.inr x/\RelV kv.2 e.val) ess.toList KS)
  (ns':(KS.map Prod.fst).Nodup)
  (em:PySem.W.nsIn K mainGlobals "MOST_SIGNS"=some (some (.int 100000 tkm)))
  (ecd:cd8=.ref cc)
  (hcin:PySem.W.codeHdIn K cc 266=true)
  (aD:PySem.W.nsIn K mainGlobals "CalmError"=some (some (.ref D)))
  (lD:K.lookup D=some (excClassObj nmD qD D ND bsD bmVE true snD subD abD colD ddD kgD khD kiD kjD kkD "ValueError.__new__"))
  (lnD:K.lookup ND=some ⟨noD,ndD,.dict esD enD,nlD⟩)
  (eoD:(esD.all λe=>match e.key with|.str _ _=>true|_=>false)=true)
  (inD:PySem.W.nsIn K ND "__init__"=some none)
  (spD:PySem.W.specialIn K (.ref D) "__getattribute__"=some (some (.builtin "type.__getattribute__")))
  (rdD:PySem.W.readsIn K D (.type "type")=true)
  (fcD:PySem.W.findCls K (.ref D) (.type "type") "__init__"=some (.val (.builtin "ValueError.__init__")))
  (tyD:PySem.W.typeIn K (.ref D)=some (.type "type"))
  (ac0:PySem.W.nsIn K mainGlobals "BadText"=some (some (.ref C0)))
  (lc0:K.lookup C0=some (excClassObj nm0 q0 C0 N0 bs0 (.ref D::bmVE) true sn0 sub0 ab0 col0 dd0 ka0 kb0 kc0 kd0 kf0 "ValueError.__new__"))
  (ac1:PySem.W.nsIn K mainGlobals "BadLetters"=some (some (.ref C1)))
  (lc1:K.lookup C1=some (excClassObj nm1 q1 C1 N1 bs1 (.ref D::bmVE) true sn1 sub1 ab1 col1 dd1 ka1 kb1 kc1 kd1 kf1 "ValueError.__new__"))
  (ty1:PySem.W.typeIn K (.ref C1)=some (.type "type"))
  (ac2:PySem.W.nsIn K mainGlobals "BadRoom"=some (some (.ref C2)))
  (lc2:K.lookup C2=some (excClassObj nm2 q2 C2 N2 bs2 (.ref D::bmVE) true sn2 sub2 ab2 col2 dd2 ka2 kb2 kc2 kd2 kf2 "ValueError.__new__"))
  (ty2:PySem.W.typeIn K (.ref C2)=some (.type "type"))
  (ac3:PySem.W.nsIn K mainGlobals "BadRow"=some (some (.ref C3)))
  (lc3:K.lookup C3=some (excClassObj nm3 q3 C3 N3 bs3 (.ref D::bmVE) true sn3 sub3 ab3 col3 dd3 ka3 kb3 kc3 kd3 kf3 "ValueError.__new__"))
  (ty3:PySem.W.typeIn K (.ref C3)=some (.type "type"))
  (ac4:PySem.W.nsIn K mainGlobals "NoLetter"=some (some (.ref C4)))
  (lc4:K.lookup C4=some (excClassObj nm4 q4 C4 N4 bs4 (.ref D::bmVE) true sn4 sub4 ab4 col4 dd4 ka4 kb4 kc4 kd4 kf4 "ValueError.__new__"))
  (ty4:PySem.W.typeIn K (.ref C4)=some (.type "type"))
  (ac5:PySem.W.nsIn K mainGlobals "NotCalm"=some (some (.ref C5)))
  (lc5:K.lookup C5=some (excClassObj nm5 q5 C5 N5 bs5 (.ref D::bmVE) true sn5 sub5 ab5 col5 dd5 ka5 kb5 kc5 kd5 kf5 "ValueError.__new__"))
  (ty5:PySem.W.typeIn K (.ref C5)=some (.type "type"))
  (ac6:PySem.W.nsIn K mainGlobals "NotClosed"=some (some (.ref C6)))
  (lc6:K.lookup C6=some (excClassObj nm6 q6 C6 N6 bs6 (.ref D::bmVE) true sn6 sub6 ab6 col6 dd6 ka6 kb6 kc6 kd6 kf6 "ValueError.__new__"))
  (ty6:PySem.W.typeIn K (.ref C6)=some (.type "type"))
  (ac7:PySem.W.nsIn K mainGlobals "NoName"=some (some (.ref C7)))
  (lc7:K.lookup C7=some (excClassObj nm7 q7 C7 N7 bs7 (.ref D::bmVE) true sn7 sub7 ab7 col7 dd7 ka7 kb7 kc7 kd7 kf7 "ValueError.__new__"))
  (ty7:PySem.W.typeIn K (.ref C7)=some (.type "type"))
  (ac8:PySem.W.nsIn K mainGlobals "NoRow"=some (some (.ref C8)))
  (lc8:K.lookup C8=some (excClassObj nm8 q8 C8 N8 bs8 (.ref D::bmVE) true sn8 sub8 ab8 col8 dd8 ka8 kb8 kc8 kd8 kf8 "ValueError.__new__"))
  (ty8:PySem.W.typeIn K (.ref C8)=some (.type "type"))
  (ac9:PySem.W.nsIn K mainGlobals "OtherLetters"=some (some (.ref C9)))
  (lc9:K.lookup C9=some (excClassObj nm9 q9 C9 N9 bs9 (.ref D::bmVE) true sn9 sub9 ab9 col9 dd9 ka9 kb9 kc9 kd9 kf9 "ValueError.__new__"))
  (ty9:PySem.W.typeIn K (.ref C9)=some (.type "type"))
  (ac10:PySem.W.nsIn K mainGlobals "TooLong"=some (some (.ref C10)))
  (lc10:K.lookup C10=some (excClassObj nm10 q10 C10 N10 bs10 (.ref D::bmVE) true sn10 sub10 ab10 col10 dd10 ka10 kb10 kc10 kd10 kf10 "ValueError.__new__"))
  (ty10:PySem.W.typeIn K (.ref C10)=some (.type "type"))
  (ac11:PySem.W.nsIn K mainGlobals "TooMany"=some (some (.ref C11)))
  (lc11:K.lookup C11=some (excClassObj nm11 q11 C11 N11 bs11 (.ref D::bmVE) true sn11 sub11 ab11 col11 dd11 ka11 kb11 kc11 kd11 kf11 "ValueError.__new__"))
  (ty11:PySem.W.typeIn K (.ref C11)=some (.type "type"))
  (lnT:K.lookup N0=some ⟨noT,ndT,.dict esT enT,nlT⟩)
  (eoT:(esT.all λe=>match e.key with|.str _ _=>true|_=>false)=true)
  (saT:PySem.W.findIn K (.ref C0) "__setattr__"=some (some (.builtin "object.__setattr__")))
  (gaT:PySem.W.findIn K (.ref C0) "__getattribute__"=some (some (.builtin "BaseException.__getattribute__")))
  (gxT:PySem.W.findIn K (.ref C0) "__getattr__"=some none)
  (kpT:PySem.W.keepIn K (.ref C0)=true)
  (ccT:PySem.W.findIn K (.ref C0) "__class__"=some (some (.builtin "object.__class__")))
  (obT:PySem.W.mroIn K C0 (.type "object")=some true)
  (inT:PySem.W.nsIn K N0 "__init__"=some (some (.ref fT)))
  (lfT:K.lookup fT=some ⟨.type "function",vdT,.func (PySem.W.fnOf "__init__" "BadText.__init__" (ju yh) (jt yh) (ji yh) .none vkT voT vpT vaT vcT vtT),vsT⟩)
  (cfT:PySem.W.codeIn K vcT "BadText.__init__"=true)
  (kqT:PySem.W.keepIn K (.ref fT)=true)
  (qfT:PySem.W.findIn K (.ref C0) "at"=some none)
  (apart:List.Nodup [C0,C1,C2,C3,C4,C5,C6,C7,C8,C9,C10,C11,D])
  : ∃fd:FuncData,(∀(s:Shared)(v:Value),BindsTo s fd ⟨[v],[]⟩ [("_law_script",v)])/\∀base:Heap,K.In base->base.Ns mainGlobals mg->(∀t∈[266],base.BuiltinsAt mg t)->FnOk l.prog w K mg base CX0 64 fa fd ["_law_script"] (jhc K 266):=by
 have e:=hfa.symm.trans (Al X G a28)
 cases e
 have F23z:=jcn (st:=y6) l1 c1 k1
 have m23z:=Al X G a1
 have b23z:=F23z.binds (ps:=["row"]) λ_ _ _ _ _ _=>us1 λ_=>rfl
 have F5z:=jcn (st:=yc) l2 c2 k2
 have m5z:=Al X G a2
 have b5z:=F5z.binds (ps:=["row","numbers"]) λ_ _ _ _ _ _=>us2 λ_ _=>rfl
 have F22z:=jcn (st:=yt) l3 c3 k3
 have m22z:=Al X G a3
 have b22z:=F22z.binds (ps:=["rows"]) λ_ _ _ _ _ _=>us1 λ_=>rfl
 have F21z:=jcn (st:=y4) l4 c4 k4
 have m21z:=Al X G a4
 have b21z:=F21z.binds (ps:=["rows"]) λ_ _ _ _ _ _=>us1 λ_=>rfl
 have F29z:=jcn (st:=zy) l5 c5 k5
 have m29z:=Al X G a5
 have b29z:=F29z.binds (ps:=["expression"]) λ_ _ _ _ _ _=>us1 λ_=>rfl
 have F2z:=jcn (st:=zq) l6 c6 k6
 have m2z:=Al X G a6
 have b2z:=F2z.binds (ps:=["rows","pieces"]) λ_ _ _ _ _ _=>us2 λ_ _=>rfl
 have F28z:=jcn (st:=y8) l7 c7 k7
 have m28z:=Al X G a7
 have b28z:=F28z.binds (ps:=["rows","pieces"]) λ_ _ _ _ _ _=>us2 λ_ _=>rfl
 have F27z:=jcn (st:=ki) l8 c8 k8
 have m27z:=Al X G a8
 have b27z:=F27z.binds (ps:=["expression"]) λ_ _ _ _ _ _=>us1 λ_=>rfl
 have F24z:=jcn (st:=zf) l9 c9 k9
 have m24z:=Al X G a9
 have b24z:=F24z.binds (ps:=["expression","row"]) λ_ _ _ _ _ _=>us2 λ_ _=>rfl
 have F9z:=jcn (st:=yz) l10 c10 k10
 have m9z:=Al X G a10
 have b9z:=F9z.binds (ps:=["expression","number","binds"]) λ_ _ _ _ _ _=>us3 λ_ _ _=>rfl
 have F25z:=jcn (st:=ky) l11 c11 k11
 have m25z:=Al X G a11
 have b25z:=F25z.binds (ps:=["text"]) λ_ _ _ _ _ _=>us1 λ_=>rfl
 have F26z:=jcn (st:=yq) l12 c12 k12
 have m26z:=Al X G a12
 have b26z:=F26z.binds (ps:=["sign"]) λ_ _ _ _ _ _=>us1 λ_=>rfl
 have F10z:=jcn (st:=zj) l13 c13 k13
 have m10z:=Al X G a13
 have b10z:=F10z.binds (ps:=["_law_script","_law_k"]) λ_ _ _ _ _ _=>us2 λ_ _=>rfl
 have F1z:=jcn (st:=kf) l14 c14 k14
 have m1z:=Al X G a14
 have b1z:=F1z.binds (ps:=["_law_box_here","_law_wide"]) λ_ _ _ _ _ _=>us2 λ_ _=>rfl
 have F18z:=jcn (st:=ym) l15 c15 k15
 have m18z:=Al X G a15
 have b18z:=F18z.binds (ps:=["_law_box_here","_law_most"]) λ_ _ _ _ _ _=>us2 λ_ _=>rfl
 have F12z:=jcn (st:=yo) l16 c16 k16
 have m12z:=Al X G a16
 have b12z:=F12z.binds (ps:=["_law_box_here","_law_k"]) λ_ _ _ _ _ _=>us2 λ_ _=>rfl
 have F15z:=jcn (st:=kx) l17 c17 k17
 have m15z:=Al X G a17
 have b15z:=F15z.binds (ps:=["_law_box_here","_law_letters_here","_law_most"]) λ_ _ _ _ _ _=>us3 λ_ _ _=>rfl
 have F14z:=jcn (st:=yx) l18 c18 k18
 have m14z:=Al X G a18
 have b14z:=F14z.binds (ps:=["_law_box_here","_law_letters_here","_law_most"]) λ_ _ _ _ _ _=>us3 λ_ _ _=>rfl
 have F3z:=jcn (st:=yf) l19 c19 k19
 have m3z:=Al X G a19
 have b3z:=F3z.binds (ps:=["_law_rows","_law_at","_law_bond"]) λ_ _ _ _ _ _=>us3 λ_ _ _=>rfl
 have F16z:=jcn (st:=yk) l20 c20 k20
 have m16z:=Al X G a20
 have b16z:=F16z.binds (ps:=["_law_rows","_law_most"]) λ_ _ _ _ _ _=>us2 λ_ _=>rfl
 have F4z:=jcn (st:=yu) l21 c21 k21
 have m4z:=Al X G a21
 have b4z:=F4z.binds (ps:=["_law_box_here"]) λ_ _ _ _ _ _=>us1 λ_=>rfl
 have F20z:=jcn (st:=yp) l22 c22 k22
 have m20z:=Al X G a22
 have b20z:=F20z.binds (ps:=["_law_box_here","_law_text"]) λ_ _ _ _ _ _=>us2 λ_ _=>rfl
 have F17z:=jcn (st:=ye) l23 c23 k23
 have m17z:=Al X G a23
 have b17z:=F17z.binds (ps:=["_law_box_here"]) λ_ _ _ _ _ _=>us1 λ_=>rfl
 have F7z:=jcn (st:=ya) l24 c24 k24
 have m7z:=Al X G a24
 have b7z:=F7z.binds (ps:=["_law_text"]) λ_ _ _ _ _ _=>us1 λ_=>rfl
 have F11z:=jcn (st:=yi) l25 c25 k25
 have m11z:=Al X G a25
 have b11z:=F11z.binds (ps:=["_law_text"]) λ_ _ _ _ _ _=>us1 λ_=>rfl
 have F19z:=jcn (st:=ze) l26 c26 k26
 have m19z:=Al X G a26
 have b19z:=F19z.binds (ps:=["_law_text"]) λ_ _ _ _ _ _=>us1 λ_=>rfl
 have F6z:=jcn (st:=yy) l27 c27 k27
 have m6z:=Al X G a27
 have b6z:=F6z.binds (ps:=["_law_text"]) λ_ _ _ _ _ _=>us1 λ_=>rfl
 have F_law:=jcn (st:=jan) l28 c28 k28
 have m_law:=Al X G a28
 have b_law:=F_law.binds (ps:=["_law_script"]) λ_ _ _ _ _ _=>us1 λ_=>rfl
 have n_len:=A9 X G z_len
 have n_int:=A9 X G z_int
 have n_range:=A9 X G z_range
 have n_list:=A9 X G z_list
 have n_tuple:=A9 X G z_tuple
 have n_isinstance:=A9 X G z_isinstance
 have n_str:=A9 X G z_str
 have n_bool:=A9 X G z_bool
 have n_enumerate:=A9 X G z_enumerate
 have n_min:=A9 X G z_min
 have n_sum:=A9 X G z_sum
 have n_reversed:=A9 X G z_reversed
 have n_ValueError:=A9 X G z_ValueError
 refine⟨PySem.W.fnOf "law" "law" (ju jan) (jt jan) (ji jan) .none kV28 dc28 pm28 an28 cd28 ct28,λs v=>.of_eq rfl,λbase kb0 _ hbt=>?_⟩
 have nsD:PySem.W.nsOkIn K ND=true:=jo3 lnD eoD
 have tl:PySem.W.tailIn K bmVE (.ref D::bmVE)=true:=jp9 lD nsD inD
 have nsT:PySem.W.nsOkIn K N0=true:=jo3 lnT eoT
 simp only[Ov,Aw,Ap,Wl,not_or,Wk,and_true,not_false_eq_true]at apart
 obtain⟨⟨n_0_1,n_0_2,n_0_3,n_0_4,n_0_5,n_0_6,n_0_7,n_0_8,n_0_9,n_0_10,n_0_11,n_0_D⟩,⟨n_1_2,n_1_3,n_1_4,n_1_5,n_1_6,n_1_7,n_1_8,n_1_9,n_1_10,n_1_11,n_1_D⟩,⟨n_2_3,n_2_4,n_2_5,n_2_6,n_2_7,n_2_8,n_2_9,n_2_10,n_2_11,n_2_D⟩,⟨n_3_4,n_3_5,n_3_6,n_3_7,n_3_8,n_3_9,n_3_10,n_3_11,n_3_D⟩,⟨n_4_5,n_4_6,n_4_7,n_4_8,n_4_9,n_4_10,n_4_11,n_4_D⟩,⟨n_5_6,n_5_7,n_5_8,n_5_9,n_5_10,n_5_11,n_5_D⟩,⟨n_6_7,n_6_8,n_6_9,n_6_10,n_6_11,n_6_D⟩,⟨n_7_8,n_7_9,n_7_10,n_7_11,n_7_D⟩,⟨n_8_9,n_8_10,n_8_11,n_8_D⟩,⟨n_9_10,n_9_11,n_9_D⟩,⟨n_10_11,n_10_D⟩,n_11_D⟩:=apart
 have cX:XC K C0 D N0:=⟨⟨_,_,_,_,_,_,_,_,_,_,_,_,_,lc0⟩,tl,nsT,saT,gaT,gxT,kpT⟩
 have kT:KCl K C0 D N0 "at" [C1,C2,C3,C4,C5,C6,C7,C8,C9,C10,C11]:=⟨cX,⟨ccT,obT⟩,qfT,λo ho=>by
  simp only[Aw,Ap,Wl]at ho
  rcases ho with rfl|rfl|rfl|rfl|rfl|rfl|rfl|rfl|rfl|rfl|rfl
  ·exact jdg lc0 lc1 ty1 n_0_1 n_1_D
  ·exact jdg lc0 lc2 ty2 n_0_2 n_2_D
  ·exact jdg lc0 lc3 ty3 n_0_3 n_3_D
  ·exact jdg lc0 lc4 ty4 n_0_4 n_4_D
  ·exact jdg lc0 lc5 ty5 n_0_5 n_5_D
  ·exact jdg lc0 lc6 ty6 n_0_6 n_6_D
  ·exact jdg lc0 lc7 ty7 n_0_7 n_7_D
  ·exact jdg lc0 lc8 ty8 n_0_8 n_8_D
  ·exact jdg lc0 lc9 ty9 n_0_9 n_9_D
  ·exact jdg lc0 lc10 ty10 n_0_10 n_10_D
  ·exact jdg lc0 lc11 ty11 n_0_11 n_11_D⟩
 have xt:XT K C0:=⟨_,_,_,_,_,_,_,_,_,_,_,_,_,_,_,_,_,lc0,by rw[Os];exact(Bool.or_eq_true _ _).mpr (.inr (by decide))⟩
 have kDT:=jrh lc0 lD tyD n_0_D
 have kVT:=jri lc0
 have m_CalmError:=Al X G aD
 have m_BadText:=Al X G ac0
 have m_BadLetters:=Al X G ac1
 have m_BadRoom:=Al X G ac2
 have m_BadRow:=Al X G ac3
 have m_NoLetter:=Al X G ac4
 have m_NotCalm:=Al X G ac5
 have m_NotClosed:=Al X G ac6
 have m_NoName:=Al X G ac7
 have m_NoRow:=Al X G ac8
 have m_OtherLetters:=Al X G ac9
 have m_TooLong:=Al X G ac10
 have m_TooMany:=Al X G ac11
 have F_T:=jcn (st:=yh) lfT cfT kqT
 have b_T:=F_T.binds (ps:=["self","at"]) λ_ _ _ _ _ _ us hl=>match us,hl with|[_,_],_=>rfl
 have G_T:=ok_BadText__init__ (P:=l.prog) (w:=w) (base:=base) F_T ⟨m_CalmError,⟨spD,rdD,fcD⟩⟩
 have hd:PySem.W.CodeHd base cc 266:=PySem.W.codeHd_of_K kb0 hcin
 have ss:PySem.W.kitOne K (.type "str") (.type "str")=some true:=Ad (by simp)
 have ii:PySem.W.kitOne K (.type "int") (.type "int")=some true:=Ad (by simp)
 have tt:PySem.W.kitOne K (.type "tuple") (.type "tuple")=some true:=Ad (by simp)
 have ll:PySem.W.kitOne K (.type "list") (.type "list")=some true:=Ad (by simp)
 have is_:PySem.W.kitOne K (.type "int") (.type "str")=some false:=by
  unfold PySem.W.kitOne
  rw[Aa (by decide)]
  unfold PySem.W.kitCls
  first|rfl|decide +kernel|simp
 have si:PySem.W.kitOne K (.type "str") (.type "int")=some false:=by
  unfold PySem.W.kitOne
  rw[Aa (by decide)]
  unfold PySem.W.kitCls
  first|rfl|decide +kernel|simp
 have ib:PySem.W.kitOne K (.type "int") (.type "bool")=some false:=by
  unfold PySem.W.kitOne
  rw[Aa (by decide)]
  unfold PySem.W.kitCls
  first|rfl|decide +kernel|simp
 have sb:PySem.W.kitOne K (.type "str") (.type "bool")=some false:=by
  unfold PySem.W.kitOne
  rw[Aa (by decide)]
  unfold PySem.W.kitCls
  first|rfl|decide +kernel|simp
 have hT:TPa K mg:=⟨n_isinstance,n_int,n_str,n_tuple,n_bool,ii,si,ss,is_,ib,tt⟩
 have ia:PySem.W.kitAny K (.type "int") [.type "int",.type "str"]=some true:=by unfold PySem.W.kitAny;rw[ii]
 have sa:PySem.W.kitAny K (.type "str") [.type "int",.type "str"]=some true:=by unfold PySem.W.kitAny;rw[si];show PySem.W.kitAny K (.type "str") [.type "str"]=_;unfold PySem.W.kitAny;rw[ss]
 have m_Reading:=Al X G aC
 have m_BINDS:=Al X G eb
 have m_WORDS:=Al X G ew
 have kb:KDict l.prog w K ab KB:=jgf lb vb nb
 have kw:KDict l.prog w K aw KW:=jgf lw vw nw
 have cls:Cls K C:=⟨Cpg,Chd,Cpo,Csa⟩
 have rc:RC K C:=⟨cls,Nrows,Nready,Nwaiting,Nopened,Ndue⟩
 have F33z:=jcn (st:=z8) lm0 cm0 km0
 have b33z:=F33z.binds (ps:=["self"]) λ_ _ _ _ _ _=>us1 λ_=>rfl
 have F32z:=jcn (st:=z7) lm1 cm1 km1
 have b32z:=F32z.binds (ps:=["self","sign"]) λ_ _ _ _ _ _=>us2 λ_ _=>rfl
 have d_fits:Meth K C "fits" M1:=⟨fm1,im1,km1⟩
 have F0z:=jcn (st:=jaa) lm2 cm2 km2
 have b0z:=F0z.binds (ps:=["self","sign"]) λ_ _ _ _ _ _=>us2 λ_ _=>rfl
 have d_take:Meth K C "take" M2:=⟨fm2,im2,km2⟩
 have F30z:=jcn (st:=kn) lm3 cm3 km3
 have b30z:=F30z.binds (ps:=["self","word"]) λ_ _ _ _ _ _=>us2 λ_ _=>rfl
 have d_wait_for_second:Meth K C "wait_for_second" M3:=⟨fm3,im3,km3⟩
 have F31z:=jcn (st:=yn) lm4 cm4 km4
 have b31z:=F31z.binds (ps:=["self","sign"]) λ_ _ _ _ _ _=>us2 λ_ _=>rfl
 have d_begin_part:Meth K C "begin_part" M4:=⟨fm4,im4,km4⟩
 have F8z:=jcn (st:=z6) lm5 cm5 km5
 have b8z:=F8z.binds (ps:=["self","binds"]) λ_ _ _ _ _ _=>us2 λ_ _=>rfl
 have d_bind:Meth K C "bind" M5:=⟨fm5,im5,km5⟩
 have F13z:=jcn (st:=zh) lm6 cm6 km6
 have b13z:=F13z.binds (ps:=["self","row"]) λ_ _ _ _ _ _=>us2 λ_ _=>rfl
 have d_put_row:Meth K C "put_row" M6:=⟨fm6,im6,km6⟩
 have mkR:Mk K C M0:=⟨Cmk,fm0,im0,Ckp⟩
 have g1z:=ok__law_take (P:=l.prog) (w:=w) (mg:=mg) (base:=base) F1z
 have g10z:=ok__law_box (P:=l.prog) (w:=w) (base:=base) F10z ⟨n_len,n_int⟩
 have g18z:=ok__law_letters (P:=l.prog) (w:=w) (base:=base) F18z ⟨n_len,n_list,n_range,m1z⟩ F1z b1z g1z
 have g12z:=ok__law_row_at (P:=l.prog) (w:=w) (base:=base) F12z ⟨m1z⟩ F1z b1z g1z
 have g15z:=ok__law_expression (P:=l.prog) (w:=w) (base:=base) F15z ⟨n_range,n_len,n_tuple,m1z,m12z⟩ F1z b1z g1z F12z b12z g12z
 have g14z:=ok__law_chain (P:=l.prog) (w:=w) (base:=base) F14z ⟨n_range,n_len,n_tuple,m1z⟩ F1z b1z g1z
 have g23z:=ok_parts_of (P:=l.prog) (w:=w) (base:=base) F23z hT
 have g5z:=ok_with_parts (P:=l.prog) (w:=w) (base:=base) F5z hT
 have g21z:=ok_heads_of (P:=l.prog) (w:=w) (base:=base) F21z ⟨n_enumerate,m5z⟩ F5z b5z g5z
 have g22z:=ok_in_order (P:=l.prog) (w:=w) (base:=base) F22z ⟨n_len,n_tuple,m21z,m5z,m23z⟩ F21z b21z g21z F5z b5z g5z F23z b23z g23z
 have g29z:=ok_tidied (P:=l.prog) (w:=w) (base:=base) F29z ⟨m22z⟩ F22z b22z g22z
 have g26z:=ok_row_of_sign (P:=l.prog) (w:=w) (mg:=mg) (base:=base) F26z
 have g13z:=ok_put_row (P:=l.prog) (w:=w) (base:=base) F13z ⟨n_len,rc⟩
 have g8z:=ok_bind (P:=l.prog) (w:=w) (base:=base) F8z ⟨rc,cls,m_BINDS,kb,d_put_row⟩ b13z g13z
 have g30z:=ok_wait_for_second (P:=l.prog) (w:=w) (base:=base) F30z ⟨rc,cls,m_BINDS,kb,d_bind⟩ b8z g8z
 have g31z:=ok_begin_part (P:=l.prog) (w:=w) (base:=base) F31z ⟨rc,cls,m26z,d_put_row⟩ F26z b26z g26z b13z g13z
 have g0z:=ok_take (P:=l.prog) (w:=w) (base:=base) F0z ⟨rc,cls,m_BINDS,kb,m_WORDS,kw,sw,d_bind,d_wait_for_second,d_begin_part⟩ b8z g8z b30z g30z b31z g31z
 have g32z:=ok_fits (P:=l.prog) (w:=w) (base:=base) F32z ⟨rc,m_WORDS,kw,sw⟩
 have g33z:=ok_init (P:=l.prog) (w:=w) (mg:=mg) (base:=base) F33z rc
 have g25z:=ok_read_expression (P:=l.prog) (w:=w) (base:=base) F25z ⟨rc,cls,mkR,m_Reading,n_enumerate,n_tuple,n_len,m_BINDS,kb,m29z,d_fits,d_take,d_bind,m_BadText,cX,inT,⟨_,lfT,rfl⟩,qfT⟩ b_T G_T b33z g33z b32z g32z b0z g0z b8z g8z F29z b29z g29z
 have m_SIGNS:=Al X G es'
 have m_MOST:=Al X G em
 have kS:KDict l.prog w K as KS:=jgf ls vs' ns'
 have g9z:=ok_bound_part (P:=l.prog) (w:=w) (base:=base) F9z ⟨m_BINDS,kb⟩
 have g24z:=ok_pieces_of (P:=l.prog) (w:=w) (base:=base) F24z ⟨m_BINDS,m_SIGNS,m9z,kb,kS⟩ F9z b9z g9z
 have g28z:=ok_signs_of (P:=l.prog) (w:=w) (base:=base) F28z ⟨n_isinstance,n_min,n_len,n_sum,n_str,m_MOST,ss,is_⟩
 have g2z:=ok_written (P:=l.prog) (w:=w) (base:=base) F2z ⟨n_isinstance,n_list,n_reversed,n_len,n_str,m_MOST,m28z⟩ ss is_ F28z b28z g28z
 have g27z:=ok_show_expression (P:=l.prog) (w:=w) (base:=base) (Pt:=266) F27z ⟨m2z,m24z,rfl,hd,hbt 266 (.head _)⟩ ecd F2z b2z g2z F24z b24z g24z
 have g3z:=ok__law_written (P:=l.prog) (w:=w) (base:=base) F3z ⟨m3z⟩ b3z
 have g16z:=ok__law_fitting (P:=l.prog) (w:=w) (base:=base) F16z ⟨n_len,m3z⟩ F3z b3z g3z
 have g11z:=ok__law_leaves (P:=l.prog) (w:=w) (mg:=mg) (base:=base) F11z
 have g7z:=ok__law_wrong_at (P:=l.prog) (w:=w) (base:=base) F7z ⟨n_enumerate,n_int,n_len⟩
 have g4z:=ok__law_sign (P:=l.prog) (w:=w) (base:=base) F4z ⟨n_len,m1z⟩ F1z b1z g1z
 have g20z:=ok__law_spoilt (P:=l.prog) (w:=w) (base:=base) F20z ⟨n_len,m1z,m4z⟩ F1z b1z g1z F4z b4z g4z
 have g17z:=ok__law_free_text (P:=l.prog) (w:=w) (base:=base) F17z ⟨n_len,n_range,m1z,m4z,m7z⟩ F1z b1z g1z F4z b4z g4z F7z b7z g7z
 have g19z:=ok__law_read (P:=l.prog) (w:=w) (base:=base) F19z ⟨n_isinstance,n_ValueError,m25z,m_CalmError,m_BadText,xt,m_BadLetters,m_BadRoom,m_BadRow,m_NoLetter,m_NotCalm,m_NotClosed,m_NoName,m_NoRow,m_OtherLetters,m_TooLong,m_TooMany,kT,kDT,kVT⟩ F25z b25z g25z
 have g6z:=ok__law_right (P:=l.prog) (w:=w) (base:=base) F6z ⟨n_isinstance,n_tuple,n_list,n_bool,tt,ll,ib,m7z,m19z,m11z,m27z⟩ F7z b7z g7z F19z b19z g19z F11z b11z g11z F27z b27z g27z
 exact ok_law F_law ⟨n_range,n_len,m10z,m18z,m15z,m1z,m14z,m16z,m3z,m6z,m20z,m17z⟩ F10z b10z g10z F18z b18z g18z F15z b15z g15z F1z b1z g1z F14z b14z g14z F16z b16z g16z F3z b3z g3z F6z b6z g6z F20z b20z g20z F17z b17z g17z
theorem jrq{K:PySem.W.Frag}{H:Hp}{a t:Addr}{xs:List V}{ps:Array Value}(hS:SqL K H a xs)(hT:H t=some (.tbl ps))(hK:K.lookup t=none):a≠t:=by
 rintro rfl
 rcases hS with(h|⟨o,h⟩)|⟨o,its,n,h,_⟩
 ·rw[hT]at h;cases h
 ·rw[hT]at h;cases h
 ·rw[hK]at h;cases h
theorem walk{l:PySem.W.OpenLaw}{q:Program}{loose:List Str}{XP:(Str->Option Value)->Heap->Prop}{YP:World->Heap->Prop}{d:DefRec}{K:Params->PySem.W.Frag}(hn:l.most=some 63)(hdf:d.params.defaults=[])
  (hY:∀(w:World)(h:Heap),YP w h->(K w.params).In h) (hT:∀(w:World)(h:Heap),YP w h->∀t∈[266],h.get? t=some (PySem.W.tabObj #[]))
  (hC:∀(w:World)(h:Heap),(K w.params).In h->∀t∈[266],∃c,PySem.W.CodeHd h c t) (hN:∀w:World,∀t∈[266],(K w.params).lookup t=none)
  (F:∀(w:World)(mg:Str->Option Value)(fa:Addr)(h:Heap),(K w.params).In h->h.Ns mainGlobals mg->mg d.name=some (.ref fa) ->
   ∃fd:FuncData,(∀(s:Shared)(u:Value),BindsTo s fd ⟨[u],[]⟩ [("_law_script",u)])/\∀base:Heap,(K w.params).In base->base.Ns mainGlobals mg->(∀t∈[266],base.BuiltinsAt mg t)->FnOk l.prog w (K w.params) mg base CX0 64 fa fd ["_law_script"] (jhc (K w.params) 266)) :
  PySem.W.WalkO q loose XP YP l.row.toRowW d [] (λf vs=>PySem.call f vs) :=
 L2.walk_ofT (n:=63) (k:=64) (x:="_law_script") (ts:=[266]) (CX:=λ_=>CX0) (sp:=λw=>jhc (K w.params) 266) hn (by decide) hdf ⟨rfl,by decide,by decide,rfl⟩ hY hT hC hN F (λw _ a ns hl hS hT=>⟨a,ns,rfl,hS,hl,jrq hS (hT 266 (.head _)) (hN w 266 (.head _)),⟨#[],hT 266 (.head _),trivial,λp cv e=>by cases e⟩,λ_=>rfl⟩) λ_ _ _ _ _ z=>z
end My
theorem PySem.W.Fast.tw7584674488051954718:True:=trivial
theorem PySem.W.Fast.tw6629595149990535692:True:=trivial
theorem PySem.W.Fast.tw4678007664336663897:True:=trivial
theorem PySem.W.Fast.tw3509384043035411776:True:=trivial
theorem PySem.W.Fast.tw5278143964885375985:True:=trivial
theorem PySem.W.Fast.tw18322336271128343867:True:=trivial
theorem PySem.W.Fast.tw6792356301798648884:True:=trivial
theorem PySem.W.Fast.tw9652267055051256271:True:=trivial
theorem PySem.W.Fast.tw1507264864689372676:True:=trivial
theorem PySem.W.Fast.tw4737617616779431129:True:=trivial
theorem PySem.W.Fast.tw4010460832351668050:True:=trivial
theorem PySem.W.Fast.tw13754718763120025688:True:=trivial
theorem PySem.W.Fast.tw15114602909550498337:True:=trivial
theorem PySem.W.Fast.tw9388469118856919444:True:=trivial
theorem PySem.W.Fast.tw7167265795108331105:True:=trivial
theorem PySem.W.Fast.tw3496107903585233693:True:=trivial
theorem PySem.W.Fast.tw5139967272315362516:True:=trivial
theorem PySem.W.Fast.tw5099537671294143990:True:=trivial
theorem PySem.W.Fast.tw4342969891829109257:True:=trivial
theorem PySem.W.Fast.tw328330392452729956:True:=trivial
theorem PySem.W.Fast.tw7041865105445433103:True:=trivial
theorem PySem.W.Fast.tw14033257042406339414:True:=trivial
theorem PySem.W.Fast.tw4490665335487286689:True:=trivial
theorem PySem.W.Fast.tw15059598529996785119:True:=trivial
theorem PySem.W.Fast.tw4341822969119998208:True:=trivial
theorem PySem.W.Fast.tw8349026331856309152:True:=trivial
theorem PySem.W.Fast.tw17697019939392635055:True:=trivial
theorem PySem.W.Fast.tw10714773037680870617:True:=trivial
theorem PySem.W.Fast.tw17954747238128317759:True:=trivial
theorem PySem.W.Fast.tw6983356720619732038:True:=trivial
theorem PySem.W.Fast.tw10738996111056113330:True:=trivial
theorem PySem.W.Fast.tw664432787907434471:True:=trivial
theorem PySem.W.Fast.tw16384996424178476065:True:=trivial
theorem PySem.W.Fast.tw18194322767037087062:True:=trivial
theorem PySem.W.Fast.tw3002389869069634795:True:=trivial
theorem PySem.W.Fast.tw15751218840888275308:True:=trivial
theorem PySem.W.Fast.tw5371995378719572492:True:=trivial
theorem PySem.W.Fast.tw15160456691279615534:True:=trivial
theorem PySem.W.Fast.tw5416171402078307820:True:=trivial
theorem PySem.W.Fast.tw11563442186319666144:True:=trivial
theorem PySem.W.Fast.tw7908678932886544683:True:=trivial
theorem PySem.W.Fast.tw15258349437417887868:True:=trivial
theorem PySem.W.Fast.tw2137044501610246866:True:=trivial
theorem PySem.W.Fast.tw15112764100020868855:True:=trivial
theorem PySem.W.Fast.tw13674142242007804489:True:=trivial
theorem PySem.W.Fast.tw16443608411383359135:True:=trivial
theorem PySem.W.Fast.tw4092549044253284518:True:=trivial
theorem PySem.W.Fast.tw13341583922952532303:True:=trivial
theorem PySem.W.Fast.tw9959758344806611546:True:=trivial
theorem PySem.W.Fast.tw2228407918816026306:True:=trivial
theorem PySem.W.Fast.tw12433445425019241741:True:=trivial
theorem PySem.W.Fast.tw6887657787462650344:True:=trivial
theorem PySem.W.Fast.tw10634387670797653400:True:=trivial
theorem PySem.W.Fast.tw1193001918630308162:True:=trivial
theorem PySem.W.Fast.tw14389580623177199641:True:=trivial
theorem PySem.W.Fast.tw11245578798703108812:True:=trivial
theorem PySem.W.Fast.tw9967850683894332423:True:=trivial
theorem PySem.W.Fast.tw3423571193025139864:True:=trivial
theorem PySem.W.Fast.tw10551160202249708370:True:=trivial
theorem PySem.W.Fast.tw5712085432405718496:True:=trivial
theorem PySem.W.Fast.tw13375842261259796257:True:=trivial
theorem PySem.W.Fast.tw14280427643053146967:True:=trivial
theorem PySem.W.Fast.tw11300205831412435877:True:=trivial
theorem PySem.W.Fast.tw8420626745988960253:True:=trivial
theorem PySem.W.Fast.tw9111640676360882985:True:=trivial
theorem PySem.W.Fast.tw16548465712737423607:True:=trivial
theorem PySem.W.Fast.tw6578575382723385557:True:=trivial
theorem PySem.W.Fast.tw11517162182305334982:True:=trivial
theorem PySem.W.Fast.tw65331705607858736:True:=trivial
theorem PySem.W.Fast.tw13360841171616285700:True:=trivial
theorem PySem.W.Fast.tw4454095491176143395:True:=trivial
theorem PySem.W.Fast.tw6725230697907301545:True:=trivial
theorem PySem.W.Fast.tw14609962020785041041:True:=trivial
theorem PySem.W.Fast.tw1504681759547705838:True:=trivial
theorem PySem.W.Fast.tw1871043886291976177:True:=trivial
theorem PySem.W.Fast.tw10776770655788854270:True:=trivial
theorem PySem.W.Fast.tw1701166778339832116:True:=trivial
theorem PySem.W.Fast.tw17762979647372334619:True:=trivial
theorem PySem.W.Fast.tw10219043849740930948:True:=trivial
theorem PySem.W.Fast.tw7762981066621293239:True:=trivial
theorem PySem.W.Fast.tw5768186138093061889:True:=trivial
theorem PySem.W.Fast.tw11708675780908829916:True:=trivial
theorem PySem.W.Fast.tw2449404674669692119:True:=trivial
theorem PySem.W.Fast.tw17985606693725777809:True:=trivial
theorem PySem.W.Fast.tw15523947354316433933:True:=trivial
theorem PySem.W.Fast.tw2443337662888809279:True:=trivial
theorem PySem.W.Fast.tw7750812311484456092:True:=trivial
theorem PySem.W.Fast.tw6779376032553206522:True:=trivial
theorem PySem.W.Fast.tw11994822222203135975:True:=trivial
theorem PySem.W.Fast.tw6774228300296495046:True:=trivial
theorem PySem.W.Fast.tw6978504835707548300:True:=trivial
theorem PySem.W.Fast.tw12517563905035086700:True:=trivial
theorem PySem.W.Fast.tw790156803754065578:True:=trivial
theorem PySem.W.Fast.tw12402915525253243564:True:=trivial
theorem PySem.W.Fast.tw8750225059400594125:True:=trivial
theorem PySem.W.Fast.tw17697457251955895399:True:=trivial
theorem PySem.W.Fast.tw10169259230172590054:True:=trivial
theorem PySem.W.Fast.tw1973880062380608644:True:=trivial
theorem PySem.W.Fast.tw14909706656051744217:True:=trivial
theorem PySem.W.Fast.tw10574275765995670237:True:=trivial
theorem PySem.W.Fast.tw7598053685274241256:True:=trivial
theorem PySem.W.Fast.tw13218178924128934967:True:=trivial
theorem PySem.W.Fast.tw780708270694777354:True:=trivial
theorem PySem.W.Fast.tw9089844282752639006:True:=trivial
theorem PySem.W.Fast.tw7662801969915122384:True:=trivial
theorem PySem.W.Fast.tw14368597138746635758:True:=trivial
theorem PySem.W.Fast.tw1290070982040433178:True:=trivial
theorem PySem.W.Fast.tw5527382157053006169:True:=trivial
theorem PySem.W.Fast.tw14157909032335215037:True:=trivial
theorem PySem.W.Fast.tw14647652196506768219:True:=trivial
theorem PySem.W.Fast.tw9671125121941718655:True:=trivial
theorem PySem.W.Fast.tw2112003385258422055:True:=trivial
theorem PySem.W.Fast.tw15816533406784220406:True:=trivial
theorem PySem.W.Fast.tw12255076899427965386:True:=trivial
theorem PySem.W.Fast.tw17040015115299027515:True:=trivial
theorem PySem.W.Fast.tw10372937308014640500:True:=trivial
theorem PySem.W.Fast.tw17220977700338678356:True:=trivial
theorem PySem.W.Fast.tw3498848654807968734:True:=trivial
theorem PySem.W.Fast.tw9879164560622440777:True:=trivial
theorem PySem.W.Fast.tw14517296445928110608:True:=trivial
open PySem PySem.W PyProof.Rows
set_option maxRecDepth 100000 in
set_option maxHeartbeats 0 in
theorem PySem.Challenge.cw_calmword_k28_the_first_wrong_sign_holds : PySem.Challenge.rw_calmword_k28_the_first_wrong_sign.Holds := by
 w_on;o_law;k_head;(case hw=>w_witness2)
 k_fill
 refine My.walk (l:=PySem.Challenge.rw_calmword_k28_the_first_wrong_sign) rfl rfl (λw h Y=>PySem.W.km_in_of Y) (λw h Y=>PySem.W.km_tabs_of Y) ?cC ?cN ?F
 case cC=>intro w h X t ht;cases Ak.mp ht;refine' My.c_of X ?h3 ?h4 ?h5 ?h6;(case h3=>k_is);(case h4=>k_is);(case h5=>rfl);(case h6=>kernel_rfl)
 case cN=>exact λw t ht=>by cases Ak.mp ht;rfl
 case F =>
  intro w mg fa h KX G hmg
  refine' My.all_mk KX G hmg ?a1 ?l1 ?c1 ?k1 ?a2 ?l2 ?c2 ?k2 ?a3 ?l3 ?c3 ?k3 ?a4 ?l4 ?c4 ?k4 ?a5 ?l5 ?c5 ?k5 ?a6 ?l6 ?c6 ?k6 ?a7 ?l7 ?c7 ?k7 ?a8 ?l8 ?c8 ?k8 ?a9 ?l9 ?c9 ?k9 ?a10 ?l10 ?c10 ?k10 ?a11 ?l11 ?c11 ?k11 ?a12 ?l12 ?c12 ?k12 ?a13 ?l13 ?c13 ?k13 ?a14 ?l14 ?c14 ?k14 ?a15 ?l15 ?c15 ?k15 ?a16 ?l16 ?c16 ?k16 ?a17 ?l17 ?c17 ?k17 ?a18 ?l18 ?c18 ?k18 ?a19 ?l19 ?c19 ?k19 ?a20 ?l20 ?c20 ?k20 ?a21 ?l21 ?c21 ?k21 ?a22 ?l22 ?c22 ?k22 ?a23 ?l23 ?c23 ?k23 ?a24 ?l24 ?c24 ?k24 ?a25 ?l25 ?c25 ?k25 ?a26 ?l26 ?c26 ?k26 ?a27 ?l27 ?c27 ?k27 ?a28 ?l28 ?c28 ?k28 ?z_len ?z_int ?z_range ?z_list ?z_tuple ?z_isinstance ?z_str ?z_bool ?z_enumerate ?z_min ?z_sum ?z_reversed ?z_ValueError ?aC ?Cpg ?Chd ?Cpo ?Csa ?Cmk ?Ckp ?Nrows ?Nready ?Nwaiting ?Nopened ?Ndue ?fm0 ?lm0 ?cm0 ?km0 ?im0 ?fm1 ?lm1 ?cm1 ?km1 ?im1 ?fm2 ?lm2 ?cm2 ?km2 ?im2 ?fm3 ?lm3 ?cm3 ?km3 ?im3 ?fm4 ?lm4 ?cm4 ?km4 ?im4 ?fm5 ?lm5 ?cm5 ?km5 ?im5 ?fm6 ?lm6 ?cm6 ?km6 ?im6 ?eb ?lb ?vb ?nb ?ew ?lw ?vw ?nw ?sw ?es' ?ls ?vs' ?ns' ?em ?ecd ?hcin ?aD ?lD ?lnD ?eoD ?inD ?spD ?rdD ?fcD ?tyD ?ac0 ?lc0 ?ac1 ?lc1 ?ty1 ?ac2 ?lc2 ?ty2 ?ac3 ?lc3 ?ty3 ?ac4 ?lc4 ?ty4 ?ac5 ?lc5 ?ty5 ?ac6 ?lc6 ?ty6 ?ac7 ?lc7 ?ty7 ?ac8 ?lc8 ?ty8 ?ac9 ?lc9 ?ty9 ?ac10 ?lc10 ?ty10 ?ac11 ?lc11 ?ty11 ?lnT ?eoT ?saT ?gaT ?gxT ?kpT ?ccT ?obT ?inT ?lfT ?cfT ?kqT ?qfT ?apart
  (case a1=>k_is)
  (case l1=>k_is)
  (case c1=>k_is)
  (case k1=>k_is)
  (case a2=>k_is)
  (case l2=>k_is)
  (case c2=>k_is)
  (case k2=>k_is)
  (case a3=>k_is)
  (case l3=>k_is)
  (case c3=>k_is)
  (case k3=>k_is)
  (case a4=>k_is)
  (case l4=>k_is)
  (case c4=>k_is)
  (case k4=>k_is)
  (case a5=>k_is)
  (case l5=>k_is)
  (case c5=>k_is)
  (case k5=>k_is)
  (case a6=>k_is)
  (case l6=>k_is)
  (case c6=>k_is)
  (case k6=>k_is)
  (case a7=>k_is)
  (case l7=>k_is)
  (case c7=>k_is)
  (case k7=>k_is)
  (case a8=>k_is)
  (case l8=>k_is)
  (case c8=>k_is)
  (case k8=>k_is)
  (case a9=>k_is)
  (case l9=>k_is)
  (case c9=>k_is)
  (case k9=>k_is)
  (case a10=>k_is)
  (case l10=>k_is)
  (case c10=>k_is)
  (case k10=>k_is)
  (case a11=>k_is)
  (case l11=>k_is)
  (case c11=>k_is)
  (case k11=>k_is)
  (case a12=>k_is)
  (case l12=>k_is)
  (case c12=>k_is)
  (case k12=>k_is)
  (case a13=>k_is)
  (case l13=>k_is)
  (case c13=>k_is)
  (case k13=>k_is)
  (case a14=>k_is)
  (case l14=>k_is)
  (case c14=>k_is)
  (case k14=>k_is)
  (case a15=>k_is)
  (case l15=>k_is)
  (case c15=>k_is)
  (case k15=>k_is)
  (case a16=>k_is)
  (case l16=>k_is)
  (case c16=>k_is)
  (case k16=>k_is)
  (case a17=>k_is)
  (case l17=>k_is)
  (case c17=>k_is)
  (case k17=>k_is)
  (case a18=>k_is)
  (case l18=>k_is)
  (case c18=>k_is)
  (case k18=>k_is)
  (case a19=>k_is)
  (case l19=>k_is)
  (case c19=>k_is)
  (case k19=>k_is)
  (case a20=>k_is)
  (case l20=>k_is)
  (case c20=>k_is)
  (case k20=>k_is)
  (case a21=>k_is)
  (case l21=>k_is)
  (case c21=>k_is)
  (case k21=>k_is)
  (case a22=>k_is)
  (case l22=>k_is)
  (case c22=>k_is)
  (case k22=>k_is)
  (case a23=>k_is)
  (case l23=>k_is)
  (case c23=>k_is)
  (case k23=>k_is)
  (case a24=>k_is)
  (case l24=>k_is)
  (case c24=>k_is)
  (case k24=>k_is)
  (case a25=>k_is)
  (case l25=>k_is)
  (case c25=>k_is)
  (case k25=>k_is)
  (case a26=>k_is)
  (case l26=>k_is)
  (case c26=>k_is)
  (case k26=>k_is)
  (case a27=>k_is)
  (case l27=>k_is)
  (case c27=>k_is)
  (case k27=>k_is)
  (case a28=>k_is)
  (case l28=>k_is)
  (case c28=>k_is)
  (case k28=>k_is)
  (case z_len=>k_is)
  (case z_int=>k_is)
  (case z_range=>k_is)
  (case z_list=>k_is)
  (case z_tuple=>k_is)
  (case z_isinstance=>k_is)
  (case z_str=>k_is)
  (case z_bool=>k_is)
  (case z_enumerate=>k_is)
  (case z_min=>k_is)
  (case z_sum=>k_is)
  (case z_reversed=>k_is)
  (case z_ValueError=>k_is)
  (case aC=>k_is)
  (case Cpg=>first|k_is|kernel_rfl)
  (case Chd=>first|k_is|kernel_rfl)
  (case Cpo=>first|k_is|kernel_rfl)
  (case Csa=>first|k_is|kernel_rfl)
  (case Cmk=>first|k_is|kernel_rfl)
  (case Ckp=>first|k_is|kernel_rfl)
  (case Nrows=>first|k_is|kernel_rfl)
  (case Nready=>first|k_is|kernel_rfl)
  (case Nwaiting=>first|k_is|kernel_rfl)
  (case Nopened=>first|k_is|kernel_rfl)
  (case Ndue=>first|k_is|kernel_rfl)
  (case fm0=>first|k_is|kernel_rfl)
  (case lm0=>k_is)
  (case cm0=>first|k_is|kernel_rfl)
  (case km0=>first|k_is|kernel_rfl)
  (case im0=>first|k_is|kernel_rfl)
  (case fm1=>first|k_is|kernel_rfl)
  (case lm1=>k_is)
  (case cm1=>first|k_is|kernel_rfl)
  (case km1=>first|k_is|kernel_rfl)
  (case im1=>first|k_is|kernel_rfl)
  (case fm2=>first|k_is|kernel_rfl)
  (case lm2=>k_is)
  (case cm2=>first|k_is|kernel_rfl)
  (case km2=>first|k_is|kernel_rfl)
  (case im2=>first|k_is|kernel_rfl)
  (case fm3=>first|k_is|kernel_rfl)
  (case lm3=>k_is)
  (case cm3=>first|k_is|kernel_rfl)
  (case km3=>first|k_is|kernel_rfl)
  (case im3=>first|k_is|kernel_rfl)
  (case fm4=>first|k_is|kernel_rfl)
  (case lm4=>k_is)
  (case cm4=>first|k_is|kernel_rfl)
  (case km4=>first|k_is|kernel_rfl)
  (case im4=>first|k_is|kernel_rfl)
  (case fm5=>first|k_is|kernel_rfl)
  (case lm5=>k_is)
  (case cm5=>first|k_is|kernel_rfl)
  (case km5=>first|k_is|kernel_rfl)
  (case im5=>first|k_is|kernel_rfl)
  (case fm6=>first|k_is|kernel_rfl)
  (case lm6=>k_is)
  (case cm6=>first|k_is|kernel_rfl)
  (case km6=>first|k_is|kernel_rfl)
  (case im6=>first|k_is|kernel_rfl)
  (case eb=>k_is)
  (case lb=>k_is)
  (case vb=>exact(.cons ⟨_,_,rfl,rfl,rfl,⟨_,rfl⟩⟩ (.cons ⟨_,_,rfl,rfl,rfl,⟨_,rfl⟩⟩ (.cons ⟨_,_,rfl,rfl,rfl,⟨_,rfl⟩⟩ (.cons ⟨_,_,rfl,rfl,rfl,⟨_,rfl⟩⟩ (.cons ⟨_,_,rfl,rfl,rfl,⟨_,rfl⟩⟩ (.cons ⟨_,_,rfl,rfl,rfl,⟨_,rfl⟩⟩ (.cons ⟨_,_,rfl,rfl,rfl,⟨_,rfl⟩⟩ (.cons ⟨_,_,rfl,rfl,rfl,⟨_,rfl⟩⟩ .nil)))))))))
  (case nb=>decide +kernel)
  (case ew=>k_is)
  (case lw=>k_is)
  (case vw=>exact(.cons ⟨_,_,rfl,rfl,rfl,⟨_,rfl⟩⟩ (.cons ⟨_,_,rfl,rfl,rfl,⟨_,rfl⟩⟩ .nil)))
  (case nw=>decide +kernel)
  (case sw=>first|rfl|decide)
  (case es'=>k_is)
  (case ls=>k_is)
  (case vs'=>exact(.cons ⟨_,_,rfl,rfl,rfl,⟨_,rfl⟩⟩ (.cons ⟨_,_,rfl,rfl,rfl,⟨_,rfl⟩⟩ (.cons ⟨_,_,rfl,rfl,rfl,⟨_,rfl⟩⟩ .nil))))
  (case ns'=>decide +kernel)
  (case em=>k_is)
  (case ecd=>rfl)
  (case hcin=>kernel_rfl)
  (case aD=>k_is)
  (case lD=>k_is)
  (case lnD=>k_is)
  (case eoD=>first|(simp;done)|rfl)
  (case inD=>k_is)
  (case spD=>k_is)
  (case rdD=>k_is)
  (case fcD=>k_is)
  (case tyD=>k_is)
  (case ac0=>k_is)
  (case lc0=>k_is)
  (case ac1=>k_is)
  (case lc1=>k_is)
  (case ty1=>k_is)
  (case ac2=>k_is)
  (case lc2=>k_is)
  (case ty2=>k_is)
  (case ac3=>k_is)
  (case lc3=>k_is)
  (case ty3=>k_is)
  (case ac4=>k_is)
  (case lc4=>k_is)
  (case ty4=>k_is)
  (case ac5=>k_is)
  (case lc5=>k_is)
  (case ty5=>k_is)
  (case ac6=>k_is)
  (case lc6=>k_is)
  (case ty6=>k_is)
  (case ac7=>k_is)
  (case lc7=>k_is)
  (case ty7=>k_is)
  (case ac8=>k_is)
  (case lc8=>k_is)
  (case ty8=>k_is)
  (case ac9=>k_is)
  (case lc9=>k_is)
  (case ty9=>k_is)
  (case ac10=>k_is)
  (case lc10=>k_is)
  (case ty10=>k_is)
  (case ac11=>k_is)
  (case lc11=>k_is)
  (case ty11=>k_is)
  (case lnT=>k_is)
  (case eoT=>first|(simp;done)|rfl)
  (case saT=>k_is)
  (case gaT=>k_is)
  (case gxT=>k_is)
  (case kpT=>k_is)
  (case ccT=>k_is)
  (case obT=>k_is)
  (case inT=>k_is)
  (case lfT=>k_is)
  (case cfT=>k_is)
  (case kqT=>k_is)
  (case qfT=>k_is)
  (case apart=>first|decide|(simp;done))