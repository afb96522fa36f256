import PyProof.Rows.All
import Wide.All
import OpenK.AllK
import Wide.FinOn
import Lean
import PyProof.EqAt
import PyProof.EqKinds
import PyProof.TupleCall
import PySem.Challenge.RW_calmword_k30_whole_there_and_back
set_option Elab.async false
set_option linter.all false
set_option maxRecDepth 100000
set_option maxHeartbeats 4000000
abbrev Aa:=@PySem.wpAny_bind
abbrev Ab:=@List.length_map
abbrev Ac:=@List.getD_eq_getElem?_getD
abbrev Ad:=@PySem.Heap.get?_push_of_some
abbrev Ae:=@if_neg
abbrev Af:=@PySem.wpAny_pure
abbrev Ag:=@List.mem_singleton
abbrev Ah:=@Nat.le_refl
abbrev Ai:=@List.getElem?_eq_getElem
abbrev Aj:=@List.getElem?_eq_some_iff
abbrev Ak:=@if_pos
abbrev Al:=@List.size_toArray
abbrev Am:=@PySem.Heap.lt_size
abbrev An:=@PySem.Heap.get?_push_size
abbrev Ao:=@List.getElem?_map
abbrev Ap:=@Nat.ne_of_lt
abbrev Aq:=@List.not_mem_nil
abbrev Ar:=@PySem.sizeLine_eq
abbrev Au:=@Nat.lt_of_lt_of_le
abbrev Av:=@Option.some.inj
abbrev Aw:=@List.mem_cons
abbrev Ax:=@List.length_append
abbrev Ay:=@List.map_cons
abbrev Az:=@PySem.F.slot_list_append
abbrev A0:=@PySem.F.type_list_append
abbrev A1:=@List.getElem?_append_left
abbrev A2:=@PySem.W.mg_of
abbrev A3:=@Bool.false_ne_true
abbrev A4:=@List.mem_map
abbrev A5:=@List.mem_of_getElem?
abbrev A6:=@List.mem_append
abbrev A7:=@List.getElem?_append_right
abbrev A8:=@Nat.zero_le
abbrev A9:=@List.mem_append_right
abbrev Ia:=@PySem.W.mg_none_of
abbrev Ib:=@List.mem_cons_of_mem
abbrev Ic:=@PyProof.Rows.callWith_type1
abbrev Ie:=@PySem.Heap.get?_update_self
abbrev Ig:=@List.map_append
abbrev Ih:=@Nat.le_trans
abbrev Ii:=@decide_eq_false
abbrev Ij:=@Nat.lt_succ_self
abbrev Ik:=@PySem.wpAny_newObj_type
abbrev Il:=@PySem.Paired.length
abbrev Im:=@PySem.Heap.size_push
abbrev Io:=@PySem.wpAny_Call_Name_kw
abbrev Ip:=@Bool.false_eq_true
abbrev Iq:=@PySem.PassesOwn.never
abbrev Ir:=@PySem.Heap.get?_update_other
abbrev Is:=@Option.map_eq_some_iff
abbrev Iu:=@List.getElem_mem
abbrev Iv:=@PySem.mem_of_lookup
abbrev Iw:=@List.map_congr_left
abbrev Ix:=@List.append_assoc
abbrev Iy:=@PyProof.Rows.cnt_cons
abbrev Iz:=@PySem.W.kia_one
abbrev I0:=@PySem.wpAny_ite_split
abbrev Oa:=@List.mem_append_left
abbrev Ob:=@Bool.and_eq_true
abbrev Oc:=@List.take_of_length_le
abbrev Od:=@congrArg
abbrev Oe:=@PySem.Heap.SameBut.update
abbrev Of:=@PySem.wpAny_mono
abbrev Og:=@List.append_nil
abbrev Oh:=@List.getElem?_eq_none
abbrev Oi:=@PySem.F.slot_list_pop
abbrev Oj:=@PySem.F.type_list_pop
abbrev Ol:=@List.mem_cons_self
abbrev Om:=@List.length_take
abbrev On:=@PySem.F.called_set
abbrev Oo:=@Nat.succ_ne_zero
abbrev Op:=@PySem.wpAny_holding
abbrev Oq:=@PyProof.Rows.cnt_append
abbrev Os:=@PySem.wpAny_truthy_bool
abbrev Ot:=@Array.getElem?_toList
abbrev Ou:=@PySem.wpAny_loadPart'
abbrev Ov:=@if_false
abbrev Ow:=@Nat.succ.inj
abbrev Ox:=@List.nodup_append
abbrev Oy:=@Nat.lt_irrefl
abbrev Oz:=@beq_eq_false_iff_ne
abbrev O0:=@if_true
abbrev O1:=@PySem.wpAny_call_entry
abbrev O2:=@PySem.wpAny_setField
abbrev O3:=@PyProof.Rows.F.plain_set_update_loop
abbrev O4:=@PySem.Obj.data_mapFields
abbrev O5:=@List.map_map
abbrev O6:=@Ne.symm
abbrev O7:=@PySem.wpAny_passesOwn
abbrev O8:=@List.nodup_cons
abbrev O9:=@Nat.lt_succ_of_lt
abbrev Ua:=@PySem.wpAny_setState_of
abbrev Ub:=@PySem.Around.under_plainId
abbrev Uc:=@List.dropLast_concat
abbrev Ud:=@PySem.codeAny_mono
abbrev Ue:=@PySem.wpAny_askSetting
abbrev Uf:=@List.length_reverse
abbrev Ug:=@PyProof.Rows.slot_tuple_getitem
abbrev Uh:=@PySem.wpAny_callSpecial?_slot
abbrev Ui:=@List.length_eq_zero_iff
abbrev Uj:=@beq_iff_eq
abbrev Uk:=@PySem.Calls.spliced_cons
abbrev Ul:=@PySem.codeAny_builtin
abbrev Um:=@List.getElem?_set_self
abbrev Uo:=@Nat.le_of_lt
abbrev Up:=@List.map_nil
abbrev Uq:=@List.take_append_drop
abbrev Ur:=@PySem.builtinLookup_eq_fast
abbrev Us:=@PySem.isSubtype_type
abbrev Ut:=@List.idxOf_lt_length_of_mem
abbrev Uu:=@List.getElem?_set_ne
abbrev Uv:=@beq_self_eq_true
abbrev Uw:=@List.any_eq_true
abbrev Ux:=@List.pairwise_append
abbrev Uy:=@PySem.plainId_quiet
abbrev Uz:=@PySem.sizeLine_eq
abbrev U0:=@Nat.le_succ
abbrev U1:=@List.length_set
abbrev U2:=@List.mem_filterMap
abbrev U3:=@Option.isSome_iff_exists
abbrev U4:=@PySem.F.args_tuple_add_2
abbrev U5:=@Nat.lt_of_le_of_lt
abbrev U6:=@PySem.tupleKind_room_in1
abbrev U7:=@PySem.wpAny_comprehension_free
abbrev U8:=@PyProof.Rows.F.entry_set_update_loop
abbrev U9:=@List.mem_range
abbrev Wa:=@PySem.call_meets
abbrev Wb:=@List.take_succ
abbrev Wc:=@PySem.F.entry_tuple_add
abbrev Wd:=@PySem.Calls.spliced_nil
abbrev We:=@List.length_range
abbrev Wf:=@PySem.wpAny_pyIter_enum
abbrev Wg:=@PySem.F.args_tuple_iterator_next_1
abbrev Wh:=@PySem.wpAny_loadPart_at
abbrev Wi:=@PySem.fits_of_scanBound
abbrev Wj:=@List.foldr_append
abbrev Wk:=@PySem.F.slot_tuple_add
abbrev Wl:=@PySem.Calls.callWith_builtin
abbrev Wm:=@PySem.Paired.snoc
abbrev Wn:=@PySem.F.entry_tuple_iterator_next
abbrev Wo:=@PySem.F.slot_str_count
abbrev Wp:=@List.filter_eq_nil_iff
abbrev Wq:=@List.length_drop
abbrev Wr:=@List.filter_cons
abbrev Ws:=@PySem.Obj.isFreed_of_fields
abbrev Wt:=@Array.size_eq_one_iff
abbrev Wu:=@List.mem_filter
abbrev Wv:=@PySem.wpAny_execs_nil
abbrev Ww:=@Bool.eq_iff_iff
abbrev Wx:=@Nat.le_of_eq
abbrev Wy:=@List.of_mem_zip
abbrev Wz:=@PySem.wpAny_specialOf
abbrev W0:=@PySem.wpAny_newFunctionEnv
abbrev W1:=@List.mem_of_mem_take
abbrev W2:=@PySem.typeLookup_type
abbrev W3:=@PySem.wpAny_rule
abbrev W5:=@List.cons.injEq
abbrev W6:=@PySem.Value.isStrOf_shape
abbrev W7:=@PySem.W.plainGet_of
abbrev W8:=@List.nodup_nil
abbrev W9:=@PySem.W.callWith_K
abbrev Ya:=@PySem.wpAny_pyIter_tuple
abbrev Yb:=@PySem.wpAny_standAt
namespace L2
open PySem PySem.Spec PyProof.Rows
abbrev Key:=Sum Int Str
def jd8:Key->Value->Bool
 |.inl k,v=>Value.isInt k v
 |.inr x,v=>Value.isStrOf x v
def keyH(w:World):Key->Int
 |.inl k=>hashInt k
 |.inr x=>hashStr w x
theorem jcs:∀{k:Key}{v:Value},jd8 k v=true->(∃i t,k=Sum.inl i/\v=Value.int i t)\/(∃x t,k=Sum.inr x/\v=Value.str x t)
 |.inl i,v,h=>by
  obtain⟨t,e⟩:=Value.isInt_shape (k:=i) (v:=v) h
  exact .inl ⟨i,t,rfl,e⟩
 |.inr x,v,h=>by
  obtain⟨t,e⟩:=W6 (x:=x) (v:=v) h
  exact .inr ⟨x,t,rfl,e⟩
theorem jnw(i:Int)(t:Tok):jd8 (.inl i) (.int i t)=true:=by simp[jd8,Value.isInt]
theorem jnx(x:Str)(t:Tok):jd8 (.inr x) (.str x t)=true:=by simp[jd8,Value.isStrOf]
theorem jrq(a b:Int):decide ((Sum.inl a:Key)=Sum.inl b)=(a == b):=by
 by_cases e:a=b
 ·subst e;simp
 ·have h:¬(Sum.inl a:Key)=Sum.inl b:=λq=>e (Sum.inl.inj q)
  rw[Ii h]
  exact(Oz.mpr e).symm
theorem jrt(a b:Str):decide ((Sum.inr a:Key)=Sum.inr b)=decide (a=b):=by
 by_cases e:a=b
 ·subst e;simp
 ·have h:¬(Sum.inr a:Key)=Sum.inr b:=λq=>e (Sum.inr.inj q)
  rw[Ii h,Ii e]
theorem jrr(a:Int)(b:Str):decide ((Sum.inl a:Key)=Sum.inr b)=false:=Ii (λq=>nomatch q)
theorem jrs(a:Str)(b:Int):decide ((Sum.inr a:Key)=Sum.inl b)=false:=Ii (λq=>nomatch q)
def jco(prog:Program)(w:World):PySem.KeyKind prog w Key where
 is:=jd8
 hash:=keyH w
 inj:=λv a b ha hb=>by
  rcases jcs ha with⟨i,t,rfl,rfl⟩|⟨x,t,rfl,rfl⟩
  ·rcases jcs hb with⟨j,u,rfl,e⟩|⟨y,u,rfl,e⟩
   ·injection e with e1 _;rw[e1]
   ·exact nomatch e
  ·rcases jcs hb with⟨j,u,rfl,e⟩|⟨y,u,rfl,e⟩
   ·exact nomatch e
   ·injection e with e1 _;rw[e1]
 byValue:=λk v h=>by
  rcases jcs h with⟨i,t,rfl,rfl⟩|⟨x,t,rfl,rfl⟩ <;> rfl
 pyHash:=λhv h=>by
  rcases jcs hv with⟨i,t,rfl,rfl⟩|⟨x,t,rfl,rfl⟩
  ·exact wpAny_pyHash_int h
  ·exact wpAny_pyHash_str h
 eqBool:=λhu hv h=>by
  rcases jcs hu with⟨i,t,rfl,rfl⟩|⟨x,t,rfl,rfl⟩
  ·rcases jcs hv with⟨j,u,rfl,rfl⟩|⟨y,u,rfl,rfl⟩
   ·rw[jrq]at h;exact wpAny_eqBool_int h
   ·rw[jrr]at h;exact SeqAt.EqAt.int_str i t y u _ _ _ _ h
  ·rcases jcs hv with⟨j,u,rfl,rfl⟩|⟨y,u,rfl,rfl⟩
   ·rw[jrs]at h;exact SeqAt.EqAt.str_int x t j u _ _ _ _ h
   ·rw[jrt]at h;exact wpAny_eqBool_str h
 «strs»:=λk x t v h=>by
  rcases jcs h with⟨i,u,rfl,e⟩|⟨y,u,rfl,e⟩
  ·exact nomatch e
  ·injection e with e1 _
   subst e1
   cases v <;> rfl
theorem jk9(prog:Program)(w:World)(i:Int)(t:Tok):(jco prog w).is (.inl i) (.int i t)=true:=jnw i t
theorem jla(prog:Program)(w:World)(x:Str)(t:Tok):(jco prog w).is (.inr x) (.str x t)=true:=jnx x t
inductive V where
 |non|bl (b:Bool)|int (i:Int)|str (x:Str)|byt (b:Array UInt8)|flt (b:UInt64)|ref (a:Addr)|ty (n:String)
 deriving DecidableEq
def RelV:V->Value->Prop
 |.non,u=>u=Value.none
 |.bl b,u=>u=Value.bool b
 |.int i,u=>∃t,u=Value.int i t
 |.str x,u=>∃t,u=Value.str x t
 |.byt b,u=>∃t,u=Value.bytes b t
 |.flt b,u=>∃t,u=Value.float b t
 |.ref a,u=>u=Value.ref a
 |.ty n,u=>u=Value.type n
abbrev Vals:List V->List Value->Prop:=Paired RelV
theorem Vals.length{xs:List V}{us:List Value}(r:Vals xs us):xs.length=us.length:=Il r
theorem Vals.get:∀{xs:List V}{us:List Value}{i:Nat}{x:V},Vals xs us->xs[i]?=some x->∃u,us[i]?=some u/\RelV x u
 |_,_,_,_,.nil,e=>by simp at e
 |_,_,0,_,.cons r _,e=>by simp at e;subst e;exact⟨_,rfl,r⟩
 |_,_,i+1,x,.cons _ t,e=>by
  obtain⟨u,h1,h2⟩:=Vals.get (i:=i) (x:=x) t (by simpa using e)
  exact⟨u,by simpa using h1,h2⟩
theorem Vals.set{x:V}{u:Value}(r:RelV x u):∀{xs:List V}{us:List Value}(i:Nat),Vals xs us->Vals (xs.set i x) (us.set i u)
 |_,_,_,.nil=>.nil
 |_,_,0,.cons _ t=>.cons r t
 |_,_,i+1,.cons q t=>.cons q (Vals.set r i t)
theorem Vals.append:∀{xs ys:List V}{us ws:List Value},Vals xs us->Vals ys ws->Vals (xs++ys) (us++ws)
 |_,_,_,_,.nil,s=>s
 |_,_,_,_,.cons r t,s=>.cons r (Vals.append t s)
theorem Vals.take:∀{xs:List V}{us:List Value}(n:Nat),Vals xs us->Vals (xs.take n) (us.take n)
 |_,_,0,_=>.nil
 |_,_,_+1,.nil=>.nil
 |_,_,n+1,.cons r t=>.cons r (Vals.take n t)
theorem Vals.drop:∀{xs:List V}{us:List Value}(n:Nat),Vals xs us->Vals (xs.drop n) (us.drop n)
 |_,_,0,r=>r
 |_,_,_+1,.nil=>.nil
 |_,_,n+1,.cons _ t=>Vals.drop n t
def RelO:Option V->Option Value->Prop
 |some v,some u=>RelV v u
 |none,none=>True
 |_,_=>False
def KV{κ:Type}:List (κ×V)->List (κ×Value)->Prop:=Paired fun(p:κ×V) (q:κ×Value)=>p.1=q.1/\RelV p.2 q.2
def kV:Key->V
 |.inl i=>.int i
 |.inr x=>.str x
inductive HO where
  |lst (xs:List V)
  |tup (xs:List V)
  |dK (kvs:List (Key×V))|dT (kvs:List (List Key×V))
  |set (S:Int->Bool) (n:Nat)
  |ins (C dx:Addr) (fs:List (Str×V))
  |own (x:Addr)
  |xd (fs:List (Str×V))
  |met (f x:Addr)
  |rng (lo hi:Int)
  |frz (o:Obj) (u:HO)
  |tbl (ps:Array Value)
  |ext (φ:Heap->Prop)
abbrev Hp:=Addr->Option HO
def upd(H:Hp)(a:Addr)(o:HO):Hp:=λb=>if b=a then some o else H b
theorem je{H:Hp}{a:Addr}{o:HO}:upd H a o a=some o:=by unfold upd;rw[Ak rfl]
theorem jf{H:Hp}{a b:Addr}{o:HO}(h:b≠a):upd H a o b=H b:=by unfold upd;rw[Ae h]
theorem jh5{H:Hp}{a:Addr}{o u:HO}:upd (upd H a o) a u=upd H a u:=by
 funext b;unfold upd;split <;> rfl
theorem ji9{H:Hp}{a b:Addr}{o u:HO}(h:H a=some o)(h':H b=some u)(d:o≠u):a≠b:=by
 intro e;subst e;rw[h]at h';exact d (Av h')
theorem jj{H:Hp}{a b:Addr}{o:HO}(h:H a=some o)(h':H b=none):a≠b:=by
 intro e;subst e;rw[h]at h';cases h'
section
variable(P:Program)(w:World)
def ObjOk(H:Hp)(h:Heap)(a:Addr):HO->Prop
 |.lst xs=>xs.length<=sizeLine/\∃(its:List Value)(n:Nat),Vals xs its/\h.get? a=some {cls:=.type "list",data:=.seq its.toArray n}
 |.tup xs=>xs.length<=sizeLine/\∃its:List Value,Vals xs its/\IsTup h a its.toArray
 |.dK kvs=>kvs.length<=sizeLine/\(a == sysModules)=false/\∃vs,KV kvs vs/\h.DictOf (jco P w) a vs
 |.dT kvs=>kvs.length<=sizeLine/\(a == sysModules)=false/\∃xs:List (List Key×Addr×Value),
   Paired (fun(p:List Key×V) (q:List Key×Addr×Value)=>p.1=q.1/\H q.2.1=some (.tup (p.1.map kV))/\RelV p.2 q.2.2) kvs xs /\
   ∃o es ep,h.get? a=some o/\o.ExactDict/\o.data=.dict es ep/\es.toList=xs.map (entryOfKey (tupleKind (jco P w)))/\(xs.map (·.1)).Nodup
 |.set S n=>h.SetOf (intKind P w) a S n
 |.ins C dx fs=>H dx=some (.own a)/\fs.length<=1000/\dx≠a/\h.get? a=some (PySem.W.instObj C dx) /\
   ∃mA,h.Ns1 dx mA/\(∀f,RelO (fs.lookup f) (mA f))/\PySem.Within mA (fs.map (·.1))
 |.own _=>∃o,h.get? a=some o
 |.xd fs=>∃mA,h.Ns1 a mA/\∀f,RelO (fs.lookup f) (mA f)
 |.rng lo hi=>∃t u v,h.get? a=some {cls:=.type "range",data:=.fields #[.int lo t,.int hi u,.int 1 v]}
 |.frz o u=>h.get? a=some o/\ObjOk H h a u
 |.tbl ps=>h.get? a=some {cls:=.none,data:=.fields ps}
 |.met f x=>h.get? a=some (PySem.W.methodObj (.ref f) (.ref x))
 |.ext φ=>φ h/\(∃o,h.get? a=some o)/\∀h1 h2:Heap,φ h1->(∀o,h1.get? a=some o->h2.get? a=some o)->φ h2
def HOk(H:Hp)(h:Heap):Prop:=∀a o,H a=some o->ObjOk P w H h a o
end
section
variable{P:Program}{w:World}{H H':Hp}{h h':Heap}{a:Addr}{o:HO}
theorem ObjOk.lt(x:ObjOk P w H h a o):a<h.objs.size:=by
 cases o with
 |lst xs=>obtain⟨_,_,_,_,e⟩:=x;exact Am e
 |tup xs=>obtain⟨_,_,_,p⟩:=x;exact p.lt
 |dK kvs=>obtain⟨_,_,_,_,o,_,_,e,_⟩:=x;exact Am e
 |dT kvs=>obtain⟨_,_,_,_,o,_,_,e,_⟩:=x;exact Am e
 |set S n=>obtain⟨o,_,_,_,e,_⟩:=x;exact Am e
 |ins C dx fs=>obtain⟨_,_,_,e,_⟩:=x;exact Am e
 |own y=>obtain⟨_,e⟩:=x;exact Am e
 |xd fs=>obtain⟨_,⟨_,_,_,e,_⟩,_⟩:=x;exact Am e
 |rng lo hi=>obtain⟨_,_,_,e⟩:=x;exact Am e
 |frz ob u=>obtain⟨e,_⟩:=x;exact Am e
 |tbl ps=>exact Am (show h.get? a=some _ from x)
 |met f y=>exact Am (show h.get? a=some _ from x)
 |ext φ=>obtain⟨_,⟨_,e⟩,_⟩:=x;exact Am e
theorem Paired.mapP{α β:Type}{F G:α->β->Prop}:∀{l₁:List α}{l₂:List β},Paired F l₁ l₂->(∀a b,F a b->G a b)->Paired G l₁ l₂
 |_,_,.nil,_=>.nil
 |_,_,.cons r t,f=>.cons (f _ _ r) (Paired.mapP t f)
theorem ObjOk.stay(x:ObjOk P w H h a o)(k:∀b u,(b=a\/H b=some (.own a))->h.get? b=some u->h'.get? b=some u)
  (ho:∀b,H b=some (.own a)->H' b=some (.own a)) (ht:∀b xs,H b=some (.tup xs)->H' b=some (.tup xs)):ObjOk P w H' h' a o:=by
 induction o with
 |lst xs=>obtain⟨z,its,n,r,e⟩:=x;exact⟨z,its,n,r,k _ _ (.inl rfl) e⟩
 |tup xs=>obtain⟨z,its,r,ob,e,c⟩:=x;exact⟨z,its,r,ob,k _ _ (.inl rfl) e,c⟩
 |dK kvs=>obtain⟨z,y,vs,r,ob,es,ep,e,c⟩:=x;exact⟨z,y,vs,r,ob,es,ep,k _ _ (.inl rfl) e,c⟩
 |dT kvs =>
  obtain⟨z,y,xs,r,ob,es,ep,e,c⟩:=x
  exact⟨z,y,xs,Paired.mapP r λp q z=>⟨z.1,ht _ _ z.2.1,z.2.2⟩,ob,es,ep,k _ _ (.inl rfl) e,c⟩
 |set S n=>obtain⟨ob,es,ep,t,e,c⟩:=x;exact⟨ob,es,ep,t,k _ _ (.inl rfl) e,c⟩
 |ins C dx fs =>
  obtain⟨d,z,ne,e,mA,⟨od,es,ep,e2,c⟩,r⟩:=x
  exact⟨ho _ d,z,ne,k _ _ (.inl rfl) e,mA,⟨od,es,ep,k _ _ (.inr d) e2,c⟩,r⟩
 |own y=>obtain⟨ob,e⟩:=x;exact⟨ob,k _ _ (.inl rfl) e⟩
 |xd fs=>obtain⟨mA,⟨od,es,ep,e,c⟩,r⟩:=x;exact⟨mA,⟨od,es,ep,k _ _ (.inl rfl) e,c⟩,r⟩
 |rng lo hi=>obtain⟨t,u,v,e⟩:=x;exact⟨t,u,v,k _ _ (.inl rfl) e⟩
 |frz ob u ih=>obtain⟨e,q⟩:=x;exact⟨k _ _ (.inl rfl) e,ih q⟩
 |tbl ps =>
  have e:h.get? a=some {cls:=.none,data:=.fields ps}:=x
  show h'.get? a=some {cls:=.none,data:=.fields ps}
  exact k a _ (.inl rfl) e
 |met f y =>
  have e:h.get? a=some (PySem.W.methodObj (.ref f) (.ref y)):=x
  show h'.get? a=some (PySem.W.methodObj (.ref f) (.ref y))
  exact k a _ (.inl rfl) e
 |ext φ=>obtain⟨p,⟨o,e⟩,st⟩:=x;exact⟨st _ _ p λo q=>k _ _ (.inl rfl) q,⟨o,k _ _ (.inl rfl) e⟩,st⟩
theorem HOk.lt(x:HOk P w H h)(e:H a=some o):a<h.objs.size:=(x a o e).lt
theorem HOk.fresh(x:HOk P w H h)(e:h.objs.size<=a):H a=none:=by
 cases q:H a with
 |none=>rfl
 |some u=>exact absurd (Au (x.lt q) e) (Oy _)
theorem HOk.kept(x:HOk P w H h)(k:∀b u,h.get? b=some u->h'.get? b=some u):HOk P w H h':=λa o e =>
 (x a o e).stay (λb u _ q=>k b u q) (λ_ q=>q) λ_ _ q=>q
theorem HOk.laid(x:HOk P w H h)(k:∀b u,h.get? b=some u->h'.get? b=some u)(hp:h.objs.size<=a)(new:ObjOk P w (upd H a o) h' a o):HOk P w (upd H a o) h':=λb u e=>by
 have hn:=x.fresh hp
 by_cases hb:b=a
 ·subst hb;rw[je]at e;cases e;exact new
 ·rw[jf hb]at e
  exact(x b u e).stay (λc v _ q=>k c v q) (λc q=>by rw[jf (jj q hn)];exact q) λc xs q=>by rw[jf (jj q hn)];exact q
end
def Rd(H:Hp)(a:Addr)(u:HO):Prop:=H a=some u\/∃o,H a=some (.frz o u)
theorem Rd.ok{P:Program}{w:World}{H:Hp}{h:Heap}{a:Addr}{u:HO}(r:Rd H a u)(x:HOk P w H h):ObjOk P w H h a u:=by
 rcases r with r|⟨o,r⟩
 ·exact x a u r
 ·obtain⟨_,q⟩:=x a _ r
  exact q
def Mut:Option HO->Prop
 |some (.lst _)=>True
 |some (.dK _)=>True
 |some (.dT _)=>True
 |some (.set _ _)=>True
 |some (.ins _ _ _)=>True
 |some (.ext _)=>True
 |_=>False
section
variable{P:Program}{w:World}{H:Hp}{h h':Heap}{x e:Addr}{o':HO}
theorem HOk.write(ok:HOk P w H h)(mu:Mut (H x))(he:e=x\/H e=some (.own x))(k:∀b u,b≠e->h.get? b=some u->h'.get? b=some u)(heo:∃u,h'.get? e=some u)
  (new:ObjOk P w (upd H x o') h' x o'):HOk P w (upd H x o') h':=λb u q=>by
 have nown:∀c y,H c=some (.own y)->c≠x:=λc y r z=>by subst z;rw[r]at mu;exact mu
 have ntup:∀c xs,H c=some (.tup xs)->c≠x:=λc xs r z=>by subst z;rw[r]at mu;exact mu
 by_cases hb:b=x
 ·subst hb;rw[je]at q;cases q;exact new
 ·rw[jf hb]at q
  by_cases hbe:b=e
  ·have q':H b=some (.own x):=by
    rcases he with z|z
    ·exact absurd (hbe.trans z) hb
    ·rw[hbe];exact z
   rw[q]at q';cases q'
   obtain⟨v,hv⟩:=heo
   exact⟨v,by rw[hbe];exact hv⟩
  ·refine(ok b u q).stay (λc v hc r=>k c v ?_ r) (λc r=>by rw[jf (nown c b r)];exact r) λc xs r=>by rw[jf (ntup c xs r)];exact r
   rcases hc with rfl|hc
   ·exact hbe
   ·rintro rfl
    rcases he with z|z
    ·exact nown c b hc z
    ·rw[hc]at z;cases z;exact hb rfl
end
structure Un(fs ex:List Addr)(H H':Hp)(h h':Heap):Prop where
 keep:∀b o,h.get? b=some o->H b=none->b∉fs->b∉ex->h'.get? b=some o
 slot:∀b o,h.get? b=some o->H b=none->b∈fs->b∉ex->∃sl,h'.get? b=some {o with slots:=sl}
 free:∀b o,h.get? b=some o->H b=none->b∉ex->H' b=none
 there:∀b o,h.get? b=some o->b∉ex->∃o',h'.get? b=some o'
 tups:∀b xs,H b=some (.tup xs)->H' b=some (.tup xs)
 frzs:∀b o u,H b=some (.frz o u)->H' b=some (.frz o u)
 tbls:∀b ps,H b=some (.tbl ps)->∃more,H' b=some (.tbl (ps++more))
section
variable{fs fs' ex ex':List Addr}{H H1 H2:Hp}{h h1 h2 h':Heap}{a x e:Addr}{o:HO}
theorem Un.any(u:Un fs ex H H1 h h1){b:Addr}{ob:Obj}(q:h.get? b=some ob)(n:H b=none)(hx:b∉ex):∃sl,h1.get? b=some {ob with slots:=sl}:=by
 by_cases hb:b∈fs
 ·exact u.slot b ob q n hb hx
 ·exact⟨ob.slots,u.keep b ob q n hb hx⟩
theorem Un.kept(k:∀b u,h.get? b=some u->h'.get? b=some u):Un fs ex H H h h' :=
 ⟨λb ob q _ _ _=>k b ob q,λb ob q _ _ _=>⟨ob.slots,k b ob q⟩,λ_ _ _ n _=>n,λb ob q _=>⟨ob,k b ob q⟩,λ_ _ q=>q,λ_ _ _ q=>q,λ_ ps q=>⟨#[],by rw[q];simp⟩⟩
theorem Un.refl:Un fs ex H H h h:=Un.kept λ_ _ q=>q
theorem Un.laid(k:∀b u,h.get? b=some u->h'.get? b=some u)(hp:h.objs.size<=a)(hn:H a=none):Un fs ex H (upd H a o) h h' where
 keep:=λb u q _ _ _=>k b u q
 slot:=λb u q _ _ _=>⟨u.slots,k b u q⟩
 free:=λb u q n _=>by rw[jf (Ap (Au (Am q) hp))];exact n
 there:=λb u q _=>⟨u,k b u q⟩
 tups:=λb xs q=>by rw[jf (jj q hn)];exact q
 frzs:=λb u xs q=>by rw[jf (jj q hn)];exact q
 tbls:=λb ps q=>⟨#[],by rw[jf (jj q hn),q];simp⟩
theorem Un.write(mu:Mut (H x))(he:e=x\/H e=some (.own x))(k:∀b u,b≠e->h.get? b=some u->h'.get? b=some u)(heo:∃u,h'.get? e=some u):Un fs ex H (upd H x o) h h':=by
 have hx:∀b,H b=none->b≠x:=λb n z=>by subst z;rw[n]at mu;exact mu
 have hb:∀b,H b=none->b≠e:=λb n z=>by
  subst z
  rcases he with r|r
  ·exact hx b n r
  ·rw[n]at r;cases r
 have hm:∀b u,H b=some u->¬Mut (some u)->b≠x:=λb u q nm z=>by subst z;rw[q]at mu;exact nm mu
 refine⟨λb u q n _ _=>k b u (hb b n) q,λb u q n _ _=>⟨u.slots,k b u (hb b n) q⟩,λb u q n _=>by rw[jf (hx b n)];exact n,λb u q _=>?_,
  λb xs q=>by rw[jf (hm b _ q λz=>z)];exact q,λb u xs q=>by rw[jf (hm b _ q λz=>z)];exact q,λb ps q=>⟨#[],by rw[jf (hm b _ q λz=>z),q];simp⟩⟩
 by_cases hbe:b=e
 ·subst hbe;exact heo
 ·exact⟨u,k b u hbe q⟩
end
def trk(h:Heap)(H:Hp):List Addr:=(List.range h.objs.size).filter λa=>(H a).isSome
def hidT(h:Heap)(H:Hp):Heap:=PySem.W.hideAll h (trk h H)
theorem jnt(h:Heap)(H:Hp):(hidT h H).objs.size=h.objs.size:=PySem.W.hideAll_size _ _
theorem joy{h:Heap}{H:Hp}{b:Addr}{o:Obj}(e:h.get? b=some o)(n:H b=none):(hidT h H).get? b=some o :=
 PySem.W.hideAll_get _ e λhm=>by
  have q:(H b).isSome=true:=(Wu.mp hm).2
  rw[n]at q;simp at q
theorem jqt{h:Heap}{H:Hp}{b:Addr}{o:Obj}(e:(hidT h H).get? b=some o):h.get? b=some o/\H b=none:=by
 have e':h.get? b=some o:=PySem.W.of_hideAll (trk h H) e
 refine⟨e',?_⟩
 cases q:H b with
 |none=>rfl
 |some x =>
  have hm:b∈trk h H:=Wu.mpr ⟨U9.mpr (Am e'),by simp[q]⟩
  have z:(hidT h H).get? b=none:=PySem.W.hideAll_none (trk h H) hm
  rw[z]at e;cases e
structure Mod(K:PySem.W.Frag)(mg:Str->Option Value)(base:Heap):Prop where
 kin:K.In base
 glob:base.Ns mainGlobals mg
 blt:∃mb,base.Ns builtinsNs mb/\∀x:Str,x≠"__name__"->mb x=bootBuiltins x
 nolimit:base.NoLimit
structure Cx where
 prog:Program
 w:World
 K:PySem.W.Frag
 mg:Str->Option Value
 base:Heap
 A:Around
 N:List Str
 s₀:Shared
 H₀:Hp
 env:Env
 outer:List Env
 stack:List Env
 ex:List Addr
 fn:Str->Bool
 calm:Bool
 pn:List (Addr×Obj)
 xe:Value->Shared->Prop
def frs(l:List Env):List Addr:=l.filterMap (·.frame)
abbrev Cx.fs(X:Cx):List Addr:=frs X.outer
def Vis(sc:Scope)(x:Str):Prop:=sc.names.lookup x=some .local\/sc.names.lookup x=some .cell\/sc.names.lookup x=some .free
def Loc(sc:Scope)(x:Str):Prop:=sc.names.lookup x=some .local\/sc.names.lookup x=some .cell
def Look(env:Env)(h:Heap)(m:Str->Option Value)(x:Str)(u:Value):Prop :=
 (env.kindOf x=some .local/\m x=some u)\/((env.kindOf x=some .cell\/env.kindOf x=some .free)/\∃c,env.cells.lookup x=some c/\h.IsCell c (some u))
structure Cx.Ok(X:Cx):Prop where
 mod:Mod X.K X.mg X.base
 kind:X.env.scope.kind=.function
 glob:X.env.globals=mainGlobals
 blt:X.env.builtins=builtinsNs
 above:X.s₀.heap.objs.size<=X.env.locals
 inj:∀x y c,X.env.cells.lookup x=some c->X.env.cells.lookup y=some c->x=y
 has:∀x,(X.env.kindOf x=some .cell\/X.env.kindOf x=some .free)->∃c,X.env.cells.lookup x=some c
 cab:∀x c,X.fn x=true->X.env.cells.lookup x=some c->X.s₀.heap.objs.size<=c
 hd:X.calm=true->X.A.handled=none
 frames:X.A.frames=some X.stack
 stk:X.stack=X.outer\/(X.stack=X.env::X.outer/\X.env.frame=some X.env.locals)
 exf:∀b∈X.ex,b≠X.env.locals/\∀x c,X.env.cells.lookup x=some c->c≠b
 bs:∀b o,X.base.get? b=some o->X.s₀.heap.get? b=some o/\X.H₀ b=none
 bsz:X.base.objs.size<=X.s₀.heap.objs.size
 noex:∀b o,X.base.get? b=some o->b∉X.ex
 exfs:∀b∈X.ex,b∉X.fs
 funs:X.s₀.heap.FunFrames X.base X.outer
 frf:∀b∈X.fs,X.H₀ b=none
structure Inv(X:Cx)(pins:List (Addr×Obj))(σ:List (Option V))(H:Hp)(s:Shared):Prop where
 ok:X.Ok
 os:s.os=X.s₀.os
 bare:AllBare s.gens
 base:Un X.fs X.ex X.H₀ H X.s₀.heap s.heap
 loc:∃m,s.heap.Ns X.env.locals m/\∀(i:Nat)(x:Str)(v:V),X.N[i]?=some x->σ[i]?=some (some v)->Vis X.env.scope x->∃u,RelV v u/\Look X.env s.heap m x u
 cell:∀x c,X.env.cells.lookup x=some c->∃v,s.heap.IsCell c v
 free:H X.env.locals=none
 freeC:∀x c,X.env.cells.lookup x=some c->H c=none
 pin:∀p∈X.pn++pins,s.heap.get? p.1=some p.2/\H p.1=none/\p.1≠X.env.locals/\p.1∉X.fs/\∀v,p.2.data≠.cell v
 hok:HOk X.prog X.w H s.heap
 len:σ.length=X.N.length
section
variable{X:Cx}{pins:List (Addr×Obj)}{σ:List (Option V)}{H H':Hp}{s:Shared}{h':Heap}
theorem Cx.Ok.nofr(ok:X.Ok){b:Addr}{o:Obj}(e:X.base.get? b=some o):b∉X.fs:=λhb=>by
 have:=(ok.funs.mem hb).1
 rw[e]at this;cases this
theorem Inv.bs(I:Inv X pins σ H s):∀b o,X.base.get? b=some o->s.heap.get? b=some o/\H b=none:=λb o e =>
 ⟨I.base.keep b o (I.ok.bs b o e).1 (I.ok.bs b o e).2 (I.ok.nofr e) (I.ok.noex b o e),I.base.free b o (I.ok.bs b o e).1 (I.ok.bs b o e).2 (I.ok.noex b o e)⟩
theorem Inv.bk(I:Inv X pins σ H s):∀b o,X.base.get? b=some o->s.heap.get? b=some o:=λb o e=>(I.bs b o e).1
theorem Inv.mod(I:Inv X pins σ H s):Mod X.K X.mg X.base:=I.ok.mod
theorem Inv.kIn(I:Inv X pins σ H s):X.K.In s.heap:=I.ok.mod.kin.keeps I.bk
theorem Inv.lt(I:Inv X pins σ H s):X.env.locals<s.heap.objs.size:=let⟨_,hn,_⟩:=I.loc;hn.lt
theorem Inv.sz(I:Inv X pins σ H s):X.s₀.heap.objs.size<=s.heap.objs.size:=Ih I.ok.above (Uo I.lt)
theorem Inv.nofs(I:Inv X pins σ H s){a:Addr}(h:s.heap.objs.size<=a):a∉X.fs:=λhb=>by
 obtain⟨_,o,ho,_⟩:=I.ok.funs.mem hb
 exact absurd (Au (Am ho) (Ih I.sz h)) (Oy _)
theorem Inv.cne(I:Inv X pins σ H s):∀x c,X.env.cells.lookup x=some c->c≠X.env.locals:=λx c e z=>by
 obtain⟨v,o,ho,hd⟩:=I.cell x c e
 obtain⟨m,⟨o',es,ep,ho',hd',_⟩,_⟩:=I.loc
 rw[z,ho']at ho;cases ho;rw[hd']at hd;cases hd
theorem Inv.funs(I:Inv X pins σ H s):s.heap.FunFrames X.base X.outer:=by
 have all:∀(l:List Env),(∀b∈frs l,b∈X.fs)->X.s₀.heap.FunFrames X.base l->s.heap.FunFrames X.base l:=by
  intro l
  induction l with
  |nil=>intro _ _;trivial
  |cons env r ih =>
   intro hs hl
   obtain⟨hk,⟨L,o,hf,hn,ho,hd⟩,hr⟩:=hl
   have hL:L∈X.fs:=hs L (by unfold frs;rw[List.filterMap_cons,hf];exact Ol)
   obtain⟨sl,e⟩:=I.base.slot L o ho (I.ok.frf L hL) hL λz=>I.ok.exfs L z hL
   exact⟨hk,⟨L,_,hf,hn,e,hd⟩,ih (λb hb=>hs b (by unfold frs;rw[List.filterMap_cons,hf];exact Ib _ hb)) hr⟩
 exact all X.outer (λ_ hb=>hb) I.ok.funs
theorem Inv.stack(I:Inv X pins σ H s):s.heap.FunFrames X.base X.stack:=by
 rcases I.ok.stk with e|⟨e,hf⟩
 ·rw[e];exact I.funs
 ·rw[e]
  obtain⟨m,hn,_⟩:=I.loc
  refine .cons (by rw[I.ok.kind];decide) hf hn ?_ I.funs
  exact Heap.get?_none_of_le (Ih I.ok.bsz I.ok.above)
theorem Inv.stkSub(I:Inv X pins σ H s):∀b∈frs X.stack,b∈X.env.locals::X.fs:=λb hb=>by
 rcases I.ok.stk with e|⟨e,hf⟩
 ·rw[e]at hb;exact Ib _ hb
 ·rw[e]at hb
  unfold frs at hb
  rw[List.filterMap_cons,hf]at hb
  exact hb
theorem Inv.stkFree(I:Inv X pins σ H s):∀b∈frs X.stack,H b=none:=λb hb=>by
 rcases Aw.mp (I.stkSub b hb)with e|hb
 ·rw[e];exact I.free
 ·obtain⟨_,o,ho,_⟩:=I.ok.funs.mem hb
  exact I.base.free b o ho (I.ok.frf b hb) λz=>I.ok.exfs b z hb
theorem Inv.step{g':Array GenState}{t':Nat}{d':Drawn}{ch:List Addr}(I:Inv X pins σ H s)
  (hch:∀b∈ch,(b∈X.ex\/X.s₀.heap.objs.size<=b)/\b≠X.env.locals/\(∀x c,X.env.cells.lookup x=some c->c≠b)/\∀p∈X.pn++pins,p.1≠b)
  (keep:∀b o,b≠X.env.locals->b∉X.fs->b∉ch->s.heap.get? b=some o->H b=none->h'.get? b=some o)
  (slot:∀b o,b≠X.env.locals->b∈X.fs->b∉ch->s.heap.get? b=some o->H b=none->∃sl,h'.get? b=some {o with slots:=sl}) (free:∀b o,b∉ch->s.heap.get? b=some o->H b=none->H' b=none)
  (there:∀b o,b∉ch->s.heap.get? b=some o->∃o',h'.get? b=some o')
  (tups:∀b xs,H b=some (.tup xs)->H' b=some (.tup xs)) (frzs:∀b o u,H b=some (.frz o u)->H' b=some (.frz o u)) (tbls:∀b ps,H b=some (.tbl ps)->∃more,H' b=some (.tbl (ps++more)))
  (ns:∀m,s.heap.Ns X.env.locals m->h'.Ns X.env.locals m) (hok:HOk X.prog X.w H' h') (hg:AllBare g') :
  Inv X pins σ H' {s with heap:=h',gens:=g',drawn:=d',toks:=t'}:=by
 have neL:∀b o,X.s₀.heap.get? b=some o->b≠X.env.locals:=λb o e=>Ap (Au (Am e) I.ok.above)
 have neC:∀b o,X.s₀.heap.get? b=some o->b∉X.ex->b∉ch:=λb o e hx hb=>by
  rcases(hch b hb).1 with z|z
  ·exact hx z
  ·exact absurd (Au (Am e) z) (Oy _)
 have cellK:∀x c,X.env.cells.lookup x=some c->∀v,s.heap.IsCell c v->h'.IsCell c v:=λx c e v ⟨o,ho,hd⟩=>by
  have nch:c∉ch:=λz=>(hch c z).2.2.1 x c e rfl
  by_cases hc:c∈X.fs
  ·obtain⟨sl,q⟩:=slot c o (I.cne x c e) hc nch ho (I.freeC x c e)
   exact⟨_,q,hd⟩
  ·exact⟨o,keep c o (I.cne x c e) hc nch ho (I.freeC x c e),hd⟩
 refine⟨I.ok,I.os,hg,⟨λb o e n hb hx=>?_,λb o e n hb hx=>?_,λb o e n hx=>?_,λb o e hx=>?_,λb xs e=>tups b xs (I.base.tups b xs e),λb o xs e=>frzs b o xs (I.base.frzs b o xs e),λb ps e=>?_⟩,?_,λx c e=>?_,?_,λx c e=>?_,λp hp=>?_,hok,I.len⟩
 ·exact keep b o (neL b o e) hb (neC b o e hx) (I.base.keep b o e n hb hx) (I.base.free b o e n hx)
 ·obtain⟨sl,e1⟩:=I.base.slot b o e n hb hx
  obtain⟨sl',e2⟩:=slot b _ (neL b o e) hb (neC b o e hx) e1 (I.base.free b o e n hx)
  exact⟨sl',e2⟩
 ·obtain⟨o',e1⟩:=I.base.there b o e hx
  exact free b o' (neC b o e hx) e1 (I.base.free b o e n hx)
 ·obtain⟨o',e1⟩:=I.base.there b o e hx
  exact there b o' (neC b o e hx) e1
 ·obtain⟨m1,e1⟩:=I.base.tbls b ps e
  obtain⟨m2,e2⟩:=tbls b _ e1
  exact⟨m1++m2,by rw[e2,Array.append_assoc]⟩
 ·obtain⟨m,hn,hl⟩:=I.loc
  refine⟨m,ns m hn,λi x v e1 e2 e3=>?_⟩
  obtain⟨u,r,l⟩:=hl i x v e1 e2 e3
  refine⟨u,r,?_⟩
  rcases l with l|⟨k,c,e,z⟩
  ·exact .inl l
  ·exact .inr ⟨k,c,e,cellK x c e _ z⟩
 ·obtain⟨v,z⟩:=I.cell x c e
  exact⟨v,cellK x c e v z⟩
 ·obtain⟨m,⟨o,_,_,ho,_⟩,_⟩:=I.loc
  exact free _ o (λz=>(hch _ z).2.1 rfl) ho I.free
 ·obtain⟨v,o,ho,hd⟩:=I.cell x c e
  exact free c o (λz=>(hch c z).2.2.1 x c e rfl) ho (I.freeC x c e)
 ·obtain⟨e,n,ne,nf,d⟩:=I.pin p hp
  have nch:p.1∉ch:=λz=>(hch p.1 z).2.2.2 p hp rfl
  exact⟨keep p.1 p.2 ne nf nch e n,free p.1 p.2 nch e n,ne,nf,d⟩
theorem Inv.un{t':Nat}(I:Inv X pins σ H s)(u:Un X.fs [] H H' s.heap h')(hok:HOk X.prog X.w H' h'):Inv X pins σ H' {s with heap:=h',toks:=t'}:=by
 obtain⟨m,⟨o,es,ep,ho,r⟩,_⟩:=id I.loc
 obtain⟨sl,hL⟩:=u.any ho I.free (by simp)
 exact I.step (g':=s.gens) (d':=s.drawn) (ch:=[]) (λ_ z=>nomatch z) (λb o _ hb _ e n=>u.keep b o e n hb (by simp)) (λb o _ hb _ e n=>u.slot b o e n hb (by simp)) (λb o _ e n=>u.free b o e n (by simp)) (λb o _ e=>u.there b o e (by simp)) u.tups u.frzs u.tbls (λm' hm=>by
  obtain⟨o',es',ep',ho',r'⟩:=hm
  rw[ho]at ho';cases ho'
  exact⟨_,es',ep',hL,r'⟩) hok I.bare
theorem Inv.call{g':Array GenState}{t':Nat}{d':Drawn}{ch:List Addr}(I:Inv X pins σ H s)(u:Un (frs X.stack) ch H H' s.heap h')(hok:HOk X.prog X.w H' h')(hg:AllBare g')
  (hch:∀b∈ch,(b∈X.ex\/X.s₀.heap.objs.size<=b)/\b≠X.env.locals/\(∀x c,X.env.cells.lookup x=some c->c≠b)/\∀p∈X.pn++pins,p.1≠b) :
  Inv X pins σ H' {s with heap:=h',gens:=g',drawn:=d',toks:=t'}:=by
 obtain⟨m,⟨o,es,ep,ho,r⟩,_⟩:=id I.loc
 obtain⟨sl,hL⟩:=u.any ho I.free λz=>(hch _ z).2.1 rfl
 exact I.step (ch:=ch) hch (λb o hL hb hc e n=>u.keep b o e n (λz=>(Aw.mp (I.stkSub b z)).elim hL hb) hc) (λb o _ _ hc e n=>u.any e n hc) (λb o hc e n=>u.free b o e n hc) (λb o hc e=>u.there b o e hc) u.tups u.frzs u.tbls (λm' hm=>by
  obtain⟨o',es',ep',ho',r'⟩:=hm
  rw[ho]at ho';cases ho'
  exact⟨_,es',ep',hL,r'⟩) hok hg
theorem Inv.turned{t':Nat}{it:Addr}(I:Inv X pins σ H s)(k:∀b o,b≠it->s.heap.get? b=some o->h'.get? b=some o)(hn:H it=none)(hL:it≠X.env.locals)
  (h1:it∈X.ex\/X.s₀.heap.objs.size<=it) (h2:∀x c,X.env.cells.lookup x=some c->c≠it) (h3:∀p∈X.pn++pins,p.1≠it):Inv X pins σ H {s with heap:=h',toks:=t'}:=by
 have nit:∀b u,H b=some u->b≠it:=λb u e z=>by rw[z,hn]at e;cases e
 refine I.step (g':=s.gens) (d':=s.drawn) (ch:=[it]) (λb hb=>?_) (λb o _ _ hc e _=>k b o (λz=>hc (by simp[z])) e) (λb o _ _ hc e _=>⟨o.slots,k b o (λz=>hc (by simp[z])) e⟩) (λ_ _ _ _ n=>n)
  (λb o hc e=>⟨o,k b o (λz=>hc (by simp[z])) e⟩) (λ_ _ e=>e) (λ_ _ _ e=>e) (λb ps e=>⟨#[],by rw[e];simp⟩) (λm hm=>?_) (λb u e=>?_) I.bare
 ·have e:b=it:=by simpa using hb
  subst e
  exact⟨h1,hL,h2,h3⟩
 ·obtain⟨o,es,ep,ho,r⟩:=hm
  exact⟨o,es,ep,k _ o (O6 hL) ho,r⟩
 ·refine(I.hok b u e).stay (λc v hc q=>k c v ?_ q) (λ_ q=>q) λ_ _ q=>q
  rcases hc with z|z
  ·rw[z];exact nit b u e
  ·exact nit c _ z
theorem Inv.tok(I:Inv X pins σ H s)(t:Nat):Inv X pins σ H {s with toks:=t}:=I.un (h':=s.heap) (t':=t) Un.refl I.hok
theorem Inv.kept{t':Nat}(I:Inv X pins σ H s)(k:∀b u,s.heap.get? b=some u->h'.get? b=some u):Inv X pins σ H {s with heap:=h',toks:=t'}:=I.un (Un.kept k) (I.hok.kept k)
theorem Inv.laid{a:Addr}{o:HO}{t':Nat}(I:Inv X pins σ H s)(k:∀b u,s.heap.get? b=some u->h'.get? b=some u)(hp:s.heap.objs.size<=a)(new:ObjOk X.prog X.w (upd H a o) h' a o) :
  Inv X pins σ (upd H a o) {s with heap:=h',toks:=t'}:=I.un (Un.laid k hp (I.hok.fresh hp)) (I.hok.laid k hp new)
theorem Inv.write{x e:Addr}{o:HO}{t':Nat}(I:Inv X pins σ H s)(mu:Mut (H x))(he:e=x\/H e=some (.own x))(k:∀b u,b≠e->s.heap.get? b=some u->h'.get? b=some u)(heo:∃u,h'.get? e=some u)
  (new:ObjOk X.prog X.w (upd H x o) h' x o):Inv X pins σ (upd H x o) {s with heap:=h',toks:=t'}:=I.un (Un.write mu he k heo) (I.hok.write mu he k heo new)
theorem Inv.pins_of{pins':List (Addr×Obj)}(I:Inv X pins σ H s)(h:∀p∈pins',s.heap.get? p.1=some p.2/\H p.1=none/\p.1≠X.env.locals/\p.1∉X.fs/\∀v,p.2.data≠.cell v):Inv X pins' σ H s :=
 ⟨I.ok,I.os,I.bare,I.base,I.loc,I.cell,I.free,I.freeC,λp hp=>(A6.mp hp).elim (λz=>I.pin p (Oa _ z)) (h p),I.hok,I.len⟩
theorem jj4{N:List Str}(hN:N.Nodup){i j:Nat}{x:Str}(a:N[i]?=some x)(b:N[j]?=some x):i=j:=by
 obtain⟨h1,e1⟩:=Aj.mp a
 obtain⟨h2,e2⟩:=Aj.mp b
 exact(List.getElem_inj hN).mp (e1.trans e2.symm)
theorem jiz{M:Model}{A:Around}{E:Value->Shared->Prop}{i:Nat}{x:Str}{v:V}{u:Value}{Q:Unit->Shared->Prop}(I:Inv X pins σ H s)(hN:X.N.Nodup)(hi:X.N[i]?=some x)(hx:Loc X.env.scope x)(r:RelV v u)
  (h:∀s',Inv X pins (σ.set i (some v)) H s'->(∃a,Heap.SameBut a s.heap s'.heap/\(a=X.env.locals\/X.env.cells.lookup x=some a))->Q () s') (hf:X.fn x=true\/X.env.scope.names.lookup x=some .local:=by first|exact .inl rfl|exact .inr rfl|assumption):wpAny M A (storeName X.env x u) Q E s:=by
 obtain⟨m,hn,hl⟩:=id I.loc
 have hcls:(X.env.scope.kind == .class || (X.env.scope.kind == .module && X.env.locals != X.env.globals))=false:=by rw[I.ok.kind];rfl
 have hiσ:i<σ.length:=by rw[I.len];exact(Aj.mp hi).1
 have cne:=I.cne
 have tracked:∀{a:Addr}{h':Heap},(∃o,s.heap.get? a=some o/\H a=none)->Heap.SameBut a s.heap h'->HOk X.prog X.w H h':=fun{a h'} ha hs b ob e=>by
  obtain⟨_,_,hfree⟩:=ha
  refine(I.hok b ob e).stay (λc w' hc q=>(hs.2 c ?_).trans q) (λ_ q=>q) λ_ _ q=>q
  rintro rfl
  rcases hc with rfl|hc
  ·rw[hfree]at e;cases e
  ·rw[hfree]at hc;cases hc
 rcases hx with hk|hk
 ·refine wpAny_storeName_local hk hn (λh' hn' hs=>?_) hcls
  obtain⟨oL,_,_,hoL,_⟩:=id hn
  refine h _ ⟨I.ok,I.os,I.bare,⟨λb o e n hb hx=>?_,λb o e n hb hx=>?_,I.base.free,λb o e hx=>?_,I.base.tups,I.base.frzs,I.base.tbls⟩,⟨_,hn',λj y v' e1 e2 e3=>?_⟩,λy c e=>?_,I.free,I.freeC,λp hp=>?_,tracked ⟨oL,hoL,I.free⟩ hs,by simpa using I.len⟩ ⟨_,hs,.inl rfl⟩
  ·exact(hs.2 b (Ap (Au (Am e) I.ok.above))).trans (I.base.keep b o e n hb hx)
  ·obtain⟨sl,e1⟩:=I.base.slot b o e n hb hx
   exact⟨sl,(hs.2 b (Ap (Au (Am e) I.ok.above))).trans e1⟩
  ·obtain⟨o',e1⟩:=I.base.there b o e hx
   exact⟨o',(hs.2 b (Ap (Au (Am e) I.ok.above))).trans e1⟩
  ·by_cases hj:j=i
   ·subst hj
    rw[hi]at e1;cases e1
    rw[Um hiσ]at e2
    cases e2
    exact⟨u,r,.inl ⟨hk,by simp⟩⟩
   ·rw[Uu (O6 hj)]at e2
    obtain⟨u',r',q⟩:=hl j y v' e1 e2 e3
    refine⟨u',r',?_⟩
    rcases q with⟨k,e⟩|⟨k,c,e,z⟩
    ·refine .inl ⟨k,?_⟩
     have:y≠x:=λe=>hj (jj4 hN e1 (e▸hi))
     simp[this,e]
    ·exact .inr ⟨k,c,e,z.sameBut hs (cne y c e)⟩
  ·obtain⟨w',z⟩:=I.cell y c e
   exact⟨w',z.sameBut hs (cne y c e)⟩
  ·obtain⟨e,n,ne,nf,d⟩:=I.pin p hp
   exact⟨(hs.2 p.1 ne).trans e,n,ne,nf,d⟩
 ·have hfn:X.fn x=true:=by
   rcases hf with z|z
   ·exact z
   ·rw[z]at hk;cases hk
  obtain⟨c,hc⟩:=I.ok.has x (.inl hk)
  obtain⟨w',z⟩:=I.cell x c hc
  refine wpAny_storeName_cell I.ok.kind hk hc z (λh' hc' hs=>?_)
  obtain⟨oc,hoc,hocd⟩:=id z
  refine h {s with heap:=h'} ⟨I.ok,I.os,I.bare,⟨λb o e n hb hx=>?_,λb o e n hb hx=>?_,I.base.free,λb o e hx=>?_,I.base.tups,I.base.frzs,I.base.tbls⟩,⟨m,hn.sameBut hs (O6 (cne x c hc)),λj y v' e1 e2 e3=>?_⟩,λy c' e=>?_,I.free,I.freeC,λp hp=>?_,tracked ⟨oc,hoc,I.freeC x c hc⟩ hs,by simpa using I.len⟩ ⟨c,hs,.inr hc⟩
  ·exact(hs.2 b (Ap (Au (Am e) (I.ok.cab x c hfn hc)))).trans (I.base.keep b o e n hb hx)
  ·obtain⟨sl,e1⟩:=I.base.slot b o e n hb hx
   exact⟨sl,(hs.2 b (Ap (Au (Am e) (I.ok.cab x c hfn hc)))).trans e1⟩
  ·obtain⟨o',e1⟩:=I.base.there b o e hx
   exact⟨o',(hs.2 b (Ap (Au (Am e) (I.ok.cab x c hfn hc)))).trans e1⟩
  ·by_cases hj:j=i
   ·subst hj
    rw[hi]at e1;cases e1
    rw[Um hiσ]at e2
    cases e2
    exact⟨u,r,.inr ⟨.inl hk,c,hc,hc'⟩⟩
   ·rw[Uu (O6 hj)]at e2
    obtain⟨u',r',q⟩:=hl j y v' e1 e2 e3
    refine⟨u',r',?_⟩
    rcases q with q|⟨k,c',e,z'⟩
    ·exact .inl q
    ·refine .inr ⟨k,c',e,z'.sameBut hs ?_⟩
     rintro rfl
     exact hj (jj4 hN e1 (I.ok.inj _ _ _ e hc▸hi))
  ·by_cases hcc:c'=c
   ·subst hcc;exact⟨_,hc'⟩
   ·obtain⟨w2,z2⟩:=I.cell y c' e
    exact⟨w2,z2.sameBut hs hcc⟩
  ·obtain⟨e,n,ne,nf,d⟩:=I.pin p hp
   refine⟨(hs.2 p.1 ?_).trans e,n,ne,nf,d⟩
   intro q
   rw[q,hoc]at e
   have q':oc=p.2:=Av e
   exact d w' (by rw[<-q'];exact hocd)
theorem jku{M:Model}{A:Around}{E:Value->Shared->Prop}{i:Nat}{x:Str}{v:V}{u:Value}{Q:Unit->Shared->Prop}(I:Inv X pins σ H s)(hN:X.N.Nodup)(hi:X.N[i]?=some x)(hx:Loc X.env.scope x)(r:RelV v u)
  (h:∀s',Inv X pins (σ.set i (some v)) H s'->Q () s') (hf:X.fn x=true\/X.env.scope.names.lookup x=some .local:=by first|exact .inl rfl|exact .inr rfl|assumption):wpAny M A (storeName X.env x u) Q E s :=
 jiz I hN hi hx r (λs' I' _=>h s' I') hf
theorem Inv.call'{s':Shared}{ch:List Addr}(I:Inv X pins σ H s)(ho:s'.os=s.os)(u:Un (frs X.stack) ch H H' s.heap s'.heap)(hok:HOk X.prog X.w H' s'.heap)(hg:AllBare s'.gens)
  (hch:∀b∈ch,(b∈X.ex\/X.s₀.heap.objs.size<=b)/\b≠X.env.locals/\(∀x c,X.env.cells.lookup x=some c->c≠b)/\∀p∈X.pn++pins,p.1≠b):Inv X pins σ H' s':=by
 obtain⟨h',g',d',t',o'⟩:=s'
 have e:o'=s.os:=ho
 subst e
 exact I.call (g':=g') (t':=t') (d':=d') u hok hg hch
end
abbrev XK:=Value->Option Addr->Hp->Prop
abbrev St:=List (Option V)
abbrev VK:=V->Hp->Prop
abbrev TE:=St->Hp->VK->Prop
abbrev TT:=St->Hp->(Bool->Hp->Prop)->Prop
abbrev TA:=St->Hp->(List V->Hp->Prop)->Prop
structure Ends where
 nx:St->Hp->Prop
 rt:VK
 bk:St->Hp->Prop:=λ_ _=>False
 ct:St->Hp->Prop:=λ_ _=>False
abbrev TS:=Ends->St->Hp->Prop
def EP(X:Cx)(pins:List (Addr×Obj))(σ:St)(Q:VK)(u:Value)(s':Shared):Prop:=∃v H',Inv X pins σ H' s'/\RelV v u/\Q v H'
def TP(X:Cx)(pins:List (Addr×Obj))(σ:St)(Q:Bool->Hp->Prop)(b:Bool)(s':Shared):Prop:=∃H',Inv X pins σ H' s'/\Q b H'
def AP(X:Cx)(pins:List (Addr×Obj))(σ:St)(Q:List V->Hp->Prop)(us:List Value)(s':Shared):Prop:=∃vs H',Inv X pins σ H' s'/\Vals vs us/\Q vs H'
def SP(X:Cx)(pins:List (Addr×Obj))(D:Ends)(f:Flow)(s':Shared):Prop :=
 match f with
 |.next=>∃σ' H',Inv X pins σ' H' s'/\D.nx σ' H'
 |.brk=>∃σ' H',Inv X pins σ' H' s'/\D.bk σ' H'
 |.cont=>∃σ' H',Inv X pins σ' H' s'/\D.ct σ' H'
 |.ret u=>∃v σ' H',Inv X pins σ' H' s'/\RelV v u/\D.rt v H'
def PE(X:Cx)(e:Expr)(t:TE):Prop :=
 ∀(pins:List (Addr×Obj))(s:Shared)(σ:St)(H:Hp)(Q:VK),Inv X pins σ H s->t σ H Q->wpAny (model X.prog X.w) X.A (eval e X.env) (EP X pins σ Q) X.xe s
def PT(X:Cx)(e:Expr)(t:TT):Prop :=
 ∀(pins:List (Addr×Obj))(s:Shared)(σ:St)(H:Hp)(Q:Bool->Hp->Prop),Inv X pins σ H s->t σ H Q->wpAny (model X.prog X.w) X.A (isTrue e X.env (eval e X.env)) (TP X pins σ Q) X.xe s
def PW(X:Cx)(e:Expr)(t:TT):Prop :=
 ∀(whole:Sem Value)(pins:List (Addr×Obj))(s:Shared)(σ:St)(H:Hp)(Q:Bool->Hp->Prop),Inv X pins σ H s->t σ H Q->wpAny (model X.prog X.w) X.A (isTrue e X.env whole) (TP X pins σ Q) X.xe s
theorem PW.pt{X:Cx}{e:Expr}{t:TT}(h:PW X e t):PT X e t:=h _
def PA(X:Cx)(es:List Expr)(t:TA):Prop :=
 ∀(pos:Pos)(pins:List (Addr×Obj))(s:Shared)(σ:St)(H:Hp)(Q:List V->Hp->Prop),Inv X pins σ H s->t σ H Q->wpAny (model X.prog X.w) X.A (spliced (backTo pos (starEach es X.env))) (AP X pins σ Q) X.xe s
def PS(X:Cx)(st:Stmt)(t:TS):Prop :=
 ∀(pins:List (Addr×Obj))(s:Shared)(σ:St)(H:Hp)(D:Ends),Inv X pins σ H s->t D σ H->wpAny (model X.prog X.w) X.A (exec st X.env) (SP X pins D) X.xe s
def PSs(X:Cx)(st:List Stmt)(t:TS):Prop :=
 ∀(pins:List (Addr×Obj))(s:Shared)(σ:St)(H:Hp)(D:Ends),Inv X pins σ H s->t D σ H->wpAny (model X.prog X.w) X.A (execs st X.env) (SP X pins D) X.xe s
theorem thn{α:Type}{t:Sem α}{Q Q':α->Shared->Prop}{M:Model}{A:Around}{E:Value->Shared->Prop}{s:Shared}(h:wpAny M A t Q E s)(hQ:∀a s,Q a s->Q' a s):wpAny M A t Q' E s:=Of h hQ λ_ _ x=>x
section
variable{X:Cx}
def tVar(i:Nat):TE:=λσ H Q=>∃v,σ[i]?=some (some v)/\Q v H
def tC(v:V):TE:=λ_ H Q=>Q v H
theorem jcb{i:Nat}{x:Str}{pos:Pos}(hN:X.N[i]?=some x)(hv:Vis X.env.scope x)(hd:(x == ("__debug__":Str))=false:=by decide)(hcd:(x == ("__classdict__":Str))=false:=by decide):PE X (.Name x pos) (tVar i):=by
 intro pins s σ H Q I h
 obtain⟨v,e,h⟩:=h
 obtain⟨m,hn,hl⟩:=I.loc
 obtain⟨u,r,l⟩:=hl i x v hN e hv
 have fin:EP X pins σ Q u s:=⟨v,H,I,r,h⟩
 rcases l with⟨hk,hm⟩|⟨hk,c,hc,hcell⟩
 ·exact wpAny_Name (wpAny_loadName_local I.ok.kind hk hn hm fin) hd
 ·rcases hk with hk|hk
  ·exact wpAny_Name (wpAny_loadName_cell I.ok.kind hk hc hcell fin) hd
  ·exact wpAny_Name (wpAny_loadName_free I.ok.kind hk hc hcell fin hcd) hd
theorem pe_int{i j pos}:PE X (.Constant (.int i) j pos) (tC (.int i)):=λ_ _ _ H _ I h=>wpAny_Constant_int ⟨.int i,H,I.tok _,⟨_,rfl⟩,h⟩
theorem pe_bl{b j pos}:PE X (.Constant (.bool b) j pos) (tC (.bl b)):=λ_ _ _ H _ I h=>Constant_bool ⟨.bl b,H,I,rfl,h⟩
theorem pe_str{x j pos}:PE X (.Constant (.str x) j pos) (tC (.str x)):=λ_ _ _ H _ I h=>Calls.Constant_str ⟨.str x,H,I.tok _,⟨_,rfl⟩,h⟩
def Gl(X:Cx)(x:Str):Prop:=X.env.kindOf x=some .globalImplicit
theorem jfs{E:Value->Shared->Prop}{pins:List (Addr×Obj)}{s:Shared}{σ:St}{H:Hp}{x:Str}{u:Value}{pos:Pos}{Q:Value->Shared->Prop}(I:Inv X pins σ H s)(hg:Gl X x)(hm:X.mg x=some u)(h:Q u s)
  (hd:(x == ("__debug__":Str))=false:=by decide):wpAny (model X.prog X.w) X.A (eval (.Name x pos) X.env) Q E s :=
 Calls.Name_function_global I.ok.kind hg (Calls.loadGlobal_global (by rw[I.ok.glob];exact I.mod.glob.keeps I.bk) hm h) hd
theorem jdc{E:Value->Shared->Prop}{pins:List (Addr×Obj)}{s:Shared}{σ:St}{H:Hp}{x:Str}{u:Value}{pos:Pos}{Q:Value->Shared->Prop}(I:Inv X pins σ H s)(hg:Gl X x)(hm:X.mg x=none)(hv:bootBuiltins x=some u)(h:Q u s)
  (hn:x≠"__name__":=by decide) (hd:(x == ("__debug__":Str))=false:=by decide):wpAny (model X.prog X.w) X.A (eval (.Name x pos) X.env) Q E s:=by
 obtain⟨mb,h1,h2⟩:=I.mod.blt
 exact Calls.Name_function_global I.ok.kind hg (Calls.loadGlobal_builtin (by rw[I.ok.glob];exact I.mod.glob.keeps I.bk) hm (by rw[I.ok.blt];exact h1.keeps I.bk) ((h2 x hn).trans hv) h) hd
theorem pe_glob{x:Str}{v:V}{u:Value}{pos:Pos}(hg:Gl X x)(hm:X.mg x=some u)(r:RelV v u)(hd:(x == ("__debug__":Str))=false:=by decide):PE X (.Name x pos) (tC v) :=
 λ_ _ _ H _ I h=>jfs I hg hm ⟨v,H,I,r,h⟩ hd
theorem pe_bltn{x:Str}{v:V}{u:Value}{pos:Pos}(hg:Gl X x)(hm:X.mg x=none)(hv:bootBuiltins x=some u)(r:RelV v u)(hn:x≠"__name__":=by decide)(hd:(x == ("__debug__":Str))=false:=by decide):PE X (.Name x pos) (tC v) :=
 λ_ _ _ H _ I h=>jdc I hg hm hv ⟨v,H,I,r,h⟩ hn hd
variable{a b:Expr}{ta tb:TE}{pos:Pos}
def PC(X:Cx)(op:CmpOp)(a b:Expr)(t:TE):Prop :=
 ∀(pins:List (Addr×Obj))(s:Shared)(σ:St)(H:Hp)(Q:VK),Inv X pins σ H s->t σ H Q ->
  wpAny (model X.prog X.w) X.A (eval a X.env) (λv s₁=>wpAny (model X.prog X.w) X.A (eval b X.env) (λu s₂=>wpAny (model X.prog X.w) X.A (compareOp op v u) (EP X pins σ Q) X.xe s₂) X.xe s₁) X.xe s
def tB(t:TE):TT:=λσ H Q=>t σ H λx H1=>∃c,x=.bl c/\Q c H1
theorem pt_cmp{op:CmpOp}{t:TE}(h:PC X op a b t)(h1:behindInMarks op b=false:=by first|exact nobehind _ (by decide) (by decide)|rfl):PT X (.Compare a [op] [b] pos) (tB t):=by
 intro pins s σ H Q I hw
 refine wpAny_isTrue_Compare1 (thn (h pins s σ H _ I hw) λv s1 h1=>thn h1 λu s2 h2=>thn h2 λc s3 ⟨x,H1,I1,r1,q1⟩=>?_) h1
 obtain⟨d,rfl,q⟩:=q1
 cases r1
 exact Os ⟨H1,I1,q⟩
theorem pt_val{e:Expr}{t:TE}(h:PE X e t)(he:∀whole,isTrue e X.env whole=(do let v <-whole;standAt e.pos;holding [v] (truthy v)):=by intro _;rfl):PT X e (tB t):=by
 intro pins s σ H Q I hw
 refine isTrue_plain (thn (h pins s σ H _ I hw) λv s1 ⟨x,H1,I1,r1,q1⟩=>?_) (he _)
 obtain⟨d,rfl,q⟩:=q1
 cases r1
 exact Os ⟨H1,I1,q⟩
variable{tA tB':TT}{rest:List Expr}
def tAnd(t u:TT):TT:=λσ H Q=>t σ H λc H1=>if c=true then u σ H1 Q else Q false H1
def tOr(t u:TT):TT:=λσ H Q=>t σ H λc H1=>if c=true then Q true H1 else u σ H1 Q
def tNot(t:TT):TT:=λσ H Q=>t σ H λc H1=>Q (!c) H1
theorem pw_and1(ha:PT X a tA):PW X (.BoolOp .And [a] pos) tA:=by
 intro wh pins s σ H Q I h
 refine isTrue_and (thn (ha pins s σ H Q I h) λc s1 e=>?_)
 cases c with
 |true=>exact isTrue_and_nil e
 |false=>exact e
theorem pw_or1(ha:PT X a tA):PW X (.BoolOp .Or [a] pos) tA:=by
 intro wh pins s σ H Q I h
 refine isTrue_or (thn (ha pins s σ H Q I h) λc s1 e=>?_)
 cases c with
 |false=>exact isTrue_or_nil e
 |true=>exact e
theorem pw_and(ha:PT X a tA)(hb:PW X (.BoolOp .And (b::rest) pos) tB'):PW X (.BoolOp .And (a::b::rest) pos) (tAnd tA tB'):=by
 intro wh pins s σ H Q I h
 refine isTrue_and (thn (ha pins s σ H _ I h) λc s1 ⟨H1,I1,q1⟩=>?_)
 cases c with
 |true=>exact hb wh pins s1 σ H1 Q I1 q1
 |false=>exact⟨H1,I1,q1⟩
theorem pw_or(ha:PT X a tA)(hb:PW X (.BoolOp .Or (b::rest) pos) tB'):PW X (.BoolOp .Or (a::b::rest) pos) (tOr tA tB'):=by
 intro wh pins s σ H Q I h
 refine isTrue_or (thn (ha pins s σ H _ I h) λc s1 ⟨H1,I1,q1⟩=>?_)
 cases c with
 |true=>exact⟨H1,I1,q1⟩
 |false=>exact hb wh pins s1 σ H1 Q I1 q1
theorem pt_not(ha:PT X a tA):PT X (.UnaryOp .Not a pos) (tNot tA):=by
 intro pins s σ H Q I h
 exact isTrue_not (ha pins s σ H (λc H1=>Q (!c) H1) I h)
def jjd(ta tb:TE):TE:=λσ H Q=>ta σ H λx H1=>∃c,x=.bl c/\if c=true then tb σ H1 Q else Q (.bl false) H1
def tOrV(ta tb:TE):TE:=λσ H Q=>ta σ H λx H1=>∃c,x=.bl c/\if c=true then Q (.bl true) H1 else tb σ H1 Q
def jjm(ta:TE):TE:=λσ H Q=>ta σ H λx H1=>∃c,x=.bl c/\Q (.bl (!c)) H1
theorem pe_one{op}{t:TE}(h:PE X a t):PE X (.BoolOp op [a] pos) t:=λpins s σ H Q I hw=>BoolOp_one (h pins s σ H Q I hw)
theorem pe_and(ha:PE X a ta)(hb:PE X (.BoolOp .And (b::rest) pos) tb):PE X (.BoolOp .And (a::b::rest) pos) (jjd ta tb):=by
 intro pins s σ H Q I h
 refine BoolOp_and (thn (ha pins s σ H _ I h) λv s1 ⟨x,H1,I1,r1,q1⟩=>?_)
 obtain⟨c,rfl,q1⟩:=q1
 cases r1
 refine Os ?_
 cases c with
 |true=>exact hb pins s1 σ H1 Q I1 q1
 |false=>exact⟨.bl false,H1,I1,rfl,q1⟩
theorem pe_or(ha:PE X a ta)(hb:PE X (.BoolOp .Or (b::rest) pos) tb):PE X (.BoolOp .Or (a::b::rest) pos) (tOrV ta tb):=by
 intro pins s σ H Q I h
 refine BoolOp_or (thn (ha pins s σ H _ I h) λv s1 ⟨x,H1,I1,r1,q1⟩=>?_)
 obtain⟨c,rfl,q1⟩:=q1
 cases r1
 refine Os ?_
 cases c with
 |false=>exact hb pins s1 σ H1 Q I1 q1
 |true=>exact⟨.bl true,H1,I1,rfl,q1⟩
theorem pe_not(ha:PE X a ta):PE X (.UnaryOp .Not a pos) (jjm ta):=by
 intro pins s σ H Q I h
 refine UnaryOp_ (thn (ha pins s σ H _ I h) λv s1 ⟨x,H1,I1,r1,q1⟩=>?_)
 obtain⟨c,rfl,q1⟩:=q1
 cases r1
 exact not_of (Os ⟨.bl (!c),H1,I1,rfl,q1⟩)
def tIf(t:TT)(ta tb:TE):TE:=λσ H Q=>t σ H λc H1=>if c=true then ta σ H1 Q else tb σ H1 Q
theorem pe_ifExp{c:Expr}(hc:PT X c tA)(ha:PE X a ta)(hb:PE X b tb):PE X (.IfExp c a b pos) (tIf tA ta tb):=by
 intro pins s σ H Q I h
 refine wpAny_IfExp (thn (hc pins s σ H _ I h) λd s1 ⟨H1,I1,q1⟩=>?_)
 cases d with
 |true=>exact ha pins s1 σ H1 Q I1 q1
 |false=>exact hb pins s1 σ H1 Q I1 q1
end
def SqL(K:PySem.W.Frag)(H:Hp)(a:Addr)(xs:List V):Prop :=
 Rd H a (.lst xs) \/
  ∃(o:Obj)(its:Array Value)(n:Nat),K.lookup a=some o/\o.cls=.type "list"/\o.dict=none/\o.data=.seq its n/\its.size<=sizeLine/\Vals xs its.toList
def SqT(K:PySem.W.Frag)(H:Hp)(a:Addr)(xs:List V):Prop :=
 Rd H a (.tup xs) \/
  ∃(o:Obj)(its:Array Value)(n:Nat),K.lookup a=some o/\o.cls=.type "tuple"/\o.data=.seq its n/\its.size<=sizeLine/\Vals xs its.toList
def absV:Value->Option V
 |.none=>some .non
 |.bool b=>some (.bl b)
 |.int i _=>some (.int i)
 |.str x _=>some (.str x)
 |.bytes b _=>some (.byt b)
 |.float b _=>some (.flt b)
 |.ref a=>some (.ref a)
 |.type n=>some (.ty n)
 |_=>none
theorem RelV.abs{x:V}{u:Value}(r:RelV x u):absV u=some x:=by
 cases x with
 |non=>cases r;rfl
 |bl _=>cases r;rfl
 |int _=>obtain⟨t,rfl⟩:=r;rfl
 |str _=>obtain⟨t,rfl⟩:=r;rfl
 |byt _=>obtain⟨t,rfl⟩:=r;rfl
 |flt _=>obtain⟨t,rfl⟩:=r;rfl
 |ref _=>cases r;rfl
 |ty _=>cases r;rfl
theorem RelV.inj{x y:V}{u:Value}(r:RelV x u)(q:RelV y u):x=y:=Av (r.abs.symm.trans q.abs)
theorem Vals.inj:∀{xs ys:List V}{us:List Value},Vals xs us->Vals ys us->xs=ys
 |_,_,_,.nil,.nil=>rfl
 |_,_,_,.cons r t,.cons r' t'=>by rw[r.inj r',Vals.inj t t']
section
variable{X:Cx}{pins:List (Addr×Obj)}{σ:St}{H:Hp}{s:Shared}{a:Addr}{xs ys:List V}
theorem SqL.of{K:PySem.W.Frag}(h:H a=some (.lst xs)):SqL K H a xs:=.inl (.inl h)
theorem SqT.of{K:PySem.W.Frag}(h:H a=some (.tup xs)):SqT K H a xs:=.inl (.inl h)
theorem Inv.list(I:Inv X pins σ H s)(h:SqL X.K H a xs):∃its:List Value,Vals xs its/\PlainL s.heap a its.toArray/\xs.length<=sizeLine:=by
 rcases h with h|⟨o,its,n,hk,hc,hd,hs,hz,r⟩
 ·obtain⟨z,its,n,r,e⟩:=h.ok I.hok
  exact⟨its,r,⟨_,n,e,rfl,rfl,rfl⟩,z⟩
 ·refine⟨its.toList,r,⟨o,n,I.kIn a o hk,hc,hd,by simpa using hs⟩,?_⟩
  have e:=r.length
  simp only[Array.length_toList]at e
  omega
theorem Inv.tuple(I:Inv X pins σ H s)(h:SqT X.K H a xs):∃its:List Value,Vals xs its/\IsTup s.heap a its.toArray/\xs.length<=sizeLine:=by
 rcases h with h|⟨o,its,n,hk,hc,hs,hz,r⟩
 ·obtain⟨z,its,r,p⟩:=h.ok I.hok
  exact⟨its,r,p,z⟩
 ·refine⟨its.toList,r,⟨o,I.kIn a o hk,hc,n,by simpa using hs⟩,?_⟩
  have e:=r.length
  simp only[Array.length_toList]at e
  omega
theorem Inv.list_inj(I:Inv X pins σ H s)(h:SqL X.K H a xs)(h':SqL X.K H a ys):xs=ys:=by
 obtain⟨its,r,⟨o,n,e,_,_,d⟩,_⟩:=I.list h
 obtain⟨its',r',⟨o',n',e',_,_,d'⟩,_⟩:=I.list h'
 rw[e]at e';cases e'
 rw[d]at d'
 injection d' with d1 _
 have:its=its':=by simpa using Od Array.toList d1
 subst this
 exact r.inj r'
theorem Inv.tuple_inj(I:Inv X pins σ H s)(h:SqT X.K H a xs)(h':SqT X.K H a ys):xs=ys:=by
 obtain⟨its,r,⟨o,e,_,n,d⟩,_⟩:=I.tuple h
 obtain⟨its',r',⟨o',e',_,n',d'⟩,_⟩:=I.tuple h'
 rw[e]at e';cases e'
 rw[d]at d'
 injection d' with d1 _
 have:its=its':=by simpa using Od Array.toList d1
 subst this
 exact r.inj r'
end
abbrev Cx.wish(X:Cx)(E:Value->Shared->Prop):Cx:={X with xe:=E}
abbrev Cx.nox(X:Cx):Cx:=X.wish λ_ _=>False
theorem Cx.Ok.wish{X:Cx}(ok:X.Ok)(E:Value->Shared->Prop):(X.wish E).Ok :=
 ⟨ok.mod,ok.kind,ok.glob,ok.blt,ok.above,ok.inj,ok.has,ok.cab,ok.hd,ok.frames,ok.stk,ok.exf,ok.bs,ok.bsz,ok.noex,ok.exfs,ok.funs,ok.frf⟩
theorem Cx.Ok.unwish{X:Cx}{E:Value->Shared->Prop}(ok:(X.wish E).Ok):X.Ok :=
 ⟨ok.mod,ok.kind,ok.glob,ok.blt,ok.above,ok.inj,ok.has,ok.cab,ok.hd,ok.frames,ok.stk,ok.exf,ok.bs,ok.bsz,ok.noex,ok.exfs,ok.funs,ok.frf⟩
section
variable{X:Cx}{pins:List (Addr×Obj)}{σ:St}{H:Hp}{s:Shared}{E:Value->Shared->Prop}
theorem Inv.wish(I:Inv X pins σ H s)(E:Value->Shared->Prop):Inv (X.wish E) pins σ H s:=⟨I.ok.wish E,I.os,I.bare,I.base,I.loc,I.cell,I.free,I.freeC,I.pin,I.hok,I.len⟩
theorem Inv.unwish(I:Inv (X.wish E) pins σ H s):Inv X pins σ H s:=⟨I.ok.unwish,I.os,I.bare,I.base,I.loc,I.cell,I.free,I.freeC,I.pin,I.hok,I.len⟩
theorem SP.unwish{D:Ends}{f:Flow}{s':Shared}(h:SP (X.wish E) pins D f s'):SP X pins D f s':=by
 cases f with
 |next=>obtain⟨σ',H',I,q⟩:=h;exact⟨σ',H',I.unwish,q⟩
 |brk=>obtain⟨σ',H',I,q⟩:=h;exact⟨σ',H',I.unwish,q⟩
 |cont=>obtain⟨σ',H',I,q⟩:=h;exact⟨σ',H',I.unwish,q⟩
 |ret u=>obtain⟨v,σ',H',I,r,q⟩:=h;exact⟨v,σ',H',I.unwish,r,q⟩
theorem PSs.nox{st:List Stmt}{t:TS}(h:PSs X.nox st t):PSs X st t:=λpins s σ H D I hw =>
 Of (h pins s σ H D (I.wish _) hw) (λ_ _ q=>q.unwish) λ_ _ z=>False.elim z
end
section
variable{X:Cx}{st:Stmt}{rest:List Stmt}{t u:TS}{e:Expr}{te:TE}{pos:Pos}
def jjl:TS:=λD σ H=>D.nx σ H
def tSeq(t u:TS):TS:=λD σ H=>t {D with nx:=u D} σ H
theorem pss_nil:PSs X [] jjl:=λ_ _ σ H _ I h=>Wv ⟨σ,H,I,h⟩
theorem pss_cons(h1:PS X st t)(h2:PSs X rest u):PSs X (st::rest) (tSeq t u):=by
 intro pins s σ H D I h
 refine wpAny_execs_cons (thn (h1 pins s σ H {D with nx:=u D} I h) λf s1 q=>?_)
 cases f with
 |next =>
  obtain⟨σ',H',I',q⟩:=q
  exact h2 pins s1 σ' H' D I' q
 |ret v=>exact q
 |brk=>exact q
 |cont=>exact q
theorem pss_one(h1:PS X st t):PSs X [st] t:=by
 intro pins s σ H D I h
 refine wpAny_execs_cons (thn (h1 pins s σ H D I h) λf s1 q=>?_)
 cases f with
 |next=>exact Wv q
 |ret v=>exact q
 |brk=>exact q
 |cont=>exact q
def jjh:TS:=λD σ H=>D.ct σ H
theorem ps_continue:PS X (.Continue pos) jjh:=λ_ _ σ H _ I h=>wpAny_Continue ⟨σ,H,I,h⟩
theorem Inv.quiet{pins:List (Addr×Obj)}{σ:St}{H:Hp}{s:Shared}(I:Inv X pins σ H s):interactive X.env=false:=by simp[interactive,I.ok.kind]
def jji(te:TE):TS:=λD σ H=>te σ H λ_ H1=>D.nx σ H1
theorem ps_expr(he:PE X e te)(hs:swapsWith e none pos.line X.env=pure false:=by rfl):PS X (.Expr e pos) (jji te):=by
 intro pins s σ H D I h
 exact wpAny_Expr_any (thn (he pins s σ H _ I h) λv s1 ⟨x,H1,I1,r1,q1⟩=>⟨σ,H1,I1,q1⟩) I.quiet hs
def tRet(te:TE):TS:=λD σ H=>te σ H D.rt
theorem ps_ret(he:PE X e te):PS X (.Return (some e) pos) (tRet te):=by
 intro pins s σ H D I h
 exact wpAny_Return_some (thn (he pins s σ H _ I h) λv s1 ⟨x,H1,I1,r1,q1⟩=>⟨x,σ,H1,I1,r1,q1⟩)
def tIfS(c:TT)(t u:TS):TS:=λD σ H=>c σ H λb H1=>if b=true then t D σ H1 else u D σ H1
theorem ps_if{c:Expr}{a b:List Stmt}{tc:TT}(hc:PT X c tc)(ha:PSs X a t)(hb:PSs X b u):PS X (.If c a b pos) (tIfS tc t u):=by
 intro pins s σ H D I h
 refine wpAny_If (thn (hc pins s σ H _ I h) λd s1 ⟨H1,I1,q1⟩=>?_)
 cases d with
 |true=>exact ha pins s1 σ H1 D I1 q1
 |false=>exact hb pins s1 σ H1 D I1 q1
def jof:TS:=λ_ _ _=>False
theorem ps_never:PS X st jof:=λ_ _ _ _ _ _ h=>h.elim
end
abbrev TG:=V->St->Hp->(St->Hp->Prop)->Prop
abbrev TGs:=List V->St->Hp->(St->Hp->Prop)->Prop
def PG(X:Cx)(target:Expr)(t:TG):Prop :=
 ∀(pins:List (Addr×Obj))(s:Shared)(σ:St)(H:Hp)(v:V)(u:Value)(Q:St->Hp->Prop),Inv X pins σ H s->RelV v u->t v σ H Q ->
  wpAny (model X.prog X.w) X.A (assign target X.env u) (λ_ s'=>∃σ' H',Inv X pins σ' H' s'/\Q σ' H') X.xe s
def PGs(X:Cx)(ts:List Expr)(t:TGs):Prop :=
 ∀(pins:List (Addr×Obj))(s:Shared)(σ:St)(H:Hp)(vs:List V)(us:List Value)(Q:St->Hp->Prop),Inv X pins σ H s->Vals vs us->t vs σ H Q ->
  wpAny (model X.prog X.w) X.A (assignInOrder ((assignEach ts X.env).map (·.2)) us) (λ_ s'=>∃σ' H',Inv X pins σ' H' s'/\Q σ' H') X.xe s
abbrev TSet:=V->V->V->Hp->(Hp->Prop)->Prop
def PSet(X:Cx)(t:TSet):Prop :=
 ∀(pins:List (Addr×Obj))(s:Shared)(σ:St)(H:Hp)(o i v:V)(ov iv u:Value)(Q:Hp->Prop),Inv X pins σ H s->RelV o ov->RelV i iv->RelV v u->t o i v H Q ->
  wpAny (model X.prog X.w) X.A (setItem ov iv u) (λ_ s'=>∃H',Inv X pins σ H' s'/\Q H') X.xe s
section
variable{X:Cx}{pos:Pos}
def jdk(i:Nat):TG:=λv σ H Q=>Q (σ.set i (some v)) H
theorem pg_name{i:Nat}{x:Str}(hN:X.N.Nodup)(hi:X.N[i]?=some x)(hx:Loc X.env.scope x)(hf:X.fn x=true\/X.env.scope.names.lookup x=some .local:=by first|exact .inl rfl|exact .inr rfl|assumption):PG X (.Name x pos) (jdk i):=by
 intro pins s σ H v u Q I r h
 exact wpAny_assign_Name (jku I hN hi hx r (λs' I'=>⟨_,H,I',h⟩) hf)
def gNil:TGs:=λvs σ H Q=>vs=[]/\Q σ H
def jpw(t:TG)(u:TGs):TGs:=λvs σ H Q=>∃v r,vs=v::r/\t v σ H λσ' H'=>u r σ' H' Q
theorem pgs_nil:PGs X [] gNil:=by
 intro pins s σ H vs us Q I r h
 obtain⟨e,h⟩:=h
 subst e
 cases r
 exact assignInOrder_nil ⟨σ,H,I,h⟩
theorem pgs_cons{e:Expr}{es:List Expr}{t:TG}{u:TGs}(h1:PG X e t)(h2:PGs X es u)
  (hs:(assignEach (e::es) X.env).map (·.2)=assign e X.env::(assignEach es X.env).map (·.2):=by rfl):PGs X (e::es) (jpw t u):=by
 intro pins s σ H vs us Q I r h
 obtain⟨v,vr,e1,h⟩:=h
 subst e1
 cases r with
 |cons r rr =>
  rw[hs]
  refine assignInOrder_cons (thn (h1 pins s σ H _ _ _ I r h) λ_ s1 ⟨σ1,H1,I1,q1⟩=>?_)
  exact h2 pins s1 σ1 H1 _ _ Q I1 rr q1
def gTup(K:PySem.W.Frag)(n:Nat)(t:TGs):TG:=λv σ H Q=>∃a xs,v=.ref a/\SqT K H a xs/\xs.length=n/\t xs σ H Q
theorem pg_tup{es:List Expr}{k:Nat}{t:TGs}{n:Nat}(hc:X.calm=true)(h:PGs X es t)
  (hn:(assignEach es X.env).length=n:=by rfl) (hst:(assignEach es X.env).findIdx? (·.1)=none:=by rfl):PG X (.Tuple es k pos) (gTup X.K n t):=by
 intro pins s σ H v u Q I r hw
 obtain⟨a,xs,e1,hq,hl,hw⟩:=hw
 subst e1
 cases r
 obtain⟨its,rv,ht,hz⟩:=I.tuple hq
 refine assign_Tuple_tuple (I.ok.hd hc) ht (by simp[hn,<-hl,rv.length]) hst λh' hx=>?_
 have I1:Inv X pins σ H {s with heap:=h'}:=I.kept (t':=s.toks) λb o e=>hx b o (Ap (Am e)) e
 exact h pins _ σ H xs _ Q I1 (by simpa using rv) hw
def gSub(to ti:TE)(t:TSet):TG:=λv σ H Q=>to σ H λo H1=>ti σ H1 λi H2=>t o i v H2 λH3=>Q σ H3
theorem pg_sub{o i:Expr}{to ti:TE}{t:TSet}(ho:PE X o to)(hi:PE X i ti)(hs:PSet X t)
  (ha:∀v,assign (.Subscript o i pos) X.env v=(do
   let ov <-holding [v] (eval o X.env)
   let iv <-holding [v,ov] (eval i X.env)
   standAt pos
   holding [v,ov,iv] (setItem ov iv v)
   release [v,ov,iv] []):=by intro _;rfl):PG X (.Subscript o i pos) (gSub to ti t):=by
 intro pins s σ H v u Q I r h
 rw[ha]
 refine Aa (Op (thn (ho pins s σ H _ I h) λov s1 ⟨x,H1,I1,r1,q1⟩=>?_))
 refine Aa (Op (thn (hi pins s1 σ H1 _ I1 q1) λiv s2 ⟨y,H2,I2,r2,q2⟩=>?_))
 refine Aa (Yb (Aa (Op (thn (hs pins s2 σ H2 x y v ov iv u _ I2 r1 r2 r q2) λ_ s3 ⟨H3,I3,q3⟩=>?_))))
 exact wpAny_release ⟨σ,H3,I3,q3⟩
def tAsg(te:TE)(g:TG):TS:=λD σ H=>te σ H λx H1=>g x σ H1 D.nx
theorem ps_asg{tg e:Expr}{te:TE}{g:TG}(he:PE X e te)(hg:PG X tg g)(hs:swapsWithSole [tg] e pos.line X.env=pure false:=by rfl)(hw:swappedStores [tg] e X.env=pure none:=by rfl)
  (h1:(assignEach [tg] X.env).map (·.2)=[assign tg X.env]:=by rfl):PS X (.Assign [tg] e pos) (tAsg te g):=by
 intro pins s σ H D I h
 refine wpAny_Assign_stores (thn (he pins s σ H _ I h) λv s1 ⟨x,H1,I1,r1,q1⟩=>?_) hs hw
 rw[h1]
 exact thn (hg pins s1 σ H1 x v _ I1 r1 q1) λ_ s2 q=>q
theorem ps_set{i:Nat}{x:Str}{e:Expr}{te:TE}{pos':Pos}(hN:X.N.Nodup)(hi:X.N[i]?=some x)(hx:Loc X.env.scope x)(he:PE X e te)(hs:swapsWith e (some (.Name x pos')) pos.line X.env=pure false:=by rfl)(hf:X.fn x=true\/X.env.scope.names.lookup x=some .local:=by first|exact .inl rfl|exact .inr rfl|assumption) :
  PS X (.Assign [.Name x pos'] e pos) (tAsg te (jdk i)):=by
 intro pins s σ H D I h
 refine wpAny_Assign_Name (thn (he pins s σ H _ I h) λv s1 ⟨y,H1,I1,r1,q1⟩=>?_) hs
 exact jku I1 hN hi hx r1 (λs2 I2=>⟨_,H1,I2,q1⟩) hf
def jky(c:TT)(tb:TS):TS:=λD σ H=>∃W:Nat->St->Hp->Prop,(∃m,W m σ H)/\∀m σ H,W m σ H ->
 c σ H λb H1=>if b=true then ∃N:St->Hp->Prop,(∀σ' H',N σ' H'->∃m',m'<m/\W m' σ' H')/\tb {D with nx:=N,ct:=N,bk:=D.nx} σ H1 else D.nx σ H1
theorem ps_while{c:Expr}{body:List Stmt}{tc:TT}{tb:TS}(hp:PassesOwn (model X.prog X.w) X.A X.env X.xe)(hc:PT X c tc)(hb:PSs X body tb):PS X (.While c body [] pos) (jky tc tb):=by
 intro pins s σ H D I h
 obtain⟨W,⟨m0,w0⟩,turn⟩:=h
 refine wpAny_While (codeAny_whileLoop (λn s'=>∃σ' H',Inv X pins σ' H' s'/\W n σ' H') ?_ m0 ⟨σ,H,I,w0⟩)
 rintro n s1 ⟨σ1,H1,I1,w1⟩
 refine O7 hp (thn (hc pins s1 σ1 H1 _ I1 (turn n σ1 H1 w1)) λb s2 ⟨H2,I2,q2⟩=>?_)
 cases b with
 |true =>
  obtain⟨N,hN,q2⟩:=q2
  rw[Ak rfl]
  refine O7 hp (thn (hb pins s2 σ1 H2 _ I2 q2) λf s3 q3=>?_)
  cases f with
  |next =>
   obtain⟨σ3,H3,I3,n3⟩:=q3
   obtain⟨m',hm,w3⟩:=hN σ3 H3 n3
   exact⟨m',hm,σ3,H3,I3,w3⟩
  |cont =>
   obtain⟨σ3,H3,I3,n3⟩:=q3
   obtain⟨m',hm,w3⟩:=hN σ3 H3 n3
   exact⟨m',hm,σ3,H3,I3,w3⟩
  |brk=>exact q3
  |ret v=>exact q3
 |false =>
  rw[Ae A3]
  exact Wv ⟨σ1,H2,I2,q2⟩
end
structure It where
 go:Nat->Hp->Prop
 yld:Nat->Hp->V->Hp->Prop
 stop:Nat->Hp->Prop
def FpOk(X:Cx)(pins:List (Addr×Obj))(H:Hp)(b:Addr):Prop :=
 H b=none/\b≠X.env.locals/\b∉X.fs/\(b∈X.ex\/X.s₀.heap.objs.size<=b)/\(∀x c,X.env.cells.lookup x=some c->c≠b)/\∀p∈X.pn++pins,p.1≠b
theorem Inv.fpOk{X:Cx}{pins:List (Addr×Obj)}{σ:St}{H H':Hp}{s:Shared}{b:Addr}(I:Inv X pins σ H s)(hb:s.heap.objs.size<=b)(hn:H' b=none):FpOk X pins H' b:=by
 refine⟨hn,Nat.ne_of_gt (Au I.lt hb),I.nofs hb,.inr (Ih I.sz hb),λx c e z=>?_,λp hp z=>?_⟩
 ·obtain⟨v,q⟩:=I.cell x c e
  exact absurd (Au q.lt (by rw[z];exact hb)) (Oy _)
 ·exact absurd (Au (Am (I.pin p hp).1) (by rw[z];exact hb)) (Oy _)
structure Turn(P:Program)(w:World)(K:PySem.W.Frag)(tg:Expr)(J:It)(fp:List Addr)(it:Addr)(tn:Nat->Heap->Prop):Prop where
 mem:it∈fp
 obj:∀i h,tn i h->∀b∈fp,∃o,h.get? b=some o/\∀v,o.data≠.cell v
 keep:∀i h h',tn i h->(∀b∈fp,∀o,h.get? b=some o->h'.get? b=some o)->tn i h'
 item:∀(X:Cx),X.prog=P->X.w=w->X.K=K->X.calm=true->∀(i:Nat)(pins:List (Addr×Obj))(s:Shared)(σ:St)(H:Hp)(E:Value->Shared->Prop),Inv X pins σ H s->(∀b∈fp,FpOk X pins H b)->tn i s.heap->J.go i H ->
  wpAny (model P w) X.A (pyNext (.ref it)) (λr s1=>∃u,r=some u /\
   wpAny (model P w) X.A (letOwnedTupleGo tg (.ref it) u) (λ_ s2=>∃x H',Inv X pins σ H' s2/\RelV x u/\J.yld i H x H'/\tn (i+1) s2.heap/\∀b∈fp,H' b=none) E s1) E s
 done:∀(X:Cx),X.prog=P->X.w=w->X.K=K->X.calm=true->∀(i:Nat)(pins:List (Addr×Obj))(s:Shared)(σ:St)(H:Hp)(E:Value->Shared->Prop),Inv X pins σ H s->(∀b∈fp,FpOk X pins H b)->tn i s.heap->J.stop i H ->
  wpAny (model P w) X.A (pyNext (.ref it)) (λr s1=>r=none/\Inv X pins σ H s1) E s
 self:∀(A:Around)(i:Nat)(s:Shared)(Q:Value->Shared->Prop)(E:Value->Shared->Prop),tn i s.heap->Q (.ref it) s->wpAny (model P w) A (pyIter (.ref it)) Q E s
abbrev TI:=St->Hp->(It->Hp->Prop)->Prop
def PIE(X:Cx)(pins:List (Addr×Obj))(σ:St)(tg:Expr)(R:It->Hp->Prop)(itv:Value)(s2:Shared):Prop :=
 ∃(it:Addr)(fp:List Addr)(tn:Nat->Heap->Prop)(J:It)(H':Hp),itv=.ref it/\Inv X pins σ H' s2/\Turn X.prog X.w X.K tg J fp it tn/\tn 0 s2.heap/\(∀b∈fp,FpOk X pins H' b)/\R J H'
def PI(X:Cx)(tg iter:Expr)(wi:TI):Prop :=
 ∀(pins:List (Addr×Obj))(s:Shared)(σ:St)(H:Hp)(R:It->Hp->Prop),Inv X pins σ H s->wi σ H R ->
  wpAny (model X.prog X.w) X.A (eval iter X.env) (λv s1=>wpAny (model X.prog X.w) X.A (pyIter v) (PIE X pins σ tg R) X.xe s1) X.xe s
theorem jgu{M:Model}{A:Around}{E:Value->Shared->Prop}{s:Shared}{tg:Expr}{it:Addr}{u:Value}{o:Obj}{n:String}{vs:Array Value}{Q:Unit->Shared->Prop}(ho:s.heap.get? it=some o)(hc:o.cls=.type n)(hd:o.data=.fields vs)
  (hn:["enumerate","zip","dict_itemiterator","dict_reverseitemiterator","odict_iterator","itertools.zip_longest","itertools.pairwise"].contains n=false) (hQ:Q () s):wpAny M A (letOwnedTupleGo tg (.ref it) u) Q E s:=by
 unfold letOwnedTupleGo
 cases tg <;> first
  |exact Af hQ
  |(cases u <;> first
    |exact Af hQ
    |(refine Aa (wpAny_load ho ?_)
      rw[hc,hd]
      show wpAny M A (if(["enumerate","zip","dict_itemiterator","dict_reverseitemiterator","odict_iterator","itertools.zip_longest","itertools.pairwise"].contains n && vs[0]? == some (rawInt _))=true then _ else _) Q E s
      rw[Ae (by intro h;rw[hn,Bool.false_and]at h;cases h)]
      exact Af hQ))
def Itl(K:PySem.W.Frag)(a:Addr):It :=
 ⟨λi H=>∃xs x,SqL K H a xs/\xs[i]?=some x,λi H x H'=>H'=H/\∀xs,SqL K H a xs->xs[i]?=some x,λi H=>∃xs,SqL K H a xs/\xs.length<=i⟩
def Itt(K:PySem.W.Frag)(a:Addr):It :=
 ⟨λi H=>∃xs x,SqT K H a xs/\xs[i]?=some x,λi H x H'=>H'=H/\∀xs,SqT K H a xs->xs[i]?=some x,λi H=>∃xs,SqT K H a xs/\xs.length<=i⟩
def Itr(lo:Int)(n:Nat):It:=⟨λi _=>i<n,λi H x H'=>H'=H/\x=.int (lo+i),λi _=>n<=i⟩
theorem joi{P:Program}{w:World}{K:PySem.W.Frag}{tg:Expr}(a it:Addr):Turn P w K tg (Itl K a) [it] it (λi h=>h.IsListIter it a i) where
 mem:=by simp
 obj:=λi h st b hb=>by
  have e:b=it:=by simpa using hb
  subst e
  obtain⟨o,e,c,d⟩:=st
  exact⟨o,e,λv z=>by rw[d]at z;cases z⟩
 keep:=λi h h' st k=>st.at λo e=>k it (by simp) o e
 item:=by
  intro X hP hw hK hc i pins s σ H E I hf st hg
  subst hP hw hK
  obtain⟨xs,x,hq,hx⟩:=hg
  obtain⟨its,rv,p,hz⟩:=I.list hq
  obtain⟨u,hu,ru⟩:=rv.get hx
  obtain⟨f0,f1,f2,f3,f4,f5⟩:=hf it (by simp)
  refine wpAny_pyNext_list_item st p.isList (x:=u) (by simpa using hu) λh' st' sb=>?_
  have I1:Inv X pins σ H {s with heap:=h'}:=I.turned (t':=s.toks) (λb o hb e=>(sb.2 b hb).trans e) f0 f1 f3 f4 f5
  obtain⟨o,e,c,d⟩:=id st'
  exact⟨u,rfl,jgu (s:={s with heap:=h'}) e c d (by decide) ⟨x,H,I1,ru,⟨rfl,λys hy=>by rw[I.list_inj hy hq];exact hx⟩,st',λb hb=>(hf b hb).1⟩⟩
 done:=by
  intro X hP hw hK hc i pins s σ H E I hf st hg
  subst hP hw hK
  obtain⟨xs,hq,hx⟩:=hg
  obtain⟨its,rv,p,hz⟩:=I.list hq
  obtain⟨f0,f1,f2,f3,f4,f5⟩:=hf it (by simp)
  have hl:=rv.length
  exact wpAny_pyNext_list_end (I.ok.hd hc) st p.isList (by simp;omega) λh' eb=>⟨rfl,I.turned (t':=s.toks) (λb o hb e=>eb b o hb e) f0 f1 f3 f4 f5⟩
 self:=λ_ _ _ _ _ st h=>wpAny_pyIter_listiter st h
theorem jnd{P:Program}{w:World}{K:PySem.W.Frag}{tg:Expr}(a it:Addr):Turn P w K tg (Itt K a) [it] it (λi h=>h.IsTupleIter it a i) where
 mem:=by simp
 obj:=λi h st b hb=>by
  have e:b=it:=by simpa using hb
  subst e
  obtain⟨o,e,c,d⟩:=st
  exact⟨o,e,λv z=>by rw[d]at z;cases z⟩
 keep:=λi h h' st k=>st.at λo e=>k it (by simp) o e
 item:=by
  intro X hP hw hK hc i pins s σ H E I hf st hg
  subst hP hw hK
  obtain⟨xs,x,hq,hx⟩:=hg
  obtain⟨its,rv,p,hz⟩:=I.tuple hq
  obtain⟨u,hu,ru⟩:=rv.get hx
  obtain⟨f0,f1,f2,f3,f4,f5⟩:=hf it (by simp)
  refine wpAny_pyNext_tuple_item st (show s.heap.IsTuple a its.toArray from p) (x:=u) (by simpa using hu) λh' st' sb=>?_
  have I1:Inv X pins σ H {s with heap:=h'}:=I.turned (t':=s.toks) (λb o hb e=>(sb.2 b hb).trans e) f0 f1 f3 f4 f5
  obtain⟨o,e,c,d⟩:=id st'
  exact⟨u,rfl,jgu (s:={s with heap:=h'}) e c d (by decide) ⟨x,H,I1,ru,⟨rfl,λys hy=>by rw[I.tuple_inj hy hq];exact hx⟩,st',λb hb=>(hf b hb).1⟩⟩
 done:=by
  intro X hP hw hK hc i pins s σ H E I hf st hg
  subst hP hw hK
  obtain⟨xs,hq,hx⟩:=hg
  obtain⟨its,rv,p,hz⟩:=I.tuple hq
  obtain⟨f0,f1,f2,f3,f4,f5⟩:=hf it (by simp)
  have hl:=rv.length
  exact wpAny_pyNext_tuple_end (I.ok.hd hc) st (show s.heap.IsTuple a its.toArray from p) (by simp;omega) λh' eb=>⟨rfl,I.turned (t':=s.toks) (λb o hb e=>eb b o hb e) f0 f1 f3 f4 f5⟩
 self:=λ_ _ _ _ _ st h=>wpAny_pyIter_tupleiter st h
theorem jnc{P:Program}{w:World}{K:PySem.W.Frag}{tg:Expr}(it:Addr)(lo:Int)(n:Nat):Turn P w K tg (Itr lo n) [it] it (λi h=>IsRangeIter h it (lo+(i:Nat)*1) ((n:Int)-(i:Nat)) 1) where
 mem:=by simp
 obj:=λi h st b hb=>by
  have e:b=it:=by simpa using hb
  subst e
  exact⟨_,st,λv z=>by
   have z':Data.fields _=Data.cell v:=z
   cases z'⟩
 keep:=λi h h' st k=>k it (by simp) _ st
 item:=by
  intro X hP hw hK hc i pins s σ H E I hf st hg
  subst hP hw hK
  obtain⟨f0,f1,f2,f3,f4,f5⟩:=hf it (by simp)
  have W:=Walks.range (prog:=X.prog) (w:=X.w) (I.ok.hd hc) it lo 1 n
  refine W.item i s _ _ hg st λv h' tk hv st' kk=>?_
  obtain⟨t,rfl⟩:=hv
  have I1:Inv X pins σ H {s with heap:=h',toks:=tk}:=I.turned (λb o hb e=>kk b o (by simpa using hb) e) f0 f1 f3 f4 f5
  refine⟨_,rfl,jgu (s:={s with heap:=h',toks:=tk}) (n:="range_iterator") st' rfl rfl (by decide) ⟨.int (lo+i),H,I1,⟨t,?_⟩,⟨rfl,rfl⟩,st',λb hb=>(hf b hb).1⟩⟩
  rw[Int.mul_one]
 done:=by
  intro X hP hw hK hc i pins s σ H E I hf st hg
  subst hP hw hK
  obtain⟨f0,f1,f2,f3,f4,f5⟩:=hf it (by simp)
  exact wpAny_pyNext_range_end (I.ok.hd hc) st (by have:n<=i:=hg;omega) λh' eb=>⟨rfl,I.turned (t':=s.toks) (λb o hb e=>eb b o hb e) f0 f1 f3 f4 f5⟩
 self:=λ_ _ _ _ _ st h=>wpAny_pyIter_rangeiter st h
section
variable{X:Cx}{tg:Expr}
theorem jkn{pins:List (Addr×Obj)}{σ:St}{H:Hp}{s:Shared}{R:It->Hp->Prop}{E:Value->Shared->Prop}{lo hi:Int}{t u v:Tok}{tk:Nat}(I:Inv X pins σ H s)(h1:-(2^62)<=lo)(h2:lo<2^62)(h3:-(2^62)<=hi)(h4:hi<2^62)
  (q:R (Itr lo (hi-lo).toNat) H):wpAny (model X.prog X.w) X.A (pyIter (.ref s.heap.objs.size)) (PIE X pins σ tg R) E {s with heap:=s.heap.push {cls:=.type "range",data:=.fields #[.int lo t,.int hi u,.int 1 v]},toks:=tk}:=by
 refine wpAny_pyIter_range (IsRange.new ..) (small_one h1 h2 h3 h4) ?_
 have I1:Inv X pins σ H {s with heap:=s.heap.push {cls:=.type "range",data:=.fields #[.int lo t,.int hi u,.int 1 v]},toks:=tk}:=I.kept λb o e=>Ad _ e
 refine⟨(s.heap.push {cls:=.type "range",data:=.fields #[.int lo t,.int hi u,.int 1 v]}).objs.size,[(s.heap.push {cls:=.type "range",data:=.fields #[.int lo t,.int hi u,.int 1 v]}).objs.size],_,_,H,rfl,
  I1.kept (t':=tk) λb o e=>Ad _ e,jnc _ lo (hi-lo).toNat,?_,λb hb=>?_,q⟩
 ·have e1:lo+((0:Nat):Int)*1=lo:=by simp
  have e2:(((hi-lo).toNat:Nat):Int)-((0:Nat):Int)=Builtin.Range.rangeSize lo hi 1:=by rw[rangeSize_one];split <;> omega
  show IsRangeIter _ _ (lo+((0:Nat):Int)*1) ((((hi-lo).toNat:Nat):Int)-((0:Nat):Int)) 1
  rw[e1,e2]
  exact An _ rfl
 ·have e:b=(s.heap.push {cls:=.type "range",data:=.fields #[.int lo t,.int hi u,.int 1 v]}).objs.size:=by simpa using hb
  subst e
  exact I1.fpOk (Ah _) (I1.hok.fresh (Ah _))
def ji7(ta:TA):TI:=λσ H R=>ta σ H λvs H1=>∃j:Int,vs=[.int j]/\-(2^62)<=j/\j<2^62/\R (Itr 0 j.toNat) H1
def ji8(ta:TA):TI:=λσ H R=>ta σ H λvs H1=>∃i j:Int,vs=[.int i,.int j]/\(-(2^62)<=i/\i<2^62/\-(2^62)<=j/\j<2^62)/\R (Itr i (j-i).toNat) H1
theorem pi_range1{a:Expr}{ta:TA}{p pos:Pos}(hg:Gl X "range")(hm:X.mg "range"=none)(ha:PA X [a] ta)(hs:starEach [a] X.env=[(false,eval a X.env)]:=by rfl):PI X tg (.Call (.Name "range" p) [a] [] pos) (ji7 ta):=by
 intro pins s σ H R I h
 refine Call_ (jdc I hg hm boot_range (Ic (thn (ha pos pins s σ H _ I h) λus s1 ⟨vs,H1,I1,r1,q1⟩=>?_) hs rfl))
 obtain⟨j,e,q1,q2,q⟩:=q1
 subst e
 cases r1 with
 |cons r rr =>
  cases rr
  obtain⟨t,rfl⟩:=r
  exact call_range_1 (jkn I1 (by omega) (by omega) q1 q2 (by simpa using q))
theorem pi_range2{a b:Expr}{ta:TA}{p pos:Pos}(hg:Gl X "range")(hm:X.mg "range"=none)(ha:PA X [a,b] ta)(hs:starEach [a,b] X.env=[(false,eval a X.env),(false,eval b X.env)]:=by rfl)(hs2:starEach [b] X.env=[(false,eval b X.env)]:=by rfl) :
  PI X tg (.Call (.Name "range" p) [a,b] [] pos) (ji8 ta):=by
 intro pins s σ H R I h
 refine Call_ (jdc I hg hm boot_range (Ic (thn (ha pos pins s σ H _ I h) λus s1 ⟨vs,H1,I1,r1,q1⟩=>?_) (by rw[hs,hs2]) (by rw[hs2];rfl)))
 obtain⟨i,j,e,⟨q1,q2,q3,q4⟩,q⟩:=q1
 subst e
 cases r1 with
 |cons r rr =>
  cases rr with
  |cons r' rr =>
   cases rr
   obtain⟨t,rfl⟩:=r
   obtain⟨t',rfl⟩:=r'
   exact call_range_2 (jkn I1 q1 q2 q3 q4 q)
def tFor(wi:TI)(g:TG)(tb:TS):TS:=λD σ H=>wi σ H λJ H1=>∃W:Nat->Nat->St->Hp->Prop,(∃m,W 0 m σ H1)/\∀i m σ H,W i m σ H ->
 (J.stop i H/\D.nx σ H)\/(J.go i H/\∃N:St->Hp->Prop,(∀σ' H',N σ' H'->∃m',m'<m/\W (i+1) m' σ' H')/\∀x H',J.yld i H x H'->g x σ H' λσ2 H2=>tb {D with nx:=N,ct:=N,bk:=D.nx} σ2 H2)
def je9(fp:List Addr)(h:Heap):List (Addr×Obj):=fp.filterMap λb=>(h.get? b).map λo=>(b,o)
theorem jdg{fp:List Addr}{h:Heap}{b:Addr}{o:Obj}(hb:b∈fp)(e:h.get? b=some o):(b,o)∈je9 fp h:=U2.mpr ⟨b,hb,by rw[e];rfl⟩
theorem jn5{fp:List Addr}{h:Heap}{p:Addr×Obj}(hp:p∈je9 fp h):p.1∈fp/\h.get? p.1=some p.2:=by
 obtain⟨b,hb,e⟩:=U2.mp hp
 cases q:h.get? b with
 |none=>rw[q]at e;cases e
 |some o =>
  rw[q]at e
  have e':(b,o)=p:=Av e
  subst e'
  exact⟨hb,q⟩
theorem Inv.pinned{pins:List (Addr×Obj)}{σ:St}{H:Hp}{s:Shared}{fp:List Addr}(I:Inv X pins σ H s)(hf:∀b∈fp,FpOk X pins H b)(ho:∀b∈fp,∃o,s.heap.get? b=some o/\∀v,o.data≠.cell v):Inv X (pins++je9 fp s.heap) σ H s :=
 I.pins_of λp hp=>(A6.mp hp).elim (λz=>I.pin p (A9 _ z)) λz=>by
  obtain⟨hb,e⟩:=jn5 z
  obtain⟨f0,f1,f2,_⟩:=hf p.1 hb
  obtain⟨o,e',d⟩:=ho p.1 hb
  rw[e]at e';cases e'
  exact⟨e,f0,f1,f2,d⟩
theorem Inv.unpinned{pins pl:List (Addr×Obj)}{σ:St}{H:Hp}{s:Shared}(I:Inv X (pins++pl) σ H s):Inv X pins σ H s:=I.pins_of λp hp=>I.pin p (A9 _ (Oa _ hp))
theorem ps_for{iter:Expr}{body:List Stmt}{wi:TI}{g:TG}{tb:TS}{pos:Pos}(hp:PassesOwn (model X.prog X.w) X.A X.env X.xe)(hc:X.calm=true)(hi:PI X tg iter wi)(hg:PG X tg g)(hb:PSs X body tb)
  (hs:∀x,foldedSetIterable iter X.env x=pure x:=by intro _;rfl):PS X (.For tg iter body [] pos) (tFor wi g tb):=by
 intro pins s σ H D I h
 refine wpAny_For (thn (hi pins s σ H _ I h) λv s1 h1=>thn h1 λitv s2 h2=>?_) hs
 obtain⟨it,fp,tn,J,H2,e,I2,T,st2,f2,W,⟨m0,w0⟩,turn⟩:=h2
 subst e
 have stat:∀{H':Hp},(∀b∈fp,H' b=none)->∀b∈fp,FpOk X pins H' b:=λhn b hb=>⟨hn b hb,(f2 b hb).2⟩
 refine codeAny_forLoop_any (λn s'=>∃i σ' H',Inv X pins σ' H' s'/\tn i s'.heap/\(∀b∈fp,H' b=none)/\W i n σ' H') ?_ m0 ⟨0,σ,H2,I2,st2,λb hb=>(f2 b hb).1,w0⟩
 rintro n s3 ⟨i,σ3,H3,I3,st3,fr3,w3⟩
 rcases turn i n σ3 H3 w3 with⟨stop,qn⟩|⟨go,N,hN,step⟩
 ·refine O7 hp (thn (T.done X rfl rfl rfl hc i pins s3 σ3 H3 X.xe I3 (stat fr3) st3 stop) λr s4 ⟨hr,I4⟩=>?_)
  subst hr
  exact Wv ⟨σ3,H3,I4,qn⟩
 ·refine O7 hp (thn (T.item X rfl rfl rfl hc i pins s3 σ3 H3 X.xe I3 (stat fr3) st3 go) λr s4 ⟨u,hr,h4⟩=>?_)
  subst hr
  refine O7 hp (thn h4 λ_ s5 ⟨x,H5,I5,r5,y5,st5,fr5⟩=>?_)
  have I5':=I5.pinned (stat fr5) (T.obj _ _ st5)
  refine O7 hp (thn (hg _ s5 σ3 H5 x u _ I5' r5 (step x H5 y5)) λ_ s6 ⟨σ6,H6,I6,q6⟩=>?_)
  refine O7 hp (thn (hb _ s6 σ6 H6 _ I6 q6) λf s7 q7=>?_)
  have again:∀{σ7:St}{H7:Hp},Inv X (pins++je9 fp s5.heap) σ7 H7 s7->N σ7 H7->∃m,m<n/\∃i σ' H',Inv X pins σ' H' s7/\tn i s7.heap/\(∀b∈fp,H' b=none)/\W i m σ' H':=fun{σ7 H7} I7 n7=>by
   obtain⟨m',hm,w7⟩:=hN σ7 H7 n7
   refine⟨m',hm,i+1,σ7,H7,I7.unpinned,T.keep _ _ _ st5 λb hb o e=>(I7.pin (b,o) (A9 _ (A9 _ (jdg hb e)))).1,λb hb=>?_,w7⟩
   obtain⟨o,e,d⟩:=T.obj _ _ st5 b hb
   exact(I7.pin (b,o) (A9 _ (A9 _ (jdg hb e)))).2.1
  cases f with
  |next=>obtain⟨σ7,H7,I7,n7⟩:=q7;exact again I7 n7
  |cont=>obtain⟨σ7,H7,I7,n7⟩:=q7;exact again I7 n7
  |brk=>obtain⟨σ7,H7,I7,q7⟩:=q7;exact⟨σ7,H7,I7.unpinned,q7⟩
  |ret v=>obtain⟨x7,σ7,H7,I7,r7,q7⟩:=q7;exact⟨x7,σ7,H7,I7.unpinned,r7,q7⟩
end
theorem jow{K:PySem.W.Frag}{a:Addr}{xs:List V}{g:TG}{tb:TS}{D:Ends}{σ:St}{H:Hp}(Pv:Nat->St->Hp->Prop)(h0:Pv 0 σ H)(hl:∀i σ H,i<=xs.length->Pv i σ H->SqL K H a xs)
  (hs:∀i x σ H,xs[i]?=some x->Pv i σ H->g x σ H λσ2 H2=>tb {D with nx:=Pv (i+1),ct:=Pv (i+1),bk:=D.nx} σ2 H2) (hd:∀σ H,Pv xs.length σ H->D.nx σ H) :
  ∃W:Nat->Nat->St->Hp->Prop,(∃m,W 0 m σ H)/\∀i m σ H,W i m σ H ->
   ((Itl K a).stop i H/\D.nx σ H)\/((Itl K a).go i H/\∃N:St->Hp->Prop,(∀σ' H',N σ' H'->∃m',m'<m/\W (i+1) m' σ' H')/\∀x H',(Itl K a).yld i H x H'->g x σ H' λσ2 H2=>tb {D with nx:=N,ct:=N,bk:=D.nx} σ2 H2):=by
 refine⟨λi m σ H=>m=xs.length-i/\i<=xs.length/\Pv i σ H,⟨xs.length,by simp,A8 _,h0⟩,?_⟩
 rintro i m σ H ⟨rfl,hi,p⟩
 have q:=hl i σ H hi p
 by_cases hlt:i<xs.length
 ·refine .inr ⟨⟨xs,xs[i],q,by simp[hlt]⟩,Pv (i+1),λσ' H' p'=>⟨xs.length-(i+1),by omega,rfl,hlt,p'⟩,λx H' y=>?_⟩
  obtain⟨e,y⟩:=y
  subst e
  exact hs i x σ _ (y xs q) p
 ·have e:i=xs.length:=by omega
  subst e
  exact .inl ⟨⟨xs,q,Ah _⟩,hd σ H p⟩
theorem jqe{K:PySem.W.Frag}{a:Addr}{xs:List V}{g:TG}{tb:TS}{D:Ends}{σ:St}{H:Hp}(Pv:Nat->St->Hp->Prop)(h0:Pv 0 σ H)(hl:∀i σ H,i<=xs.length->Pv i σ H->SqT K H a xs)
  (hs:∀i x σ H,xs[i]?=some x->Pv i σ H->g x σ H λσ2 H2=>tb {D with nx:=Pv (i+1),ct:=Pv (i+1),bk:=D.nx} σ2 H2) (hd:∀σ H,Pv xs.length σ H->D.nx σ H) :
  ∃W:Nat->Nat->St->Hp->Prop,(∃m,W 0 m σ H)/\∀i m σ H,W i m σ H ->
   ((Itt K a).stop i H/\D.nx σ H)\/((Itt K a).go i H/\∃N:St->Hp->Prop,(∀σ' H',N σ' H'->∃m',m'<m/\W (i+1) m' σ' H')/\∀x H',(Itt K a).yld i H x H'->g x σ H' λσ2 H2=>tb {D with nx:=N,ct:=N,bk:=D.nx} σ2 H2):=by
 refine⟨λi m σ H=>m=xs.length-i/\i<=xs.length/\Pv i σ H,⟨xs.length,by simp,A8 _,h0⟩,?_⟩
 rintro i m σ H ⟨rfl,hi,p⟩
 have q:=hl i σ H hi p
 by_cases hlt:i<xs.length
 ·refine .inr ⟨⟨xs,xs[i],q,by simp[hlt]⟩,Pv (i+1),λσ' H' p'=>⟨xs.length-(i+1),by omega,rfl,hlt,p'⟩,λx H' y=>?_⟩
  obtain⟨e,y⟩:=y
  subst e
  exact hs i x σ _ (y xs q) p
 ·have e:i=xs.length:=by omega
  subst e
  exact .inl ⟨⟨xs,q,Ah _⟩,hd σ H p⟩
theorem jnr{lo:Int}{n:Nat}{g:TG}{tb:TS}{D:Ends}{σ:St}{H:Hp}(Pv:Nat->St->Hp->Prop)(h0:Pv 0 σ H)
  (hs:∀i σ H,i<n->Pv i σ H->g (.int (lo+i)) σ H λσ2 H2=>tb {D with nx:=Pv (i+1),ct:=Pv (i+1),bk:=D.nx} σ2 H2) (hd:∀σ H,Pv n σ H->D.nx σ H) :
  ∃W:Nat->Nat->St->Hp->Prop,(∃m,W 0 m σ H)/\∀i m σ H,W i m σ H ->
   ((Itr lo n).stop i H/\D.nx σ H)\/((Itr lo n).go i H/\∃N:St->Hp->Prop,(∀σ' H',N σ' H'->∃m',m'<m/\W (i+1) m' σ' H')/\∀x H',(Itr lo n).yld i H x H'->g x σ H' λσ2 H2=>tb {D with nx:=N,ct:=N,bk:=D.nx} σ2 H2):=by
 refine⟨λi m σ H=>m=n-i/\i<=n/\Pv i σ H,⟨n,by simp,A8 _,h0⟩,?_⟩
 rintro i m σ H ⟨rfl,hi,p⟩
 by_cases hlt:i<n
 ·refine .inr ⟨hlt,Pv (i+1),λσ' H' p'=>⟨n-(i+1),by omega,rfl,hlt,p'⟩,λx H' y=>?_⟩
  obtain⟨e,y⟩:=y
  subst e y
  exact hs i σ _ hlt p
 ·have e:i=n:=by omega
  subst e
  exact .inl ⟨Ah _,hd σ H p⟩
theorem jpm{c:TT}{tb:TS}{D:Ends}{σ:St}{H:Hp}(Pv:St->Hp->Prop)(μ:St->Hp->Nat)(h0:Pv σ H)
  (hs:∀σ H,Pv σ H->c σ H λb H1=>if b=true then tb {D with nx:=λσ' H'=>Pv σ' H'/\μ σ' H'<μ σ H,ct:=λσ' H'=>Pv σ' H'/\μ σ' H'<μ σ H,bk:=D.nx} σ H1 else D.nx σ H1)
  (mono:∀σ H Q Q',(∀b H1,Q b H1->Q' b H1)->c σ H Q->c σ H Q'):jky c tb D σ H:=by
 refine⟨λm σ H=>m=μ σ H/\Pv σ H,⟨_,rfl,h0⟩,?_⟩
 rintro m σ H ⟨rfl,p⟩
 refine mono σ H _ _ (λb H1 q=>?_) (hs σ H p)
 cases b with
 |true=>exact⟨_,λσ' H' ⟨p',l⟩=>⟨_,l,rfl,p'⟩,q⟩
 |false=>exact q
abbrev R2:=V->V->Hp->VK->Prop
def OpR(X:Cx)(f:Value->Value->Sem Value)(r:R2):Prop :=
 ∀(pins:List (Addr×Obj))(s:Shared)(σ:St)(H:Hp)(x y:V)(v u:Value)(Q:VK),Inv X pins σ H s->RelV x v->RelV y u->r x y H Q ->
  wpAny (model X.prog X.w) X.A (f v u) (EP X pins σ Q) X.xe s
def UnR(X:Cx)(f:Value->Sem Value)(r:V->Hp->VK->Prop):Prop :=
 ∀(pins:List (Addr×Obj))(s:Shared)(σ:St)(H:Hp)(x:V)(v:Value)(Q:VK),Inv X pins σ H s->RelV x v->r x H Q ->
  wpAny (model X.prog X.w) X.A (f v) (EP X pins σ Q) X.xe s
def jcv(X:Cx)(f:Value)(r:List V->Hp->VK->Prop):Prop :=
 ∀(pins:List (Addr×Obj))(s:Shared)(σ:St)(H:Hp)(xs:List V)(us:List Value)(Q:VK),Inv X pins σ H s->Vals xs us->r xs H Q ->
  wpAny (model X.prog X.w) X.A (call f us) (EP X pins σ Q) X.xe s
def TruR(X:Cx)(r:V->Hp->(Bool->Hp->Prop)->Prop):Prop :=
 ∀(pins:List (Addr×Obj))(s:Shared)(σ:St)(H:Hp)(x:V)(v:Value)(Q:Bool->Hp->Prop),Inv X pins σ H s->RelV x v->r x H Q ->
  wpAny (model X.prog X.w) X.A (truthy v) (TP X pins σ Q) X.xe s
def tOp(r:R2)(ta tb:TE):TE:=λσ H Q=>ta σ H λx H1=>tb σ H1 λy H2=>r x y H2 Q
def tUn(r:V->Hp->VK->Prop)(ta:TE):TE:=λσ H Q=>ta σ H λx H1=>r x H1 Q
def rI(C:Int->Int->Prop)(g:Int->Int->V):R2:=λx y H Q=>∃i j,x=.int i/\y=.int j/\C i j/\Q (g i j) H
def rI0(g:Int->Int->V):R2:=λx y H Q=>∃i j,x=.int i/\y=.int j/\Q (g i j) H
def rU(g:Int->V):V->Hp->VK->Prop:=λx H Q=>∃i,x=.int i/\Q (g i) H
section
variable{X:Cx}{a b c:Expr}{ta tb tc:TE}{pos:Pos}
theorem binT(ha:PE X a ta)(hb:PE X b tb){pins:List (Addr×Obj)}{s:Shared}{σ:St}{H:Hp}{R:V->V->Hp->Prop}(I:Inv X pins σ H s)
  (h:ta σ H λx H1=>tb σ H1 λy H2=>R x y H2) {Q:Value->Shared->Prop}{f:Value->Value->Sem Value}
  (hf:∀v u s2 x y H2,Inv X pins σ H2 s2->RelV x v->RelV y u->R x y H2->wpAny (model X.prog X.w) X.A (f v u) Q X.xe s2) :
  wpAny (model X.prog X.w) X.A (eval a X.env) (λv s₁=>wpAny (model X.prog X.w) X.A (eval b X.env) (λu s₂=>wpAny (model X.prog X.w) X.A (f v u) Q X.xe s₂) X.xe s₁) X.xe s:=by
 refine thn (ha pins s σ H _ I h) λv s1 ⟨x,H1,I1,r1,q1⟩=>?_
 refine thn (hb pins s1 σ H1 _ I1 q1) λu s2 ⟨y,H2,I2,r2,q2⟩=>?_
 exact hf v u s2 x y H2 I2 r1 r2 q2
theorem pe_op{op:Operator}{r:R2}(ho:OpR X (binaryOp op) r)(ha:PE X a ta)(hb:PE X b tb):PE X (.BinOp a op b pos) (tOp r ta tb):=by
 intro pins s σ H Q I h
 exact wpAny_BinOp (binT ha hb I h λv u s2 x y H2 I2 rx ry q=>ho pins s2 σ H2 x y v u Q I2 rx ry q)
theorem pe_un{op:UnaryOp}{r:V->Hp->VK->Prop}(ho:UnR X (unaryOp op) r)(ha:PE X a ta):PE X (.UnaryOp op a pos) (tUn r ta):=by
 intro pins s σ H Q I h
 exact UnaryOp_ (thn (ha pins s σ H _ I h) λv s1 ⟨x,H1,I1,r1,q1⟩=>ho pins s1 σ H1 x v Q I1 r1 q1)
theorem opI{f:Value->Value->Sem Value}{C:Int->Int->Prop}{g:Int->Int->Int}
  (rule:∀(i j:Int)(t u:Tok)(s:Shared)(Q:Value->Shared->Prop)(E:Value->Shared->Prop),C i j->Q (.int (g i j) s.toks) {s with toks:=s.toks+1}->wpAny (model X.prog X.w) X.A (f (.int i t) (.int j u)) Q E s) :
  OpR X f (rI C λi j=>.int (g i j)):=by
 intro pins s σ H x y v u Q I rx ry h
 obtain⟨i,j,rfl,rfl,hc,q⟩:=h
 obtain⟨t,rfl⟩:=rx
 obtain⟨t',rfl⟩:=ry
 exact rule i j t t' s _ _ hc ⟨.int (g i j),H,I.tok _,⟨_,rfl⟩,q⟩
theorem opI0{f:Value->Value->Sem Value}{g:Int->Int->Int}
  (rule:∀(i j:Int)(t u:Tok)(s:Shared)(Q:Value->Shared->Prop)(E:Value->Shared->Prop),Q (.int (g i j) s.toks) {s with toks:=s.toks+1}->wpAny (model X.prog X.w) X.A (f (.int i t) (.int j u)) Q E s) :
  OpR X f (rI0 λi j=>.int (g i j)):=by
 intro pins s σ H x y v u Q I rx ry h
 obtain⟨i,j,rfl,rfl,q⟩:=h
 obtain⟨t,rfl⟩:=rx
 obtain⟨t',rfl⟩:=ry
 exact rule i j t t' s _ _ ⟨.int (g i j),H,I.tok _,⟨_,rfl⟩,q⟩
theorem opB0{f:Value->Value->Sem Value}{g:Int->Int->Bool}
  (rule:∀(i j:Int)(t u:Tok)(s:Shared)(Q:Value->Shared->Prop)(E:Value->Shared->Prop),Q (.bool (g i j)) s->wpAny (model X.prog X.w) X.A (f (.int i t) (.int j u)) Q E s) :
  OpR X f (rI0 λi j=>.bl (g i j)):=by
 intro pins s σ H x y v u Q I rx ry h
 obtain⟨i,j,rfl,rfl,q⟩:=h
 obtain⟨t,rfl⟩:=rx
 obtain⟨t',rfl⟩:=ry
 exact rule i j t t' s _ _ ⟨.bl (g i j),H,I,rfl,q⟩
def CDiv(i j:Int):Prop:=0<j/\j<1073741824
def CPow(i j:Int):Prop:=0<=j/\j<=1000000/\i.natAbs<2^64
def CMul(i j:Int):Prop:=(-(2^64)<i/\i<2^64)\/(-(2^64)<j/\j<2^64)
theorem CMul.ok{i j:Int}(h:CMul i j):IntMulOk i j:=by
 rcases h with⟨h1,h2⟩|⟨h1,h2⟩
 ·exact .of_left (intBits_le_64 h1 h2)
 ·exact .of_right (intBits_le_64 h1 h2)
theorem op_add:OpR X (binaryOp .Add) (rI0 λi j=>.int (i+j)):=opI0 λ_ _ _ _ _ _ _ q=>add_int q
theorem zi:OpR X (binaryOp .Sub) (rI0 λi j=>.int (i-j)):=opI0 λ_ _ _ _ _ _ _ q=>sub_int q
theorem op_mul:OpR X (binaryOp .Mult) (rI CMul λi j=>.int (i*j)):=opI λ_ _ _ _ _ _ _ hc q=>mul_int q hc.ok
theorem jbi:OpR X (binaryOp .FloorDiv) (rI CDiv λi j=>.int (i / j)):=opI λi j _ _ _ _ _ hc q=>by
 have h1:(0:Int)<j:=hc.1
 have h2:j<1073741824:=hc.2
 exact floordiv_int (by omega) (by rw[Int.fdiv_eq_ediv_of_nonneg i (by omega)];exact q) (.inl (PyProof.noPylong_small (by omega)))
theorem z0:OpR X (binaryOp .Mod) (rI (λ_ j=>0<j) λi j=>.int (i%j)):=opI λi j _ _ _ _ _ hc q=>by
 have h1:(0:Int)<j:=hc
 exact mod_int' (by omega) (by rw[Int.fmod_eq_emod_of_nonneg i (by omega)];exact q)
theorem op_pow:OpR X (binaryOp .Pow) (rI CPow λi j=>.int (i^j.toNat)):=opI λ_ _ _ _ _ _ _ hc q=>pow_int_small hc.1 hc.2.1 hc.2.2 q
theorem unI{f:Value->Sem Value}{g:Int->Int}
  (rule:∀(i:Int)(t:Tok)(s:Shared)(Q:Value->Shared->Prop)(E:Value->Shared->Prop),Q (.int (g i) s.toks) {s with toks:=s.toks+1}->wpAny (model X.prog X.w) X.A (f (.int i t)) Q E s) :
  UnR X f (rU λi=>.int (g i)):=by
 intro pins s σ H x v Q I rx h
 obtain⟨i,rfl,q⟩:=h
 obtain⟨t,rfl⟩:=rx
 exact rule i t s _ _ ⟨.int (g i),H,I.tok _,⟨_,rfl⟩,q⟩
theorem jfj:UnR X (unaryOp .USub) (rU λi=>.int (-i)):=unI λ_ _ _ _ _ q=>neg_int q
end
def scal:V->V->Bool
 |.non,.non=>true|.non,.int _=>true|.int _,.non=>true|.non,.bl _=>true|.bl _,.non=>true|.non,.str _=>true|.str _,.non=>true
 |.int _,.int _=>true|.bl _,.bl _=>true|.str _,.str _=>true|.byt _,.byt _=>true
 |.int _,.str _=>true|.str _,.int _=>true|.bl _,.str _=>true|.str _,.bl _=>true
 |_,_=>false
def rEq:R2:=λx y H Q=>scal x y=true/\Q (.bl (decide (x=y))) H
def rNe:R2:=λx y H Q=>scal x y=true/\Q (.bl (!decide (x=y))) H
theorem jlm{i j:Int}:decide (V.int i=V.int j)=(i == j):=by
 rw[Ww]
 simp
theorem jnn{i j:Bool}:decide (V.bl i=V.bl j)=(i == j):=by
 rw[Ww]
 simp
theorem jln{i j:Str}:decide (V.str i=V.str j)=(i == j):=by
 rw[Ww]
 simp
theorem jll{i j:Array UInt8}:decide (V.byt i=V.byt j)=(i.toList == j.toList):=by
 rw[Ww]
 cases i
 cases j
 simp
section
variable{X:Cx}{a b c:Expr}{ta tb tc:TE}{pos:Pos}
theorem jci{pins:List (Addr×Obj)}{σ:St}{H:Hp}{s:Shared}{Q:VK}{k k':Bool}(I:Inv X pins σ H s)(q:Q (.bl k) H)(e:k=k'):EP X pins σ Q (.bool k') s:=by
 subst e
 exact⟨.bl k,H,I,rfl,q⟩
theorem jbt:OpR X (compareOp .Eq) rEq:=by
 intro pins s σ H x y v u Q I rx ry h
 obtain⟨hs,q⟩:=h
 cases x with
 |non =>
  cases rx
  cases y with
  |non=>cases ry;exact PySem.EqNone.eq_none_none (jci I q (by simp))
  |bl j=>cases ry;exact PySem.EqNone.eq_none_bool (jci I q (by simp))
  |int j=>obtain⟨t',rfl⟩:=ry;exact PySem.EqNone.eq_none_int (jci I q (by simp))
  |str j=>obtain⟨t',rfl⟩:=ry;exact PySem.EqNone.eq_none_str (jci I q (by simp))
  |_=>exact absurd (show false=true from hs) A3
 |bl i =>
  cases rx
  cases y with
  |non=>cases ry;exact PySem.EqNone.eq_bool_none (jci I q (by simp))
  |bl j=>cases ry;exact eq_bool (jci I q jnn)
  |str j=>obtain⟨t',rfl⟩:=ry;exact PySem.EqMixed.eq_bool_str (jci I q (by simp))
  |_=>exact absurd (show false=true from hs) A3
 |int i =>
  obtain⟨t,rfl⟩:=rx
  cases y with
  |non=>cases ry;exact PySem.EqNone.eq_int_none (jci I q (by simp))
  |int j=>obtain⟨t',rfl⟩:=ry;exact eq_int (jci I q jlm)
  |str j=>obtain⟨t',rfl⟩:=ry;exact PySem.EqMixed.eq_int_str (jci I q (by simp))
  |_=>exact absurd (show false=true from hs) A3
 |str i =>
  obtain⟨t,rfl⟩:=rx
  cases y with
  |non=>cases ry;exact PySem.EqNone.eq_str_none (jci I q (by simp))
  |bl j=>cases ry;exact PySem.EqMixed.eq_str_bool (jci I q (by simp))
  |int j=>obtain⟨t',rfl⟩:=ry;exact PySem.EqMixed.eq_str_int (jci I q (by simp))
  |str j=>obtain⟨t',rfl⟩:=ry;exact eq_str (jci I q jln)
  |_=>exact absurd (show false=true from hs) A3
 |byt i =>
  obtain⟨t,rfl⟩:=rx
  cases y with
  |byt j=>obtain⟨t',rfl⟩:=ry;exact PySem.W.eq_bytes (jci I q jll)
  |_=>exact absurd (show false=true from hs) A3
 |_=>cases y <;> exact absurd (show false=true from hs) A3
theorem jbu:OpR X (compareOp .NotEq) rNe:=by
 intro pins s σ H x y v u Q I rx ry h
 obtain⟨hs,q⟩:=h
 cases x with
 |non =>
  cases rx
  cases y with
  |non=>cases ry;exact PySem.EqNone.ne_none_none (jci I q (by simp))
  |bl j=>cases ry;exact PySem.EqNone.ne_none_bool (jci I q (by simp))
  |int j=>obtain⟨t',rfl⟩:=ry;exact PySem.EqNone.ne_none_int (jci I q (by simp))
  |str j=>obtain⟨t',rfl⟩:=ry;exact PySem.EqNone.ne_none_str (jci I q (by simp))
  |_=>exact absurd (show false=true from hs) A3
 |bl i =>
  cases rx
  cases y with
  |non=>cases ry;exact PySem.EqNone.ne_bool_none (jci I q (by simp))
  |bl j=>cases ry;exact ne_bool (jci I q (Od not jnn))
  |str j=>obtain⟨t',rfl⟩:=ry;exact PySem.EqMixed.ne_bool_str (jci I q (by simp))
  |_=>exact absurd (show false=true from hs) A3
 |int i =>
  obtain⟨t,rfl⟩:=rx
  cases y with
  |non=>cases ry;exact PySem.EqNone.ne_int_none (jci I q (by simp))
  |int j=>obtain⟨t',rfl⟩:=ry;exact ne_int (jci I q (Od not jlm))
  |str j=>obtain⟨t',rfl⟩:=ry;exact PySem.EqMixed.ne_int_str (jci I q (by simp))
  |_=>exact absurd (show false=true from hs) A3
 |str i =>
  obtain⟨t,rfl⟩:=rx
  cases y with
  |non=>cases ry;exact PySem.EqNone.ne_str_none (jci I q (by simp))
  |bl j=>cases ry;exact PySem.EqMixed.ne_str_bool (jci I q (by simp))
  |int j=>obtain⟨t',rfl⟩:=ry;exact PySem.EqMixed.ne_str_int (jci I q (by simp))
  |str j=>obtain⟨t',rfl⟩:=ry;exact ne_str (jci I q (Od not jln))
  |_=>exact absurd (show false=true from hs) A3
 |byt i =>
  obtain⟨t,rfl⟩:=rx
  cases y with
  |byt j=>obtain⟨t',rfl⟩:=ry;exact PySem.W.ne_bytes (jci I q (Od not jll))
  |_=>exact absurd (show false=true from hs) A3
 |_=>cases y <;> exact absurd (show false=true from hs) A3
theorem op_lt:OpR X (compareOp .Lt) (rI0 λi j=>.bl (decide (i<j))):=opB0 λ_ _ _ _ _ _ _ q=>lt_int q
theorem op_le:OpR X (compareOp .LtE) (rI0 λi j=>.bl (decide (i<=j))):=opB0 λ_ _ _ _ _ _ _ q=>le_int q
theorem ja6:OpR X (compareOp .Gt) (rI0 λi j=>.bl (decide (j<i))):=opB0 λ_ _ _ _ _ _ _ q=>gt_int q
theorem jcd:OpR X (compareOp .GtE) (rI0 λi j=>.bl (decide (j<=i))):=opB0 λ_ _ _ _ _ _ _ q=>ge_int q
theorem op_lt_str:OpR X (compareOp .Lt) (λx y H Q=>∃i j,x=.str i/\y=.str j/\Q (.bl (decide (i.cps.toList<j.cps.toList))) H):=by
 intro pins s σ H x y v u Q I rx ry h
 obtain⟨i,j,rfl,rfl,q⟩:=h
 obtain⟨t,rfl⟩:=rx
 obtain⟨t',rfl⟩:=ry
 exact lt_str (jci I q rfl)
theorem op_in_str:OpR X (compareOp .In) (λx y H Q=>∃i j,x=.str i/\y=.str j/\Q (.bl (!(Builtin.Str.occurrences j i 0 j.length 1).isEmpty)) H):=by
 intro pins s σ H x y v u Q I rx ry h
 obtain⟨i,j,rfl,rfl,q⟩:=h
 obtain⟨t,rfl⟩:=rx
 obtain⟨t',rfl⟩:=ry
 exact in_str (jci I q rfl)
theorem jx(b:Expr){op:CmpOp}(h:op≠.In:=by decide)(h2:op≠.NotIn:=by decide):behindInMarks op b=false:=by
 have e1:(op == CmpOp.In)=false:=by cases op <;> first|rfl|exact absurd rfl h
 have e2:(op == CmpOp.NotIn)=false:=by cases op <;> first|rfl|exact absurd rfl h2
 cases b <;> simp[behindInMarks,e1,e2]
theorem pe_cmpR{op:CmpOp}{r:R2}(ho:OpR X (compareOp op) r)(ha:PE X a ta)(hb:PE X b tb)(hm:behindInMarks op b=false):PE X (.Compare a [op] [b] pos) (tOp r ta tb):=by
 intro pins s σ H Q I h
 exact wpAny_Compare1 (binT ha hb I h λv u s2 x y H2 I2 rx ry q=>ho pins s2 σ H2 x y v u Q I2 rx ry q) hm
def jjo(t:TE):TT:=λσ H Q=>t σ H λx H'=>∃k,x=.bl k/\Q k H'
theorem pt_cmpR{op:CmpOp}{r:R2}(ho:OpR X (compareOp op) r)(ha:PE X a ta)(hb:PE X b tb)(hm:behindInMarks op b=false):PT X (.Compare a [op] [b] pos) (jjo (tOp r ta tb)):=by
 intro pins s σ H Q I h
 refine wpAny_isTrue_Compare1 (thn (ha pins s σ H _ I h) λv s1 ⟨x,H1,I1,r1,q1⟩=>thn (hb pins s1 σ H1 _ I1 q1) λu s2 ⟨y,H2,I2,r2,q2⟩ =>
  thn (ho pins s2 σ H2 x y v u _ I2 r1 r2 q2) λc s3 ⟨z,H3,I3,r3,k,e,q3⟩=>?_) hm
 subst e
 cases r3
 exact Os ⟨H3,I3,q3⟩
def jhe(r r':R2)(ta tb tc:TE):TE:=λσ H Q=>ta σ H λx H1=>tb σ H1 λy H2=>r x y H2 λz H3=>∃k,z=.bl k /\
 (if k=true then tc σ H3 λw' H4=>r' y w' H4 Q else Q (.bl false) H3)
theorem pe_chain{op op':CmpOp}{r r':R2}(ho:OpR X (compareOp op) r)(ho':OpR X (compareOp op') r')(ha:PE X a ta)(hb:PE X b tb)(hc:PE X c tc)
  (hm:lastMarks [op,op'] [b,c]=false:=by with_unfolding_all rfl):PE X (.Compare a [op,op'] [b,c] pos) (jhe r r' ta tb tc):=by
 intro pins s σ H Q I h
 refine Compare_chain (thn (ha pins s σ H _ I h) λv s1 ⟨x,H1,I1,r1,q1⟩=>chain_link (thn (hb pins s1 σ H1 _ I1 q1) λu s2 ⟨y,H2,I2,r2,q2⟩ =>
  thn (ho pins s2 σ H2 x y v u _ I2 r1 r2 q2) λd s3 ⟨z,H3,I3,r3,k,e,q3⟩=>?_)) hm
 subst e
 cases r3
 refine Os ?_
 cases k with
 |false=>exact ite_ff ⟨.bl false,H3,I3,rfl,q3⟩
 |true=>exact ite_tt (chain_last (thn (hc pins s3 σ H3 _ I3 q3) λw' s4 ⟨z',H4,I4,r4,q4⟩=>ho' pins s4 σ H4 y z' u w' Q I4 r2 r4 q4))
def TruV(K:PySem.W.Frag)(x:V)(H:Hp)(k:Bool):Prop :=
 match x with
 |.non=>k=false
 |.bl b=>k=b
 |.int i=>k=(i != 0)
 |.str y=>y.length<=sizeLine/\k=((y.length:Int) != 0)
 |.byt y=>y.size<=sizeLine/\k=((y.size:Int) != 0)
 |.ref p=>(∃xs,SqL K H p xs/\k=!xs.isEmpty)\/(∃xs,SqT K H p xs/\k=!xs.isEmpty)\/∃kvs,H p=some (.dK kvs)/\k=!kvs.isEmpty
 |_=>False
theorem jmt{κ:Type}{kvs:List (κ×V)}{vs:List (κ×Value)}(r:KV kvs vs):(!vs.isEmpty)=!kvs.isEmpty:=by
 cases r <;> rfl
theorem jgy{xs:List V}{its:List Value}(r:Vals xs its):(!its.toArray.isEmpty)=!xs.isEmpty:=by
 cases r <;> simp
theorem jd3:(sizeLine:Nat)<2^63:=by rw[Uz];decide
theorem jr9:TruR X (λx H Q=>∃k,TruV X.K x H k/\Q k H):=by
 intro pins s σ H x v Q I rx h
 obtain⟨k,e,q⟩:=h
 have hl:=jd3
 have hs:sizeLine=16777216:=Uz
 cases x with
 |non =>
  cases rx
  have e':k=false:=e
  subst e'
  exact truthy_none ⟨H,I,q⟩
 |bl b =>
  cases rx
  have e':k=b:=e
  subst e'
  exact Os ⟨H,I,q⟩
 |int i =>
  obtain⟨t,rfl⟩:=rx
  have e':k=(i != 0):=e
  subst e'
  exact PySem.P.truthy_int ⟨H,I,q⟩
 |str y =>
  obtain⟨t,rfl⟩:=rx
  obtain⟨hy,e'⟩:y.length<=sizeLine/\k=((y.length:Int) != 0):=e
  subst e'
  exact PySem.P.truthy_str (by omega) ⟨H,I.tok _,q⟩
 |byt y =>
  obtain⟨t,rfl⟩:=rx
  obtain⟨hy,e'⟩:y.size<=sizeLine/\k=((y.size:Int) != 0):=e
  subst e'
  exact PySem.W.truthy_bytes (by omega) ⟨H,I.tok _,q⟩
 |ref p =>
  cases rx
  have e':(∃xs,SqL X.K H p xs/\k=!xs.isEmpty)\/(∃xs,SqT X.K H p xs/\k=!xs.isEmpty)\/∃kvs,H p=some (.dK kvs)/\k=!kvs.isEmpty:=e
  rcases e' with⟨xs,hx,e'⟩|⟨xs,hx,e'⟩|⟨kvs,hx,e'⟩
  ·subst e'
   obtain⟨its,r,pl,hz⟩:=I.list hx
   have hlen:=r.length
   exact wpAny_truthy_list pl.isList (by simp only[Al];omega) ⟨H,I.tok _,by rw[jgy r];exact q⟩
  ·subst e'
   obtain⟨its,r,pl,hz⟩:=I.tuple hx
   have hlen:=r.length
   exact truthy_tuple pl (by simp only[Al];omega) ⟨H,I.tok _,by rw[jgy r];exact q⟩
  ·subst e'
   obtain⟨hz,hS,vs,r,m⟩:kvs.length<=sizeLine/\(p == sysModules)=false/\∃vs,KV kvs vs/\s.heap.DictOf (jco X.prog X.w) p vs:=I.hok p _ hx
   have hlen:kvs.length=vs.length:=Il r
   exact wpAny_truthy_dict hS m (by omega) ⟨H,I.tok _,by rw[jmt r];exact q⟩
 |_=>exact(show False from e).elim
theorem op_add_str:OpR X (binaryOp .Add) (λx y H Q=>∃i j,x=.str i/\y=.str j/\i.length+j.length<=sizeLine/\Q (.str (i++j)) H):=by
 intro pins s σ H x y v u Q I rx ry h
 obtain⟨i,j,rfl,rfl,hz,q⟩:=h
 obtain⟨t,rfl⟩:=rx
 obtain⟨t',rfl⟩:=ry
 exact add_str (λt' tk=>⟨.str (i++j),H,I.tok _,⟨_,rfl⟩,q⟩) hz
theorem jc9{x:V}{us:List Value}(r:Vals [x] us):∃u,us=[u]/\RelV x u:=by
 cases r with
 |cons r1 r2=>cases r2;exact⟨_,rfl,r1⟩
theorem jp4{x y:V}{us:List Value}(r:Vals [x,y] us):∃u w',us=[u,w']/\RelV x u/\RelV y w':=by
 cases r with
 |cons r1 r2 =>
  cases r2 with
  |cons r3 r4=>cases r4;exact⟨_,_,rfl,r1,r3⟩
theorem call_min2(hc:X.calm=true):jcv X (.builtin "min") (λxs H Q=>∃i j,xs=[.int i,.int j]/\Q (.int (if j<i then j else i)) H):=by
 intro pins s σ H xs us Q I r h
 obtain⟨i,j,rfl,q⟩:=h
 obtain⟨u,w',rfl,⟨t,rfl⟩,⟨t',rfl⟩⟩:=jp4 r
 refine min_two_ints (I.ok.hd hc) λh' tk k=>⟨_,H,I.kept k,?_,q⟩
 by_cases hj:j<i
 ·rw[Ak hj,Ak hj];exact⟨_,rfl⟩
 ·rw[Ae hj,Ae hj];exact⟨_,rfl⟩
theorem jbn:jcv X (.type "int") (λxs H Q=>(∃i,xs=[.int i]/\Q (.int i) H)\/∃k,xs=[.bl k]/\Q (.int (if k then 1 else 0)) H):=by
 intro pins s σ H xs us Q I r h
 rcases h with⟨i,rfl,q⟩|⟨k,rfl,q⟩
 ·obtain⟨u,rfl,t,rfl⟩:=jc9 r
  exact call_int_int ⟨.int i,H,I,⟨_,rfl⟩,q⟩
 ·obtain⟨u,rfl,r1⟩:=jc9 r
  cases r1
  exact call_int_bool ⟨.int (if k then 1 else 0),H,I.tok _,⟨_,rfl⟩,q⟩
end
structure ObjM(h:Heap)(x dx C:Addr)(mA:Str->Option Value):Prop where
 obj:h.get? x=some (PySem.W.instObj C dx)
 ns:h.Ns1 dx mA
 ne:dx≠x
theorem jn2{h:Heap}{dx:Addr}{mA:Str->Option Value}(n:h.Ns1 dx mA):∃od,h.get? dx=some od/\∀name,PySem.W.lookIn name od=some (mA name):=by
 obtain⟨o,es,ep,ho,hd,hk,_,hm⟩:=n
 refine⟨o,ho,λname=>?_⟩
 have e:=hm name
 unfold nsFind findBy at e
 rw[<-Array.find?_toList]at e
 unfold PySem.W.lookIn
 rw[hd]
 dsimp only
 split
 ·rename_i y q
  rw[q]at e
  exact Od some e
 ·rename_i q
  rw[q]at e
  have a:es.toList.any (·.refKey)=false:=by
   rw[List.any_eq_false]
   intro y hy
   obtain⟨z,t,hkey⟩:=hk y (Array.mem_toList_iff.mp hy)
   simp[DictEntry.refKey,hkey]
  have a':¬es.toList.any (·.refKey)=true:=by rw[a];exact A3
  rw[Ae a']
  exact Od some e
theorem ObjM.look{h:Heap}{x dx C:Addr}{mA:Str->Option Value}(I:ObjM h x dx C mA):∃od,PySem.W.InstAt h x (PySem.W.instObj C dx) C (some od)/\∀name,PySem.W.lookIn name od=some (mA name) :=
 let⟨od,ho,hl⟩:=jn2 I.ns
 ⟨od,⟨I.obj,rfl,rfl,ho⟩,hl⟩
section
variable{prog:Program}{w:World}{A:Around}{E:Value->Shared->Prop}{s:Shared}{K:PySem.W.Frag}{x dx C f:Addr}{mA:Str->Option Value}{name:Str}{v:Value}
theorem jqf{expr:Bool}{Q:Value->Shared->Prop}(X:K.In s.heap)(I:ObjM s.heap x dx C mA)(hg:PySem.W.plainGet K C name=true)(hh:PySem.W.hasDictIn K C=true)
  (ha:PySem.W.findIn K (.ref C) name=some none) (hv:mA name=some v) (hv':PySem.W.handedIn v=true) (h:Q v {s with toks:=s.toks+1}) :
  wpAny (model prog w) A (getAttr (.ref x) name expr) Q E s:=by
 obtain⟨od,J,hl⟩:=I.look
 exact PySem.W.get_value X J (W7 hg).1 (PySem.W.findObj_own hh ha rfl (by rw[hl,hv])) hv' h
theorem jox{pl:Sem Bool}{Q:Value×List Value->Shared->Prop}(X:K.In s.heap)(I:ObjM s.heap x dx C mA)(hg:PySem.W.plainGet K C name=true)
  (hf:PySem.W.findIn K (.ref C) name=some (some (.ref f))) (ht:PySem.W.isFn K (.ref f)=true) (hv:mA name=none) (h:Q (.ref f,[.ref x]) s) :
  wpAny (model prog w) A (getMethod (.ref x) name pl) Q E s:=by
 obtain⟨od,J,hl⟩:=I.look
 exact PySem.W.method_fn X J (W7 hg).1 (W7 hg).2 hf (Uj.mp ht) (by show(PySem.W.lookIn name od).map (·.isSome)=some false;rw[hl,hv];rfl) h
theorem jq3{ns:List Str}{Q:Unit->Shared->Prop}(X:K.In s.heap)(I:ObjM s.heap x dx C mA)
  (hs:PySem.W.findIn K (.ref C) "__setattr__"=some (some (.builtin "object.__setattr__"))) (hp:PySem.W.plainOver K C=true) (ht:PySem.W.takerIn K C name=some none) (hh:PySem.W.hasDictIn K C=true)
  (hw:PySem.Within mA ns) (hsz:ns.length<=sizeLine)
  (h:∀h',ObjM h' x dx C (λy=>if y=name then some v else mA y)->Heap.SameBut dx s.heap h'->Q () {s with heap:=h',toks:=s.toks+2}) :
  wpAny (model prog w) A (setAttr (.ref x) name v) Q E s:=by
 obtain⟨od,J,hl⟩:=I.look
 refine PySem.W.set_plain X J hs (PySem.W.osa_open (s:={s with toks:=s.toks+1}) (r:=none) X J hp ht λb=>?_)
 obtain⟨cd,hc,hd'⟩:=PySem.W.any_some hh
 have hx:s.heap.get? x=some ⟨.ref C,some dx,.plain,#[]⟩:=I.obj
 refine Aa (Af (Aa (Aa (wpAny_loadPart hx (Aa (PySem.W.Looks.here (s:={s with toks:=s.toks+1}) (PySem.W.looks_clsIn X hc) ?_))))))
 rw[hd']
 refine Af (a:=some dx) (Aa (Af (Aa ?_)))
 refine wpAny_nsSet1 (s:={s with toks:=s.toks+1}) I.ns λh' hn2 hs2=>?_
 obtain⟨oD,esD,epD,hoD,hdD,hcD⟩:=hn2.count (PySem.Within.cons name v hw)
 refine Aa (wpAny_lookBehind hoD (by rw[hdD];exact pastItsLine_dict (Ih hcD (by rw[List.length_cons];omega))) ?_)
 exact Af (h _ ⟨(hs2.2 _ (O6 I.ne)).trans I.obj,hn2,I.ne⟩ hs2)
theorem jo8{R:Result->Shared->Prop}{vs:List Value}{kw:List (Str×Value)}(X:K.In s.heap)(hm:PySem.W.makesIn K C=true)
  (hi:PySem.W.findIn K (.ref C) "__init__"=some (some (.ref f))) (hf:PySem.W.typeIn K (.ref f)=some (.type "function"))
  (h:codeAny (model prog w) (A.under (.builtin "type.__call__" ⟨.ref C::vs,kw⟩)) (.call (.ref f) ⟨.ref (s.heap.objs.size+1)::vs,kw⟩) (PySem.W.InitBack (s.heap.objs.size+1) R)
   {s with heap:=(s.heap.push PySem.W.emptyDict).push (PySem.W.instObj C s.heap.objs.size)}) :
  codeAny (model prog w) A (.call (.ref C) ⟨vs,kw⟩) R s:=by
 obtain⟨hh,g,d,t,os⟩:=s
 exact PySem.W.make_core (PySem.W.makes_of X hm) (PySem.W.looks_findIn X hi) (λself=>PySem.W.bind_fn X self hf) (.inl rfl) h
end
def putF(f:Str)(v:V):List (Str×V)->List (Str×V)
 |[]=>[(f,v)]
 |(g,x)::r=>if g=f then(g,v)::r else(g,x)::putF f v r
theorem jf1(f g:Str)(v:V):∀fs:List (Str×V),(putF f v fs).lookup g=if g=f then some v else fs.lookup g
 |[]=>by
  show List.lookup g [(f,v)]=_
  by_cases h:g=f
  ·have hb:(g == f)=true:=Uj.mpr h
   simp only[List.lookup,hb,Ak h]
  ·have hb:(g == f)=false:=Oz.mpr h
   simp only[List.lookup,hb,Ae h]
 |(k,x)::r=>by
  have ih:=jf1 f g v r
  rw[show putF f v ((k,x)::r)=(if k=f then(k,v)::r else(k,x)::putF f v r)from rfl]
  by_cases hk:k=f
  ·rw[Ak hk]
   by_cases h:g=k
   ·have hb:(g == k)=true:=Uj.mpr h
    simp only[List.lookup,hb,Ak (h.trans hk)]
   ·have hb:(g == k)=false:=Oz.mpr h
    simp only[List.lookup,hb,Ae (λe:g=f=>h (e.trans hk.symm))]
  ·rw[Ae hk]
   by_cases h:g=k
   ·have hb:(g == k)=true:=Uj.mpr h
    simp only[List.lookup,hb,Ae (λe:g=f=>hk (h.symm.trans e))]
   ·have hb:(g == k)=false:=Oz.mpr h
    simp only[List.lookup,hb]
    exact ih
theorem je5(f:Str)(v:V):∀fs:List (Str×V),f∈(putF f v fs).map (·.1)/\∀g,g∈fs.map (·.1)->g∈(putF f v fs).map (·.1)
 |[]=>⟨by simp[putF],λg h=>by simp at h⟩
 |(k,x)::r=>by
  obtain⟨i1,i2⟩:=je5 f v r
  rw[show putF f v ((k,x)::r)=(if k=f then(k,v)::r else(k,x)::putF f v r)from rfl]
  by_cases hk:k=f
  ·rw[Ak hk]
   subst hk
   exact⟨by simp,λg h=>by simpa using h⟩
  ·rw[Ae hk]
   refine⟨?_,λg h=>?_⟩
   ·rw[Ay]
    exact Ib _ i1
   ·rw[Ay]at h⊢
    rcases Aw.mp h with e|e
    ·exact Aw.mpr (.inl e)
    ·exact Ib _ (i2 g e)
theorem jf0(f:Str)(v:V):∀fs:List (Str×V),(putF f v fs).length<=fs.length+1
 |[]=>by simp[putF]
 |(k,x)::r=>by
  have ih:=jf0 f v r
  rw[show putF f v ((k,x)::r)=(if k=f then(k,v)::r else(k,x)::putF f v r)from rfl]
  by_cases hk:k=f
  ·rw[Ak hk,List.length_cons,List.length_cons];omega
  ·rw[Ae hk,List.length_cons,List.length_cons];omega
theorem RelO.some_of{v:V}{o:Option Value}(r:RelO (some v) o):∃u,o=some u/\RelV v u:=by
 cases o with
 |none=>exact(show False from r).elim
 |some u=>exact⟨u,rfl,r⟩
theorem RelO.none_of{o:Option Value}(r:RelO none o):o=none:=by
 cases o with
 |none=>rfl
 |some u=>exact(show False from r).elim
theorem jns{v:V}{u:Value}(r:RelV v u):PySem.W.handedIn u=true:=by
 cases v with
 |non=>cases(show u=Value.none from r);rfl
 |bl b=>cases(show u=Value.bool b from r);rfl
 |int i=>obtain⟨t,e⟩:=(show ∃t,u=Value.int i t from r);cases e;rfl
 |str x=>obtain⟨t,e⟩:=(show ∃t,u=Value.str x t from r);cases e;rfl
 |byt b=>obtain⟨t,e⟩:=(show ∃t,u=Value.bytes b t from r);cases e;rfl
 |flt b=>obtain⟨t,e⟩:=(show ∃t,u=Value.float b t from r);cases e;rfl
 |ref a=>cases(show u=Value.ref a from r);rfl
 |ty n=>cases(show u=Value.type n from r);rfl
section
variable{P:Program}{w:World}{H H':Hp}{h h':Heap}{a C dx:Addr}{fs fs':List (Str×V)}
theorem jfq(hok:HOk P w H h)(e:H a=some (.ins C dx fs)):∃mA,ObjM h a dx C mA/\(∀f,RelO (fs.lookup f) (mA f))/\PySem.Within mA (fs.map (·.1))/\fs.length<=1000/\H dx=some (.own a):=by
 obtain⟨d,z,ne,ob,mA,n,r,q⟩:=(show ObjOk P w H h a (.ins C dx fs)from hok a _ e)
 exact⟨mA,⟨ob,n,ne⟩,r,q,z,d⟩
end
structure Cls(K:PySem.W.Frag)(C:Addr):Prop where
 pg:PySem.W.plainGet K C Str.empty=true
 hd:PySem.W.hasDictIn K C=true
 po:PySem.W.plainOver K C=true
 sa:PySem.W.findIn K (.ref C) "__setattr__"=some (some (.builtin "object.__setattr__"))
theorem Cls.get{K:PySem.W.Frag}{C:Addr}(c:Cls K C)(f:Str):PySem.W.plainGet K C f=true:=c.pg
def NoAttr(K:PySem.W.Frag)(C:Addr)(f:Str):Prop:=PySem.W.findIn K (.ref C) f=some none
theorem NoAttr.taker{K:PySem.W.Frag}{C:Addr}{f:Str}(n:NoAttr K C f):PySem.W.takerIn K C f=some none:=by
 unfold PySem.W.takerIn
 rw[show PySem.W.findIn K (.ref C) f=some none from n]
 rfl
structure Meth(K:PySem.W.Frag)(C:Addr)(m:Str)(f:Addr):Prop where
 at_:PySem.W.findIn K (.ref C) m=some (some (.ref f))
 fn:PySem.W.isFn K (.ref f)=true
 kp:PySem.W.keepIn K (.ref f)=true
section
variable{X:Cx}{pins:List (Addr×Obj)}{σ:St}{H:Hp}{s:Shared}{a C dx:Addr}{fs:List (Str×V)}{f:Str}{v:V}{A:Around}{E:Value->Shared->Prop}
theorem jgt{b:Bool}{Q:Value->Shared->Prop}(I:Inv X pins σ H s)(e:H a=some (.ins C dx fs))(c:Cls X.K C)(n:NoAttr X.K C f)(l:fs.lookup f=some v)
  (h:∀u s',Inv X pins σ H s'->RelV v u->Q u s'):wpAny (model X.prog X.w) A (getAttr (.ref a) f b) Q E s:=by
 obtain⟨mA,O,r,_,_,_⟩:=jfq I.hok e
 obtain⟨u,hu,ru⟩:=RelO.some_of (v:=v) (o:=mA f) (by rw[<-l];exact r f)
 exact jqf I.kIn O (c.get f) c.hd n hu (jns ru) (h u _ (I.tok _) ru)
theorem jmq{m:Str}{g:Addr}{pl:Sem Bool}{Q:Value×List Value->Shared->Prop}(I:Inv X pins σ H s)(e:H a=some (.ins C dx fs))(c:Cls X.K C)(k:Meth X.K C m g)(l:fs.lookup m=none)
  (h:Q (.ref g,[.ref a]) s):wpAny (model X.prog X.w) A (getMethod (.ref a) m pl) Q E s:=by
 obtain⟨mA,O,r,_,_,_⟩:=jfq I.hok e
 have hn:mA m=none:=RelO.none_of (by rw[<-l];exact r m)
 exact jox I.kIn O (c.get m) k.at_ k.fn hn h
theorem jg8{y:V}{u:Value}{Q:Unit->Shared->Prop}(I:Inv X pins σ H s)(e:H a=some (.ins C dx fs))(c:Cls X.K C)(n:NoAttr X.K C f)(hl:fs.length<1000)(ry:RelV y u)
  (h:∀s',Inv X pins σ (upd H a (.ins C dx (putF f y fs))) s'->Q () s'):wpAny (model X.prog X.w) A (setAttr (.ref a) f u) Q E s:=by
 obtain⟨mA,O,r,wi,_,ho⟩:=jfq I.hok e
 have hz:(fs.map (·.1)).length<=sizeLine:=by rw[Ab,Uz];omega
 refine jq3 I.kIn O c.sa c.po n.taker c.hd wi hz λh' O' sb=>h _ ?_
 have hd:∃o,h'.get? dx=some o:=let⟨o,_,_,e',_⟩:=O'.ns;⟨o,e'⟩
 refine I.write (x:=a) (e:=dx) (by rw[e];exact True.intro) (.inr ho) (λb q hb z=>(sb.2 b hb).trans z) hd ?_
 refine⟨by rw[jf O.ne];exact ho,?_,O.ne,O'.obj,_,O'.ns,λg=>?_,λg hg=>?_⟩
 ·have:=jf0 f y fs;omega
 ·show RelO ((putF f y fs).lookup g) (if g=f then some u else mA g)
  rw[jf1]
  by_cases q:g=f
  ·rw[Ak q,Ak q];exact ry
  ·rw[Ae q,Ae q];exact r g
 ·by_cases q:g=f
  ·rw[q];exact(je5 f y fs).1
  ·refine(je5 f y fs).2 g (wi g λz=>hg ?_)
   show(if g=f then some u else mA g)=none
   rw[Ae q];exact z
theorem Inv.made(I:Inv X pins σ H s):Inv X pins σ (upd (upd H s.heap.objs.size (.own (s.heap.objs.size+1))) (s.heap.objs.size+1) (.ins C s.heap.objs.size []))
  {s with heap:=(s.heap.push PySem.W.emptyDict).push (PySem.W.instObj C s.heap.objs.size)}:=by
 have e1:(s.heap.push PySem.W.emptyDict).get? s.heap.objs.size=some PySem.W.emptyDict:=An s.heap rfl
 have e2:((s.heap.push PySem.W.emptyDict).push (PySem.W.instObj C s.heap.objs.size)).get? (s.heap.objs.size+1)=some (PySem.W.instObj C s.heap.objs.size):=by
  have:=An (s.heap.push PySem.W.emptyDict) (o:=PySem.W.instObj C s.heap.objs.size) rfl
  rwa[Im]at this
 have e3:(s.heap.push PySem.W.emptyDict).Ns s.heap.objs.size (λ_=>none):=⟨PySem.W.emptyDict,#[],_,e1,rfl,(λe he=>absurd he (by simp)),λ_=>rfl⟩
 have I1:=I.laid (a:=s.heap.objs.size) (o:=.own (s.heap.objs.size+1)) (h':=s.heap.push PySem.W.emptyDict) (t':=s.toks) (λb u q=>Ad _ q) (Ah _) ⟨_,e1⟩
 refine I1.laid (a:=s.heap.objs.size+1) (o:=.ins C s.heap.objs.size []) (t':=s.toks) (λb u q=>Ad _ q) (Wx (Im _ _)) ?_
 have ne:s.heap.objs.size≠s.heap.objs.size+1:=Ap (Ij _)
 refine⟨by rw[jf ne,je],A8 _,ne,e2,λ_=>none,(Heap.Ns1.of_empty e3).at λo q=>Ad _ q,λ_=>True.intro,λy hy=>absurd rfl hy⟩
theorem jqa{prog:Program}{w:World}{env:Env}{e:Expr}{f:Str}{pos:Pos}{s:Shared}{Q:Value->Shared->Prop}(hb:attributeBase e f env (eval e env)=eval e env)
  (h:wpAny (model prog w) A (eval e env) (λo s₁=>wpAny (model prog w) A (getAttr o f true) Q E s₁) E s):wpAny (model prog w) A (eval (.Attribute e f pos) env) Q E s :=
 Attribute_any_ h (by rw[arm_eval_Attribute,hb])
end
def tFld(K:PySem.W.Frag)(ta:TE)(f:Str):TE:=λσ H Q=>ta σ H λx H1=>∃a C dx fs v,x=.ref a/\H1 a=some (.ins C dx fs)/\Cls K C/\NoAttr K C f/\fs.lookup f=some v/\Q v H1
def sFld(K:PySem.W.Frag)(ta tv:TE)(f:Str):TS:=λD σ H=>tv σ H λy H1=>ta σ H1 λx H2=>∃a C dx fs,x=.ref a/\H2 a=some (.ins C dx fs)/\Cls K C/\NoAttr K C f/\fs.length<1000 /\
 D.nx σ (upd H2 a (.ins C dx (putF f y fs)))
def InOp(X:Cx)(op:Operator)(rd:V->V->Hp->VK->Prop):Prop :=
 ∀(pins:List (Addr×Obj))(s:Shared)(σ:St)(H:Hp)(x y:V)(u v:Value)(Q:VK),Inv X pins σ H s->RelV x u->RelV y v->rd x y H Q->wpAny (model X.prog X.w) X.A (inplaceOp op u v) (EP X pins σ Q) X.xe s
def jft(K:PySem.W.Frag)(ta tv:TE)(rd:V->V->Hp->VK->Prop)(f:Str):TS:=λD σ H=>ta σ H λx H1=>∃a C dx fs v,x=.ref a/\H1 a=some (.ins C dx fs)/\Cls K C/\NoAttr K C f/\fs.lookup f=some v /\
 tv σ H1 λy H2=>rd v y H2 λz H3=>∃dx' fs',H3 a=some (.ins C dx' fs')/\fs'.length<1000/\D.nx σ (upd H3 a (.ins C dx' (putF f z fs')))
section
variable{X:Cx}{o e value:Expr}{f:Str}{pos pos' tpos:Pos}{ta tv:TE}
theorem pe_fld(he:PE X e ta)(hb:attributeBase e f X.env (eval e X.env)=eval e X.env):PE X (.Attribute e f pos) (tFld X.K ta f):=by
 intro pins s σ H Q I h
 refine jqa hb (thn (he pins s σ H _ I h) λu s1 ⟨x,H1,I1,rx,a,C,dx,fs,v,ex,ea,c,n,l,q⟩=>?_)
 subst ex
 obtain rfl:u=Value.ref a:=rx
 exact jgt I1 ea c n l λu' s2 I2 ru=>⟨v,H1,I2,ru,q⟩
theorem ps_fld(ha:PE X o ta)(hv:PE X value tv)(hs:swapsWith value (some (.Attribute o f pos')) pos.line X.env=pure false):PS X (.Assign [.Attribute o f pos'] value pos) (sFld X.K ta tv f):=by
 intro pins s σ H D I h
 refine plainObj_wpAny_Assign_Attribute (thn (hv pins s σ H _ I h) λu s1 ⟨y,H1,I1,ry,q⟩=>thn (ha pins s1 σ H1 _ I1 q) λov s2 ⟨x,H2,I2,rx,a,C,dx,fs,ex,ea,c,n,l,q2⟩=>?_) hs
 subst ex
 obtain rfl:ov=Value.ref a:=rx
 exact jg8 I2 ea c n l ry λs3 I3=>⟨σ,_,I3,q2⟩
theorem ps_fldaug{op:Operator}{rd:V->V->Hp->VK->Prop}(ha:PE X o ta)(hv:PE X value tv)(hop:InOp X op rd):PS X (.AugAssign (.Attribute o f tpos) op value pos) (jft X.K ta tv rd f):=by
 intro pins s σ H D I h
 refine wpAny_AugAssign_AttributeAny (thn (ha pins s σ H _ I h) λov s1 ⟨x,H1,I1,rx,a,C,dx,fs,v,ex,ea,c,n,l,q⟩=>?_)
 subst ex
 obtain rfl:ov=Value.ref a:=rx
 refine jgt I1 ea c n l λu s2 I2 ru=>thn (hv pins s2 σ H1 _ I2 q) λw3 s3 ⟨y,H2,I3,ry,q3⟩=>thn (hop pins s3 σ H2 v y u w3 _ I3 ru ry q3) λw4 s4 ⟨z,H3,I4,rz,dx',fs',ea',l',q4⟩=>?_
 exact jg8 I4 ea' c n l' rz λs5 I5=>⟨σ,_,I5,q4⟩
def rAdd:V->V->Hp->VK->Prop:=λx y H Q=>∃i j,x=.int i/\y=.int j/\Q (.int (i+j)) H
def rSub:V->V->Hp->VK->Prop:=λx y H Q=>∃i j,x=.int i/\y=.int j/\Q (.int (i-j)) H
theorem jrn:InOp X .Add rAdd:=by
 rintro pins s σ H x y u v Q I rx ry ⟨i,j,rfl,rfl,q⟩
 obtain⟨t,rfl⟩:=(show ∃t,u=Value.int i t from rx)
 obtain⟨t',rfl⟩:=(show ∃t',v=Value.int j t' from ry)
 exact PyProof.Rows.iadd_int ⟨.int (i+j),H,I.tok _,⟨_,rfl⟩,q⟩
theorem jro:InOp X .Sub rSub:=by
 rintro pins s σ H x y u v Q I rx ry ⟨i,j,rfl,rfl,q⟩
 obtain⟨t,rfl⟩:=(show ∃t,u=Value.int i t from rx)
 obtain⟨t',rfl⟩:=(show ∃t',v=Value.int j t' from ry)
 exact PyProof.Rows.isub_int ⟨.int (i-j),H,I.tok _,⟨_,rfl⟩,q⟩
end
section
variable{X:Cx}{pins:List (Addr×Obj)}{σ:St}{H:Hp}{s:Shared}{A:Around}{E:Value->Shared->Prop}{Q:Value->Shared->Prop}{c:Value}{b:Bool}
inductive TyOf (K:PySem.W.Frag) (H:Hp):V->Value->Prop where
 |non:TyOf K H .non (.type "NoneType")
 |bl (x:Bool):TyOf K H (.bl x) (.type "bool")
 |int (i:Int):TyOf K H (.int i) (.type "int")
 |str (x:Str):TyOf K H (.str x) (.type "str")
 |flt (x:UInt64):TyOf K H (.flt x) (.type "float")
 |lst {a:Addr}{xs:List V} (e:H a=some (.lst xs)):TyOf K H (.ref a) (.type "list")
 |frz {a:Addr}{o:Obj}{xs:List V} (e:H a=some (.frz o (.lst xs))):TyOf K H (.ref a) (.type "list")
 |tup {a:Addr}{xs:List V} (e:H a=some (.tup xs)):TyOf K H (.ref a) (.type "tuple")
 |dK {a:Addr}{kvs:List (Key×V)} (e:H a=some (.dK kvs)):TyOf K H (.ref a) (.type "dict")
 |dT {a:Addr}{kvs:List (List Key×V)} (e:H a=some (.dT kvs)):TyOf K H (.ref a) (.type "dict")
 |ins {a C dx:Addr}{fs:List (Str×V)} (e:H a=some (.ins C dx fs)) (cl:Cls K C) (ha:PySem.W.findIn K (.ref C) "__class__"=some (some (.builtin "object.__class__")))
   (hn:PySem.W.specialIn K (.builtin "object.__class__") "__get__"=some (some (.builtin "getset_descriptor.__get__"))) (htk:PySem.W.takesIn K (.builtin "object.__class__")=some true)
   (hm:PySem.W.mroIn K C (.type "object")=some true):TyOf K H (.ref a) (.ref C)
theorem jnv{x:V}{u t:Value}(I:Inv X pins σ H s)(rx:RelV x u)(ty:TyOf X.K H x t)(e:PySem.W.kitOne X.K t c=some b)(h:∀tk,Q (.bool b) {s with toks:=tk}) :
  wpAny (model X.prog X.w) A (call (.builtin "isinstance") [u,c]) Q E s:=by
 cases ty with
 |non=>cases(show u=Value.none from rx);exact Iz PySem.W.kitx_none I.kIn True.intro e (λz=>nomatch z) h
 |bl y=>cases(show u=Value.bool y from rx);exact Iz PySem.W.kitx_bool I.kIn True.intro e (λz=>nomatch z) h
 |int i=>obtain⟨t,q⟩:=(show ∃t,u=Value.int i t from rx);cases q;exact Iz PySem.W.kitx_int I.kIn True.intro e (λz=>nomatch z) h
 |str y=>obtain⟨t,q⟩:=(show ∃t,u=Value.str y t from rx);cases q;exact Iz PySem.W.kitx_str I.kIn True.intro e (λz=>nomatch z) h
 |flt y=>obtain⟨t,q⟩:=(show ∃t,u=Value.float y t from rx);cases q;exact Iz PySem.W.kitx_float I.kIn True.intro e (λz=>nomatch z) h
 |@lst a xs ea =>
  cases(show u=Value.ref a from rx)
  obtain⟨_,_,n,_,h1⟩:=(show ObjOk X.prog X.w H s.heap a (.lst xs)from I.hok a _ ea)
  exact Iz PySem.W.kitx_list I.kIn ⟨_,h1,rfl⟩ e (λz=>nomatch z) h
 |@frz a ob xs ea =>
  cases(show u=Value.ref a from rx)
  obtain⟨_,_,_,n,_,h1⟩:=(show ObjOk X.prog X.w H s.heap a (.frz ob (.lst xs))from I.hok a _ ea)
  exact Iz PySem.W.kitx_list I.kIn ⟨_,h1,rfl⟩ e (λz=>nomatch z) h
 |@tup a xs ea =>
  cases(show u=Value.ref a from rx)
  obtain⟨_,_,_,p⟩:=(show ObjOk X.prog X.w H s.heap a (.tup xs)from I.hok a _ ea)
  obtain⟨o,h1,h2,_⟩:=p
  exact Iz PySem.W.kitx_tuple I.kIn ⟨o,h1,h2⟩ e (λz=>nomatch z) h
 |@dK a kvs ea =>
  cases(show u=Value.ref a from rx)
  obtain⟨_,_,vs,_,p⟩:=(show ObjOk X.prog X.w H s.heap a (.dK kvs)from I.hok a _ ea)
  obtain⟨o,es,ep,h1,h2,_⟩:=p
  exact Iz PySem.W.kitx_dict I.kIn ⟨o,h1,h2.1⟩ e (λz=>nomatch z) h
 |@dT a kvs ea =>
  cases(show u=Value.ref a from rx)
  obtain⟨_,_,xs,_,o,es,ep,h1,h2,_⟩:=(show ObjOk X.prog X.w H s.heap a (.dT kvs)from I.hok a _ ea)
  exact Iz PySem.W.kitx_dict I.kIn ⟨o,h1,h2.1⟩ e (λz=>nomatch z) h
 |@ins a C dx fs ea cl ha hn htk hm =>
  cases(show u=Value.ref a from rx)
  obtain⟨mA,O,_⟩:=jfq I.hok ea
  obtain⟨od,J,_⟩:=O.look
  exact Iz (PySem.W.kitx_own (cl.get _) cl.hd ha hn htk hm) I.kIn J e (λz=>nomatch z) h
end
structure Room(k:Nat)(A:Around):Prop where
 hd:A.handled=none
 dp:A.depth+3*k+5<recursionLimit
 un:A.units+16*k+200<cLine
 gd:A.guards=some []
theorem Room.mono{j k:Nat}{A:Around}(r:Room k A)(h:j<=k):Room j A:=⟨r.hd,by have:=r.dp;omega,by have:=r.un;omega,r.gd⟩
theorem Room.deeper{k:Nat}{A:Around}(r:Room (k+1) A)(env:Env):Room k (A.deeper env) :=
 ⟨r.hd,by have:=r.dp;show A.depth+1+3*k+5<_;omega,by have:=r.un;show A.units+3+16*k+200<_;omega,r.gd⟩
theorem jmy{A:Around}{C:Addr}{us:List Value}{kw:List (Str×Value)}:(A.under (.builtin "type.__call__" ⟨.ref C::us,kw⟩)).depth=A.depth+1:=by
 first|rfl|simp[Around.under,Code.weight,Code.isCreation,Code.isGuard,Code.isCaller,Code.frames,Code.isFrame,guardIds]
theorem jmz{A:Around}{C:Addr}{us:List Value}{kw:List (Str×Value)}:(A.under (.builtin "type.__call__" ⟨.ref C::us,kw⟩)).units=A.units+1:=by
 first|rfl|simp[Around.under,Code.cUnits,Code.frames,Code.isFrame]
theorem Room.make{k:Nat}{A:Around}(r:Room (k+1) A)(C:Addr)(us:List Value)(kw:List (Str×Value)):Room k (A.under (.builtin "type.__call__" ⟨.ref C::us,kw⟩)) :=
 ⟨r.hd,by have:=r.dp;rw[jmy];omega,by have:=r.un;rw[jmz];omega,by first|exact r.gd|(simpa[Around.under,Code.isGuard,guardIds]using r.gd)⟩
theorem Room.depth{k:Nat}{A:Around}(r:Room k A):A.depth<recursionLimit:=by have:=r.dp;omega
theorem Room.units{k:Nat}{A:Around}(r:Room k A):A.units+64<cLine:=by have:=r.un;omega
def tNil:TA:=λ_ H Q=>Q [] H
def jeb(ta:TE)(tr:TA):TA:=λσ H Q=>ta σ H λx H1=>tr σ H1 λxs H2=>Q (x::xs) H2
section
variable{X:Cx}{e:Expr}{es:List Expr}{te:TE}{t:TA}{pos:Pos}
theorem jby:PA X [] tNil:=λ_ _ _ _ H Q I h=>Wd ⟨[],H,I,.nil,h⟩
theorem jbj(ha:PE X e te)(hr:PA X es t)(hs:starEach (e::es) X.env=(false,eval e X.env)::starEach es X.env:=by rfl):PA X (e::es) (jeb te t):=by
 intro pos pins s σ H Q I h
 rw[hs]
 show wpAny _ _ (spliced ((false,eval e X.env)::backTo pos (starEach es X.env))) _ _ s
 refine Uk (thn (ha pins s σ H _ I h) λu s1 ⟨x,H1,I1,r1,q1⟩=>?_)
 exact thn (hr pos pins s1 σ H1 _ I1 q1) λus s2 ⟨xs,H2,I2,r2,q2⟩=>⟨x::xs,H2,I2,.cons r1 r2,q2⟩
def tTup(t:TA):TE:=λσ H Q=>t σ H λxs H1=>xs.length<=sizeLine/\∀p,H1 p=none->Q (.ref p) (upd H1 p (.tup xs))
def tLst(t:TA):TE:=λσ H Q=>t σ H λxs H1=>xs.length<=sizeLine/\∀p,H1 p=none->Q (.ref p) (upd H1 p (.lst xs))
theorem pe_tup{x1}(h:PA X es t):PE X (.Tuple es x1 pos) (tTup t):=by
 intro pins s σ H Q I hq
 refine wpAny_Tuple_spliced (thn (h pos pins s σ H _ I hq) λus s1 ⟨xs,H1,I1,r,z,q⟩=>⟨by rw[<-r.length];exact z,?_⟩)
 have hf:H1 s1.heap.objs.size=none:=I1.hok.fresh (Ah _)
 refine⟨.ref s1.heap.objs.size,upd H1 s1.heap.objs.size (.tup xs),I1.laid (t':=s1.toks) (λb u e=>Ad _ e) (Ah _) ?_,rfl,q _ hf⟩
 exact⟨z,us,r,⟨_,An _ rfl,rfl,_,rfl⟩⟩
theorem pe_lst(h:PA X es t):PE X (.List es pos) (tLst t):=by
 intro pins s σ H Q I hq
 refine wpAny_List_spliced (thn (h pos pins s σ H _ I hq) λus s1 ⟨xs,H1,I1,r,z,q⟩=>⟨by rw[<-r.length];exact z,?_⟩)
 have hf:H1 s1.heap.objs.size=none:=I1.hok.fresh (Ah _)
 refine⟨.ref s1.heap.objs.size,upd H1 s1.heap.objs.size (.lst xs),I1.laid (t':=s1.toks) (λb u e=>Ad _ e) (Ah _) ?_,rfl,q _ hf⟩
 exact⟨z,us,0,r,An _ rfl⟩
end
abbrev Sp:=List V->Hp->VK->XK->Prop
abbrev CXT:=List Env->Hp->Shared->XK->Value->Shared->Prop
structure Env0(P:Program)(w:World)(K:PySem.W.Frag)(mg:Str->Option Value)(base:Heap)(A:Around)(outer:List Env)(s:Shared)(H:Hp):Prop where
 frames:A.frames=some outer
 mod:Mod K mg base
 bs:∀b o,base.get? b=some o->s.heap.get? b=some o/\H b=none
 bsz:base.objs.size<=s.heap.objs.size
 funs:s.heap.FunFrames base outer
 frf:∀b∈frs outer,H b=none
 hok:HOk P w H s.heap
 bare:AllBare s.gens
def CE(outer:List Env)(P:Program)(w:World)(H:Hp)(s:Shared)(Q:VK)(u:Value)(s':Shared):Prop :=
 ∃v H',s'.os=s.os/\AllBare s'.gens/\Un (frs outer) [] H H' s.heap s'.heap/\HOk P w H' s'.heap/\RelV v u/\Q v H'
def CR(CX:CXT)(outer:List Env)(P:Program)(w:World)(H:Hp)(s:Shared)(Q:VK)(E:XK)(r:Result)(s':Shared):Prop :=
 match r with
 |.ok (.ret u)=>CE outer P w H s Q u s'
 |.ok _=>False
 |.error e=>CX outer H s E e s'
structure FnOk(P:Program)(w:World)(K:PySem.W.Frag)(mg:Str->Option Value)(base:Heap)(CX:CXT)(k:Nat)(f:Addr)(fd:FuncData)(ps:List Str)(sp:Sp):Prop where
 len:∀vs H Q E,sp vs H Q E->vs.length=ps.length
 run:∀(A:Around)(outer:List Env)(s:Shared)(H:Hp)(args:Args)(us:List Value)(vs:List V)(Q:VK)(E:XK),Room k A->Env0 P w K mg base A outer s H->BindsTo s fd args (ps.zip us)->Vals vs us->sp vs H Q E ->
  codeAny (model P w) A (.call (.ref f) args) (CR CX outer P w H s Q E) s
theorem FnOk.mono{P:Program}{w:World}{K:PySem.W.Frag}{mg:Str->Option Value}{base:Heap}{CX:CXT}{j k:Nat}{f:Addr}{fd:FuncData}{ps:List Str}{sp:Sp}(F:FnOk P w K mg base CX j f fd ps sp)(h:j<=k) :
  FnOk P w K mg base CX k f fd ps sp:=⟨F.len,λA outer s H args us vs Q E hr=>F.run A outer s H args us vs Q E (hr.mono h)⟩
theorem Env0.make{P:Program}{w:World}{K:PySem.W.Frag}{mg:Str->Option Value}{base:Heap}{A:Around}{outer:List Env}{s:Shared}{H:Hp}(e:Env0 P w K mg base A outer s H)(C:Addr)(us:List Value)(kw:List (Str×Value)) :
  Env0 P w K mg base (A.under (.builtin "type.__call__" ⟨.ref C::us,kw⟩)) outer s H:=⟨by first|exact e.frames|(simpa[Around.under,Code.envs,Code.isFrame,pushEnvs]using e.frames),e.mod,e.bs,e.bsz,e.funs,e.frf,e.hok,e.bare⟩
section
variable{X:Cx}{pins:List (Addr×Obj)}{σ:St}{H:Hp}{s s':Shared}
theorem Inv.env0(I:Inv X pins σ H s):Env0 X.prog X.w X.K X.mg X.base X.A X.stack s H :=
 ⟨I.ok.frames,I.ok.mod,I.bs,Ih I.ok.bsz I.sz,I.stack,I.stkFree,I.hok,I.bare⟩
theorem Inv.after{Q:VK}{u:Value}(I:Inv X pins σ H s)(h:CE X.stack X.prog X.w H s Q u s'):EP X pins σ Q u s':=by
 obtain⟨v,H',os,bare,un,hok,r,q⟩:=h
 obtain⟨hh,g,d,t,os'⟩:=s'
 obtain rfl:os'=s.os:=os
 exact⟨v,H',I.call (h':=hh) (g':=g) (d':=d) (t':=t) (ch:=[]) un hok bare (λb z=>absurd z (by simp)),r,q⟩
end
def jjf(sp:Sp)(dvs:List V)(E:XK)(t:TA):TE:=λσ H Q=>t σ H λvs H1=>sp (vs++dvs) H1 Q E
def jjk(C:Addr)(m:Str)(sp:Sp)(dvs:List V)(E:XK)(ta:TE)(t:TA):TE:=λσ H Q=>ta σ H λx H1=>∃a dx fs,x=.ref a/\H1 a=some (.ins C dx fs)/\fs.lookup m=none /\
 t σ H1 λvs H2=>sp (x::(vs++dvs)) H2 Q E
def jjj(C:Addr)(sp:Sp)(dvs:List V)(E:XK)(t:TA):TE:=λσ H Q=>t σ H λvs H1=>∀x dx,H1 x=none->H1 dx=none->dx≠x ->
 sp (.ref x::(vs++dvs)) (upd (upd H1 dx (.own x)) x (.ins C dx [])) (λv H2=>v=.non/\Q (.ref x) H2) E
def Binds(K:PySem.W.Frag)(fd:FuncData)(ps:List Str)(ds:List Value):Prop :=
 ∀(s:Shared)(us:List Value),K.In s.heap->(us++ds).length=ps.length->BindsTo s fd ⟨us,[]⟩ (ps.zip (us++ds))
theorem Binds.all{K:PySem.W.Frag}{fd:FuncData}{ps:List Str}(h:∀us:List Value,us.length=ps.length->bindArgs fd ⟨us,[]⟩=pure (ps.zip us)):Binds K fd ps []:=λs us _ hl=>by
 rw[Og]at hl⊢
 exact .of_eq (h us hl)
def jdl(CX:CXT)(X:Cx)(E:XK):Prop:=∀(pins:List (Addr×Obj))(σ:St)(H:Hp)(s:Shared)(e:Value)(s':Shared),Inv X pins σ H s->CX X.stack H s E e s'->X.xe e s'
section
variable{X:Cx}{CX:CXT}{k:Nat}{f C:Addr}{fd:FuncData}{ps:List Str}{sp:Sp}{dvs:List V}{ds:List Value}{E:XK}{x m:Str}{p pos apos:Pos}{e o:Expr}{es:List Expr}{ta:TE}{t:TA}
theorem jko{pins:List (Addr×Obj)}{σ:St}{H:Hp}{s:Shared}{Q:VK}{us:List Value}{vs:List V}(F:FnOk X.prog X.w X.K X.mg X.base CX k f fd ps sp)(hr:Room k X.A)(hb:Binds X.K fd ps ds)(hd:Vals dvs ds)(hx:jdl CX X E)
  (I:Inv X pins σ H s) (r:Vals vs us) (h:sp (vs++dvs) H Q E):wpAny (model X.prog X.w) X.A (call (.ref f) us) (EP X pins σ Q) X.xe s:=by
 have r2:Vals (vs++dvs) (us++ds):=r.append hd
 have hl:(us++ds).length=ps.length:=by rw[<-r2.length];exact F.len _ _ _ _ h
 refine wpAny_call (Ud (F.run X.A X.stack s H ⟨us,[]⟩ (us++ds) (vs++dvs) Q E hr I.env0 (hb s us I.kIn hl) r2 h) λr s' hq=>?_)
 cases r with
 |error e=>exact hx pins σ H s e s' I hq
 |ok fl =>
  cases fl with
  |ret u=>exact I.after hq
  |next=>exact False.elim hq
  |brk=>exact False.elim hq
  |cont=>exact False.elim hq
theorem pe_call(F:FnOk X.prog X.w X.K X.mg X.base CX k f fd ps sp)(hr:Room k X.A)(hg:Gl X x)(hm:X.mg x=some (.ref f))(hk:PySem.W.keepIn X.K (.ref f)=true)(hb:Binds X.K fd ps ds)(hd:Vals dvs ds)(hx:jdl CX X E)
  (ha:PA X (e::es) t) (hdb:(x == ("__debug__":Str))=false:=by decide) (he:starEach (e::es) X.env=(false,eval e X.env)::starEach es X.env:=by rfl) (hpl:(backTo pos (starEach es X.env)).any (·.1)=false:=by rfl) :
  PE X (.Call (.Name x p) (e::es) [] pos) (jjf sp dvs E t):=by
 intro pins s σ H Q I h
 refine Io (jfs I hg hm ?_ hdb)
 refine W9 (h₀:=X.base) I.ok.mod.kin hk (thn (ha pos pins s σ H _ I h) λus s1 ⟨vs,H1,I1,r,q⟩=>⟨I1.kIn,?_⟩) he hpl
 exact jko F hr hb hd hx I1 r q
theorem pe_meth{pl:Sem Bool}(he:PE X o ta)(c:Cls X.K C)(hm:Meth X.K C m f)(F:FnOk X.prog X.w X.K X.mg X.base CX k f fd ps sp)(hr:Room k X.A)(hb:Binds X.K fd ps ds)(hd:Vals dvs ds)(hx:jdl CX X E)(ha:PA X (e::es) t)
  (hst:starEach (e::es) X.env=(false,eval e X.env)::starEach es X.env:=by rfl) (hpl:(backTo pos (starEach es X.env)).any (·.1)=false:=by rfl)
  (ht:eval (.Call (.Attribute o m apos) (e::es) [] pos) X.env=(do
   let ov <-eval o X.env
   standAt apos.atName
   let(f,first) <-holding [ov] (getMethod ov m pl)
   callWith pos f first (backTo pos (starEach (e::es) X.env)) (backToKw pos (keywordEach [] X.env))):=by rfl) :
  PE X (.Call (.Attribute o m apos) (e::es) [] pos) (jjk C m sp dvs E ta t):=by
 intro pins s σ H Q I h
 refine PySem.W.methodCall_KW (pl:=pl) (thn (he pins s σ H _ I h) λu s1 ⟨x,H1,I1,rx,a,dx,fs,ex,ea,l,q⟩=>?_) ht
 subst ex
 obtain rfl:u=Value.ref a:=rx
 refine jmq I1 ea c hm l ?_
 refine W9 (first:=[.ref a]) (h₀:=X.base) I.ok.mod.kin hm.kp (thn (ha pos pins s1 σ H1 _ I1 q) λus s2 ⟨vs,H2,I2,r,q2⟩=>⟨I2.kIn,?_⟩) hst hpl
 exact jko (us:=.ref a::us) (vs:=.ref a::vs) F hr hb hd hx I2 (.cons rfl r) q2
structure Mk(K:PySem.W.Frag)(C f:Addr):Prop where
 makes:PySem.W.makesIn K C=true
 init:PySem.W.findIn K (.ref C) "__init__"=some (some (.ref f))
 fn:PySem.W.isFn K (.ref f)=true
 kp:PySem.W.keepIn K (.ref C)=true
theorem jpe{pins:List (Addr×Obj)}{σ:St}{H:Hp}{s:Shared}{Q:VK}{us:List Value}{vs:List V}(M:Mk X.K C f)(F:FnOk X.prog X.w X.K X.mg X.base CX k f fd ps sp)(hr:Room (k+1) X.A)(hb:Binds X.K fd ps ds)(hd:Vals dvs ds)
  (hx:jdl CX X E) (I:Inv X pins σ H s) (r:Vals vs us)
  (h:∀x dx,H x=none->H dx=none->dx≠x->sp (.ref x::(vs++dvs)) (upd (upd H dx (.own x)) x (.ins C dx [])) (λv H2=>v=.non/\Q (.ref x) H2) E) :
  wpAny (model X.prog X.w) X.A (call (.ref C) us) (EP X pins σ Q) X.xe s:=by
 have hq:=h (s.heap.objs.size+1) s.heap.objs.size (I.hok.fresh (U0 _)) (I.hok.fresh (Ah _)) (Ap (Ij _))
 have I2:=Inv.made (C:=C) I
 have r2:Vals (V.ref (s.heap.objs.size+1)::(vs++dvs)) (Value.ref (s.heap.objs.size+1)::(us++ds)):=.cons rfl (r.append hd)
 have hl:(Value.ref (s.heap.objs.size+1)::us++ds).length=ps.length:=by
  have e:=r2.length
  rw[F.len _ _ _ _ hq]at e
  exact e.symm
 refine wpAny_call (jo8 (f:=f) I.kIn M.makes M.init (Uj.mp M.fn) (Ud (F.run _ X.stack _ _ ⟨Value.ref (s.heap.objs.size+1)::us,[]⟩ (Value.ref (s.heap.objs.size+1)::(us++ds)) _ _ E (hr.make C us [])
  (I2.env0.make C us []) (hb _ (Value.ref (s.heap.objs.size+1)::us) I2.kIn hl) r2 hq) λr s' hq'=>?_))
 cases r with
 |error e=>exact hx pins σ _ _ e s' I2 hq'
 |ok fl =>
  cases fl with
  |ret u =>
   obtain⟨v,H',I3,rv,ev,q3⟩:=I2.after hq'
   subst ev
   exact⟨rv,⟨V.ref (s.heap.objs.size+1),H',I3,rfl,q3⟩⟩
  |next=>exact False.elim hq'
  |brk=>exact False.elim hq'
  |cont=>exact False.elim hq'
theorem pe_make0(M:Mk X.K C f)(F:FnOk X.prog X.w X.K X.mg X.base CX k f fd ps sp)(hr:Room (k+1) X.A)(hg:Gl X x)(hm:X.mg x=some (.ref C))(hb:Binds X.K fd ps ds)(hd:Vals dvs ds)(hx:jdl CX X E)
  (hdb:(x == ("__debug__":Str))=false:=by decide):PE X (.Call (.Name x p) [] [] pos) (jjj C sp dvs E tNil):=by
 intro pins s σ H Q I h
 refine Io (jfs I hg hm ?_ hdb)
 exact PySem.W.callWith_K0 I.kIn M.kp (jpe (us:=[]) M F hr hb hd hx I .nil h)
end
structure FnScope(N P:List Str)(sc:Scope):Prop where
 kind:sc.kind=.function
 co:sc.isCoroutine=false
 gen:sc.isGenerator=false
 nd:N.Nodup
 pre:N.take P.length=P
 par:∀x∈P,sc.names.lookup x=some .local\/sc.names.lookup x=some .cell
 nofree:∀y∈sc.names,y.2≠.free
theorem jia{kindOf:Str->Option NameKind}{x:Str}:∀{binds:List (Str×Value)}{m:Str->Option Value},(∀v,(x,v)∉binds)->bindL kindOf binds m x=m x
 |[],_,_=>rfl
 |(n,v)::r,m,h=>by
  unfold bindL
  rw[jia λw hw=>h w (Ib _ hw)]
  split
  ·have:x≠n:=by rintro rfl;exact h v Ol
   simp[this]
  ·rfl
theorem jh8{kindOf:Str->Option NameKind}{x:Str}:∀{binds:List (Str×Value)}{m:Str->Option Value},(∀v,(x,v)∉binds)->bindC kindOf binds m x=m x
 |[],_,_=>rfl
 |(n,v)::r,m,h=>by
  unfold bindC
  rw[jh8 λw hw=>h w (Ib _ hw)]
  split
  ·rfl
  ·have:x≠n:=by rintro rfl;exact h v Ol
   simp[this]
theorem jh9{kindOf:Str->Option NameKind}{x:Str}{v:Value}:∀{P:List Str}{vs:List Value}{i:Nat}{m:Str->Option Value},P.Nodup->P[i]?=some x->vs[i]?=some v->kindOf x=some .local ->
  bindL kindOf (P.zip vs) m x=some v
 |[],_,_,_,_,h,_,_=>by simp at h
 |_::_,[],_,_,_,_,h,_=>by simp at h
 |p::P,w::vs,0,m,nd,h1,h2,hk=>by
  simp at h1 h2;subst h1;subst h2
  show bindL kindOf ((p,w)::P.zip vs) m p=_
  unfold bindL
  rw[jia λv hv=>(O8.mp nd).1 (Wy hv).1,Ak hk]
  simp
 |p::P,w::vs,i+1,m,nd,h1,h2,hk=>by
  show bindL kindOf ((p,w)::P.zip vs) m x=_
  unfold bindL
  exact jh9 (i:=i) (O8.mp nd).2 (by simpa using h1) (by simpa using h2) hk
theorem jh7{kindOf:Str->Option NameKind}{x:Str}{v:Value}:∀{P:List Str}{vs:List Value}{i:Nat}{m:Str->Option Value},P.Nodup->P[i]?=some x->vs[i]?=some v->kindOf x≠some .local ->
  bindC kindOf (P.zip vs) m x=some v
 |[],_,_,_,_,h,_,_=>by simp at h
 |_::_,[],_,_,_,_,h,_=>by simp at h
 |p::P,w::vs,0,m,nd,h1,h2,hk=>by
  simp at h1 h2;subst h1;subst h2
  show bindC kindOf ((p,w)::P.zip vs) m p=_
  unfold bindC
  rw[jh8 λv hv=>(O8.mp nd).1 (Wy hv).1,Ae hk]
  simp
 |p::P,w::vs,i+1,m,nd,h1,h2,hk=>by
  show bindC kindOf ((p,w)::P.zip vs) m x=_
  unfold bindC
  exact jh7 (i:=i) (O8.mp nd).2 (by simpa using h1) (by simpa using h2) hk
def start(N:List Str)(vs:List V):St:=vs.map some++List.replicate (N.length-vs.length) none
def cxOf(CX:CXT)(P:Program)(w:World)(K:PySem.W.Frag)(mg:Str->Option Value)(base:Heap)(N:List Str)(qual:Str)(scope:Scope)(f:Addr)(cd:Value)(A:Around)(outer:List Env)(s:Shared)(H:Hp)(E:XK):Cx where
 prog:=P
 w:=w
 K:=K
 mg:=mg
 base:=base
 A:=A.deeper (envOfC qual scope s.heap.objs.size f cd)
 N:=N
 s₀:=s
 H₀:=H
 env:=envOfC qual scope s.heap.objs.size f cd
 outer:=outer
 stack:=envOfC qual scope s.heap.objs.size f cd::outer
 ex:=[]
 calm:=true
 fn:=λ_=>true
 pn:=[]
 xe:=λe s'=>wpAny (model P w) (A.deeper (envOfC qual scope s.heap.objs.size f cd)) (leaving (envOfC qual scope s.heap.objs.size f cd) e) (λ_ s''=>CX outer H s E e s'') (λe' s''=>CX outer H s E e' s'') s'
theorem jjr{sc:Scope}{n:Nat}{x:Str}(h:sc.names.lookup x=some .cell):∃c,(cellsFrom n sc.names []).lookup x=some c:=by
 have q:=PySem.W.cellsFrom_some sc.names n [] (.inl h)
 exact U3.mp q
theorem jnu{CX:CXT}{P:Program}{w:World}{K:PySem.W.Frag}{mg:Str->Option Value}{base:Heap}{N ps:List Str}{qual:Str}{scope:Scope}{f:Addr}{cd:Value}{A:Around}{outer:List Env}{s s1:Shared}{H:Hp}{E:XK}{us:List Value}{vs:List V}
  (S:FnScope N ps scope) (hd:A.handled=none) (e0:Env0 P w K mg base A outer s H) (hl:vs.length=ps.length) (r:Vals vs us)
  (x:InCallC s s.heap.objs.size (bindL (envOfC qual scope s.heap.objs.size f cd).kindOf (ps.zip us) λ_=>none) (cellsFrom (s.heap.objs.size+1) scope.names []) (bindC (envOfC qual scope s.heap.objs.size f cd).kindOf (ps.zip us) λ_=>none) s1) :
  Inv (cxOf CX P w K mg base N qual scope f cd A outer s H E) [] (start N vs) H s1:=by
 have hpl:ps.length<=N.length:=by have:=Od List.length S.pre;rw[Om]at this;omega
 obtain⟨h1,tk,rfl,hk⟩:=x.done
 have noA:∀b:Addr,b∉(cxOf CX P w K mg base N qual scope f cd A outer s H E).ex:=λb z=>absurd (show b∈([]:List Addr)from z) (by simp)
 refine⟨⟨e0.mod,S.kind,rfl,rfl,Ah _,λy z c h1 h2=>?_,λy hy=>?_,λy c _ h=>?_,λ_=>hd,Around.frames_deeper e0.frames,.inr ⟨rfl,rfl⟩,λb z=>absurd z (noA b),e0.bs,e0.bsz,λb _ _=>noA b,λb z=>absurd z (noA b),e0.funs,e0.frf⟩,
  rfl,e0.bare,Un.kept hk,⟨_,x.toInCall.ns,λi y v h1 h2 h3=>?_⟩,λy c h=>⟨_,x.cell y c h⟩,e0.hok.fresh (Ah _),λy c h=>?_,λp hp=>absurd (show p∈([]:List (Addr×Obj))from hp) (by simp),e0.hok.kept hk,?_⟩
 ·exact name_of_addr x.apart (Iv h1) (Iv h2)
 ·have hy:scope.names.lookup y=some .cell\/scope.names.lookup y=some .free:=hy
  rcases hy with hy|hy
  ·exact jjr hy
  ·exact absurd rfl (S.nofree _ (Iv hy))
 ·exact Uo (x.above y c (Iv h))
 ·have hi:i<vs.length:=by
   unfold start at h2
   by_cases hi:i<vs.length
   ·exact hi
   ·rw[A7 (by simpa using hi)]at h2
    rw[List.getElem?_replicate]at h2
    split at h2 <;> cases h2
  have ha:vs[i]?=some v:=by
   unfold start at h2
   rw[A1 (by simpa using hi),Ao]at h2
   cases e:vs[i]? with
   |none=>rw[e]at h2;cases h2
   |some a=>rw[e]at h2;cases h2;rfl
  obtain⟨u,hu,rv⟩:=r.get ha
  have hp:ps[i]?=some y:=by
   rw[<-S.pre,List.getElem?_take_of_lt (by omega)];exact h1
  have ndP:ps.Nodup:=by rw[<-S.pre];exact S.nd.sublist (List.take_sublist _ _)
  refine⟨u,rv,?_⟩
  rcases S.par y (A5 hp)with k|k
  ·exact .inl ⟨k,jh9 ndP hp hu k⟩
  ·obtain⟨c,e⟩:=jjr (n:=s.heap.objs.size+1) k
   refine .inr ⟨.inl k,c,e,?_⟩
   have q:=x.cell y c e
   rw[jh7 ndP hp hu (by show scope.names.lookup y≠_;rw[k];decide)]at q
   exact q
 ·exact e0.hok.fresh (Uo (x.above y c (Iv h)))
 ·unfold start
  show _=N.length
  rw[Ax,Ab,List.length_replicate]
  omega
theorem jpv{CX:CXT}{P:Program}{w:World}{K:PySem.W.Frag}{mg:Str->Option Value}{base:Heap}{k:Nat}{f:Addr}{name qual:Str}{params:Arguments}{body:List Stmt}{scope:Scope}{dV kV doc pm cdv ct oc:Value}{an od:Option Addr}
  {osl:Array (Option Value)}{N ps:List Str}{sp:Sp} (lk:K.lookup f=some ⟨oc,od,.func (PySem.W.fnOf name qual params body scope dV kV doc pm an cdv ct),osl⟩) (hcd:PySem.W.codeIn K cdv qual=true) (S:FnScope N ps scope)
  (len:∀vs H Q E,sp vs H Q E->vs.length=ps.length)
  (hbody:∀(A:Around)(outer:List Env)(s:Shared)(H:Hp)(vs:List V)(Q:VK)(E:XK),Room k (A.deeper (envOfC qual scope s.heap.objs.size f cdv))->sp vs H Q E ->
   ∃t,PSs (cxOf CX P w K mg base N qual scope f cdv A outer s H E) body t/\t {nx:=λ_ H'=>Q .non H',rt:=Q} (start N vs) H) :
  FnOk P w K mg base CX (k+1) f (PySem.W.fnOf name qual params body scope dV kV doc pm an cdv ct) ps sp:=by
 refine⟨len,λA outer s H args us vs Q E hr e0 hb r hsp=>?_⟩
 have hl:=len _ _ _ _ hsp
 have KX:K.In s.heap:=e0.mod.kin.keeps λb o e=>(e0.bs b o e).1
 have lim:s.heap.NoLimit:=e0.mod.nolimit.keeps λb o e=>(e0.bs b o e).1
 have hkind:∀y∈ps.zip us,scope.names.lookup y.1=some .local\/(scope.names.lookup y.1=some .cell/\((cellsFrom (s.heap.objs.size+1) scope.names []).lookup y.1).isSome=true):=fun⟨n,v⟩ hy=>by
  rcases S.par n (Wy hy).1 with q|q
  ·exact .inl q
  ·exact .inr ⟨q,PySem.W.cellsFrom_some _ _ _ (.inl q)⟩
 refine codeAny_call_function hr.depth (KX _ _ lk) rfl S.co S.gen rfl (PySem.W.codeRec_of KX hcd) (hb _ _ _ _ ?_)
 refine wpAny_newFunctionEnv_cells S.kind hkind λenv he s1 x=>?_
 subst he
 refine⟨lim.keeps x.toInCall.keep,codeAny_func ?_⟩
 obtain⟨t,ht,hq⟩:=hbody A outer s H vs Q E (hr.deeper _) hsp
 have I:Inv (cxOf CX P w K mg base N qual scope f cdv A outer s H E) [] (start N vs) H s1:=jnu S hr.hd e0 hl r x
 refine Of (ht [] s1 (start N vs) H _ I hq) (λfl s' hs=>?_) λe s' hs=>hs
 have fin:∀{σ':St}{H':Hp}{v:V}{u:Value},Inv (cxOf CX P w K mg base N qual scope f cdv A outer s H E) [] σ' H' s'->RelV v u->Q v H'->CE outer P w H s Q u s' :=
  fun{σ' H' v u} J rv q=>⟨v,H',J.os,J.bare,J.base,J.hok,rv,q⟩
 cases fl with
 |ret u =>
  obtain⟨v,σ',H',J,rv,q⟩:=hs
  exact fin J rv q
 |next =>
  obtain⟨σ',H',J,q⟩:=hs
  exact fin (v:=V.non) (u:=Value.none) J rfl q
 |brk =>
  obtain⟨_,_,_,q⟩:=hs
  exact False.elim q
 |cont =>
  obtain⟨_,_,_,q⟩:=hs
  exact False.elim q
section
variable{X:Cx}{x:Str}{p pos:Pos}{e:Expr}{es:List Expr}{t:TA}{id T:String}{r:List V->Hp->VK->Prop}
def tCB(r:List V->Hp->VK->Prop)(t:TA):TE:=λσ H Q=>t σ H λvs H1=>r vs H1 Q
theorem pe_callB(hc:jcv X (.builtin id) r)(hg:Gl X x)(hm:X.mg x=none)(hv:bootBuiltins x=some (.builtin id))(ha:PA X (e::es) t)(hn:x≠"__name__":=by decide)(hdb:(x == ("__debug__":Str))=false:=by decide)
  (he:starEach (e::es) X.env=(false,eval e X.env)::starEach es X.env:=by rfl) (hpl:(backTo pos (starEach es X.env)).any (·.1)=false:=by rfl):PE X (.Call (.Name x p) (e::es) [] pos) (tCB r t):=by
 intro pins s σ H Q I h
 refine Io (jdc I hg hm hv ?_ hn hdb)
 exact PyProof.Rows.callWith_builtin1 (thn (ha pos pins s σ H _ I h) λus s1 ⟨vs,H1,I1,r1,q1⟩=>hc pins s1 σ H1 vs us Q I1 r1 q1) he hpl
theorem pe_callTy(hc:jcv X (.type T) r)(hg:Gl X x)(hm:X.mg x=none)(hv:bootBuiltins x=some (.type T))(ha:PA X (e::es) t)(hn:x≠"__name__":=by decide)(hdb:(x == ("__debug__":Str))=false:=by decide)
  (he:starEach (e::es) X.env=(false,eval e X.env)::starEach es X.env:=by rfl) (hpl:(backTo pos (starEach es X.env)).any (·.1)=false:=by rfl):PE X (.Call (.Name x p) (e::es) [] pos) (tCB r t):=by
 intro pins s σ H Q I h
 refine Io (jdc I hg hm hv ?_ hn hdb)
 exact Ic (thn (ha pos pins s σ H _ I h) λus s1 ⟨vs,H1,I1,r1,q1⟩=>hc pins s1 σ H1 vs us Q I1 r1 q1) he hpl
end
end L2
namespace HT
open PySem PyProof.Rows
section
variable{prog:Program}{w:World}{A:Around}{E:Value->Shared->Prop}{s:Shared}
theorem cat_tup{t b:Addr}{vs ws:List Value}{Q:Value->Shared->Prop}(ht:IsTup s.heap t vs.toArray)(hb:IsTup s.heap b ws.toArray)(hv:vs≠[])
  (h1:ws=[]->Q (.ref t) s) (h2:ws≠[]->Q (.ref s.heap.objs.size) {s with heap:=s.heap.push {cls:=.type "tuple",data:=.seq (vs++ws).toArray}})
  (hsz:vs.length+ws.length<=sizeLine):wpAny (model prog w) A (binaryOp .Add (.ref t) (.ref b)) Q E s:=by
 obtain⟨⟨cls,dd,data,sl⟩,ho,hc,n,hd⟩:=id ht
 obtain⟨⟨cls2,dd2,data2,sl2⟩,ho2,hc2,n2,hd2⟩:=id hb
 simp only at hc hd hc2 hd2
 subst hc hd hc2 hd2
 have e:vs.toArray++ws.toArray=(vs++ws).toArray:=by simp
 by_cases hw:ws=[]
 ·exact concat_meets ⟨_,ho,rfl⟩ ⟨_,ho2,rfl⟩ noFill_tuple_add seq_tuple_add Wk Wc (U4 _ _)
   (tuple_addW1 t b vs.toArray ws.toArray n n2 dd dd2 sl sl2 (by simpa using hv) (by simp[hw])) ⟨ho,ho2,h1 hw⟩
 ·refine concat_meets ⟨_,ho,rfl⟩ ⟨_,ho2,rfl⟩ noFill_tuple_add seq_tuple_add Wk Wc (U4 _ _)
   (tuple_addW2 t b vs.toArray ws.toArray n n2 dd dd2 sl sl2 (by simpa using hv) (by simpa using hw) (by rw[Al,Al];exact hsz)) ⟨ho,ho2,?_⟩
  rw[e]
  exact h2 hw
def sIx(n d:Nat):Option Int->Nat
 |none=>d
 |some v=>if v<0 then(v+(n:Int)).toNat else min v.toNat n
theorem sIx_none(n d:Nat):sIx n d none=d:=rfl
theorem sIx_nat(n d k:Nat):sIx n d (some (k:Int))=min k n:=by
 show(if(k:Int)<0 then((k:Int)+(n:Int)).toNat else min (k:Int).toNat n)=min k n
 rw[Ae (by omega),Int.toNat_natCast]
theorem jr3(n d:Nat)(hd:d<=n)(o:Option Int):sIx n d o<=n:=by
 cases o with
 |none=>exact hd
 |some v =>
  show(if v<0 then(v+(n:Int)).toNat else min v.toNat n)<=n
  by_cases hv:v<0
  ·rw[Ak hv];omega
  ·rw[Ae hv];exact Nat.min_le_right _ _
theorem jli(v:Int)(n d:Nat):(if v<0 then max (v+(n:Int)) 0 else min v (n:Int))=((sIx n d (some v):Nat):Int):=by
 show(if v<0 then max (v+(n:Int)) 0 else min v (n:Int))=(((if v<0 then(v+(n:Int)).toNat else min v.toNat n):Nat):Int)
 by_cases hv:v<0
 ·simp only[Ak hv];omega
 ·simp only[Ae hv];omega
theorem jmh(lo hi:Option Int)(n:Nat):Builtin.Slice.sliceAdjust lo hi 1 (n:Int)=(((sIx n 0 lo:Nat):Int),((sIx n n hi:Nat):Int)):=by
 have h1:¬((1:Int)<0):=by omega
 unfold Builtin.Slice.sliceAdjust
 simp only[h1,Ov]
 refine Prod.ext ?_ ?_
 ·cases lo with
  |none=>rfl
  |some v=>exact jli v n 0
 ·cases hi with
  |none=>rfl
  |some v=>exact jli v n n
theorem places_gen(i j:Nat):Builtin.Slice.slicePlaces (i:Int) (j:Int) 1=j-i:=by
 unfold Builtin.Slice.slicePlaces
 have h1:(1:Int)>0:=by omega
 simp only[h1,O0,Int.ediv_one]
 split <;> omega
theorem jg9{v:Value}{o:Option Int}{Q:Option Int->Shared->Prop}(p:IsPart v o)(h:Q o s):wpAny (model prog w) A (Builtin.Slice.slicePartIndex v) Q E s:=by
 cases p with
 |none=>exact slicePart_none h
 |int i t=>exact slicePart_int h
theorem jgk{sl:Addr}{vl vu:Value}{lo hi:Option Int}{n:Nat}{Q:Int×Int×Nat->Shared->Prop}(hs:s.heap.IsSliceOf sl vl vu .none)(pl:IsPart vl lo)(pu:IsPart vu hi)
  (h:Q (((sIx n 0 lo:Nat):Int),1,sIx n n hi-sIx n 0 lo) s):wpAny (model prog w) A (Builtin.Slice.sliceApplied (.ref sl) (pure (n:Int))) Q E s:=by
 obtain⟨os,hos,hcs,hds⟩:=id hs
 unfold Builtin.Slice.sliceApplied Builtin.Slice.sliceFields
 refine Aa (Aa (wpAny_field hos hds (x:=vl) rfl (Aa (wpAny_field hos hds (x:=vu) rfl (Aa (wpAny_field hos hds (x:=.none) rfl (Af ?_)))))))
 refine Aa (slicePart_none ?_)
 show wpAny _ _ (if((1:Int) == 0)=true then _ else _) _ _ s
 rw[Ae (by decide)]
 refine Aa (jg9 pl (Aa (jg9 pu (Aa (Af ?_)))))
 show wpAny _ _ (match Builtin.Slice.sliceAdjust lo hi 1 (n:Int)with|(lo,hi)=>pure (lo,(1:Int),Builtin.Slice.slicePlaces lo hi 1)) _ _ s
 rw[jmh lo hi n]
 show wpAny _ _ (pure (((sIx n 0 lo:Nat):Int),(1:Int),Builtin.Slice.slicePlaces ((sIx n 0 lo:Nat):Int) ((sIx n n hi:Nat):Int) 1)) _ _ s
 rw[places_gen]
 exact Af h
theorem pick_gen(xs:Array Value)(i k:Nat):((List.range k).filterMap fun(m:Nat)=>xs[((i:Int)+(m:Int)*1).toNat]?).toArray=((xs.toList.drop i).take k).toArray:=by
 have e:(fun(m:Nat)=>xs[((i:Int)+(m:Int)*1).toNat]?)=λm=>xs[i+m]?:=by
  funext m
  have:((i:Int)+(m:Int)*1).toNat=i+m:=by omega
  rw[this]
 rw[e]
 have:=pick_run xs i k
 rw[List.filterMap_map]at this
 have e2:((λx=>xs[x]?)∘λx=>i+x)=λm=>xs[i+m]?:=rfl
 rw[e2]at this
 rw[this]
theorem getItem_tuple_cut{t sl:Addr}{items:Array Value}{vl vu:Value}{lo hi:Option Int}{Q:Value->Shared->Prop}(ht:IsTup s.heap t items)(hs:s.heap.IsSliceOf sl vl vu .none)(pl:IsPart vl lo)(pu:IsPart vu hi)
  (hw:¬(sIx items.size 0 lo=0/\sIx items.size items.size hi=items.size))
  (h:Q (.ref s.heap.objs.size) {s with heap:=s.heap.push {cls:=.type "tuple",data:=.seq ((items.toList.drop (sIx items.size 0 lo)).take (sIx items.size items.size hi-sIx items.size 0 lo)).toArray}})
  (hsz:items.size<=sizeLine):wpAny (model prog w) A (getItem (.ref t) (.ref sl)) Q E s:=by
 have htake:sizeOk (.seq ((items.toList.drop (sIx items.size 0 lo)).take (sIx items.size items.size hi-sIx items.size 0 lo)).toArray):=by
  show((items.toList.drop (sIx items.size 0 lo)).take (sIx items.size items.size hi-sIx items.size 0 lo)).toArray.size<=sizeLine
  rw[Al,Om,Wq,Array.length_toList]
  omega
 have hj:sIx items.size items.size hi<=items.size:=jr3 _ _ (Ah _) hi
 obtain⟨os,hos,hcs,hds⟩:=id hs
 have hTs:s.TypeIs (.ref sl) "slice":=⟨os,hos,hcs⟩
 unfold getItem
 try with_reducible refine Op ?_
 first|refine Aa (Af ?_)|skip
 refine Aa (wpAny_sequenceKey ht.typeIs (by decide) ?_)
 refine Aa (Uh (name:=Str.ofString "__getitem__") ht.typeIs Ug
  (O1 Ug ht.typeIs entry_tuple_getitem ?_ (args_tuple_getitem _ _)))
 show wpAny _ _ (Builtin.Tuple.tupleItemsOf (.ref t) >>= _) _ _ s
 refine Aa (tupleItemsOf_ ht ?_)
 refine Aa (wpAny_typeOf hTs ?_)
 rw[Ak (by decide)]
 refine Aa (jgk hs pl pu ?_)
 have hno:¬((((sIx items.size 0 lo:Nat):Int) == 0 && (1:Int) == 1 && (sIx items.size items.size hi-sIx items.size 0 lo) == items.size)=true):=by
  intro q
  rw[Ob,Ob]at q
  have q1:((sIx items.size 0 lo:Nat):Int)=0:=eq_of_beq q.1.1
  have q2:sIx items.size items.size hi-sIx items.size 0 lo=items.size:=eq_of_beq q.2
  exact hw ⟨by omega,by omega⟩
 show wpAny _ _ (if(((sIx items.size 0 lo:Nat):Int) == 0 && (1:Int) == 1 && (sIx items.size items.size hi-sIx items.size 0 lo) == items.size)=true then _ else _) _ _ s
 rw[Ae hno,pick_gen]
 first
  |exact Aa (m:=Builtin.Tuple.tupleExact _) (Ik (Af ⟨_,rfl,Af h⟩) htake)
  |exact Aa (m:=Builtin.Tuple.tupleExact _) (Ik (Aa (Af (Af ⟨_,rfl,Af h⟩))) htake)
  |exact Aa (Aa (m:=Builtin.Tuple.tupleExact _) (Ik (Af (Af ⟨_,rfl,Af h⟩)) htake))
  |exact Aa (Aa (m:=Builtin.Tuple.tupleExact _) (Ik (Af ⟨_,rfl,Af h⟩) htake))
end
end HT
namespace L2
open PySem PySem.Spec PyProof.Rows
abbrev TO:=St->Hp->(Option Int->Hp->Prop)->Prop
def PO(X:Cx)(e:Option Expr)(t:TO):Prop :=
 ∀(pins:List (Addr×Obj))(s:Shared)(σ:St)(H:Hp)(Q:Option Int->Hp->Prop),Inv X pins σ H s->t σ H Q ->
  wpAny (model X.prog X.w) X.A (evalPart e X.env) (λu s'=>∃o H',Inv X pins σ H' s'/\IsPart u o/\Q o H') X.xe s
def jfv:TO:=λ_ H Q=>Q none H
def jjn(t:TE):TO:=λσ H Q=>t σ H λx H1=>∃i,x=.int i/\Q (some i) H1
section
variable{X:Cx}{e:Expr}{te:TE}{lo hi:Option Expr}{tl th:TO}{pos p2:Pos}
theorem po_none:PO X none jfv:=by
 intro pins s σ H Q I h
 rw[evalPart_none]
 exact Af ⟨none,H,I,.none,h⟩
theorem po_some(h:PE X e te):PO X (some e) (jjn te):=by
 intro pins s σ H Q I hw
 rw[evalPart_some]
 refine thn (h pins s σ H _ I hw) λu s1 ⟨x,H1,I1,r1,q1⟩=>?_
 obtain⟨i,rfl,q⟩:=q1
 obtain⟨t,rfl⟩:=r1
 exact⟨some i,H1,I1,.int i t,q⟩
def SlR(X:Cx)(r:V->Option Int->Option Int->Hp->VK->Prop):Prop :=
 ∀(pins:List (Addr×Obj))(s:Shared)(σ:St)(H:Hp)(x:V)(v vl vu:Value)(lo hi:Option Int)(sl:Addr)(Q:VK),Inv X pins σ H s->RelV x v->s.heap.IsSliceOf sl vl vu .none->IsPart vl lo->IsPart vu hi->r x lo hi H Q ->
  ∃T id,typeLookup (.type T) "__getitem__"=pure (some (.builtin id))/\s.TypeIs v T/\wpAny (model X.prog X.w) X.A (getItem v (.ref sl)) (EP X pins σ Q) X.xe s
def tSl(r:V->Option Int->Option Int->Hp->VK->Prop)(te:TE)(tl th:TO):TE:=λσ H Q=>te σ H λx H1=>tl σ H1 λl H2=>th σ H2 λu H3=>r x l u H3 Q
theorem pe_slice{r:V->Option Int->Option Int->Hp->VK->Prop}(hr:SlR X r)(he:PE X e te)(hl:PO X lo tl)(hu:PO X hi th):PE X (.Subscript e (.Slice lo hi none p2) pos) (tSl r te tl th):=by
 intro pins s σ H Q I h
 refine Subscript_ (thn (he pins s σ H _ I h) λv s1 ⟨x,H1,I1,r1,q1⟩=>?_)
 refine wpAny_Slice (thn (hl pins s1 σ H1 _ I1 q1) λvl s2 ⟨l,H2,I2,pl,q2⟩=>thn (hu pins s2 σ H2 _ I2 q2) λvu s3 ⟨u,H3,I3,pu,q3⟩=>?_)
 rw[evalPart_none]
 refine Af ?_
 have I4:Inv X pins σ H3 {s3 with heap:=s3.heap.push {cls:=.type "slice",data:=.fields #[vl,vu,.none]}}:=I3.kept (t':=s3.toks) λb ob q=>Ad _ q
 obtain⟨T,id,hT,ht,hg⟩:=hr pins {s3 with heap:=s3.heap.push {cls:=.type "slice",data:=.fields #[vl,vu,.none]}} σ H3 x v vl vu l u s3.heap.objs.size Q I4 r1 (Heap.IsSliceOf.new ..) pl pu q3
 show wpAny (model X.prog X.w) X.A (subscriptTail e (.Slice lo hi none p2) v (.ref s3.heap.objs.size)) (EP X pins σ Q) X.xe {s3 with heap:=s3.heap.push {cls:=.type "slice",data:=.fields #[vl,vu,.none]}}
 exact tail_any (ops:=[.ref s3.heap.objs.size,v]) ht hT hg (by with_unfolding_all rfl)
def cutV(xs:List V)(lo hi:Option Int):List V:=(xs.drop (HT.sIx xs.length 0 lo)).take (HT.sIx xs.length xs.length hi-HT.sIx xs.length 0 lo)
theorem jed(xs:List V)(lo hi:Option Int):(cutV xs lo hi).length<=xs.length:=by
 unfold cutV
 rw[Om,Wq]
 omega
def rSlT(K:PySem.W.Frag):V->Option Int->Option Int->Hp->VK->Prop:=λx lo hi H Q=>∃a xs,x=.ref a/\SqT K H a xs /\
 ¬(HT.sIx xs.length 0 lo=0/\HT.sIx xs.length xs.length hi=xs.length)/\∀p,H p=none->Q (.ref p) (upd H p (.tup (cutV xs lo hi)))
theorem sl_tup:SlR X (rSlT X.K):=by
 intro pins s σ H x v vl vu lo hi sl Q I rx hs pl pu h
 obtain⟨a,xs,rfl,hx,hw,q⟩:=h
 cases rx
 obtain⟨its,r,ht,hz⟩:=I.tuple hx
 have hlen:its.toArray.size=xs.length:=by rw[Al];exact r.length.symm
 refine⟨"tuple",_,Ug.lookup,ht.typeIs,?_⟩
 refine HT.getItem_tuple_cut ht hs pl pu (by rw[hlen];exact hw) ?_ (by rw[hlen];exact hz)
 rw[hlen]
 refine⟨.ref s.heap.objs.size,_,I.laid (t':=s.toks) (o:=.tup (cutV xs lo hi)) (λb ob q=>Ad _ q) (Ah _) ?_,rfl,q _ (I.hok.fresh (Ah _))⟩
 exact⟨Ih (jed xs lo hi) hz,_,(r.drop (HT.sIx xs.length 0 lo)).take (HT.sIx xs.length xs.length hi-HT.sIx xs.length 0 lo),IsTup.new _ _⟩
def jsp(K:PySem.W.Frag):R2:=λx y H Q=>∃a b xs ys,x=.ref a/\y=.ref b/\SqT K H a xs/\SqT K H b ys/\xs≠[]/\xs.length+ys.length<=sizeLine /\
 (ys=[]->Q (.ref a) H)/\(ys≠[]->∀p,H p=none->Q (.ref p) (upd H p (.tup (xs++ys))))
theorem Vals.nil_iff{xs:List V}{us:List Value}(r:Vals xs us):us=[]↔xs=[]:=by
 cases r with
 |nil=>simp
 |cons _ _=>simp
theorem jb3:OpR X (binaryOp .Add) (jsp X.K):=by
 intro pins s σ H x y v u Q I rx ry h
 obtain⟨a,b,xs,ys,rfl,rfl,ha,hb,hx,hz,q1,q2⟩:=h
 cases rx
 cases ry
 obtain⟨its,r1,p1,_⟩:=I.tuple ha
 obtain⟨its2,r2,p2,_⟩:=I.tuple hb
 refine HT.cat_tup p1 p2 (λz=>hx (r1.nil_iff.mp z)) (λz=>⟨.ref a,H,I,rfl,q1 (r2.nil_iff.mp z)⟩) (λz=>?_) (by rw[<-r1.length,<-r2.length];exact hz)
 refine⟨.ref s.heap.objs.size,_,I.laid (t':=s.toks) (o:=.tup (xs++ys)) (λb ob q=>Ad _ q) (Ah _) ?_,rfl,q2 (λw=>z (r2.nil_iff.mpr w)) _ (I.hok.fresh (Ah _))⟩
 exact⟨by rw[Ax];exact hz,_,r1.append r2,IsTup.new _ _⟩
end
def ixN(n:Nat)(i:Int):Option Nat:=if 0<=i then(if i<n then some i.toNat else none)else if -(n:Int)<=i then some (i+n).toNat else none
def atI{α:Type}(xs:List α)(i:Int):Option α:=(ixN xs.length i).bind λj=>xs[j]?
theorem jlu{n:Nat}{i:Int}{j:Nat}(h:ixN n i=some j):seqIndex? i n=some j/\j<n/\-(n:Int)<=i/\i<n:=by
 unfold ixN at h
 by_cases h0:0<=i
 ·rw[Ak h0]at h
  by_cases h1:i<n
  ·rw[Ak h1]at h
   have e:i.toNat=j:=Av h
   exact⟨by rw[seqIndex_of h0 h1,e],by omega,by omega,h1⟩
  ·rw[Ae h1]at h;cases h
 ·rw[Ae h0]at h
  by_cases h1:-(n:Int)<=i
  ·rw[Ak h1]at h
   have e:(i+n).toNat=j:=Av h
   exact⟨by rw[seqIndex_neg (by omega) h1,e],by omega,h1,by omega⟩
  ·rw[Ae h1]at h;cases h
theorem jhm{α:Type}{xs:List α}{i:Int}{v:α}(h:atI xs i=some v):∃j,seqIndex? i xs.length=some j/\xs[j]?=some v/\j<xs.length/\-(xs.length:Int)<=i/\i<xs.length:=by
 unfold atI at h
 cases e:ixN xs.length i with
 |none=>rw[e]at h;cases h
 |some j =>
  rw[e]at h
  obtain⟨h1,h2,h3,h4⟩:=jlu e
  exact⟨j,h1,h,h2,h3,h4⟩
theorem jdf{α:Type}{xs:List α}{j:Nat}{v:α}(h:xs[j]?=some v):atI xs (j:Int)=some v:=by
 have hj:j<xs.length:=(Aj.mp h).1
 have e:ixN xs.length (j:Int)=some j:=by
  unfold ixN
  rw[Ak (by omega),Ak (by omega)];simp
 unfold atI;rw[e];exact h
theorem jf5{α:Type}(xs:List α)(v:α):atI (xs++[v]) (-1)=some v:=by
 have hl:(xs++[v]).length=xs.length+1:=by simp
 have e:ixN (xs++[v]).length (-1)=some xs.length:=by
  unfold ixN
  rw[hl,Ae (by decide),Ak (by omega)]
  congr 1
  omega
 unfold atI
 rw[e]
 show(xs++[v])[xs.length]?=some v
 simp
def jle(b:Expr):Prop:=∀o i,subscripted b false o i=operate [o,i] (getItem o i)
def IxR(X:Cx)(r:R2):Prop :=
 ∀(value slice:Expr)(pins:List (Addr×Obj))(s:Shared)(σ:St)(H:Hp)(x y:V)(v u:Value)(Q:VK),Inv X pins σ H s->RelV x v->RelV y u->r x y H Q ->
  subscripted slice false v u=operate [v,u] (getItem v u)->wpAny (model X.prog X.w) X.A (subscriptTail value slice v u) (EP X pins σ Q) X.xe s
def MtR(X:Cx)(id:String)(r:V->List V->Hp->VK->Prop):Prop :=
 ∀(pins:List (Addr×Obj))(s:Shared)(σ:St)(H:Hp)(x:V)(xs:List V)(v:Value)(us:List Value)(Q:VK),Inv X pins σ H s->RelV x v->Vals xs us->r x xs H Q ->
  wpAny (model X.prog X.w) X.A (call (.builtin id) (v::us)) (EP X pins σ Q) X.xe s
section
variable{X:Cx}{a b:Expr}{ta tb:TE}{pos:Pos}
theorem IxR.or{r r':R2}(h:IxR X r)(h':IxR X r'):IxR X (λx y H Q=>r x y H Q\/r' x y H Q):=by
 intro value slice pins s σ H x y v u Q I rx ry q hs
 rcases q with q|q
 ·exact h value slice pins s σ H x y v u Q I rx ry q hs
 ·exact h' value slice pins s σ H x y v u Q I rx ry q hs
theorem pe_ix{r:R2}(hr:IxR X r)(ha:PE X a ta)(hb:PE X b tb)(hs:jle b):PE X (.Subscript a b pos) (tOp r ta tb):=by
 intro pins s σ H Q I h
 exact Subscript_ (binT ha hb I h λv u s2 x y H2 I2 rx ry q=>hr a b pins s2 σ H2 x y v u Q I2 rx ry q (hs _ _))
def rIxL(K:PySem.W.Frag):R2:=λx y H Q=>∃p xs i v,x=.ref p/\y=.int i/\SqL K H p xs/\atI xs i=some v/\Q v H
def rIxT(K:PySem.W.Frag):R2:=λx y H Q=>∃p xs i v,x=.ref p/\y=.int i/\SqT K H p xs/\atI xs i=some v/\Q v H
def rIxS:R2:=λx y H Q=>∃z i c,x=.str z/\y=.int i/\z.length<=sizeLine/\atI z.cps.toList i=some c/\Q (.str ⟨#[c]⟩) H
theorem jbg:IxR X (rIxL X.K):=by
 intro value slice pins s σ H x y v u Q I rx ry h hs
 obtain⟨p,xs,i,z,rfl,rfl,hq,he,q⟩:=h
 cases rx
 obtain⟨t,rfl⟩:=ry
 obtain⟨its,r,pl,hz⟩:=I.list hq
 obtain⟨j,h1,h2,h3,h4,h5⟩:=jhm he
 obtain⟨w,ew,rw'⟩:=r.get h2
 have hl:=r.length
 have hn:=jd3
 have fin:EP X pins σ Q w s:=⟨z,H,I,rw',q⟩
 by_cases h0:0<=i
 ·have hj:i.toNat=j:=by
   rw[seqIndex_of h0 h5]at h1
   exact Av h1
  exact item_listR pl.isList h0 (by omega) (by rw[hj];simpa using ew) fin hs
 ·have hj:(i+(its.toArray.size:Int)).toNat=j:=by
   rw[seqIndex_neg (by omega) h4]at h1
   rw[Al,<-hl]
   exact Av h1
  exact subscriptTail_builtinR (x:=w) pl.isList.typeIs slot_list_getitem.lookup
   (wpAny_getItem_list_neg (Q:=λr s'=>r=w/\EP X pins σ Q r s') pl.isList (by omega) (by rw[Al] <;> omega) (by omega) (by rw[hj];simpa using ew) ⟨rfl,fin⟩) hs
theorem jb8:IxR X (rIxT X.K):=by
 intro value slice pins s σ H x y v u Q I rx ry h hs
 obtain⟨p,xs,i,z,rfl,rfl,hq,he,q⟩:=h
 cases rx
 obtain⟨t,rfl⟩:=ry
 obtain⟨its,r,pl,hz⟩:=I.tuple hq
 obtain⟨j,h1,h2,h3,h4,h5⟩:=jhm he
 obtain⟨w,ew,rw'⟩:=r.get h2
 have hl:=r.length
 have hn:=jd3
 have fin:EP X pins σ Q w s:=⟨z,H,I,rw',q⟩
 exact subscriptTail_builtinR (x:=w) pl.typeIs slot_tuple_getitem.lookup
  (getItem_tuple (j:=j) (Q:=λr s'=>r=w/\EP X pins σ Q r s') pl (by omega) (by omega) (by rw[Al,<-hl];exact h1) (by simpa using ew) ⟨rfl,fin⟩) hs
theorem ix_str:IxR X rIxS:=by
 intro value slice pins s σ H x y v u Q I rx ry h hs
 obtain⟨z,i,c,rfl,rfl,hz,he,q⟩:=h
 obtain⟨t,rfl⟩:=rx
 obtain⟨t',rfl⟩:=ry
 obtain⟨j,h1,h2,h3,h4,h5⟩:=jhm he
 have hl:z.cps.toList.length=z.length:=by simp[Str.length]
 rw[hl]at h1 h4 h5
 have hn:=jd3
 exact tail_any (typeIs_str s z t) slot_str_getitem.lookup (getItem_str (c:=c) (by
  have e1:decide (i < -(2^63:Int))=false:=Ii (by omega)
  have e2:decide (i ≥ 2^63)=false:=Ii (by omega)
  rw[e1,e2,Bool.or_false]) (by rw[h1];simpa using h2) ⟨.str ⟨#[c]⟩,H,I.tok _,⟨_,rfl⟩,q⟩) hs
theorem jm0(its:List Value)(n j:Nat)(u:Value):Obj.mapSeq (·.setIfInBounds j u) {cls:=.type "list",data:=.seq its.toArray n}={cls:=.type "list",data:=.seq (its.set j u).toArray n}:=by
 simp[Obj.mapSeq]
theorem Inv.lst{pins:List (Addr×Obj)}{σ:St}{H:Hp}{s:Shared}{p:Addr}{xs:List V}(I:Inv X pins σ H s)(h:H p=some (.lst xs)) :
  ∃(its:List Value)(n:Nat),Vals xs its/\s.heap.get? p=some {cls:=.type "list",data:=.seq its.toArray n}/\xs.length<=sizeLine:=by
 obtain⟨z,its,n,r,e⟩:=I.hok p _ h
 exact⟨its,n,r,e,z⟩
theorem Inv.lstUpd{pins:List (Addr×Obj)}{σ:St}{H:Hp}{s:Shared}{p:Addr}{xs ys:List V}{its its':List Value}{n n':Nat}{f:Obj->Obj}(I:Inv X pins σ H s)(h:H p=some (.lst xs))
  (ho:s.heap.get? p=some {cls:=.type "list",data:=.seq its.toArray n}) (hf:f {cls:=.type "list",data:=.seq its.toArray n}={cls:=.type "list",data:=.seq its'.toArray n'}) (r:Vals ys its') (hz:ys.length<=sizeLine) (t:Nat) :
  Inv X pins σ (upd H p (.lst ys)) {s with heap:=s.heap.update p f,toks:=t}:=by
 have e:(s.heap.update p f).get? p=some {cls:=.type "list",data:=.seq its'.toArray n'}:=by
  rw[Ie f ho (by rw[hf] <;> rfl),hf]
 refine I.write (x:=p) (e:=p) (by rw[h];trivial) (.inl rfl) (λb u hb q=>(Ir _ _ (O6 hb)).trans q) ⟨_,e⟩ ?_
 exact⟨hz,its',n',r,e⟩
def jsq:V->V->V->Hp->(Hp->Prop)->Prop:=λo i v H Q=>∃p xs k j,o=.ref p/\i=.int k/\H p=some (.lst xs)/\ixN xs.length k=some j/\Q (upd H p (.lst (xs.set j v)))
theorem jpg:PSet X jsq:=by
 intro pins s σ H o i v ov iv u Q I ro ri rv h
 obtain⟨p,xs,k,j,rfl,rfl,hp,hj,q⟩:=h
 cases ro
 obtain⟨t,rfl⟩:=ri
 obtain⟨its,n,r,ho,hz⟩:=I.lst hp
 obtain⟨h1,h2,h3,h4⟩:=jlu hj
 have hl:=r.length
 have hn:=jd3
 have I':Inv X pins σ (upd H p (.lst (xs.set j v))) {s with heap:=s.heap.update p (Obj.mapSeq (·.setIfInBounds j u))} :=
  I.lstUpd hp ho (jm0 its n j u) (r.set rv j) (by rw[U1];exact hz) s.toks
 by_cases h0:0<=k
 ·have hk:k.toNat=j:=by
   rw[seqIndex_of h0 h4]at h1
   exact Av h1
  exact PySem.W.ki_setAt ho h0 (by omega) (by rw[Al,<-hl];exact h4) (by rw[hk];exact⟨_,I',q⟩)
 ·have hk:(k+(its.toArray.size:Int)).toNat=j:=by
   rw[seqIndex_neg (by omega) h3]at h1
   rw[Al,<-hl]
   exact Av h1
  exact PySem.W.ki_setBack ho (by omega) (by rw[Al,<-hl];exact h3) (by omega) (by rw[hk];exact⟨_,I',q⟩)
theorem jks(lo hi:Option Int)(n:Nat):(sliceBounds lo hi none n).1=((HT.sIx n 0 lo:Nat):Int)/\(sliceBounds lo hi none n).2.1=((HT.sIx n n hi:Nat):Int)/\(sliceBounds lo hi none n).2.2=1:=by
 refine⟨?_,?_,rfl⟩
 ·cases lo with
  |none=>simp[sliceBounds,HT.sIx]
  |some i =>
   simp only[sliceBounds,HT.sIx,Option.getD_none,show(1:Int)>0 by decide,O0]
   by_cases h:i<0
   ·simp only[h,O0] <;> omega
   ·simp only[h,Ov] <;> omega
 ·cases hi with
  |none=>simp[sliceBounds,HT.sIx]
  |some i =>
   simp only[sliceBounds,HT.sIx,Option.getD_none,show(1:Int)>0 by decide,O0]
   by_cases h:i<0
   ·simp only[h,O0] <;> omega
   ·simp only[h,Ov] <;> omega
theorem ji3(its:List Value)(lo hi:Option Int):slicePick its.toArray lo hi none=((its.drop (HT.sIx its.length 0 lo)).take (HT.sIx its.length its.length hi-HT.sIx its.length 0 lo)).toArray:=by
 obtain⟨h1,h2,h3⟩:=jks lo hi its.toArray.size
 unfold slicePick
 rw[h1,h2,h3]
 simp only[sliceRange_one,pick_run,Al] <;> rfl
def rSlL(K:PySem.W.Frag):V->Option Int->Option Int->Hp->VK->Prop:=λx lo hi H Q=>∃a xs,x=.ref a/\SqL K H a xs/\∀p,H p=none->Q (.ref p) (upd H p (.lst (cutV xs lo hi)))
theorem sl_list:SlR X (rSlL X.K):=by
 intro pins s σ H x v vl vu lo hi sl Q I rx hs pl pu h
 obtain⟨a,xs,rfl,hx,q⟩:=h
 cases rx
 obtain⟨its,r,ht,hz⟩:=I.list hx
 have hlen:=r.length
 refine⟨"list",_,slot_list_getitem.lookup,ht.isList.typeIs,?_⟩
 refine wpAny_getItem_list_slice ht.isList hs pl pu .none (by simp) ?_ (by rw[Al] <;> omega)
 rw[ji3,<-hlen]
 refine⟨.ref s.heap.objs.size,_,I.laid (t':=s.toks) (o:=.lst (cutV xs lo hi)) (λb ob q=>Ad _ q) (Ah _) ?_,rfl,q _ (I.hok.fresh (Ah _))⟩
 exact⟨Ih (jed xs lo hi) hz,_,0,(r.drop (HT.sIx xs.length 0 lo)).take (HT.sIx xs.length xs.length hi-HT.sIx xs.length 0 lo),An _ rfl⟩
def jdj:V->Bool
 |.non=>true
 |.bl _=>true
 |.int _=>true
 |.str _=>true
 |_=>false
def eqV:V->V->Bool
 |.non,.non=>true
 |.bl a,.bl b=>a == b
 |.bl a,.int b=>(if a then 1 else 0) == b
 |.int a,.bl b=>a == (if b then 1 else 0)
 |.int a,.int b=>a == b
 |.str a,.str b=>a == b
 |_,_=>false
theorem jrk{A:Around}{s:Shared}{y x:V}{u v:Value}(ry:RelV y u)(rx:RelV x v)(fy:jdj y=true)(fx:jdj x=true):SeqAt.EqAt A s u v (eqV y x):=by
 cases y with
 |non =>
  cases ry
  cases x with
  |non=>cases rx;exact SeqAt.EqAt.same _
  |bl b=>cases rx;exact SeqAt.EqAt.none_bool b
  |int b=>obtain⟨t,rfl⟩:=rx;exact SeqAt.EqAt.none_int b t
  |str b=>obtain⟨t,rfl⟩:=rx;exact SeqAt.EqAt.none_str b t
  |_=>exact absurd (show false=true from fx) A3
 |bl a =>
  cases ry
  cases x with
  |non=>cases rx;exact SeqAt.EqAt.bool_none a
  |bl b=>cases rx;exact SeqAt.EqAt.bool_bool a b
  |int b=>obtain⟨t,rfl⟩:=rx;exact SeqAt.EqAt.bool_int a b t
  |str b=>obtain⟨t,rfl⟩:=rx;exact SeqAt.EqAt.bool_str a b t
  |_=>exact absurd (show false=true from fx) A3
 |int a =>
  obtain⟨t',rfl⟩:=ry
  cases x with
  |non=>cases rx;exact SeqAt.EqAt.int_none a t'
  |bl b=>cases rx;exact SeqAt.EqAt.int_bool a t' b
  |int b=>obtain⟨t,rfl⟩:=rx;exact SeqAt.EqAt.int_int a t' b t
  |str b=>obtain⟨t,rfl⟩:=rx;exact SeqAt.EqAt.int_str a t' b t
  |_=>exact absurd (show false=true from fx) A3
 |str a =>
  obtain⟨t',rfl⟩:=ry
  cases x with
  |non=>cases rx;exact SeqAt.EqAt.str_none a t'
  |bl b=>cases rx;exact SeqAt.EqAt.str_bool a t' b
  |int b=>obtain⟨t,rfl⟩:=rx;exact SeqAt.EqAt.str_int a t' b t
  |str b=>obtain⟨t,rfl⟩:=rx;exact SeqAt.EqAt.str_str a t' b t
  |_=>exact absurd (show false=true from fx) A3
 |_=>exact absurd (show false=true from fy) A3
def eqU(x:V)(u:Value):Bool:=match u with
 |.none=>eqV .non x
 |.bool b=>eqV (.bl b) x
 |.int i _=>eqV (.int i) x
 |.str z _=>eqV (.str z) x
 |_=>false
theorem jnq{x y:V}{u:Value}(r:RelV y u)(f:jdj y=true):eqU x u=eqV y x:=by
 cases y with
 |non=>cases r;rfl
 |bl b=>cases r;rfl
 |int i=>obtain⟨t,rfl⟩:=r;rfl
 |str z=>obtain⟨t,rfl⟩:=r;rfl
 |_=>exact absurd (show false=true from f) A3
theorem jhl{x:V}:∀{xs:List V}{us:List Value},Vals xs us->xs.all jdj=true->us.any (eqU x)=xs.any λy=>eqV y x
 |_,_,.nil,_=>rfl
 |y::xs,u::us,.cons r t,f=>by
  rw[List.all_cons,Ob]at f
  rw[List.any_cons,List.any_cons,jnq r f.1,jhl t f.2]
theorem jgd{A:Around}{s:Shared}{x:V}{v:Value}(rx:RelV x v)(fx:jdj x=true):∀{xs:List V}{us:List Value},Vals xs us->xs.all jdj=true->∀u∈us,SeqAt.EqAt A s u v (eqU x u)
 |_,_,.nil,_=>λu hu=>by cases hu
 |y::xs,u::us,.cons r t,f=>λu' hu=>by
  rw[List.all_cons,Ob]at f
  rcases Aw.mp hu with rfl|hu
  ·rw[jnq r f.1];exact jrk r rx f.1 fx
  ·exact jgd rx fx t f.2 u' hu
def inV(x:V)(xs:List V):Bool:=xs.any λy=>eqV y x
def rIn(K:PySem.W.Frag)(neg:Bool):R2:=λx y H Q=>∃p xs,y=.ref p/\(SqL K H p xs\/SqT K H p xs)/\jdj x=true/\xs.all jdj=true/\Q (.bl (if neg then !inV x xs else inV x xs)) H
theorem op_in_seq:OpR X (compareOp .In) (rIn X.K false):=by
 intro pins s σ H x y v u Q I rx ry h
 obtain⟨p,xs,rfl,hq,fx,fs,q⟩:=h
 cases ry
 rcases hq with hq|hq
 ·obtain⟨its,r,pl,hz⟩:=I.list hq
  refine SeqAt.in_listAt (eqU x) pl.isList (λw hw=>jgd rx fx r fs w (by simpa using hw)) ⟨.bl _,H,I,rfl,?_⟩
  rw[show its.toArray.any (eqU x)=its.any (eqU x)by simp,jhl r fs]
  exact q
 ·obtain⟨its,r,pl,hz⟩:=I.tuple hq
  refine SeqAt.in_tupleAt (eqU x) pl (λw hw=>jgd rx fx r fs w (by simpa using hw)) ⟨.bl _,H,I,rfl,?_⟩
  rw[show its.toArray.any (eqU x)=its.any (eqU x)by simp,jhl r fs]
  exact q
theorem zh:jcv X (.builtin "len") (λxs H Q=>∃p ys,xs=[.ref p]/\(SqL X.K H p ys\/SqT X.K H p ys)/\Q (.int ys.length) H):=by
 intro pins s σ H xs us Q I r h
 obtain⟨p,ys,rfl,hq,q⟩:=h
 obtain⟨u,rfl,rx⟩:=jc9 r
 cases rx
 have hn:=jd3
 rcases hq with hq|hq
 ·obtain⟨its,r',pl,hz⟩:=I.list hq
  have hlen:=r'.length
  exact Calls.call_len_list pl.isList (by simp only[Al] <;> omega) ⟨.int ys.length,H,I.tok _,⟨s.toks+1,by rw[Al,hlen]⟩,q⟩
 ·obtain⟨its,r',pl,hz⟩:=I.tuple hq
  have hlen:=r'.length
  exact len_tuple pl (by simp only[Al] <;> omega) ⟨.int ys.length,H,I.tok _,⟨s.toks+1,by rw[Al,hlen]⟩,q⟩
theorem call_len_str:jcv X (.builtin "len") (λxs H Q=>∃z,xs=[.str z]/\z.length<=sizeLine/\Q (.int z.length) H):=by
 intro pins s σ H xs us Q I r h
 obtain⟨z,rfl,hz,q⟩:=h
 obtain⟨u,rfl,t,rfl⟩:=jc9 r
 have hn:=jd3
 exact len_str (by omega) ⟨.int z.length,H,I.tok _,⟨_,rfl⟩,q⟩
theorem ja1:jcv X (.type "list") (λxs H Q=>∃p ys,xs=[.ref p]/\(SqL X.K H p ys\/SqT X.K H p ys)/\∀l,H l=none->Q (.ref l) (upd H l (.lst ys))):=by
 intro pins s σ H xs us Q I r h
 obtain⟨p,ys,rfl,hq,q⟩:=h
 obtain⟨u,rfl,rx⟩:=jc9 r
 cases rx
 have fin:∀(its:List Value),Vals ys its->ys.length<=sizeLine->∀(h':Heap)(c':Nat),(∀b o',s.heap.get? b=some o'->h'.get? b=some o') ->
   h'.get? s.heap.objs.size=some {cls:=.type "list",dict:=none,data:=.seq its.toArray c',slots:=#[]}->EP X pins σ Q (.ref s.heap.objs.size) {s with heap:=h'}:=λits r' hz h' c' kp e =>
  ⟨.ref s.heap.objs.size,_,I.laid (t':=s.toks) kp (Ah _) (show ObjOk X.prog X.w _ h' _ (.lst ys)from⟨hz,its,c',r',e⟩),rfl,q _ (I.hok.fresh (Ah _))⟩
 rcases hq with hq|hq
 ·obtain⟨its,r',pl,hz⟩:=I.list hq
  have hlen:=r'.length
  obtain⟨o,ho,hc,n,hd⟩:=pl.isList
  exact call_list_seq p (.inl rfl) ho hc hd (λh' c' kp e=>fin its r' hz h' c' kp e) (by simp only[Al] <;> omega)
 ·obtain⟨its,r',pl,hz⟩:=I.tuple hq
  have hlen:=r'.length
  obtain⟨o,ho,hc,n,hd⟩:=pl
  exact call_list_seq p (.inr rfl) ho hc hd (λh' c' kp e=>fin its r' hz h' c' kp e) (by simp only[Al] <;> omega)
theorem jav:jcv X (.type "tuple") (λxs H Q=>∃p ys,xs=[.ref p]/\((SqL X.K H p ys/\∀l,H l=none->Q (.ref l) (upd H l (.tup ys)))\/(SqT X.K H p ys/\Q (.ref p) H))):=by
 intro pins s σ H xs us Q I r h
 obtain⟨p,ys,rfl,h⟩:=h
 obtain⟨u,rfl,rx⟩:=jc9 r
 cases rx
 rcases h with⟨hq,q⟩|⟨hq,q⟩
 ·obtain⟨its,r',pl,hz⟩:=I.list hq
  have hlen:=r'.length
  refine call_tuple_list pl.isList (λh' kp=>?_) (by simp only[Al] <;> omega)
  have I1:Inv X pins σ H {s with heap:=h'}:=I.kept (t':=s.toks) kp
  have I2:Inv X pins σ (upd H h'.objs.size (.tup ys)) {s with heap:=h'.push {cls:=.type "tuple",data:=.seq its.toArray}} :=
   I1.laid (t':=s.toks) (λb o e=>Ad _ e) (Ah _) (show ObjOk X.prog X.w _ _ _ (.tup ys)from⟨hz,its,r',IsTup.new _ _⟩)
  exact⟨.ref h'.objs.size,_,I2,rfl,q _ (I1.hok.fresh (Ah _))⟩
 ·obtain⟨its,r',pl,hz⟩:=I.tuple hq
  exact call_tuple_same pl ⟨.ref p,H,I,rfl,q⟩
def tyV(K:PySem.W.Frag)(T:String)(x:V)(H:Hp):Prop:=match x with
 |.str _=>T="str"
 |.int _=>T="int"
 |.ref p=>(T="list"/\∃xs,SqL K H p xs)\/(T="tuple"/\∃o,K.lookup p=some o/\o.cls=.type "tuple"/\o.dict=none) \/
   (T="dict"/\((∃kvs,H p=some (.dK kvs))\/∃kvs,H p=some (.dT kvs)))\/(T="set"/\∃S n,H p=some (.set S n))
 |_=>False
theorem jol{pins:List (Addr×Obj)}{σ:St}{H:Hp}{s:Shared}{T:String}{x:V}{v:Value}(I:Inv X pins σ H s)(r:RelV x v)(ty:tyV X.K T x H) :
  s.TypeIs v T/\∀a,v=.ref a->∃ob,s.heap.get? a=some ob/\ob.dict=none:=by
 cases x with
 |str z =>
  obtain⟨t,rfl⟩:=r
  cases(show T="str"from ty)
  exact⟨typeIs_str s z t,λ_ e=>nomatch e⟩
 |int i =>
  obtain⟨t,rfl⟩:=r
  cases(show T="int"from ty)
  exact⟨typeIs_int s i t,λ_ e=>nomatch e⟩
 |ref p =>
  cases r
  rcases ty with⟨rfl,xs,hq⟩|⟨rfl,o,hk,hc,hd⟩|⟨rfl,hk⟩|⟨rfl,S,n,hk⟩
  ·obtain⟨its,_,pl,_⟩:=I.list hq
   refine⟨pl.isList.typeIs,λa e=>?_⟩
   cases e
   obtain⟨o,n,e,c,hd,_⟩:=pl
   exact⟨o,e,hd⟩
  ·refine⟨⟨o,I.kIn p o hk,hc⟩,λa e=>?_⟩
   cases e
   exact⟨o,I.kIn _ o hk,hd⟩
  ·have z:∃o,s.heap.get? p=some o/\o.ExactDict:=by
    rcases hk with⟨kvs,hk⟩|⟨kvs,hk⟩
    ·obtain⟨_,_,_,_,o,_,_,e,ex,_⟩:=I.hok p _ hk
     exact⟨o,e,ex⟩
    ·obtain⟨_,_,_,_,o,_,_,e,ex,_⟩:=I.hok p _ hk
     exact⟨o,e,ex⟩
   obtain⟨o,e,ex⟩:=z
   refine⟨⟨o,e,ex.1⟩,λa e2=>?_⟩
   cases e2
   exact⟨o,e,ex.2.1⟩
  ·obtain⟨o,_,_,_,e,ex,_⟩:=I.hok p _ hk
   refine⟨⟨o,e,ex.1⟩,λa e2=>?_⟩
   cases e2
   exact⟨o,e,ex.2.1⟩
 |_=>exact False.elim ty
def tBM0(K:PySem.W.Frag)(T:String)(r:V->List V->Hp->VK->Prop)(to:TE):TE:=λσ H Q=>to σ H λx H1=>tyV K T x H1/\r x [] H1 Q
def tBM(K:PySem.W.Frag)(T:String)(r:V->List V->Hp->VK->Prop)(to:TE)(t:TA):TE:=λσ H Q=>to σ H λx H1=>tyV K T x H1/\t σ H1 λxs H2=>r x xs H2 Q
variable{o e:Expr}{es:List Expr}{to:TE}{t:TA}{name:Str}{apos cpos:Pos}{T id:String}{r:V->List V->Hp->VK->Prop}
theorem pe_bm0(pa:PlainAttrs T)(slot:Slot T name id)(hty:typeOf (.builtin id)=pure (.type "method_descriptor"))(hm:MtR X id r)(ho:PE X o to)
  (hbase:attributeBase o name X.env (eval o X.env)=eval o X.env:=by rfl) (hline:(apos.endLine == cpos.line)=true:=by rfl):PE X (.Call (.Attribute o name apos) [] [] cpos) (tBM0 X.K T r to):=by
 intro pins s σ H Q I h
 refine wpAny_Call_method0_late hbase hline (thn (ho pins s σ H _ I h) λv s1 ⟨x,H1,I1,r1,ty,q1⟩=>?_)
 obtain⟨h1,h2⟩:=jol I1 r1 ty
 exact⟨T,id,pa,slot,hty,h1,h2,Wl rfl (PySem.evalArgs_none (hm pins s1 σ H1 x [] v [] Q I1 r1 .nil q1))⟩
theorem jce(pa:PlainAttrs T)(slot:Slot T name id)(hty:typeOf (.builtin id)=pure (.type "method_descriptor"))(hm:MtR X id r)(ho:PE X o to)(ha:PA X (e::es) t)
  (hbase:attributeBase o name X.env (eval o X.env)=eval o X.env:=by rfl)
  (hfew:((backTo cpos (starEach (e::es) X.env)).all (λx=>!x.1) && (backToKw cpos (keywordEach [] X.env)).all (λx=>x.1.isSome)
   && decide ((e::es).length+([]:List Keyword).length+(if([]:List Keyword).isEmpty then 0 else 1)<30))=true:=by rfl)
  (hline:(apos.endLine == cpos.line)=true:=by rfl) (hs:starEach (e::es) X.env=(false,eval e X.env)::starEach es X.env:=by rfl) (hplain:(backTo cpos (starEach es X.env)).any (·.1)=false:=by rfl) :
  PE X (.Call (.Attribute o name apos) (e::es) [] cpos) (tBM X.K T r to t):=by
 intro pins s σ H Q I h
 refine wpAny_Call_method_late hbase hfew hline rfl (thn (ho pins s σ H _ I h) λv s1 ⟨x,H1,I1,r1,ty,q1⟩=>?_)
 obtain⟨h1,h2⟩:=jol I1 r1 ty
 refine⟨T,id,pa,slot,hty,h1,h2,?_⟩
 have hA:=ha cpos pins s1 σ H1 _ I1 q1
 rw[hs]at hA⊢
 refine Wl (by show(false || (backTo cpos (starEach es X.env)).any (·.1))=false;rw[hplain] <;> rfl) (Calls.evalArgs_plain ?_)
 exact thn hA λus s2 ⟨vs,H2,I2,r2,q2⟩=>hm pins s2 σ H2 x vs v us Q I2 r1 r2 q2
end
def MtM(X:Cx)(id:String)(r:V->List V->Hp->VK->Prop):Prop :=
 ∀(pins:List (Addr×Obj))(s:Shared)(σ:St)(H:Hp)(x:V)(xs:List V)(v:Value)(us:List Value)(Q:VK),Inv X pins σ H s->RelV x v->Vals xs us->r x xs H Q ->
  wpAny (model X.prog X.w) X.A (call (.builtin id) (v::us)) (EP X pins σ Q) X.xe s
theorem Vals.one{x:V}{us:List Value}(h:Vals [x] us):∃u,us=[u]/\RelV x u:=jc9 h
theorem Vals.zero:∀{us:List Value},Vals [] us->us=[]
 |_,.nil=>rfl
theorem Vals.dropLast{xs:List V}{us:List Value}(h:Vals xs us):Vals xs.dropLast us.dropLast:=by
 induction h with
 |nil=>exact .nil
 |cons r t ih =>
  cases t with
  |nil=>exact .nil
  |cons q t'=>exact .cons r ih
theorem Vals.eraseIdx:∀{xs:List V}{us:List Value}(i:Nat),Vals xs us->Vals (xs.eraseIdx i) (us.eraseIdx i)
 |_,_,_,.nil=>.nil
 |_,_,0,.cons _ t=>t
 |_,_,i+1,.cons r t=>.cons r (Vals.eraseIdx i t)
theorem Vals.rep{xs:List V}{us:List Value}(h:Vals xs us):∀k:Nat,Vals (List.replicate k xs).flatten (List.replicate k us).flatten
 |0=>.nil
 |k+1=>by
  rw[List.replicate_succ,List.replicate_succ,List.flatten_cons,List.flatten_cons]
  exact Vals.append h (Vals.rep h k)
theorem jmp{α:Type}(l:List α):l.eraseIdx (l.length-1)=l.dropLast:=by
 induction l with
 |nil=>rfl
 |cons a r ih =>
  cases r with
  |nil=>rfl
  |cons b r =>
   have e:(a::b::r).length-1=((b::r).length-1)+1:=by
    have h1:(a::b::r).length=r.length+2:=rfl
    have h2:(b::r).length=r.length+1:=rfl
    omega
   rw[e,List.eraseIdx_cons_succ,ih]
   all_goals rfl
theorem jif{α:Type}:∀(l:List α)(i:Nat),(l.eraseIdx i).length<=l.length
 |[],_=>Ah _
 |_::_,0=>U0 _
 |_::r,i+1=>Nat.succ_le_succ (jif r i)
theorem jid(its:List Value):∀(k:Nat)(acc:List Value),
  List.foldl (λx1 x2=>x1++x2) acc.toArray (List.replicate k its.toArray)=(acc++(List.replicate k its).flatten).toArray
 |0,acc=>by simp
 |k+1,acc=>by
  have e:acc.toArray++its.toArray=(acc++its).toArray:=by simp
  have e2:(acc++its)++(List.replicate k its).flatten=acc++(List.replicate (k+1) its).flatten:=by
   rw[List.replicate_succ,List.flatten_cons,Ix]
  rw[<-e2,<-jid its k (acc++its),<-e,List.replicate_succ,List.foldl_cons]
section
variable{X:Cx}{pins:List (Addr×Obj)}{σ:St}{H:Hp}{s:Shared}{l b:Addr}{xs ys zs:List V}
theorem Inv.lset{its its':List Value}{n:Nat}{f:Array Value->Array Value}{t':Nat}(I:Inv X pins σ H s)(hH:H l=some (.lst xs))
  (e:s.heap.get? l=some {cls:=.type "list",data:=.seq its.toArray n}) (hf:f its.toArray=its'.toArray) (hv:Vals ys its') (hz:ys.length<=sizeLine) :
  Inv X pins σ (upd H l (.lst ys)) {s with heap:=s.heap.update l (Obj.mapSeq f),toks:=t'}:=by
 have q:=PySem.IsL.update e f
 rw[hf]at q
 refine I.write (x:=l) (e:=l) (by rw[hH];exact trivial) (.inl rfl) (λb' u hb hu=>(Ir s.heap (Obj.mapSeq f) (O6 hb)).trans hu) ⟨_,q⟩ ?_
 exact⟨hz,its',_,hv,q⟩
theorem Inv.lnew{its:List Value}{t':Nat}(I:Inv X pins σ H s)(hv:Vals ys its)(hz:ys.length<=sizeLine) :
  Inv X pins σ (upd H s.heap.objs.size (.lst ys)) {s with heap:=s.heap.push {cls:=.type "list",data:=.seq its.toArray},toks:=t'} :=
 I.laid (λ_ _ q=>Ad _ q) (Ah _) ⟨hz,its,0,hv,An _ rfl⟩
theorem Inv.fresh(I:Inv X pins σ H s):H s.heap.objs.size=none:=I.hok.fresh (Ah _)
theorem Inv.lstM(I:Inv X pins σ H s)(hH:H l=some (.lst xs)):xs.length<=sizeLine/\∃(its:List Value)(n:Nat),Vals xs its/\xs.length=its.length/\s.heap.get? l=some {cls:=.type "list",data:=.seq its.toArray n}:=by
 obtain⟨z,its,n,r,e⟩:=I.hok l _ hH
 exact⟨z,its,n,r,r.length,e⟩
theorem jj5{n:Nat}(h:n<=sizeLine):Builtin.List.listTooLong n=false:=by
 unfold Builtin.List.listTooLong
 exact Ii (by omega)
end
section
variable{X:Cx}
def jqw:V->List V->Hp->VK->Prop:=λx vs H Q=>∃l xs y,x=.ref l/\vs=[y]/\H l=some (.lst xs)/\xs.length<sizeLine/\Q .non (upd H l (.lst (xs++[y])))
theorem ja2:MtM X "list.append" jqw:=by
 intro pins s σ H x vs v us Q I rx rv h
 obtain⟨l,xs,y,rfl,rfl,hH,hz,q⟩:=h
 cases rx
 obtain⟨u,rfl,ru⟩:=rv.one
 obtain⟨z,its,n,r,hl,e⟩:=I.lstM hH
 refine Wa F.slot_list_append ⟨_,e,rfl⟩ F.entry_list_append (F.args_list_append_2 _ _) (PySem.list_append l its.toArray n u (by rw[Al];omega)) ⟨e,?_⟩
 refine⟨.non,_,I.lset (its':=its++[u]) hH e (by simp) (r.append (.cons ru .nil)) ?_,rfl,q⟩
 rw[Ax,List.length_singleton]
 omega
def jqx:V->List V->Hp->VK->Prop:=λx vs H Q=>∃l b xs zs,x=.ref l/\vs=[.ref b]/\H l=some (.lst xs)/\H b=some (.lst zs)/\xs.length+zs.length<=sizeLine/\Q .non (upd H l (.lst (xs++zs)))
theorem mt_extend:MtM X "list.extend" jqx:=by
 intro pins s σ H x vs v us Q I rx rv h
 obtain⟨l,b,xs,zs,rfl,rfl,hH,hB,hz,q⟩:=h
 cases rx
 obtain⟨u,rfl,ru⟩:=rv.one
 cases ru
 obtain⟨z,its,n,r,hl,e⟩:=I.lstM hH
 obtain⟨z2,its2,n2,r2,hl2,e2⟩:=I.lstM hB
 have hsz:its.toArray.size+its2.toArray.size<=sizeLine:=by rw[Al,Al];omega
 have hlong:¬(!its.toArray.isEmpty && Builtin.List.listTooLong (its.toArray.size+its2.toArray.size))=true:=by
  rw[jj5 hsz,Bool.and_false]
  exact A3
 refine Wa F.slot_list_extend ⟨_,e,rfl⟩ F.entry_list_extend (F.args_list_extend_2 _ _)
  (AutoSeq1.list_extend_list_list_0 l its.toArray n b its2.toArray n2 hlong (by rw[Al];omega) (by omega)) ⟨e,e2,?_⟩
 refine⟨.non,_,I.lset (its':=its++its2) hH e (by simp) (r.append r2) ?_,rfl,q⟩
 rw[Ax]
 omega
def rPop:V->List V->Hp->VK->Prop:=λx vs H Q=>∃l xs y,x=.ref l/\vs=[]/\H l=some (.lst xs)/\xs[xs.length-1]?=some y/\Q y (upd H l (.lst xs.dropLast))
theorem mt_pop:MtM X "list.pop" rPop:=by
 intro pins s σ H x vs v us Q I rx rv h
 obtain⟨l,xs,y,rfl,rfl,hH,hy,q⟩:=h
 cases rx
 have hus:=rv.zero
 subst hus
 obtain⟨z,its,n,r,hl,e⟩:=I.lstM hH
 obtain⟨u,hu,ru⟩:=r.get hy
 have hy':its.toArray[its.toArray.size-1]?=some u:=by
  show its.toArray[its.length-1]?=some u
  rw[<-Ot,<-hl]
  exact hu
 refine Wa F.slot_list_pop ⟨_,e,rfl⟩ F.entry_list_pop (F.args_list_pop_1 _) (MeetsSeq.list_pop_last l its.toArray n u hy' (by rw[Al];omega)) ⟨e,?_⟩
 refine⟨y,_,I.lset (its':=its.dropLast) hH e ?_ r.dropLast ?_,ru,q⟩
 ·show its.toArray.eraseIdxIfInBounds (its.toArray.size-1)=its.dropLast.toArray
  rw[Al,List.eraseIdxIfInBounds_toArray,jmp]
 ·rw[List.length_dropLast]
  omega
def jr2:V->List V->Hp->VK->Prop:=λx vs H Q=>∃l xs i k y,x=.ref l/\vs=[.int i]/\H l=some (.lst xs)/\-(2^63)<=i/\i<2^63/\seqIndex? i xs.length=some k/\xs[k]?=some y/\Q y (upd H l (.lst (xs.eraseIdx k)))
theorem mt_popAt:MtM X "list.pop" jr2:=by
 intro pins s σ H x vs v us Q I rx rv h
 obtain⟨l,xs,i,k,y,rfl,rfl,hH,h1,h2,hk,hy,q⟩:=h
 cases rx
 obtain⟨u,rfl,ru⟩:=rv.one
 obtain⟨t,rfl⟩:=ru
 obtain⟨z,its,n,r,hl,e⟩:=I.lstM hH
 obtain⟨w,hw,rw'⟩:=r.get hy
 refine Wa F.slot_list_pop ⟨_,e,rfl⟩ F.entry_list_pop (F.args_list_pop_2 _ _)
  (MeetsSeq.list_pop_at l its.toArray n i t k w (fitsIndex_both h1 h2) (by rw[Al,<-hl];exact hk) (by rw[<-Ot];exact hw) (by rw[Al];omega)) ⟨e,?_⟩
 refine⟨y,_,I.lset (its':=its.eraseIdx k) hH e ?_ (r.eraseIdx k) ?_,rw',q⟩
 ·show its.toArray.eraseIdxIfInBounds k=(its.eraseIdx k).toArray
  rw[List.eraseIdxIfInBounds_toArray]
 ·have:=jif xs k
  omega
def rCat:R2:=λx y H Q=>∃l b xs zs,x=.ref l/\y=.ref b/\H l=some (.lst xs)/\H b=some (.lst zs)/\xs.length+zs.length<=sizeLine/\∀p,H p=none->Q (.ref p) (upd H p (.lst (xs++zs)))
theorem op_cat:OpR X (binaryOp .Add) rCat:=by
 intro pins s σ H x y v u Q I rx ry h
 obtain⟨l,b,xs,zs,rfl,rfl,hH,hB,hz,q⟩:=h
 cases rx
 cases ry
 obtain⟨z,its,n,r,hl,e⟩:=I.lstM hH
 obtain⟨z2,its2,n2,r2,hl2,e2⟩:=I.lstM hB
 refine PySem.P.add_list e e2 ?_ (by rw[Al,Al];omega)
 have ea:its.toArray++its2.toArray=(its++its2).toArray:=by simp
 rw[ea]
 exact⟨.ref _,_,I.lnew (t':=s.toks) (r.append r2) (by rw[Ax];omega),rfl,q _ I.fresh⟩
def rRep:R2:=λx y H Q=>∃l k xs,x=.ref l/\y=.int k/\H l=some (.lst xs)/\-(2^63)<=k/\k<2^63/\xs.length*k.toNat<=sizeLine /\
 ∀p,H p=none->Q (.ref p) (upd H p (.lst (List.replicate k.toNat xs).flatten))
theorem jqq{α:Type}(xs:List α)(k:Nat):(List.replicate k xs).flatten.length=k*xs.length:=by
 induction k with
 |zero=>simp
 |succ k ih=>rw[List.replicate_succ,List.flatten_cons,Ax,ih,Nat.succ_mul,Nat.add_comm]
theorem op_rep:OpR X (binaryOp .Mult) rRep:=by
 intro pins s σ H x y v u Q I rx ry h
 obtain⟨l,k,xs,rfl,rfl,hH,h1,h2,hz,q⟩:=h
 cases rx
 obtain⟨t,rfl⟩:=ry
 obtain⟨z,its,n,r,hl,e⟩:=I.lstM hH
 have hlen:its.toArray.size*k.toNat<=sizeLine:=by rw[Al,<-hl];exact hz
 have hcap:¬its.toArray.size*k.toNat>(2^63-1) / 8:=by
  have:(sizeLine:Nat)<=(2^63-1) / 8:=by decide
  omega
 have hfit:¬(!Builtin.List.listFitsIndex k)=true:=by
  rw[fitsIndex_both h1 h2]
  exact A3
 have hlong:¬Builtin.List.listTooLong (its.toArray.size*k.toNat)=true:=by
  rw[jj5 hlen]
  exact A3
 have hnew:List.foldl (λx1 x2=>x1++x2) #[] (List.replicate (if its.toArray.isEmpty=true then 0 else k.toNat) its.toArray)=(List.replicate k.toNat its).flatten.toArray:=by
  have f0:∀m:Nat,List.foldl (λx1 x2=>x1++x2) #[] (List.replicate m its.toArray)=(List.replicate m its).flatten.toArray:=λm=>by
   have:=jid its m []
   rw[List.nil_append]at this
   exact this
  rw[f0]
  cases its with
  |nil=>simp
  |cons a r'=>rw[Ae (by simp)]
 refine wpAny_binaryOp_repeat_ref (T:="list") (U:="int") (by decide) ⟨_,e,rfl⟩ (λs'=>typeIs_int s' k t) noFill_list_mul F.fills_int_mul F.slot_int_rmul repeat_list F.slot_int_index.lookup
  (Wa F.slot_int_rmul (typeIs_int s k t) F.entry_int_rmul (F.args_int_rmul_2 _ _) (int___rmul___int_list k t l its.toArray n)
   ⟨e,rfl,⟨_,e,rfl⟩,Wa F.slot_list_mul ⟨_,e,rfl⟩ F.entry_list_mul (F.args_list_mul_2 _ _) (AutoListH.list___mul___list_int_3 l its.toArray n k t hfit hcap hlong) ⟨e,?_⟩⟩)
 rw[hnew]
 exact⟨.ref _,_,I.lnew (t':=s.toks) (r.rep k.toNat) (by rw[jqq,Nat.mul_comm];exact hz),rfl,q _ I.fresh⟩
end
end L2
namespace Att
open PySem PySem.W PySem.Calls PyProof.Rows
theorem jgx{P:Params}{h:Heap}:∀(ns:List Int)(vs:List Value),WellAll P h vs (ns.map WData.int)->IntsAre vs ns:=by
 intro ns
 induction ns with
 |nil =>
  intro vs w
  rw[Up]at w
  cases w
  exact .nil
 |cons n ns ih =>
  intro vs w
  rw[Ay]at w
  cases w with
  |cons a b =>
   cases a
   exact .cons _ _ (ih _ b)
theorem job{l:OpenLaw}{n:Nat}(hn:l.most=some n){P:Params}{h:Heap}{args:List WData}{vals:List Value}
  (hpre:l.row.toRowW.claim.pre args=true) (hwl:WellAll P h vals args) :
  ∃a vs ns,vals=[Value.ref a]/\args=[WData.list (ns.map WData.int)]/\h.get? a=some {cls:=.type "list",data:=.seq vs.toArray}/\IntsAre vs ns/\ns.length<=n:=by
 have hsh:WShape.hasAll [] args [.list .int]=true:=(pre_splitW hpre).1
 have hc:l.pre.holds [] {args:=args}=true:=(pre_splitW hpre).2
 obtain⟨d,r,rfl,h1,h2⟩:=hasAllW_cons hsh
 obtain rfl:=hasAllW_nil h2
 obtain⟨xs,rfl,h3⟩:=hasW_list h1
 obtain⟨ns,rfl⟩:=items_int h3
 have hlen:ns.length<=n:=by
  unfold OpenLaw.pre at hc
  have h4:(WTm.not (.lt (.lit (.int (n:Int))) (.len (.arg 0)))).holds [] {args:=[.list (ns.map .int)]}=true:=by
   have h4:=(holds_andW hc).1
   rw[hn]at h4
   exact h4
  have h5:=condW_of h4 (w_not (w_lt w_lit (w_len_list (w_arg rfl))))
  rw[Ab]at h5
  refine Nat.le_of_not_lt λq=>?_
  have q':(n:Int)<((ns.length:Nat):Int):=by omega
  first
   |(rw[decide_eq_true q']at h5;exact absurd h5 (by decide))
   |(simp at h5;omega)
 cases hwl with
 |cons w1 w2 =>
  cases w2
  cases w1 with
  |list ho hall=>exact⟨_,_,ns,rfl,rfl,ho,jgx ns _ hall,hlen⟩
theorem post_true(l:OpenLaw)(args:List WData):l.row.toRowW.claim.post args (.bool true) args=true :=
 postW_of (r:=l.row.toRowW) (X:=(true == true))
  (show WShape.has [] (.bool true) .bool=true by first|rfl|decide|simp[WShape.has,WShape.arms,WShape.armsAll])
  (show(WTm.eq .res (.lit (.bool true))).value [] {args:=args,res:=some (.bool true),after:=args}=some (.bool (true == true))from w_eq_bool (w_res rfl) w_lit) rfl
theorem attach_call{l:OpenLaw}{n:Nat}{q:Program}{loose:List Str}{XP:(Str->Option Value)->Heap->Prop}{YP:World->Heap->Prop}{d:DefRec}
  (hn:l.most=some n) (hdf:d.params.defaults=[])
  (call:∀(w:World)(s₀ s₁:Shared)(mg mb:Str->Option Value)(fa:Addr)(o:Obj)(pm cd doc:Value)(a:Addr)(vs:List Value)(ns:List Int),
   Ground q loose [] XP w s₀ mg mb s₁.heap->YP w s₁.heap ->
   s₁.heap.get? fa=some o->o.data=.func (docDef d.name d.params d.body d.scope pm cd doc)->s₁.heap.CodeRec cd d.name->mg d.name=some (.ref fa) ->
   s₁.heap.get? a=some {cls:=.type "list",data:=.seq vs.toArray}->IntsAre vs ns->ns.length<=n->s₁.gens=#[] ->
   codeAny (model l.prog w) callerA (.call (.ref fa) ⟨[.ref a],[]⟩) (λr s'=>r=.ok (.ret (.bool true))/\OldK s₁.heap s'.heap/\s'.os=s₁.os/\AllBare s'.gens) s₁) :
  WalkO q loose XP YP l.row.toRowW d [] (λf vs=>PySem.call f vs):=by
 intro w s₀ s₁ mg mb G Y fa o pm cd doc dV kV ho hd hcd hD hmg hg args vals as hpre hlay hrd hwl hlo
 obtain rfl:dV=.none:=Dflts.none hD hdf
 obtain rfl:kV=.none:=Dflts.noKw hD
 obtain⟨a,vs,ns,rfl,rfl,hobj,hints,hlen⟩:=job hn hpre hwl
 refine enter_call (Ud (call w s₀ s₁ mg mb fa o pm cd doc a vs ns G Y ho (fd_plain hd) hcd hmg hobj hints hlen hg) λr s' hq=>?_)
 obtain⟨rfl,h2,h3,h4⟩:=hq
 exact⟨.inl ⟨.bool true,.bool true,[],rfl,λ_=>rfl,.bool true,post_true l _,λ_=>⟨List.Pairwise.nil,λ_ hm=>(nomatch hm)⟩⟩,h2,h3,h4⟩
end Att
namespace L2
open PySem PySem.Spec PyProof.Rows
theorem ji2:∀{vs:List Value}{ns:List Int},IntsAre vs ns->Vals (ns.map V.int) vs
 |_,_,.nil=>.nil
 |_,_,.cons n t h=>.cons ⟨t,rfl⟩ (ji2 h)
def jw(s:Stmt):Arguments:=match s with
 |.FunctionDef _ a _ _ _ _ _ _ _ _=>a
 |_=>{posonlyargs:=[],args:=[],vararg:=none,kwonlyargs:=[],kw_defaults:=[],kwarg:=none,defaults:=[]}
def jv(s:Stmt):List Stmt:=match s with
 |.FunctionDef _ _ b _ _ _ _ _ _ _=>b
 |_=>[]
def jk(s:Stmt):Scope:=match s with
 |.FunctionDef _ _ _ _ _ _ sc _ _ _=>sc
 |_=>{kind:=.function,names:=[],isGenerator:=false,isCoroutine:=false}
abbrev CX0:CXT:=λ_ _ _ _ _ _=>False
abbrev E0:XK:=λ_ _ _=>False
theorem jo{X:Cx}:jdl CX0 X E0:=λ_ _ _ _ _ _ _ h=>h.elim
structure Fun(K:PySem.W.Frag)(x qual:Str)(st:Stmt)(f:Addr)(fd:FuncData):Prop where
 ex:∃(oc:Value)(od:Option Addr)(kV doc pm:Value)(an:Option Addr)(cdv ct:Value)(osl:Array (Option Value)),
  fd=PySem.W.fnOf x qual (jw st) (jv st) (jk st) .none kV doc pm an cdv ct/\K.lookup f=some ⟨oc,od,.func fd,osl⟩/\PySem.W.codeIn K cdv qual=true
 kp:PySem.W.keepIn K (.ref f)=true
section
variable{P:Program}{w:World}{K:PySem.W.Frag}{mg:Str->Option Value}{base:Heap}
theorem Fun.ok{x qual:Str}{st:Stmt}{f:Addr}{fd:FuncData}{N ps:List Str}{k:Nat}{sp:Sp}(F:Fun K x qual st f fd)(S:FnScope N ps (jk st))(len:∀vs H Q E,sp vs H Q E->vs.length=ps.length)
  (hbody:∀(cdv:Value)(A:Around)(outer:List Env)(s:Shared)(H:Hp)(vs:List V)(Q:VK)(E:XK),Room k (A.deeper (envOfC qual (jk st) s.heap.objs.size f cdv))->sp vs H Q E ->
   ∃t,PSs (cxOf CX0 P w K mg base N qual (jk st) f cdv A outer s H E).nox (jv st) t/\t {nx:=λ_ H'=>Q .non H',rt:=Q} (start N vs) H):FnOk P w K mg base CX0 (k+1) f fd ps sp:=by
 obtain⟨oc,od,kV,doc,pm,an,cdv,ct,osl,rfl,lk,hcd⟩:=F.ex
 refine jpv lk hcd S len λA outer s H vs Q E hr hsp=>?_
 obtain⟨t,h,q⟩:=hbody cdv A outer s H vs Q E hr hsp
 exact⟨t,h.nox,q⟩
theorem Fun.binds{x qual:Str}{st:Stmt}{f:Addr}{fd:FuncData}{ps:List Str}(F:Fun K x qual st f fd)
  (h:∀(kV doc pm:Value)(an:Option Addr)(cdv ct:Value)(us:List Value),us.length=ps.length->bindArgs (PySem.W.fnOf x qual (jw st) (jv st) (jk st) .none kV doc pm an cdv ct) ⟨us,[]⟩=pure (ps.zip us)):Binds K fd ps []:=by
 obtain⟨oc,od,kV,doc,pm,an,cdv,ct,osl,rfl,lk,hcd⟩:=F.ex
 exact .all (h kV doc pm an cdv ct)
theorem jcj{x qual:Str}{st:Stmt}{f:Addr}{oc:Value}{od an:Option Addr}{osl:Array (Option Value)}{kV doc pm cdv ct:Value}(l:K.lookup f=some ⟨oc,od,.func (PySem.W.fnOf x qual (jw st) (jv st) (jk st) .none kV doc pm an cdv ct),osl⟩)
  (c:PySem.W.codeIn K cdv qual=true) (k:PySem.W.keepIn K (.ref f)=true):Fun K x qual st f (PySem.W.fnOf x qual (jw st) (jv st) (jk st) .none kV doc pm an cdv ct):=⟨⟨oc,od,kV,doc,pm,an,cdv,ct,osl,rfl,l,c⟩,k⟩
end
theorem jms{A:Around}{k:Nat}(hr:Room k A):A.units+1<cLine:=U5 (Nat.add_le_add_left (by decide:1<=64) _) hr.units
section
variable{X:Cx}
theorem pv(i:Nat){x:Str}{pos:Pos}(hN:X.N[i]?=some x:=by rfl)(hv:Vis X.env.scope x:=by first|exact Or.inl rfl|exact Or.inr (Or.inl rfl)|exact Or.inr (Or.inr rfl))(hd:(x == ("__debug__":Str))=false:=by decide)
  (hcd:(x == ("__classdict__":Str))=false:=by decide):PE X (.Name x pos) (tVar i):=jcb hN hv hd hcd
end
theorem ite2{c A B:Prop}[Decidable c](h1:c->A)(h2:¬c->B):if c then A else B:=by
 by_cases h:c
 ·rw[Ak h]
  exact h1 h
 ·rw[Ae h]
  exact h2 h
section
variable{κ:Type}[DecidableEq κ]
def valV(kvs:List (κ×V))(k:κ):Option V:=(kvs.find? λkv=>decide (kv.1=k)).map (·.2)
def putK(kvs:List (κ×V))(k:κ)(v:V):List (κ×V) :=
 if(kvs.any λkv=>decide (kv.1=k))=true then kvs.map (λkv=>if kv.1=k then(kv.1,v)else kv)else kvs++[(k,v)]
theorem jpk{k:κ}:valV ([]:List (κ×V)) k=none:=rfl
theorem jcx{p:κ×V}{r:List (κ×V)}{k:κ}(e:p.1=k):valV (p::r) k=some p.2:=by simp[valV,List.find?_cons,e]
theorem jcr{p:κ×V}{r:List (κ×V)}{k:κ}(e:¬p.1=k):valV (p::r) k=valV r k:=by simp[valV,List.find?_cons,e]
theorem je1(k:κ):∀kvs:List (κ×V),(kvs.any λkv=>decide (kv.1=k))=(valV kvs k).isSome
 |[]=>rfl
 |p::r=>by
  rw[List.any_cons]
  by_cases e:p.1=k
  ·simp only[jcx e,decide_eq_true e,Bool.true_or,Option.isSome_some]
  ·rw[jcr e,Ii e,Bool.false_or];exact je1 k r
theorem jk2(k j:κ)(y:V):∀kvs:List (κ×V),valV (kvs.map λkv=>if kv.1=k then(kv.1,y)else kv) j=(valV kvs j).map λx=>if j=k then y else x
 |[]=>rfl
 |p::r=>by
  have ih:=jk2 k j y r
  rw[Ay]
  by_cases h:p.1=k
  ·rw[Ak h]
   by_cases e:p.1=j
   ·rw[jcx (p:=(p.1,y)) e,jcx e,Option.map_some,Ak (e.symm.trans h)]
   ·rw[jcr (p:=(p.1,y)) e,jcr e,ih]
  ·rw[Ae h]
   by_cases e:p.1=j
   ·rw[jcx (p:=p) e,jcx e,Option.map_some,Ae (λz=>h (e.trans z))]
   ·rw[jcr (p:=p) e,jcr e,ih]
theorem ji1(k j:κ)(y:V):∀kvs:List (κ×V),valV kvs k=none->valV (kvs++[(k,y)]) j=if j=k then some y else valV kvs j
 |[],_=>by
  by_cases e:k=j
  ·rw[Ak e.symm];exact jcx (p:=(k,y)) e
  ·rw[Ae (λz=>e z.symm)];exact jcr (p:=(k,y)) e
 |p::r,hn=>by
  rw[List.cons_append]
  have hk:¬p.1=k:=λz=>by rw[jcx z]at hn;cases hn
  rw[jcr hk]at hn
  have ih:=ji1 k j y r hn
  by_cases e:p.1=j
  ·rw[jcx e,jcx e,Ae (λz=>hk (e.trans z))]
  ·rw[jcr e,jcr e,ih]
theorem jk3(kvs:List (κ×V))(k j:κ)(y:V):valV (putK kvs k y) j=if j=k then some y else valV kvs j:=by
 unfold putK
 by_cases a:(kvs.any λkv=>decide (kv.1=k))=true
 ·rw[Ak a,jk2]
  rw[je1]at a
  by_cases e:j=k
  ·obtain⟨x,hx⟩:=U3.mp a
   rw[Ak e,e,hx,Option.map_some,Ak rfl]
  ·rw[Ae e]
   cases valV kvs j with
   |none=>rfl
   |some x=>rw[Option.map_some,Ae e]
 ·rw[Ae a]
  refine ji1 k j y kvs ?_
  rw[je1]at a
  cases q:valV kvs k with
  |none=>rfl
  |some x=>rw[q]at a;exact(a rfl).elim
theorem jdi(kvs:List (κ×V))(k:κ)(v:V):(putK kvs k v).length<=kvs.length+1:=by
 unfold putK
 split
 ·rw[Ab];omega
 ·rw[Ax,List.length_cons,List.length_nil];omega
theorem RelO.isSome_eq{o:Option V}{u:Option Value}(r:RelO o u):o.isSome=u.isSome:=by
 cases o with
 |none=>cases u with
  |none=>rfl
  |some _=>exact(show False from r).elim
 |some _=>cases u with
  |none=>exact(show False from r).elim
  |some _=>rfl
theorem KV.val{kvs:List (κ×V)}{vs:List (κ×Value)}(r:KV kvs vs)(k:κ):RelO (valV kvs k) (valueAt vs k):=by
 unfold KV at r
 induction r with
 |nil=>exact True.intro
 |@cons p q ps qs h t ih =>
  obtain⟨h1,h2⟩:=h
  by_cases e:p.1=k
  ·have e':q.1=k:=h1.symm.trans e
   have b:valueAt (q::qs) k=some q.2:=by simp[valueAt,List.find?_cons,e']
   rw[jcx e,b];exact h2
  ·have e':¬q.1=k:=λz=>e (h1.trans z)
   have b:valueAt (q::qs) k=valueAt qs k:=by simp[valueAt,List.find?_cons,e']
   rw[jcr e,b];exact ih
theorem KV.any{kvs:List (κ×V)}{vs:List (κ×Value)}(r:KV kvs vs)(k:κ):(kvs.any λkv=>decide (kv.1=k))=vs.any λkv=>decide (kv.1=k):=by
 unfold KV at r
 induction r with
 |nil=>rfl
 |cons h t ih=>rw[List.any_cons,List.any_cons,ih,h.1]
theorem KV.repl{kvs:List (κ×V)}{vs:List (κ×Value)}(r:KV kvs vs)(k:κ){y:V}{u:Value}(ry:RelV y u) :
  KV (kvs.map λkv=>if kv.1=k then(kv.1,y)else kv) (vs.map λkv=>if kv.1=k then(kv.1,u)else kv):=by
 unfold KV at r⊢
 induction r with
 |nil=>exact .nil
 |@cons p q ps qs h t ih =>
  rw[Ay,Ay]
  refine .cons ?_ ih
  obtain⟨h1,h2⟩:=h
  by_cases e:p.1=k
  ·rw[Ak e,Ak (h1.symm.trans e)];exact⟨h1,ry⟩
  ·rw[Ae e,Ae (λz=>e (h1.trans z))];exact⟨h1,h2⟩
theorem KV.put{kvs:List (κ×V)}{vs:List (κ×Value)}(r:KV kvs vs)(k:κ){y:V}{u:Value}(ry:RelV y u):KV (putK kvs k y) (stored vs k u):=by
 unfold putK stored
 rw[r.any k]
 by_cases e:(vs.any λkv=>decide (kv.1=k))=true
 ·rw[Ak e,Ak e];exact r.repl k ry
 ·rw[Ae e,Ae e];exact Wm r ⟨rfl,ry⟩
theorem KV.length{kvs:List (κ×V)}{vs:List (κ×Value)}(r:KV kvs vs):kvs.length=vs.length:=Il r
end
theorem jfr{P:Program}{w:World}{k:Key}{u:Value}(r:RelV (kV k) u):(jco P w).is k u=true:=by
 cases k with
 |inl i=>obtain⟨t,e⟩:=(show ∃t,u=Value.int i t from r);subst e;exact jk9 P w i t
 |inr x=>obtain⟨t,e⟩:=(show ∃t,u=Value.str x t from r);subst e;exact jla P w x t
theorem jie{P:Program}{w:World}:∀{ks:List Key}{us:List Value},Vals (ks.map kV) us->ItemsAre (jco P w) ks us
 |[],_,r=>by rw[Up]at r;cases r;exact .nil
 |k::ks,_,r=>by
  rw[Ay]at r
  cases r with
  |cons h t=>exact .cons (jfr h) (jie t)
abbrev KT(H:Hp):List (List Key×V)->List (List Key×Addr×Value)->Prop:=Paired λp q=>p.1=q.1/\H q.2.1=some (.tup (p.1.map kV))/\RelV p.2 q.2.2
theorem KT.val{H:Hp}{kvs:List (List Key×V)}{xs:List (List Key×Addr×Value)}(r:KT H kvs xs)(k:List Key):RelO (valV kvs k) ((atKey xs k).map (·.2)):=by
 induction r with
 |nil=>exact True.intro
 |@cons p q ps qs h t ih =>
  obtain⟨h1,_,h2⟩:=h
  by_cases e:p.1=k
  ·have e':q.1=k:=h1.symm.trans e
   have b:atKey (q::qs) k=some q.2:=by simp[atKey,List.find?_cons,e']
   rw[jcx e,b];exact h2
  ·have e':¬q.1=k:=λz=>e (h1.trans z)
   have b:atKey (q::qs) k=atKey qs k:=by simp[atKey,List.find?_cons,e']
   rw[jcr e,b];exact ih
theorem KT.repl{H:Hp}{kvs:List (List Key×V)}{xs:List (List Key×Addr×Value)}(r:KT H kvs xs)(k:List Key){y:V}{u:Value}(ry:RelV y u) :
  KT H (kvs.map λkv=>if kv.1=k then(kv.1,y)else kv) (xs.map (putAt k u)):=by
 induction r with
 |nil=>exact .nil
 |@cons p q ps qs h t ih =>
  rw[Ay,Ay]
  refine .cons ?_ ih
  obtain⟨h1,h2,h3⟩:=h
  unfold putAt
  by_cases e:p.1=k
  ·rw[Ak e,Ak (h1.symm.trans e)];exact⟨h1,h2,ry⟩
  ·rw[Ae e,Ae (λz=>e (h1.trans z))];exact⟨h1,h2,h3⟩
theorem KT.put{H:Hp}{kvs:List (List Key×V)}{xs:List (List Key×Addr×Value)}(r:KT H kvs xs)(k:List Key){b:Addr}{y:V}{u:Value}(hb:H b=some (.tup (k.map kV)))(ry:RelV y u) :
  KT H (putK kvs k y) (storedH xs k b u):=by
 have e:(kvs.any λkv=>decide (kv.1=k))=(atKey xs k).isSome:=by
  rw[je1,(r.val k).isSome_eq,Option.isSome_map]
 unfold putK storedH
 rw[e]
 by_cases q:(atKey xs k).isSome=true
 ·rw[Ak q,Ak q];exact r.repl k ry
 ·rw[Ae q,Ae q];exact Wm r ⟨rfl,hb,ry⟩
theorem KT.keeps{H H':Hp}{kvs:List (List Key×V)}{xs:List (List Key×Addr×Value)}(r:KT H kvs xs)(ht:∀b ys,H b=some (.tup ys)->H' b=some (.tup ys)):KT H' kvs xs :=
 Paired.mapP r λ_ _ z=>⟨z.1,ht _ _ z.2.1,z.2.2⟩
section
variable{P:Program}{w:World}{H:Hp}{h:Heap}{a:Addr}
theorem jp1{u:HO}(ok:HOk P w H h)(e:Rd H a u):ObjOk P w H h a u:=e.ok ok
theorem jgq{kvs:List (Key×V)}(ok:HOk P w H h)(e:Rd H a (.dK kvs)):kvs.length<=sizeLine/\(a == sysModules)=false/\∃vs,KV kvs vs/\h.DictOf (jco P w) a vs :=
 show ObjOk P w H h a (.dK kvs)from jp1 ok e
theorem jsh{kvs:List (Key×V)}(ok:HOk P w H h)(e:H a=some (.dK kvs)):kvs.length<=sizeLine/\(a == sysModules)=false/\∃vs,KV kvs vs/\h.DictOf (jco P w) a vs:=jgq ok (.inl e)
theorem je4{ks:List Key}(ok:HOk P w H h)(e:H a=some (.tup (ks.map kV))):(tupleKind (jco P w)).is h ks a:=by
 obtain⟨_,its,r,o,h1,h2,n,h3⟩:=(show ObjOk P w H h a (.tup (ks.map kV))from ok a _ e)
 exact⟨o,its.toArray,n,h1,h2,h3,by simpa using jie r⟩
theorem jgr{kvs:List (List Key×V)}(ok:HOk P w H h)(e:Rd H a (.dT kvs)):kvs.length<=sizeLine/\(a == sysModules)=false /\
  ∃xs,KT H kvs xs/\h.DictOfH (tupleKind (jco P w)) a xs:=by
 obtain⟨z,y,xs,r,o,es,ep,h1,h2,h3,h4,h5⟩:=(show ObjOk P w H h a (.dT kvs)from jp1 ok e)
 refine⟨z,y,xs,r,o,es,ep,h1,h2,h3,h4,λx hx=>?_,h5⟩
 have all:∀{l:List (List Key×V)}{m:List (List Key×Addr×Value)},KT H l m->∀x∈m,(tupleKind (jco P w)).is h x.1 x.2.1:=by
  intro l m q
  induction q with
  |nil=>intro x hx;exact nomatch hx
  |@cons p q ps qs hq t ih =>
   intro x hx
   rcases Aw.mp hx with e|hx
   ·subst e
    exact je4 ok (by rw[<-hq.1];exact hq.2.1)
   ·exact ih x hx
 exact all r x hx
theorem jpu{kvs:List (List Key×V)}(ok:HOk P w H h)(e:H a=some (.dT kvs)):kvs.length<=sizeLine/\(a == sysModules)=false /\
  ∃xs,KT H kvs xs/\h.DictOfH (tupleKind (jco P w)) a xs:=jgr ok (.inl e)
end
def DGet(H:Hp)(a:Addr)(y:V)(r:Option V):Prop :=
 (∃kvs k,Rd H a (.dK kvs)/\y=kV k/\r=valV kvs k)\/∃kvs k b,Rd H a (.dT kvs)/\y=.ref b/\H b=some (.tup (k.map kV))/\r=valV kvs k
def DPut(H:Hp)(a:Addr)(y v:V)(H':Hp):Prop :=
 (∃kvs k,H a=some (.dK kvs)/\y=kV k/\kvs.length<sizeLine/\H'=upd H a (.dK (putK kvs k v))) \/
 ∃kvs k b,H a=some (.dT kvs)/\y=.ref b/\H b=some (.tup (k.map kV))/\kvs.length<sizeLine/\H'=upd H a (.dT (putK kvs k v))
theorem DGet.k{H:Hp}{a:Addr}{kvs:List (Key×V)}{k:Key}(e:H a=some (.dK kvs)):DGet H a (kV k) (valV kvs k):=.inl ⟨kvs,k,.inl e,rfl,rfl⟩
theorem DPut.k{H:Hp}{a:Addr}{kvs:List (Key×V)}{k:Key}{v:V}(e:H a=some (.dK kvs))(hl:kvs.length<sizeLine):DPut H a (kV k) v (upd H a (.dK (putK kvs k v))):=.inl ⟨kvs,k,e,rfl,hl,rfl⟩
section
variable{X:Cx}{pins:List (Addr×Obj)}{σ:St}{H:Hp}{s:Shared}{a:Addr}{y v:V}{u r:Value}{o:Option V}{A:Around}{E:Value->Shared->Prop}
theorem Inv.big(I:Inv X pins σ H s):sysModules<s.heap.objs.size:=by
 have h:mainGlobals<s.heap.objs.size:=(I.mod.glob.keeps I.bk).lt
 exact Nat.lt_trans (by decide) h
theorem jnl{Q:Value->Shared->Prop}(hu:A.units+1<cLine)(I:Inv X pins σ H s)(g:DGet H a y (some v))(ry:RelV y u)(h:∀w' s',Inv X pins σ H s'->RelV v w'->Q w' s') :
  wpAny (model X.prog X.w) A (getItem (.ref a) u) Q E s:=by
 rcases g with⟨kvs,k,e,ey,l⟩|⟨kvs,k,b,e,ey,eb,l⟩
 ·subst ey
  obtain⟨z,hd,vs,rel,dd⟩:=jgq I.hok e
  obtain⟨w',hw,rw'⟩:=RelO.some_of (v:=v) (o:=valueAt vs k) (by rw[l];exact rel.val k)
  exact wpAny_getItem_of (jfr ry) dd.mapOf hw (h w' _ (I.tok _) rw')
 ·subst ey
  cases(show u=Value.ref b from ry)
  obtain⟨z,hd,xs,rel,dd⟩:=jgr I.hok e
  obtain⟨w',hw,rw'⟩:=RelO.some_of (v:=v) (o:=(atKey xs k).map (·.2)) (by rw[l];exact rel.val k)
  obtain⟨p,hp,hp2⟩:=Is.mp hw
  refine wpAny_getItem_heap (U6 hu) (je4 I.hok eb) dd hp ?_
  rw[hp2]
  exact h w' _ (I.tok _) rw'
theorem jqd{Q:Value->Shared->Prop}(hu:A.units+1<cLine)(I:Inv X pins σ H s)(g:DGet H a y o)(ry:RelV y u)(h:∀s',Inv X pins σ H s'->Q (.bool (!o.isSome)) s') :
  wpAny (model X.prog X.w) A (compareOp .NotIn u (.ref a)) Q E s:=by
 rcases g with⟨kvs,k,e,ey,l⟩|⟨kvs,k,b,e,ey,eb,l⟩
 ·subst ey
  obtain⟨z,hd,vs,rel,dd⟩:=jgq I.hok e
  refine wpAny_notIn_of (jfr ry) hd dd.mapOf ?_
  rw[<-(rel.val k).isSome_eq,<-l]
  exact h _ (I.tok _)
 ·subst ey
  cases(show u=Value.ref b from ry)
  obtain⟨z,hd,xs,rel,dd⟩:=jgr I.hok e
  refine wpAny_notIn_heap (U6 hu) (je4 I.hok eb) hd dd ?_
  have q:=(rel.val k).isSome_eq
  rw[Option.isSome_map]at q
  rw[<-q,<-l]
  exact h _ (I.tok _)
theorem jhp{h':Heap}{t':Nat}{ob:HO}(I:Inv X pins σ H s)(mu:Mut (H a))(hs:Heap.SameBut a s.heap h')(he:∃q,h'.get? a=some q)(new:ObjOk X.prog X.w (upd H a ob) h' a ob) :
  Inv X pins σ (upd H a ob) {s with heap:=h',toks:=t'} :=
 I.write (x:=a) (e:=a) mu (.inl rfl) (λb q hb z=>(hs.2 b hb).trans z) he new
theorem jrj{P:Program}{w:World}{H':Hp}{h':Heap}{kvs:List (Key×V)}{vs:List (Key×Value)}(z:kvs.length<=sizeLine)(hd:(a == sysModules)=false)(rel:KV kvs vs)(dd:h'.DictOf (jco P w) a vs) :
  ObjOk P w H' h' a (.dK kvs):=⟨z,hd,vs,rel,dd⟩
theorem jnm{H':Hp}{Q:Unit->Shared->Prop}(hu:A.units+1<cLine)(I:Inv X pins σ H s)(g:DPut H a y v H')(ry:RelV y u)(rv:RelV v r)(h:∀s',Inv X pins σ H' s'->Q () s') :
  wpAny (model X.prog X.w) A (setItem (.ref a) u r) Q E s:=by
 rcases g with⟨kvs,k,e,ey,l,eH⟩|⟨kvs,k,b,e,ey,eb,l,eH⟩
 ·subst ey eH
  obtain⟨z,hd,vs,rel,dd⟩:=jsh I.hok e
  have hz:vs.length<=sizeLine:=by rw[<-rel.length];exact z
  have hl:(putK kvs k v).length<=sizeLine:=by have:=jdi kvs k v;omega
  refine wpAny_setItem_pairs (hsz:=hz) (jfr ry) dd λh' dd' hs=>h _ ?_
  have he:∃q,h'.get? a=some q:=let⟨q,_,_,hq,_⟩:=dd';⟨q,hq⟩
  exact jhp I (by rw[e];exact True.intro) hs he (jrj hl hd (rel.put k rv) dd')
 ·subst ey eH
  cases(show u=Value.ref b from ry)
  obtain⟨z,hd,xs,rel,dd⟩:=jpu I.hok e
  have hz:xs.length<=sizeLine:=by rw[<-Il rel];exact z
  have hl:(putK kvs k v).length<=sizeLine:=by have:=jdi kvs k v;omega
  refine wpAny_setItem_heap (hsz:=hz) (U6 hu) (je4 I.hok eb) dd λh' dd' hs=>h _ ?_
  obtain⟨q,es,ep,hq,h2,h3,h4,_,h5⟩:=dd'
  refine jhp I (by rw[e];exact True.intro) hs ⟨q,hq⟩ ⟨hl,hd,_,(rel.put k eb rv).keeps λc ys ec=>?_,q,es,ep,hq,h2,h3,h4,h5⟩
  rw[jf (ji9 ec e (λz=>nomatch z))]
  exact ec
end
def NoSl(i:Expr):Prop:=∀ov iv,subscripted i false ov iv=operate [ov,iv] (getItem ov iv)
theorem jq7{prog:Program}{w:World}{A:Around}{E:Value->Shared->Prop}{s:Shared}{env:Env}{value slice:Expr}{pos:Pos}{T id:String}{Q:Value->Shared->Prop}
  (hl:typeLookup (.type T) "__getitem__"=pure (some (.builtin id))) (hs:NoSl slice)
  (h:wpAny (model prog w) A (eval value env) (λo s₁=>wpAny (model prog w) A (eval slice env) (λi s₂=>s₂.TypeIs o T/\wpAny (model prog w) A (getItem o i) Q E s₂) E s₁) E s) :
  wpAny (model prog w) A (eval (.Subscript value slice pos) env) Q E s:=by
 refine Subscript_ (Of h (λo s₁ h₁=>Of h₁ (λi s₂ h₂=>?_) λ_ _ x=>x) λ_ _ x=>x)
 obtain⟨hT,h₂⟩:=h₂
 unfold subscriptTail
 refine Aa ?_
 rw[getitemInPython_of_ne hT.not_modules]
 refine Aa (Wz hT hl ?_)
 have fin:wpAny (model prog w) A (subscripted slice false o i) (λr s₃=>wpAny (model prog w) A (letTemporaryGo value o r >>= λ_=>pure r) Q E s₃) E s₂:=by
  rw[hs o i]
  exact wpAny_operating (Of h₂ (λr s₃ h₃=>Aa (wpAny_letTemporaryGo (Af h₃))) λ_ _ x=>x)
 first
  |exact Af (Aa fin)
  |exact Aa (Af (Aa fin))
  |exact Aa fin
theorem jk8{X:Cx}{pins:List (Addr×Obj)}{σ:St}{H:Hp}{s:Shared}{a:Addr}{y:V}{o:Option V}(I:Inv X pins σ H s)(g:DGet H a y o):s.TypeIs (.ref a) "dict":=by
 rcases g with⟨kvs,k,e,_,_⟩|⟨kvs,k,b,e,_,_,_⟩
 ·obtain⟨_,_,vs,_,dd⟩:=jgq I.hok e
  exact dd.typeIs
 ·obtain⟨_,_,xs,_,dd⟩:=jgr I.hok e
  exact dd.typeIs
def jfu(ty td:TE):TE:=λσ H Q=>ty σ H λy H1=>td σ H1 λx H2=>∃a o,x=.ref a/\DGet H2 a y o/\Q (.bl (!o.isSome)) H2
def jjc(td ty tv:TE):TS:=λD σ H=>tv σ H λv H1=>td σ H1 λx H2=>ty σ H2 λy H3=>∃a H4,x=.ref a/\DPut H3 a y v H4/\D.nx σ H4
section
variable{X:Cx}{o i e value:Expr}{pos pos' tpos:Pos}{td ty tv:TE}
theorem pc_dnotin(hu:X.A.units+1<cLine)(hi:PE X i ty)(ho:PE X o td):PC X .NotIn i o (jfu ty td):=by
 intro pins s σ H Q I h
 refine thn (hi pins s σ H _ I h) λiv s1 ⟨y,H1,I1,ry,q1⟩=>thn (ho pins s1 σ H1 _ I1 q1) λu s2 ⟨x,H2,I2,rx,a,ov,ex,g,q2⟩=>?_
 subst ex
 obtain rfl:u=Value.ref a:=rx
 exact jqd hu I2 g ry λs3 I3=>⟨.bl (!ov.isSome),H2,I3,rfl,q2⟩
theorem ps_dput(hu:X.A.units+1<cLine)(ho:PE X o td)(hi:PE X i ty)(hv:PE X value tv)(hs:swapsWith value (some (.Subscript o i pos')) pos.line X.env=pure false) :
  PS X (.Assign [.Subscript o i pos'] value pos) (jjc td ty tv):=by
 intro pins s σ H D I h
 refine wpAny_Assign_Subscript (thn (hv pins s σ H _ I h) λr s1 ⟨v,H1,I1,rv,q1⟩=>thn (ho pins s1 σ H1 _ I1 q1) λu s2 ⟨x,H2,I2,rx,q2⟩=>thn (hi pins s2 σ H2 _ I2 q2) λiv s3 ⟨y,H3,I3,ry,a,H4,ex,g,q3⟩=>?_) hs
 subst ex
 obtain rfl:u=Value.ref a:=rx
 exact jnm hu I3 g ry rv λs4 I4=>⟨σ,H4,I4,q3⟩
end
theorem jot{P:Program}{w:World}{H:Hp}(h:Heap)(hb:sysModules<h.objs.size):ObjOk P w H (h.push {cls:=.type "dict",data:=.dict #[]}) h.objs.size (.dK []) :=
 ⟨A8 _,Oz.mpr (O6 (Ap hb)),[],.nil,Heap.DictOf.new h⟩
theorem jov{P:Program}{w:World}{H:Hp}(h:Heap)(hb:sysModules<h.objs.size):ObjOk P w H (h.push {cls:=.type "dict",data:=.dict #[]}) h.objs.size (.dT []) :=
 ⟨A8 _,Oz.mpr (O6 (Ap hb)),[],.nil,_,#[],0,An _ rfl,⟨rfl,rfl,rfl⟩,rfl,rfl,W8⟩
def jhf:TE:=λ_ H Q=>∀p,H p=none->Q (.ref p) (upd H p (.dT []))
section
variable{X:Cx}{pos:Pos}
theorem pe_dnewT:PE X (.Dict [] [] pos) jhf:=λpins s σ H Q I h =>
 wpAny_Dict_empty ⟨.ref s.heap.objs.size,_,I.laid (a:=s.heap.objs.size) (o:=.dT []) (t':=s.toks) (λ_ _ q=>Ad _ q) (Ah _) (jov s.heap I.big),rfl,h _ (I.hok.fresh (Ah _))⟩
end
structure M2(X:Cx)(o:Expr)(m:Str)(apos:Pos)(e f:Expr)(cpos:Pos):Prop where
 base:attributeBase o m X.env (eval o X.env)=eval o X.env
 few:((backTo cpos (starEach [e,f] X.env)).all (λx=>!x.1) && (backToKw cpos (keywordEach [] X.env)).all (λx=>x.1.isSome)
  && decide (([e,f]:List Expr).length+([]:List Keyword).length+(if([]:List Keyword).isEmpty then 0 else 1)<30))=true
 line:(apos.endLine == cpos.line)=true
 trees:backTo cpos (starEach [e,f] X.env)=[(false,eval e X.env),(false,eval f X.env)]
def IsD(H:Hp)(a:Addr):Prop:=(∃kvs,Rd H a (.dK kvs))\/∃kvs,Rd H a (.dT kvs)
theorem jrp{X:Cx}{pins:List (Addr×Obj)}{σ:St}{H:Hp}{s:Shared}{a:Addr}(I:Inv X pins σ H s)(d:IsD H a) :
  s.TypeIs (.ref a) "dict"/\(∀b,Value.ref a=.ref b->∃ob,s.heap.get? b=some ob/\ob.dict=none)/\(a == sysModules)=false:=by
 rcases d with⟨kvs,e⟩|⟨kvs,e⟩
 ·obtain⟨_,hd,vs,_,dd⟩:=jgq I.hok e
  refine⟨dd.typeIs,λb q=>?_,hd⟩
  cases q
  obtain⟨ob,_,_,h1,h2,_⟩:=dd
  exact⟨ob,h1,h2.2.1⟩
 ·obtain⟨_,hd,xs,_,dd⟩:=jgr I.hok e
  refine⟨dd.typeIs,λb q=>?_,hd⟩
  cases q
  obtain⟨ob,_,_,h1,h2,_⟩:=dd
  exact⟨ob,h1,h2.2.1⟩
structure Kp(S:List Addr)(H H':Hp):Prop where
 old:∀a o,H a=some o->a∉S->H' a=some o
 tup:∀a xs,H a=some (.tup xs)->H' a=some (.tup xs)
 dom:∀a o,H a=some o->∃o',H' a=some o'
theorem Kp.refl(S:List Addr)(H:Hp):Kp S H H:=⟨λ_ _ e _=>e,λ_ _ e=>e,λ_ o e=>⟨o,e⟩⟩
theorem Kp.trans{S:List Addr}{H H1 H2:Hp}(a:Kp S H H1)(b:Kp S H1 H2):Kp S H H2 :=
 ⟨λc o e n=>b.old c o (a.old c o e n) n,λc xs e=>b.tup c xs (a.tup c xs e),λc o e=>let⟨o',e'⟩:=a.dom c o e;b.dom c o' e'⟩
theorem Kp.mono{S S':List Addr}{H H1:Hp}(a:Kp S H H1)(h:∀x∈S,x∈S'):Kp S' H H1:=⟨λc o e n=>a.old c o e λz=>n (h c z),a.tup,a.dom⟩
theorem Kp.free{S:List Addr}{H H1:Hp}(k:Kp S H H1){p:Addr}(h:H1 p=none):H p=none:=by
 cases e:H p with
 |none=>rfl
 |some o=>obtain⟨o',e'⟩:=k.dom p o e;rw[h]at e';cases e'
theorem Kp.new{S:List Addr}{H H1:Hp}(k:Kp S H H1){p:Addr}{o:HO}(h:H1 p=none):Kp S H (upd H1 p o) :=
 ⟨λc u e n=>by rw[jf (jj (k.old c u e n) h)];exact k.old c u e n,λc xs e=>by rw[jf (jj (k.tup c xs e) h)];exact k.tup c xs e,
  λc u e=>by
   obtain⟨o',e'⟩:=k.dom c u e
   exact⟨o',by rw[jf (jj e' h)];exact e'⟩⟩
theorem Kp.set{S:List Addr}{H H1:Hp}(k:Kp S H H1){b:Addr}{xs:List V}{o:HO}(hb:H1 b=some (.lst xs))(h:b∈S\/H b=none):Kp S H (upd H1 b o) :=
 ⟨λc u e n=>by
  have:c≠b:=by
   rintro rfl
   rcases h with h|h
   ·exact n h
   ·rw[h]at e;cases e
  rw[jf this];exact k.old c u e n,
 λc ys e=>by
  have e1:=k.tup c ys e
  rw[jf (ji9 e1 hb (by intro z;cases z))];exact e1,
 λc u e=>by
  obtain⟨o',e'⟩:=k.dom c u e
  by_cases q:c=b
  ·subst q;exact⟨o,je⟩
  ·exact⟨o',by rw[jf q];exact e'⟩⟩
def jch:Option HO->Option (List V)
 |some (.lst xs)=>some xs
 |_=>none
def jfw:Option HO->Option (List V)
 |some (.tup xs)=>some xs
 |_=>none
def jcy:Option HO->Option (List V)
 |some (.lst xs)=>some xs
 |some (.tup xs)=>some xs
 |_=>none
theorem jig(xs:List V):jch (some (.lst xs))=some xs:=rfl
theorem ji0(xs:List V):jfw (some (.tup xs))=some xs:=rfl
theorem jiw(xs:List V):jcy (some (.lst xs))=some xs:=rfl
theorem jix(xs:List V):jcy (some (.tup xs))=some xs:=rfl
theorem jcp{o:Option HO}{xs:List V}(h:jch o=some xs):o=some (.lst xs):=by
 unfold jch at h
 split at h
 ·cases h;rfl
 ·cases h
theorem jge{o:Option HO}{xs:List V}(h:jfw o=some xs):o=some (.tup xs):=by
 unfold jfw at h
 split at h
 ·cases h;rfl
 ·cases h
theorem jet{o:Option HO}{xs:List V}(h:jcy o=some xs):o=some (.lst xs)\/o=some (.tup xs):=by
 unfold jcy at h
 split at h
 ·cases h;exact .inl rfl
 ·cases h;exact .inr rfl
 ·cases h
section
variable{X:Cx}
def rLtU:R2:=λx y H Q=>match x,y with
 |.int i,.int j=>Q (.bl (decide (i<j))) H
 |.str i,.str j=>Q (.bl (decide (i.cps.toList<j.cps.toList))) H
 |_,_=>False
theorem jan:OpR X (compareOp .Lt) rLtU:=by
 intro pins s σ H x y v u Q I rx ry h
 cases x with
 |int i=>cases y with
  |int j=>exact op_lt pins s σ H _ _ v u Q I rx ry ⟨i,j,rfl,rfl,h⟩
  |_=>exact False.elim h
 |str i=>cases y with
  |str j=>exact op_lt_str pins s σ H _ _ v u Q I rx ry ⟨i,j,rfl,rfl,h⟩
  |_=>exact False.elim h
 |_=>exact False.elim h
def rLeU:R2:=λx y H Q=>match x,y with
 |.int i,.int j=>Q (.bl (decide (i<=j))) H
 |.str i,.str j=>Q (.bl (!decide (j.cps.toList<i.cps.toList))) H
 |_,_=>False
theorem jbx:OpR X (compareOp .LtE) rLeU:=by
 intro pins s σ H x y v u Q I rx ry h
 cases x with
 |int i=>cases y with
  |int j=>exact op_le pins s σ H _ _ v u Q I rx ry ⟨i,j,rfl,rfl,h⟩
  |_=>exact False.elim h
 |str i=>cases y with
  |str j =>
   obtain⟨t,rfl⟩:=rx
   obtain⟨t',rfl⟩:=ry
   exact PySem.P.le_str (jci I h (by rfl))
  |_=>exact False.elim h
 |_=>exact False.elim h
def rIxU:R2:=λx y H Q=>match x,y with
 |.str z,.int i=>z.length<=sizeLine/\∃c,atI z.cps.toList i=some c/\Q (.str ⟨#[c]⟩) H
 |.ref p,.int i=>∃xs,jcy (H p)=some xs/\∃v,atI xs i=some v/\Q v H
 |_,_=>False
theorem ix_U:IxR X rIxU:=by
 intro value slice pins s σ H x y v u Q I rx ry h hs
 cases x with
 |str z=>cases y with
  |int i=>obtain⟨h1,c,h2,h3⟩:=h;exact ix_str value slice pins s σ H _ _ v u Q I rx ry ⟨z,i,c,rfl,rfl,h1,h2,h3⟩ hs
  |_=>exact False.elim h
 |ref p=>cases y with
  |int i =>
   obtain⟨xs,e,w,h2,h3⟩:=h
   rcases jet e with e|e
   ·exact jbg value slice pins s σ H _ _ v u Q I rx ry ⟨p,xs,i,w,rfl,rfl,SqL.of e,h2,h3⟩ hs
   ·exact jb8 value slice pins s σ H _ _ v u Q I rx ry ⟨p,xs,i,w,rfl,rfl,SqT.of e,h2,h3⟩ hs
  |_=>exact False.elim h
 |_=>exact False.elim h
theorem jmj{α:Type}(x:α)(r:List α):atI (x::r) 0=some x:=jdf (j:=0) rfl
theorem jmk{α:Type}(x y:α)(r:List α):atI (x::y::r) 1=some y:=jdf (j:=1) rfl
theorem jps{α:Type}(x y z:α)(r:List α):atI (x::y::z::r) 2=some z:=jdf (j:=2) rfl
theorem jcg{α:Type}{xs:List α}{i:Int}{v:α}(h0:0<=i)(h:xs[i.toNat]?=some v):atI xs i=some v:=by
 have:=jdf (xs:=xs) (j:=i.toNat) h
 rwa[Int.toNat_of_nonneg h0]at this
def jp0:V->V->V->Hp->(Hp->Prop)->Prop:=λo i v H Q=>match o,i with
 |.ref p,.int k=>∃xs,jch (H p)=some xs/\∃j,ixN xs.length k=some j/\Q (upd H p (.lst (xs.set j v)))
 |_,_=>False
theorem jg7:PSet X jp0:=by
 intro pins s σ H o i v ov iv u Q I ro ri rv h
 cases o with
 |ref p=>cases i with
  |int k =>
   obtain⟨xs,e,j,h1,h2⟩:=h
   exact jpg pins s σ H _ _ v ov iv u Q I ro ri rv ⟨p,xs,k,j,rfl,rfl,jcp e,h1,h2⟩
  |_=>exact False.elim h
 |_=>exact False.elim h
def jjb:List V->Hp->VK->Prop:=λxs H Q=>match xs with
 |[.str z]=>z.length<=sizeLine/\Q (.int z.length) H
 |[.ref p]=>∃ys,jcy (H p)=some ys/\Q (.int ys.length) H
 |_=>False
theorem ka:jcv X (.builtin "len") jjb:=by
 intro pins s σ H xs us Q I r h
 unfold jjb at h
 split at h
 ·rename_i z;exact call_len_str pins s σ H _ us Q I r ⟨z,rfl,h⟩
 ·rename_i p
  obtain⟨ys,e,h⟩:=h
  rcases jet e with e|e
  ·exact zh pins s σ H _ us Q I r ⟨p,ys,rfl,.inl (SqL.of e),h⟩
  ·exact zh pins s σ H _ us Q I r ⟨p,ys,rfl,.inr (SqT.of e),h⟩
 ·exact h.elim
def jm2:List V->Hp->VK->Prop:=λxs H Q=>match xs with
 |[.int i,.int j]=>Q (.int (if j<i then j else i)) H
 |_=>False
theorem call_minU(hc:X.calm=true):jcv X (.builtin "min") jm2:=by
 intro pins s σ H xs us Q I r h
 unfold jm2 at h
 split at h
 ·rename_i i j;exact call_min2 hc pins s σ H _ us Q I r ⟨i,j,rfl,h⟩
 ·exact h.elim
def jja:List V->Hp->VK->Prop:=λxs H Q=>match xs with
 |[.int i]=>Q (.int i) H
 |[.bl k]=>Q (.int (if k then 1 else 0)) H
 |_=>False
theorem ja0:jcv X (.type "int") jja:=by
 intro pins s σ H xs us Q I r h
 unfold jja at h
 split at h
 ·rename_i i;exact jbn pins s σ H _ us Q I r (.inl ⟨i,rfl,h⟩)
 ·rename_i k;exact jbn pins s σ H _ us Q I r (.inr ⟨k,rfl,h⟩)
 ·exact h.elim
def sgn(z:Str):List V:=z.cps.toList.map λc=>V.str ⟨#[c]⟩
theorem jq4(z:Str):(sgn z).length=z.length:=by simp[sgn,Str.length]
theorem jpl{z:Str}{acc:Array Value}(h:ItemsOf (SignAt z) acc z.cps.size):Vals (sgn z) acc.toList:=by
 obtain⟨h1,h2⟩:=h
 have hl:(sgn z).length=acc.toList.length:=by simp[sgn,h1]
 have gen:∀(xs:List V)(us:List Value),xs.length=us.length->(∀(i:Nat)(x:V)(u:Value),xs[i]?=some x->us[i]?=some u->RelV x u)->Vals xs us:=by
  intro xs
  induction xs with
  |nil=>intro us hl _;cases us with
   |nil=>exact .nil
   |cons _ _=>simp at hl
  |cons x xs ih=>intro us hl h;cases us with
   |nil=>simp at hl
   |cons u us=>exact .cons (h 0 x u rfl rfl) (ih us (by simpa using hl) λi a b e1 e2=>h (i+1) a b (by simpa using e1) (by simpa using e2))
 refine gen _ _ hl λi x u e1 e2=>?_
 obtain⟨c,t,hc,hu⟩:=h2 i u (by simpa using e2)
 subst hu
 simp only[sgn,Ao]at e1
 have:z.cps.toList[i]?=some c:=by simpa using hc
 rw[this]at e1
 have e1':V.str ⟨#[c]⟩=x:=Av e1
 subst e1'
 exact⟨t,rfl⟩
def jg4:List V->Hp->VK->Prop:=λxs H Q=>match xs with
 |[.str z]=>z.length<=sizeLine/\∀l,H l=none->Q (.ref l) (upd H l (.lst (sgn z)))
 |[.ref p]=>∃ys,jcy (H p)=some ys/\∀l,H l=none->Q (.ref l) (upd H l (.lst ys))
 |_=>False
theorem jbc(hc:X.calm=true):jcv X (.type "list") jg4:=by
 intro pins s σ H xs us Q I r h
 unfold jg4 at h
 split at h
 ·rename_i z
  obtain⟨u,rfl,t,rfl⟩:=jc9 r
  obtain⟨hz,q⟩:=h
  refine call_list_str (I.ok.hd hc) z t (λh' tk acc c hk hn hi=>?_) hz
  have hf:=I.hok.fresh (Ah s.heap.objs.size)
  refine⟨.ref s.heap.objs.size,upd H s.heap.objs.size (.lst (sgn z)),I.laid hk (Ah _) ⟨by rw[jq4];exact hz,acc.toList,c,jpl hi,by simpa using hn⟩,rfl,q _ hf⟩
 ·rename_i p
  obtain⟨ys,e,h⟩:=h
  rcases jet e with e|e
  ·exact ja1 pins s σ H _ us Q I r ⟨p,ys,rfl,.inl (SqL.of e),h⟩
  ·exact ja1 pins s σ H _ us Q I r ⟨p,ys,rfl,.inr (SqT.of e),h⟩
 ·exact h.elim
def jm4:V->List V->Hp->VK->Prop:=λx vs H Q=>match x,vs with
 |.ref l,[.int i]=>∃xs,jch (H l)=some xs/\0<=i/\∃y,xs[i.toNat]?=some y/\Q y (upd H l (.lst (xs.eraseIdx i.toNat)))
 |_,_=>False
theorem mt_popU:MtM X "list.pop" jm4:=by
 intro pins s σ H x vs v us Q I rx rv h
 unfold jm4 at h
 split at h
 ·rename_i l i
  obtain⟨xs,e,h0,y,hy,q⟩:=h
  have e:=jcp e
  have hz:=(I.lstM e).1
  have hlt:i.toNat<xs.length:=(Aj.mp hy).1
  have hs:sizeLine=16777216:=Uz
  refine mt_popAt pins s σ H _ _ v us Q I rx rv ⟨l,xs,i,i.toNat,y,rfl,rfl,e,by omega,by omega,?_,hy,q⟩
  exact seqIndex_of h0 (by omega)
 ·exact h.elim
def rIsU(K:PySem.W.Frag):List V->Hp->VK->Prop:=λxs H Q=>match xs with
 |[x,.ty c]=>∃t b,TyOf K H x t/\PySem.W.kitOne K t (.type c)=some b/\Q (.bl b) H
 |_=>False
theorem call_isinstanceU:jcv X (.builtin "isinstance") (rIsU X.K):=by
 intro pins s σ H xs us Q I r h
 unfold rIsU at h
 split at h
 ·rename_i x c
  obtain⟨t,b,ty,e,q⟩:=h
  obtain⟨u,w',rfl,rx,rc⟩:=jp4 r
  cases rc
  exact jnv I rx ty e λtk=>⟨.bl b,H,I.tok tk,rfl,q⟩
 ·exact h.elim
def ItS(z:Str):It:=⟨λi _=>i<z.length,λi H x H'=>H'=H/\∃c,z.cps.toList[i]?=some c/\x=.str ⟨#[c]⟩,λi _=>z.length<=i⟩
theorem joj{P:Program}{w:World}{K:PySem.W.Frag}{tg:Expr}(z:Str)(t:Tok)(it:Addr):Turn P w K tg (ItS z) [it] it (λi h=>h.IsStrIter it "str_ascii_iterator" z t i) where
 mem:=by simp
 obj:=λi h st b hb=>by
  have e:b=it:=by simpa using hb
  subst e
  obtain⟨o,e,c,d⟩:=st
  exact⟨o,e,λv z=>by rw[d]at z;cases z⟩
 keep:=λi h h' st k=>let⟨o,ho,r⟩:=st;⟨o,k it (by simp) o ho,r⟩
 item:=by
  intro X hP hw hK hc i pins s σ H E I hf st hg
  subst hP hw hK
  obtain⟨f0,f1,f2,f3,f4,f5⟩:=hf it (by simp)
  have hi:i<z.cps.size:=hg
  refine wpAny_pyNext_ascii_item st (c:=z.cps[i]) (by simp[hi]) λh' st' sb=>?_
  have I1:Inv X pins σ H {s with heap:=h',toks:=s.toks+1}:=I.turned (t':=s.toks+1) (λb o hb e=>(sb.2 b hb).trans e) f0 f1 f3 f4 f5
  obtain⟨o,e,c,d⟩:=id st'
  exact⟨_,rfl,jgu (s:={s with heap:=h',toks:=s.toks+1}) e c d (by decide) ⟨.str ⟨#[z.cps[i]]⟩,H,I1,⟨_,rfl⟩,⟨rfl,_,by simp[hi],rfl⟩,st',λb hb=>(hf b hb).1⟩⟩
 done:=by
  intro X hP hw hK hc i pins s σ H E I hf st hg
  subst hP hw hK
  obtain⟨f0,f1,f2,f3,f4,f5⟩:=hf it (by simp)
  have hi:z.cps.size<=i:=hg
  exact wpAny_pyNext_ascii_end (I.ok.hd hc) st (by simp[hi]) λh' eb=>⟨rfl,I.turned (t':=s.toks) (λb o hb e=>eb b o hb e) f0 f1 f3 f4 f5⟩
 self:=λ_ _ _ _ _ st h=>wpAny_pyIter_striter_ascii st h
theorem jok{P:Program}{w:World}{K:PySem.W.Frag}{tg:Expr}(z:Str)(t:Tok)(it:Addr):Turn P w K tg (ItS z) [it] it (λi h=>h.IsStrIter it "str_iterator" z t i) where
 mem:=by simp
 obj:=λi h st b hb=>by
  have e:b=it:=by simpa using hb
  subst e
  obtain⟨o,e,c,d⟩:=st
  exact⟨o,e,λv z=>by rw[d]at z;cases z⟩
 keep:=λi h h' st k=>let⟨o,ho,r⟩:=st;⟨o,k it (by simp) o ho,r⟩
 item:=by
  intro X hP hw hK hc i pins s σ H E I hf st hg
  subst hP hw hK
  obtain⟨f0,f1,f2,f3,f4,f5⟩:=hf it (by simp)
  have hi:i<z.cps.size:=hg
  refine wpAny_pyNext_wide_item st (c:=z.cps[i]) (by simp[hi]) λh' st' sb=>?_
  have I1:Inv X pins σ H {s with heap:=h',toks:=s.toks+1}:=I.turned (t':=s.toks+1) (λb o hb e=>(sb.2 b hb).trans e) f0 f1 f3 f4 f5
  obtain⟨o,e,c,d⟩:=id st'
  exact⟨_,rfl,jgu (s:={s with heap:=h',toks:=s.toks+1}) e c d (by decide) ⟨.str ⟨#[z.cps[i]]⟩,H,I1,⟨_,rfl⟩,⟨rfl,_,by simp[hi],rfl⟩,st',λb hb=>(hf b hb).1⟩⟩
 done:=by
  intro X hP hw hK hc i pins s σ H E I hf st hg
  subst hP hw hK
  obtain⟨f0,f1,f2,f3,f4,f5⟩:=hf it (by simp)
  have hi:z.cps.size<=i:=hg
  exact wpAny_pyNext_wide_end (I.ok.hd hc) st (by simp[hi]) λh' eb=>⟨rfl,I.turned (t':=s.toks) (λb o hb e=>eb b o hb e) f0 f1 f3 f4 f5⟩
 self:=λ_ _ _ _ _ st h=>wpAny_pyIter_striter_wide st h
def iAny(K:PySem.W.Frag)(t:TE):TI:=λσ H R=>t σ H λx H1=>match x with
 |.str z=>R (ItS z) H1
 |.ref a=>match H1 a with
  |some (.lst _)=>R (Itl K a) H1
  |some (.tup _)=>R (Itt K a) H1
  |_=>False
 |_=>False
theorem pi_any{tg l:Expr}{tl:TE}(hl:PE X l tl):PI X tg l (iAny X.K tl):=by
 intro pins s σ H R I h
 refine thn (hl pins s σ H _ I h) λv s1 ⟨x,H1,I1,r1,q1⟩=>?_
 cases x with
 |str z =>
  obtain⟨t,rfl⟩:=r1
  have fr:∀b∈[s1.heap.objs.size],FpOk X pins H1 b:=λb hb=>by
   have e:b=s1.heap.objs.size:=by simpa using hb
   subst e
   exact I1.fpOk (Ah _) (I1.hok.fresh (Ah _))
  cases ha:z.cps.all (·<128)
  ·exact wpAny_pyIter_wide ha ⟨s1.heap.objs.size,[s1.heap.objs.size],_,_,H1,rfl,I1.kept (t':=s1.toks) λb o e=>Ad _ e,jok z t _,⟨_,An _ rfl,rfl,rfl⟩,fr,q1⟩
  ·exact wpAny_pyIter_ascii ha ⟨s1.heap.objs.size,[s1.heap.objs.size],_,_,H1,rfl,I1.kept (t':=s1.toks) λb o e=>Ad _ e,joj z t _,⟨_,An _ rfl,rfl,rfl⟩,fr,q1⟩
 |ref a =>
  cases r1
  have fr:∀b∈[s1.heap.objs.size],FpOk X pins H1 b:=λb hb=>by
   have e:b=s1.heap.objs.size:=by simpa using hb
   subst e
   exact I1.fpOk (Ah _) (I1.hok.fresh (Ah _))
  simp only at q1
  split at q1
  ·rename_i xs e
   obtain⟨its,rv,p,hz⟩:=I1.list (SqL.of e)
   exact wpAny_pyIter_list p.isList ⟨s1.heap.objs.size,[s1.heap.objs.size],_,_,H1,rfl,I1.kept (t':=s1.toks) λb o e=>Ad _ e,joi a _,⟨_,An _ rfl,rfl,rfl⟩,fr,q1⟩
  ·rename_i xs e
   obtain⟨its,rv,p,hz⟩:=I1.tuple (SqT.of e)
   exact Ya (show s1.heap.IsTuple a its.toArray from p) ⟨s1.heap.objs.size,[s1.heap.objs.size],_,_,H1,rfl,I1.kept (t':=s1.toks) λb o e=>Ad _ e,jnd a _,⟨_,An _ rfl,rfl,rfl⟩,fr,q1⟩
  ·exact q1.elim
 |_=>exact False.elim q1
mutual
def Rep(H:Hp):V->PyData->Prop
 |v,.none=>v=.non
 |v,.bool b=>v=.bl b
 |v,.int i=>v=.int i
 |v,.str x=>v=.str x
 |v,.list ds=>∃a vs,v=.ref a/\H a=some (.lst vs)/\Reps H vs ds
 |v,.tuple ds=>∃a vs,v=.ref a/\H a=some (.tup vs)/\Reps H vs ds
 |_,.dict _=>False
def Reps(H:Hp):List V->List PyData->Prop
 |[],[]=>True
 |v::vs,d::ds=>Rep H v d/\Reps H vs ds
 |_,_=>False
end
section
variable{pins:List (Addr×Obj)}{σ:L2.St}{H:Hp}{s:Shared}
mutual
theorem Rep.reads(I:Inv X pins σ H s):∀{d:PyData}{v:V}{u:Value},Rep H v d->RelV v u->∃as,Reads s.heap u d as
 |.none,v,u,h,r=>by simp only[Rep]at h;subst h;cases r;exact⟨_,.none⟩
 |.bool b,v,u,h,r=>by simp only[Rep]at h;subst h;cases r;exact⟨_,.bool b⟩
 |.int i,v,u,h,r=>by simp only[Rep]at h;subst h;obtain⟨t,rfl⟩:=r;exact⟨_,.int i t⟩
 |.str x,v,u,h,r=>by simp only[Rep]at h;subst h;obtain⟨t,rfl⟩:=r;exact⟨_,.str x t⟩
 |.list ds,v,u,h,r=>by
  simp only[Rep]at h
  obtain⟨a,vs,rfl,e,h⟩:=h
  cases r
  obtain⟨its,rv,⟨o,n,e1,e2,e3,e4⟩,hz⟩:=I.list (SqL.of e)
  obtain⟨as,q⟩:=Reps.reads I h rv
  exact⟨_,reads_list_at e1 e2 e4 (by simpa using q)⟩
 |.tuple ds,v,u,h,r=>by
  simp only[Rep]at h
  obtain⟨a,vs,rfl,e,h⟩:=h
  cases r
  obtain⟨its,rv,⟨o,e1,e2,n,e4⟩,hz⟩:=I.tuple (SqT.of e)
  obtain⟨as,q⟩:=Reps.reads I h rv
  exact⟨_,reads_tuple_at e1 e2 e4 (by simpa using q)⟩
 |.dict _,v,u,h,r=>by simp only[Rep]at h
theorem Reps.reads(I:Inv X pins σ H s):∀{ds:List PyData}{vs:List V}{us:List Value},Reps H vs ds->Vals vs us->∃as,ReadsAll s.heap us ds as
 |[],[],us,h,r=>by cases r;exact⟨_,.nil⟩
 |[],v::vs,us,h,r=>by simp only[Reps]at h
 |d::ds,[],us,h,r=>by simp only[Reps]at h
 |d::ds,v::vs,us,h,r=>by
  simp only[Reps]at h
  cases r with
  |cons r1 r2 =>
   obtain⟨as,q⟩:=Rep.reads I h.1 r1
   obtain⟨bs,q2⟩:=Reps.reads I h.2 r2
   exact⟨_,.cons q q2⟩
end
end
def rEqD:R2:=λx y H Q=>∃d e,Rep H x d/\Rep H y e/\SeqAt.shaped d=true/\SeqAt.shaped e=true/\Q (.bl (PyData.eqv d e)) H
theorem op_eqD(hu:X.A.units+64<cLine):OpR X (compareOp .Eq) rEqD:=by
 intro pins s σ H x y v u Q I rx ry h
 obtain⟨d,e,hd,he,sd,se,q⟩:=h
 obtain⟨as,r1⟩:=hd.reads I rx
 obtain⟨bs,r2⟩:=he.reads I ry
 exact eq_dataH r1 r2 sd se hu ⟨.bl _,H,I,rfl,q⟩
def rNeD:R2:=λx y H Q=>∃d e,Rep H x d/\Rep H y e/\SeqAt.shaped d=true/\SeqAt.shaped e=true/\Q (.bl (!PyData.eqv d e)) H
theorem op_neD(hu:X.A.units+64<cLine):OpR X (compareOp .NotEq) rNeD:=by
 intro pins s σ H x y v u Q I rx ry h
 obtain⟨d,e,hd,he,sd,se,q⟩:=h
 obtain⟨as,r1⟩:=hd.reads I rx
 obtain⟨bs,r2⟩:=he.reads I ry
 exact ne_dataH r1 r2 sd se hu ⟨.bl _,H,I,rfl,q⟩
end
theorem ky:bootBuiltins "len"=some (.builtin "len"):=by decide +kernel
theorem bt_min:bootBuiltins "min"=some (.builtin "min"):=by decide +kernel
theorem zf:bootBuiltins "isinstance"=some (.builtin "isinstance"):=by decide +kernel
theorem bt_sum:bootBuiltins "sum"=some (.builtin "sum"):=by decide +kernel
theorem bt_sorted:bootBuiltins "sorted"=some (.builtin "sorted"):=by decide +kernel
theorem jaz:bootBuiltins "int"=some (.type "int"):=by decide +kernel
theorem jbf:bootBuiltins "list"=some (.type "list"):=by decide +kernel
theorem zg:bootBuiltins "tuple"=some (.type "tuple"):=by decide +kernel
theorem jbv:bootBuiltins "str"=some (.type "str"):=by decide +kernel
theorem bt_set:bootBuiltins "set"=some (.type "set"):=by decide +kernel
theorem jay:bootBuiltins "enumerate"=some (.type "enumerate"):=by decide +kernel
section
variable{X:Cx}
def isL(x:V)(H:Hp):Prop:=match x with
 |.ref p=>(jch (H p)).isSome=true
 |_=>False
def tBML(r:V->List V->Hp->VK->Prop)(to:TE)(t:TA):TE:=λσ H Q=>to σ H λx H1=>isL x H1/\t σ H1 λxs H2=>r x xs H2 Q
theorem isL.ty{K:PySem.W.Frag}{x:V}{H:Hp}(h:isL x H):tyV K "list" x H:=by
 unfold isL at h
 split at h
 ·rename_i p
  cases e:jch (H p)with
  |none=>rw[e]at h;cases h
  |some ys=>exact .inl ⟨rfl,ys,SqL.of (jcp e)⟩
 ·exact h.elim
variable{o e:Expr}{es:List Expr}{to:TE}{t:TA}{name:Str}{apos cpos:Pos}{id:String}{r:V->List V->Hp->VK->Prop}
theorem PE.imp{e:Expr}{t t':TE}(h:PE X e t)(hi:∀σ H Q,t' σ H Q->t σ H Q):PE X e t':=λpins s σ H Q I hw=>h pins s σ H Q I (hi σ H Q hw)
theorem pe_bmL(slot:Slot "list" name id)(hty:typeOf (.builtin id)=pure (.type "method_descriptor"))(hm:MtM X id r)(ho:PE X o to)(ha:PA X (e::es) t)(mono:∀σ H Q Q',(∀v H',Q v H'->Q' v H')->to σ H Q->to σ H Q')
  (hbase:attributeBase o name X.env (eval o X.env)=eval o X.env:=by rfl)
  (hfew:((backTo cpos (starEach (e::es) X.env)).all (λx=>!x.1) && (backToKw cpos (keywordEach [] X.env)).all (λx=>x.1.isSome)
   && decide ((e::es).length+([]:List Keyword).length+(if([]:List Keyword).isEmpty then 0 else 1)<30))=true:=by rfl)
  (hline:(apos.endLine == cpos.line)=true:=by rfl) (hs:starEach (e::es) X.env=(false,eval e X.env)::starEach es X.env:=by rfl) (hplain:(backTo cpos (starEach es X.env)).any (·.1)=false:=by rfl) :
  PE X (.Call (.Attribute o name apos) (e::es) [] cpos) (tBML r to t) :=
 (jce PySem.F.plainAttrs_list slot hty hm ho ha hbase hfew hline hs hplain).imp λσ H Q h=>mono σ H _ _ (λv H' q=>⟨q.1.ty,q.2⟩) h
def jje(r:V->List V->Hp->VK->Prop)(to:TE):TE:=λσ H Q=>to σ H λx H1=>isL x H1/\r x [] H1 Q
theorem pe_bmL0(slot:Slot "list" name id)(hty:typeOf (.builtin id)=pure (.type "method_descriptor"))(hm:MtM X id r)(ho:PE X o to)(mono:∀σ H Q Q',(∀v H',Q v H'->Q' v H')->to σ H Q->to σ H Q')
  (hbase:attributeBase o name X.env (eval o X.env)=eval o X.env:=by rfl) (hline:(apos.endLine == cpos.line)=true:=by rfl):PE X (.Call (.Attribute o name apos) [] [] cpos) (jje r to) :=
 (pe_bm0 PySem.F.plainAttrs_list slot hty hm ho hbase hline).imp λσ H Q h=>mono σ H _ _ (λv H' q=>⟨q.1.ty,q.2⟩) h
theorem jcl{i:Nat}:∀σ H Q Q',(∀v H',Q v H'->Q' v H')->tVar i σ H Q->tVar i σ H Q':=λ_ _ _ _ h ⟨v,e,q⟩=>⟨v,e,h v _ q⟩
def jeu:V->List V->Hp->VK->Prop:=λx vs H Q=>match x,vs with
 |.ref l,[y]=>∃xs,jch (H l)=some xs/\xs.length<sizeLine/\Q .non (upd H l (.lst (xs++[y])))
 |_,_=>False
theorem j8:MtM X "list.append" jeu:=by
 intro pins s σ H x vs v us Q I rx rv h
 unfold jeu at h
 split at h
 ·rename_i l y
  obtain⟨xs,e,h⟩:=h
  exact ja2 pins s σ H _ _ v us Q I rx rv ⟨l,xs,y,rfl,rfl,jcp e,h⟩
 ·exact h.elim
def jgg:V->List V->Hp->VK->Prop:=λx vs H Q=>match x,vs with
 |.ref l,[.ref b]=>∃xs,jch (H l)=some xs/\∃zs,jch (H b)=some zs/\xs.length+zs.length<=sizeLine/\Q .non (upd H l (.lst (xs++zs)))
 |_,_=>False
theorem mt_extendU:MtM X "list.extend" jgg:=by
 intro pins s σ H x vs v us Q I rx rv h
 unfold jgg at h
 split at h
 ·rename_i l b
  obtain⟨xs,e1,zs,e2,h⟩:=h
  exact mt_extend pins s σ H _ _ v us Q I rx rv ⟨l,b,xs,zs,rfl,rfl,jcp e1,jcp e2,h⟩
 ·exact h.elim
def rEqU:R2:=λx y H Q=>match x,y with
 |.int i,.int j=>Q (.bl (decide (i=j))) H
 |.bl i,.bl j=>Q (.bl (decide (i=j))) H
 |.str i,.str j=>Q (.bl (decide (i=j))) H
 |.ref a,.ref b=>rEqD (.ref a) (.ref b) H Q
 |x,y=>scal x y=true/\Q (.bl (decide (x=y))) H
def rNeU:R2:=λx y H Q=>match x,y with
 |.int i,.int j=>Q (.bl (!decide (i=j))) H
 |.bl i,.bl j=>Q (.bl (!decide (i=j))) H
 |.str i,.str j=>Q (.bl (!decide (i=j))) H
 |.ref a,.ref b=>rNeD (.ref a) (.ref b) H Q
 |x,y=>scal x y=true/\Q (.bl (!decide (x=y))) H
theorem kz(hu:X.A.units+64<cLine):OpR X (compareOp .Eq) rEqU:=by
 intro pins s σ H x y v u Q I rx ry h
 unfold rEqU at h
 split at h
 ·exact jbt pins s σ H _ _ v u Q I rx ry ⟨rfl,by simpa using h⟩
 ·exact jbt pins s σ H _ _ v u Q I rx ry ⟨rfl,by simpa using h⟩
 ·exact jbt pins s σ H _ _ v u Q I rx ry ⟨rfl,by simpa using h⟩
 ·exact op_eqD hu pins s σ H _ _ v u Q I rx ry h
 ·exact jbt pins s σ H _ _ v u Q I rx ry h
theorem jbd(hu:X.A.units+64<cLine):OpR X (compareOp .NotEq) rNeU:=by
 intro pins s σ H x y v u Q I rx ry h
 unfold rNeU at h
 split at h
 ·exact jbu pins s σ H _ _ v u Q I rx ry ⟨rfl,by simpa using h⟩
 ·exact jbu pins s σ H _ _ v u Q I rx ry ⟨rfl,by simpa using h⟩
 ·exact jbu pins s σ H _ _ v u Q I rx ry ⟨rfl,by simpa using h⟩
 ·exact op_neD hu pins s σ H _ _ v u Q I rx ry h
 ·exact jbu pins s σ H _ _ v u Q I rx ry h
theorem jkf(H:Hp)(Q:VK)(i j:Int):rLtU (.int i) (.int j) H Q=(Q (.bl (decide (i<j))) H):=rfl
theorem jkg(H:Hp)(Q:VK)(i j:Str):rLtU (.str i) (.str j) H Q=(Q (.bl (decide (i.cps.toList<j.cps.toList))) H):=rfl
theorem jkd(H:Hp)(Q:VK)(i j:Int):rLeU (.int i) (.int j) H Q=(Q (.bl (decide (i<=j))) H):=rfl
theorem jke(H:Hp)(Q:VK)(i j:Str):rLeU (.str i) (.str j) H Q=(Q (.bl (!decide (j.cps.toList<i.cps.toList))) H):=rfl
theorem jgh(H:Hp)(Q:VK)(z:Str)(i:Int):rIxU (.str z) (.int i) H Q=(z.length<=sizeLine/\∃c,atI z.cps.toList i=some c/\Q (.str ⟨#[c]⟩) H):=rfl
theorem jd5(H:Hp)(Q:VK)(p:Addr)(i:Int):rIxU (.ref p) (.int i) H Q=(∃xs,jcy (H p)=some xs/\∃v,atI xs i=some v/\Q v H):=rfl
theorem jio(H:Hp)(Q:VK)(z:Str):jjb [.str z] H Q=(z.length<=sizeLine/\Q (.int z.length) H):=rfl
theorem jfd(H:Hp)(Q:VK)(p:Addr):jjb [.ref p] H Q=(∃ys,jcy (H p)=some ys/\Q (.int ys.length) H):=rfl
theorem jip(H:Hp)(Q:VK)(i j:Int):jm2 [.int i,.int j] H Q=(Q (.int (if j<i then j else i)) H):=rfl
theorem jin(H:Hp)(Q:VK)(i:Int):jja [.int i] H Q=(Q (.int i) H):=rfl
theorem jkc(H:Hp)(Q:VK)(k:Bool):jja [.bl k] H Q=(Q (.int (if k then 1 else 0)) H):=rfl
theorem jg6(H:Hp)(Q:VK)(z:Str):jg4 [.str z] H Q=(z.length<=sizeLine/\∀l,H l=none->Q (.ref l) (upd H l (.lst (sgn z)))):=rfl
theorem jg5(H:Hp)(Q:VK)(p:Addr):jg4 [.ref p] H Q=(∃ys,jcy (H p)=some ys/\∀l,H l=none->Q (.ref l) (upd H l (.lst ys))):=rfl
theorem jis(H:Hp)(Q:VK)(l:Addr)(i:Int):jm4 (.ref l) [.int i] H Q=(∃xs,jch (H l)=some xs/\0<=i/\∃y,xs[i.toNat]?=some y/\Q y (upd H l (.lst (xs.eraseIdx i.toNat)))):=rfl
theorem jc1(H:Hp)(Q:VK)(l:Addr)(y:V):jeu (.ref l) [y] H Q=(∃xs,jch (H l)=some xs/\xs.length<sizeLine/\Q .non (upd H l (.lst (xs++[y])))):=rfl
theorem jfc(H:Hp)(Q:VK)(l b:Addr):jgg (.ref l) [.ref b] H Q=(∃xs,jch (H l)=some xs/\∃zs,jch (H b)=some zs/\xs.length+zs.length<=sizeLine/\Q .non (upd H l (.lst (xs++zs)))):=rfl
theorem jj8(H:Hp)(Q:VK)(i j:Int):rEqU (.int i) (.int j) H Q=(Q (.bl (decide (i=j))) H):=rfl
theorem jl0(H:Hp)(Q:VK)(i j:Bool):rEqU (.bl i) (.bl j) H Q=(Q (.bl (decide (i=j))) H):=rfl
theorem jev(H:Hp)(Q:VK)(i j:Str):rEqU (.str i) (.str j) H Q=(Q (.bl (decide (i=j))) H):=rfl
theorem jj9(H:Hp)(Q:VK)(i j:Addr):rEqU (.ref i) (.ref j) H Q=(rEqD (.ref i) (.ref j) H Q):=rfl
theorem jkh(H:Hp)(Q:VK)(i j:Int):rNeU (.int i) (.int j) H Q=(Q (.bl (!decide (i=j))) H):=rfl
theorem jl3(H:Hp)(Q:VK)(i j:Bool):rNeU (.bl i) (.bl j) H Q=(Q (.bl (!decide (i=j))) H):=rfl
theorem jgi(H:Hp)(Q:VK)(i j:Str):rNeU (.str i) (.str j) H Q=(Q (.bl (!decide (i=j))) H):=rfl
theorem jki(H:Hp)(Q:VK)(i j:Addr):rNeU (.ref i) (.ref j) H Q=(rNeD (.ref i) (.ref j) H Q):=rfl
theorem jl2(K:PySem.W.Frag)(x:V)(c:String)(H:Hp)(Q:VK):rIsU K [x,.ty c] H Q=(∃t b,TyOf K H x t/\PySem.W.kitOne K t (.type c)=some b/\Q (.bl b) H):=rfl
theorem jit(p:Addr)(k:Int)(v:V)(H:Hp)(Q:Hp->Prop):jp0 (.ref p) (.int k) v H Q=(∃xs,jch (H p)=some xs/\∃j,ixN xs.length k=some j/\Q (upd H p (.lst (xs.set j v)))):=rfl
theorem jls(p:Addr)(H:Hp):isL (.ref p) H=((jch (H p)).isSome=true):=rfl
def jc8(J:It)(g:TG)(tb:TS)(D:Ends)(σ:L2.St)(H1:Hp):Prop:=∃W:Nat->Nat->L2.St->Hp->Prop,(∃m,W 0 m σ H1)/\∀i m σ H,W i m σ H ->
 (J.stop i H/\D.nx σ H)\/(J.go i H/\∃N:L2.St->Hp->Prop,(∀σ' H',N σ' H'->∃m',m'<m/\W (i+1) m' σ' H')/\∀x H',J.yld i H x H'->g x σ H' λσ2 H2=>tb {D with nx:=N,ct:=N,bk:=D.nx} σ2 H2)
theorem jmb(wi:TI)(g:TG)(tb:TS)(D:Ends)(σ:L2.St)(H:Hp):tFor wi g tb D σ H=wi σ H λJ H1=>jc8 J g tb D σ H1:=rfl
theorem jdv{lo:Int}{n:Nat}{g:TG}{tb:TS}{D:Ends}{σ:L2.St}{H:Hp}(Pv:Nat->L2.St->Hp->Prop)(h0:Pv 0 σ H)
  (hs:∀i σ H,i<n->Pv i σ H->g (.int (lo+i)) σ H λσ2 H2=>tb {D with nx:=Pv (i+1),ct:=Pv (i+1),bk:=D.nx} σ2 H2) (hd:∀σ H,Pv n σ H->D.nx σ H):jc8 (Itr lo n) g tb D σ H:=jnr Pv h0 hs hd
theorem je7{K:PySem.W.Frag}{a:Addr}{xs:List V}{g:TG}{tb:TS}{D:Ends}{σ:L2.St}{H:Hp}(Pv:Nat->L2.St->Hp->Prop)(h0:Pv 0 σ H)(hl:∀i σ H,i<=xs.length->Pv i σ H->H a=some (.lst xs))
  (hs:∀i x σ H,xs[i]?=some x->Pv i σ H->g x σ H λσ2 H2=>tb {D with nx:=Pv (i+1),ct:=Pv (i+1),bk:=D.nx} σ2 H2) (hd:∀σ H,Pv xs.length σ H->D.nx σ H):jc8 (Itl K a) g tb D σ H :=
 jow Pv h0 (λi σ H h p=>SqL.of (hl i σ H h p)) hs hd
theorem jd4{K:PySem.W.Frag}{a:Addr}{xs:List V}{g:TG}{tb:TS}{D:Ends}{σ:L2.St}{H:Hp}(Pv:Nat->L2.St->Hp->Prop)(h0:Pv 0 σ H)(hl:∀i σ H,i<=xs.length->Pv i σ H->H a=some (.tup xs))
  (hs:∀i x σ H,xs[i]?=some x->Pv i σ H->g x σ H λσ2 H2=>tb {D with nx:=Pv (i+1),ct:=Pv (i+1),bk:=D.nx} σ2 H2) (hd:∀σ H,Pv xs.length σ H->D.nx σ H):jc8 (Itt K a) g tb D σ H :=
 jqe Pv h0 (λi σ H h p=>SqT.of (hl i σ H h p)) hs hd
end
def clOf(env:Env):List (Str×NameKind)->List (Str×Addr)->List (Str×Addr)
 |[],cs=>cs
 |(n,k)::r,cs=>clOf env r (if k == .free then(n,(env.cells.lookup n).getD 0)::cs else cs)
theorem jem{env:Env}{scope:Scope}(h:∀y∈scope.names,y.2=.free->∃c,env.cells.lookup y.1=some c):closureFor scope env=pure (clOf env scope.names []):=by
 have gen:∀(l:List (Str×NameKind))(cs:List (Str×Addr)),(∀y∈l,y.2=.free->∃c,env.cells.lookup y.1=some c) ->
   (forIn l cs λx r=>(match x with|(name,kind)=>if(kind == NameKind.free)=true then do let c <-cellOf env name;pure (ForInStep.yield ((name,c)::r))else pure (ForInStep.yield r)):Sem (List (Str×Addr)))=pure (clOf env l cs):=by
  intro l
  induction l with
  |nil=>intro cs _;rfl
  |cons y l ih =>
   intro cs hy
   obtain⟨n,k⟩:=y
   rw[List.forIn_cons]
   have hr:=λz hz=>hy z (Ib _ hz)
   by_cases hk:k=.free
   ·subst hk
    obtain⟨c,hc⟩:=hy _ (Ol ..) rfl
    have hc':env.cells.lookup n=some c:=hc
    have e:cellOf env n=pure c:=by unfold cellOf;rw[hc']
    simp only[Uv,O0,e,pure_bind]
    rw[ih _ hr]
    simp[clOf,hc']
   ·have hb:(k == NameKind.free)=false:=by simpa using hk
    simp only[hb,Ip,Ov,pure_bind]
    rw[ih _ hr]
    simp[clOf,hb]
 exact(Od (· >>= λs=>pure s) (gen scope.names [] h)).trans (by rfl)
theorem jf8{env:Env}:∀(l:List (Str×NameKind))(cs:List (Str×Addr))(x:Str)(c:Addr),(∀y∈l,y.2=.free->∃c,env.cells.lookup y.1=some c)->(∀x c,cs.lookup x=some c->env.cells.lookup x=some c) ->
  (clOf env l cs).lookup x=some c->env.cells.lookup x=some c
 |[],cs,x,c,_,hc,h=>hc x c h
 |(n,k)::r,cs,x,c,hl,hc,h=>by
  unfold clOf at h
  refine jf8 r _ x c (λy hy=>hl y (Ib _ hy)) (λz d hz=>?_) h
  split at hz
  ·rename_i hk
   rw[List.lookup_cons]at hz
   cases hzn:z == n with
   |true =>
    rw[hzn]at hz
    obtain⟨c',hc'⟩:=hl _ (Ol ..) (by simpa using hk)
    have hc'':env.cells.lookup n=some c':=hc'
    have ez:z=n:=by simpa using hzn
    subst ez
    rw[hc'']at hz
    rw[hc'']
    exact hz
   |false=>rw[hzn]at hz;exact hc z d hz
  ·exact hc z d hz
theorem jib{env:Env}:∀(l:List (Str×NameKind))(cs:List (Str×Addr))(x:Str),(∃c,cs.lookup x=some c)->∃c,(clOf env l cs).lookup x=some c
 |[],cs,x,h=>h
 |(n,k)::r,cs,x,h=>by
  unfold clOf
  refine jib r _ x ?_
  split
  ·rw[List.lookup_cons]
   cases x == n with
   |true=>exact⟨_,rfl⟩
   |false=>exact h
  ·exact h
theorem jf7{env:Env}:∀(l:List (Str×NameKind))(cs:List (Str×Addr))(x:Str),(x,NameKind.free)∈l->∃c,(clOf env l cs).lookup x=some c
 |(n,k)::r,cs,x,h=>by
  unfold clOf
  rcases Aw.mp h with h|h
  ·cases h
   refine jib r _ _ ?_
   simp[List.lookup_cons]
  ·exact jf7 r _ x h
abbrev Cx.comp(X:Cx)(scope:Scope)(C:Addr)(Nc:List Str)(s3:Shared)(H3:Hp)(fp:List Addr):Cx :=
 {X with N:=Nc,s₀:=s3,H₀:=H3,env:=compEnvC scope (clOf X.env scope.names []) C X.env,outer:=X.stack,stack:=X.stack,ex:=fp,fn:=λ_=>false,pn:=[],xe:=λ_ _=>False}
def jdh(js:List (Option Nat))(σ:L2.St):L2.St:=js.map λo=>o.bind λj=>(σ[j]?).getD none
def jec(D:Addr)(te:TE):TS:=λE σ H=>te σ H λv H1=>∃ys,jch (H1 D)=some ys/\ys.length<sizeLine/\E.nx σ (upd H1 D (.lst (ys++[v])))
def jjg(wi:TI)(g:TG)(js:List (Option Nat))(te:TE):TE:=λσ H Q=>wi σ H λJ H1=>∀D,H1 D=none ->
 jc8 J g (jec D te) {nx:=λ_ H'=>Q (.ref D) H',rt:=λ_ _=>False} (jdh js σ) (upd H1 D (.lst []))
structure CompOk(X:Cx)(scope:Scope)(Nc:List Str)(js:List (Option Nat)):Prop where
 kind:scope.kind=.function
 nocell:∀y∈scope.names,y.2≠.cell
 loc:∀y∈scope.names,y.2=.local->scope.names.lookup y.1=some .local
 free:∀y∈scope.names,y.2=.free->X.env.kindOf y.1=some .cell\/X.env.kindOf y.1=some .free
 len:js.length=Nc.length
 nol:∀x,(x,NameKind.free)∈scope.names->scope.names.lookup x≠some .local
 see:∀(i j:Nat)(x:Str),js[i]?=some (some j)->Nc[i]?=some x->X.N[j]?=some x/\(x,NameKind.free)∈scope.names
section
variable{X:Cx}{pins:List (Addr×Obj)}{σ:L2.St}{H:Hp}{s:Shared}{scope:Scope}{Nc:List Str}{js:List (Option Nat)}{fp:List Addr}
theorem CompOk.has(c:CompOk X scope Nc js)(I:Inv X pins σ H s):∀y∈scope.names,y.2=.free->∃a,X.env.cells.lookup y.1=some a:=λy hy hf=>I.ok.has _ (c.free y hy hf)
theorem jfe{env:Env}{x:Str}:∀{l:List (Str×NameKind)},(∀y∈l,y.2≠.cell) ->
  ((l.map fun(n,k)=>if(k == NameKind.free && env.scope.kind == .function && env.kindOf n == some .cell)then(n,NameKind.cell)else(n,k)).lookup x=some .cell \/
   (l.map fun(n,k)=>if(k == NameKind.free && env.scope.kind == .function && env.kindOf n == some .cell)then(n,NameKind.cell)else(n,k)).lookup x=some .free)->(x,NameKind.free)∈l
 |[],_,h=>by simp at h
 |(n,k)::r,hc,h=>by
  rw[Ay]at h
  by_cases hx:x=n
  ·subst hx
   have hk:k=.free:=by
    have hk':k≠.cell:=hc _ (Ol ..)
    by_cases hcond:(k == NameKind.free && env.scope.kind == .function && env.kindOf x == some .cell)=true
    ·rw[Ob,Ob]at hcond
     simpa using hcond.1.1
    ·simp only[hcond,Ip,Ov,List.lookup_cons,Uv]at h
     rcases h with h|h
     ·exact absurd (Av h) hk'
     ·exact Av h
   subst hk
   exact Ol ..
  ·refine Ib _ (jfe (env:=env) (λy hy=>hc y (Ib _ hy)) ?_)
   have hxn:(x == n)=false:=by simpa using hx
   by_cases hcond:(k == NameKind.free && env.scope.kind == .function && env.kindOf n == some .cell)=true
   ·simpa only[hcond,O0,List.lookup_cons,hxn]using h
   ·simpa only[hcond,Ip,Ov,List.lookup_cons,hxn]using h
theorem jf3{env:Env}{x:Str}:∀{l:List (Str×NameKind)},
  (l.map fun(n,k)=>if(k == NameKind.free && env.scope.kind == .function && env.kindOf n == some .cell)then(n,NameKind.cell)else(n,k)).lookup x=some .local->l.lookup x=some .local
 |[],h=>by simp at h
 |(n,k)::r,h=>by
  rw[Ay]at h
  by_cases hx:x=n
  ·subst hx
   by_cases hcond:(k == NameKind.free && env.scope.kind == .function && env.kindOf x == some .cell)=true
   ·simp only[hcond,O0,List.lookup_cons,Uv]at h
    cases h
   ·simp only[hcond,Ip,Ov,List.lookup_cons,Uv]at h
    simp only[List.lookup_cons,Uv]
    exact h
  ·have hxn:(x == n)=false:=by simpa using hx
   rw[List.lookup_cons,hxn]
   refine jf3 (env:=env) ?_
   by_cases hcond:(k == NameKind.free && env.scope.kind == .function && env.kindOf n == some .cell)=true
   ·simpa only[hcond,O0,List.lookup_cons,hxn]using h
   ·simpa only[hcond,Ip,Ov,List.lookup_cons,hxn]using h
theorem jqc(c:CompOk X scope Nc js)(I:Inv X pins σ H s)(hf:∀b∈fp,FpOk X pins H b)(ho:∀b∈fp,∃o,s.heap.get? b=some o):(X.comp scope s.heap.objs.size Nc s H fp).Ok:=by
 have hs:=c.has I
 have sub:∀x a,(clOf X.env scope.names []).lookup x=some a->X.env.cells.lookup x=some a:=λx a=>jf8 _ _ x a hs (λ_ _ z=>nomatch z)
 refine⟨I.ok.mod,c.kind,I.ok.glob,I.ok.blt,Ah _,λx y a e1 e2=>I.ok.inj x y a (sub x a e1) (sub y a e2),λx h=>jf7 _ _ x (jfe (env:=X.env) c.nocell h),(λx a h=>nomatch h),I.ok.hd,I.ok.frames,.inl rfl,λb hb=>⟨?_,λx a e=>?_⟩,I.bs,
  Ih I.ok.bsz I.sz,λb o e hb=>?_,λb hb hb'=>?_,I.stack,I.stkFree⟩
 ·obtain⟨o,e⟩:=ho b hb
  exact Ap (Am e)
 ·exact(hf b hb).2.2.2.2.1 x a (sub x a e)
 ·rcases(hf b hb).2.2.2.1 with z|z
  ·exact I.ok.noex b o e z
  ·exact absurd (Au (Am (I.ok.bs b o e).1) z) (Oy _)
 ·rcases Aw.mp (I.stkSub b hb')with z|z
  ·exact(hf b hb).2.1 z
  ·exact(hf b hb).2.2.1 z
theorem jjv(c:CompOk X scope Nc js)(I:Inv X pins σ H s)(hf:∀b∈fp,FpOk X pins H b)(ho:∀b∈fp,∃o,s.heap.get? b=some o){h':Heap}{m:Str->Option Value}{tk:Nat}(hn:h'.Ns s.heap.objs.size m)
  (hk:∀b o,s.heap.get? b=some o->h'.get? b=some o):Inv (X.comp scope s.heap.objs.size Nc s H fp) [] (jdh js σ) H {s with heap:=h',toks:=tk}:=by
 have hs:=c.has I
 have sub:∀x a,(clOf X.env scope.names []).lookup x=some a->X.env.cells.lookup x=some a:=λx a=>jf8 _ _ x a hs (λ_ _ z=>nomatch z)
 refine⟨jqc c I hf ho,rfl,I.bare,Un.kept hk,⟨m,hn,λi x v e1 e2 e3=>?_⟩,λx a e=>?_,I.hok.fresh (Ah _),λx a e=>I.freeC x a (sub x a e),(λp hp=>nomatch hp),I.hok.kept hk,by simp only[jdh,Ab];exact c.len⟩
 ·have e2':(jdh js σ)[i]?=some (some v):=e2
  unfold jdh at e2'
  rw[Ao]at e2'
  cases ej:js[i]? with
  |none=>rw[ej]at e2';cases e2'
  |some o =>
   rw[ej]at e2'
   cases o with
   |none=>cases e2'
   |some j =>
    have e4:(σ[j]?).getD none=some v:=Av e2'
    have e5:σ[j]?=some (some v):=by
     cases q:σ[j]? with
     |none=>rw[q]at e4;cases e4
     |some w=>rw[q]at e4;exact Od some e4
    obtain⟨n1,n2⟩:=c.see i j x ej e1
    have hkd:=c.free _ n2 rfl
    obtain⟨a,ha⟩:=jf7 (env:=X.env) scope.names [] x n2
    obtain⟨m0,_,hl⟩:=I.loc
    obtain⟨u,r,l⟩:=hl j x v n1 e5 (by
     rcases hkd with z|z
     ·exact .inr (.inl z)
     ·exact .inr (.inr z))
    refine⟨u,r,?_⟩
    rcases l with⟨k,_⟩|⟨_,a',ha',hcell⟩
    ·rcases hkd with z|z
     ·rw[z]at k;cases k
     ·rw[z]at k;cases k
    ·have:a'=a:=Av (ha'.symm.trans (sub x a ha))
     subst this
     refine .inr ⟨?_,a',ha,?_⟩
     ·rcases e3 with z|z|z
      ·exfalso
       have q:(relabel scope X.env).names.lookup x=some .local:=z
       exact c.nol x n2 (jf3 q)
      ·exact .inl z
      ·exact .inr z
     ·obtain⟨o,q,d⟩:=hcell
      exact⟨o,hk _ o q,d⟩
 ·obtain⟨v,o,q,d⟩:=I.cell x a (sub x a e)
  exact⟨v,o,hk _ o q,d⟩
theorem jen(I:Inv X pins σ H s)(hf:∀b∈fp,FpOk X pins H b){σ':L2.St}{H':Hp}{s':Shared}{h'':Heap}(J:Inv (X.comp scope s.heap.objs.size Nc s H fp) [] σ' H' s')(hs:Heap.SameBut s.heap.objs.size s'.heap h'') :
  Inv X pins σ H' {s' with heap:=h''}:=by
 have ne:∀b o,s.heap.get? b=some o->b≠s.heap.objs.size:=λb o e=>Ap (Am e)
 have u:Un (frs X.stack) fp H H' s.heap s'.heap:=J.base
 refine I.call' (s':={s' with heap:=h''}) (ch:=fp) J.os ⟨λb o e n hb hx=>?_,λb o e n hb hx=>?_,u.free,λb o e hx=>?_,u.tups,u.frzs,u.tbls⟩ (λb o e=>?_) J.bare λb hb=>?_
 ·exact(hs.2 b (ne b o e)).trans (u.keep b o e n hb hx)
 ·obtain⟨sl,q⟩:=u.slot b o e n hb hx
  exact⟨sl,(hs.2 b (ne b o e)).trans q⟩
 ·obtain⟨o',q⟩:=u.there b o e hx
  exact⟨o',(hs.2 b (ne b o e)).trans q⟩
 ·have hC:H' s.heap.objs.size=none:=J.free
  refine(J.hok b o e).stay (λd v hd q=>(hs.2 d ?_).trans q) (λ_ q=>q) λ_ _ q=>q
  rintro rfl
  rcases hd with z|z
  ·rw[<-z,hC]at e;cases e
  ·rw[hC]at z;cases z
 ·obtain⟨_,f1,_,f3,f4,f5⟩:=hf b hb
  exact⟨f3,f1,f4,f5⟩
end
section
variable{X:Cx}{scope:Scope}{Nc:List Str}{js:List (Option Nat)}{elt tg iter:Expr}{pos:Pos}{wi:TI}{g:TG}{te:TE}
theorem jnj(hc:X.calm=true)(c:CompOk X scope Nc js)(hi:PI X tg iter wi)(hg:∀C s3 H3 fp,PG (X.comp scope C Nc s3 H3 fp) tg g)(he:∀C s3 H3 fp,PE (X.comp scope C Nc s3 H3 fp) elt te)
  {pins:List (Addr×Obj)}{s:Shared}{σ:L2.St}{H:Hp} (I:Inv X pins σ H s) {RR:Value->Addr->Result->Shared->Prop}{NX:Addr->Hp->Prop}
  (h:wi σ H λJ H1=>∀D,H1 D=none->jc8 J g (jec D te) {nx:=λ_ H'=>NX D H',rt:=λ_ _=>False} (jdh js σ) (upd H1 D (.lst [])))
  (fin:∀D H3 s3 fp σ5 H5 s6,Inv X pins σ H3 s3->(∀b∈fp,FpOk X pins H3 b)->Inv (X.comp scope s3.heap.objs.size Nc s3 H3 fp) [] σ5 H5 s6->NX D H5->RR (.ref D) s3.heap.objs.size (.ok .next) s6) :
  wpAny (model X.prog X.w) X.A (eval iter X.env) (λx s₁=>wpAny (model X.prog X.w) X.A (pyIter x) (λit s₂=>wpAny (model X.prog X.w) X.A (newList []) (λacc s₃ =>
   wpAny (model X.prog X.w) X.A (newFunctionEnv scope X.env.globals (clOf X.env scope.names []) [] X.env.qual none .none (some X.env)) (λcenv s₄ =>
    codeAny (model X.prog X.w) X.A (.compStart (.ListComp elt [⟨tg,iter,[],0⟩] scope pos) 0 it acc {cenv with scope:=relabel scope X.env}) (RR acc cenv.locals) s₄) X.xe s₃) X.xe s₂) X.xe s₁) X.xe s:=by
 refine thn (hi pins s σ H _ I h) λv s1 h1=>thn h1 λitv s2 h2=>?_
 obtain⟨it,fp,tn,J,H2,rfl,I2,T,st2,f2,h2⟩:=h2
 refine Ik ?_ (by show 0<=sizeLine;decide)
 have hD:H2 s2.heap.objs.size=none:=I2.hok.fresh (Ah _)
 have I3:Inv X pins σ (upd H2 s2.heap.objs.size (.lst [])) {s2 with heap:=s2.heap.push {cls:=.type "list",data:=.seq ([]:List Value).toArray}} :=
  I2.laid (t':=s2.toks) (λb u e=>Ad _ e) (Ah _) ⟨by show 0<=sizeLine;decide,[],0,.nil,An _ rfl⟩
 have f3:∀b∈fp,FpOk X pins (upd H2 s2.heap.objs.size (.lst [])) b:=λb hb=>by
  obtain⟨q0,q⟩:=f2 b hb
  obtain⟨o,e,_⟩:=T.obj _ _ st2 b hb
  exact⟨by rw[jf (Ap (Am e))];exact q0,q⟩
 have o3:∀b∈fp,∃o,(s2.heap.push {cls:=.type "list",data:=.seq ([]:List Value).toArray}).get? b=some o:=λb hb=>by
  obtain⟨o,e,_⟩:=T.obj _ _ st2 b hb
  exact⟨o,Ad _ e⟩
 have st3:tn 0 (s2.heap.push {cls:=.type "list",data:=.seq ([]:List Value).toArray}):=T.keep _ _ _ st2 λb _ o e=>Ad _ e
 generalize hh3:s2.heap.push {cls:=.type "list",data:=.seq ([]:List Value).toArray}=h3 at I3 o3 st3⊢
 refine W0 c.nocell (by intro y hy;simp at hy) (λh4 hn4 hs4=>?_) c.kind
 have k4:∀b o,h3.get? b=some o->h4.get? b=some o:=λb o e=>(hs4.2 b (Ap (Am e))).trans (Ad _ e)
 have I4:=jjv (tk:=s2.toks+([]:List (Str×Value)).length) c I3 f3 o3 hn4 k4
 have st4:tn 0 h4:=T.keep _ _ _ st3 λb _ o e=>k4 b o e
 obtain⟨W,⟨m0,w0⟩,turn⟩:=h2 _ hD
 let s3:Shared:={s2 with heap:=h3}
 let Y:Cx:=X.comp scope h3.objs.size Nc s3 (upd H2 s2.heap.objs.size (.lst [])) fp
 have stat:∀{H':Hp},(∀b∈fp,H' b=none)->∀b∈fp,FpOk Y [] H' b:=λhn b hb=>⟨hn b hb,(I4.ok.exf b hb).1,I4.ok.exfs b hb,.inl hb,(I4.ok.exf b hb).2,(λp hp=>nomatch hp)⟩
 have loop:codeAny (model X.prog X.w) X.A (.compLoop (.ListComp elt [⟨tg,iter,[],0⟩] scope pos) 0 (.ref it) (.ref s2.heap.objs.size) Y.env)
   (RR (.ref s2.heap.objs.size) h3.objs.size) {s2 with heap:=h4,toks:=s2.toks+([]:List (Str×Value)).length}:=by
  refine codeAny_loop rfl (λn s'=>∃i σ' H',Inv Y [] σ' H' s'/\tn i s'.heap/\(∀b∈fp,H' b=none)/\W i n σ' H') (λn s5 hI=>?_) m0 ⟨0,_,_,I4,st4,λb hb=>(f3 b hb).1,w0⟩
  obtain⟨i,σ5,H5,I5,st5,fr5,w5⟩:=hI
  show wpAny _ X.A ((compTurn (.ListComp elt [⟨tg,iter,[],0⟩] scope pos) 0 (.ref it) (.ref s2.heap.objs.size) Y.env).onRaise (λx=>do noteFrame x Y.env;theTreesLotGoes x)) _ _ s5
  refine wpAny_noted (Of (E:=λ_ _=>False) ?_ (λ_ _ q=>q) λ_ _ z=>z.elim)
  rw[compTurn_list1]
  refine Aa (Yb (Aa ?_))
  rcases turn i n σ5 H5 w5 with⟨stop,qn⟩|⟨go,N,hN,step⟩
  ·refine thn (T.done Y rfl rfl rfl hc i [] s5 σ5 H5 _ I5 (stat fr5) st5 stop) λr s6 ⟨hr,I6⟩=>?_
   subst hr
   refine Af ?_
   exact fin _ _ s3 fp σ5 H5 s6 I3 f3 I6 qn
  ·refine thn (T.item Y rfl rfl rfl hc i [] s5 σ5 H5 _ I5 (stat fr5) st5 go) λr s6 ⟨u,hr,h6⟩=>?_
   subst hr
   refine Aa (thn h6 λ_ s7 ⟨x,H7,I7,r7,y7,st7,fr7⟩=>?_)
   have I7':=I7.pinned (stat fr7) (T.obj _ _ st7)
   refine Aa (thn (hg _ _ _ _ _ s7 σ5 H7 x u _ I7' r7 (step x H7 y7)) λ_ s8 ⟨σ8,H8,I8,q8⟩=>?_)
   refine Aa (Aa (thn (he _ _ _ _ _ s8 σ8 H8 _ I8 q8) λv s9 ⟨y,H9,I9,r9,ys,e9,z9,n9⟩=>?_))
   refine Aa (thn (ja2 (X:=Y) _ s9 σ8 H9 (.ref s2.heap.objs.size) [y] (.ref s2.heap.objs.size) [v] (λw H'=>N σ8 H') I9 rfl (.cons r9 .nil) ⟨_,ys,y,rfl,rfl,jcp e9,z9,n9⟩) λw s10 ⟨_,H10,I10,_,n10⟩=>?_)
   refine Af (Af ⟨rfl,?_⟩)
   obtain⟨m',hm,w10⟩:=hN σ8 H10 n10
   refine⟨m',hm,i+1,σ8,H10,I10.unpinned,T.keep _ _ _ st7 λb hb o e=>(I10.pin (b,o) (A9 _ (A9 _ (jdg hb e)))).1,λb hb=>?_,w10⟩
   obtain⟨o,e,d⟩:=T.obj _ _ st7 b hb
   exact(I10.pin (b,o) (A9 _ (A9 _ (jdg hb e)))).2.1
 exact codeAny_compStart_list loop (T.self _ 0 _ _ _ st4 loop)
theorem pe_comp(hc:X.calm=true)(c:CompOk X scope Nc js)(hi:PI X tg iter wi)(hg:∀C s3 H3 fp,PG (X.comp scope C Nc s3 H3 fp) tg g)(he:∀C s3 H3 fp,PE (X.comp scope C Nc s3 H3 fp) elt te)
  (hs:∀x,foldedSetIterable iter X.env x=pure x:=by intro _;rfl):PE X (.ListComp elt [⟨tg,iter,[],0⟩] scope pos) (jjg wi g js te):=by
 intro pins s σ H Q I h
 rw[eval_ListComp]
 refine U7 (use:=none) (g:=⟨tg,iter,[],0⟩) (gs:=[]) rfl hs (jem (c.has I)) c.kind c.loc
  (jnj (RR:=λacc C=>compPost (model X.prog X.w) X.A X.xe none (EP X pins σ Q) acc C) (NX:=λD H'=>Q (.ref D) H') hc c hi hg he I h λD H3 s3 fp σ5 H5 s6 I3 f3 I6 qn=>?_)
 obtain⟨m,hn,_⟩:=I6.loc
 exact⟨m,hn,λh' hs'=>⟨.ref D,H5,jen I3 f3 I6 hs',rfl,qn⟩⟩
end
section
variable{X:Cx}
def jhy:List V->Hp->VK->Prop:=λxs H Q=>match xs with
 |[.ref p]=>(∃ys,jch (H p)=some ys/\∀l,H l=none->Q (.ref l) (upd H l (.tup ys)))\/(∃ys,jfw (H p)=some ys/\Q (.ref p) H)
 |_=>False
theorem y4:jcv X (.type "tuple") jhy:=by
 intro pins s σ H xs us Q I r h
 unfold jhy at h
 split at h
 ·rename_i p
  rcases h with⟨ys,e,h⟩|⟨ys,e,h⟩
  ·exact jav pins s σ H _ us Q I r ⟨p,ys,rfl,.inl ⟨SqL.of (jcp e),h⟩⟩
  ·exact jav pins s σ H _ us Q I r ⟨p,ys,rfl,.inr ⟨SqT.of (jge e),h⟩⟩
 ·exact h.elim
theorem jc0{p:Addr}{H:Hp}{Q:VK}{ys:List V}(e:H p=some (.lst ys))(h:∀l,H l=none->Q (.ref l) (upd H l (.tup ys))):jhy [.ref p] H Q:=.inl ⟨ys,by rw[e];rfl,h⟩
def jm3:R2:=λx y H Q=>match x,y with
 |.int i,.int j=>CMul i j/\Q (.int (i*j)) H
 |.ref l,.int k=>∃xs,jch (H l)=some xs/\0<=k/\k<2^62/\xs.length*k.toNat<=sizeLine/\∀p,H p=none->Q (.ref p) (upd H p (.lst (List.replicate k.toNat xs).flatten))
 |_,_=>False
theorem zq:OpR X (binaryOp .Mult) jm3:=by
 intro pins s σ H x y v u Q I rx ry h
 cases x with
 |int i=>cases y with
  |int j=>exact op_mul pins s σ H _ _ v u Q I rx ry ⟨i,j,rfl,rfl,h⟩
  |_=>exact False.elim h
 |ref l=>cases y with
  |int k =>
   obtain⟨xs,e,k0,k1,h⟩:=h
   exact op_rep pins s σ H _ _ v u Q I rx ry ⟨l,k,xs,rfl,rfl,jcp e,by omega,by omega,h⟩
  |_=>exact False.elim h
 |_=>exact False.elim h
theorem jiq(H:Hp)(Q:VK)(i j:Int):jm3 (.int i) (.int j) H Q=(CMul i j/\Q (.int (i*j)) H):=rfl
theorem jir(H:Hp)(Q:VK)(l:Addr)(k:Int):jm3 (.ref l) (.int k) H Q=(∃xs,jch (H l)=some xs/\0<=k/\k<2^62/\xs.length*k.toNat<=sizeLine/\∀p,H p=none->Q (.ref p) (upd H p (.lst (List.replicate k.toNat xs).flatten))):=rfl
def isS(x:V):Prop:=match x with
 |.str _=>True
 |_=>False
def tBMS(r:V->List V->Hp->VK->Prop)(to:TE)(t:TA):TE:=λσ H Q=>to σ H λx H1=>isS x/\t σ H1 λxs H2=>r x xs H2 Q
theorem isS.ty{K:PySem.W.Frag}{x:V}{H:Hp}(h:isS x):tyV K "str" x H:=by
 unfold isS at h
 split at h
 ·rfl
 ·exact h.elim
theorem jlt(z:Str):isS (.str z)=True:=rfl
theorem jry{v:V}:∀σ H Q Q',(∀v H',Q v H'->Q' v H')->tC v σ H Q->tC v σ H Q':=λ_ _ _ _ h q=>h _ _ q
variable{o e:Expr}{es:List Expr}{to:TE}{t:TA}{name:Str}{apos cpos:Pos}{id:String}{r:V->List V->Hp->VK->Prop}
theorem pe_bmS(slot:Slot "str" name id)(hty:typeOf (.builtin id)=pure (.type "method_descriptor"))(hm:MtM X id r)(ho:PE X o to)(ha:PA X (e::es) t)(mono:∀σ H Q Q',(∀v H',Q v H'->Q' v H')->to σ H Q->to σ H Q')
  (hbase:attributeBase o name X.env (eval o X.env)=eval o X.env:=by rfl)
  (hfew:((backTo cpos (starEach (e::es) X.env)).all (λx=>!x.1) && (backToKw cpos (keywordEach [] X.env)).all (λx=>x.1.isSome)
   && decide ((e::es).length+([]:List Keyword).length+(if([]:List Keyword).isEmpty then 0 else 1)<30))=true:=by rfl)
  (hline:(apos.endLine == cpos.line)=true:=by rfl) (hs:starEach (e::es) X.env=(false,eval e X.env)::starEach es X.env:=by rfl) (hplain:(backTo cpos (starEach es X.env)).any (·.1)=false:=by rfl) :
  PE X (.Call (.Attribute o name apos) (e::es) [] cpos) (tBMS r to t) :=
 (jce PySem.F.plainAttrs_str slot hty hm ho ha hbase hfew hline hs hplain).imp λσ H Q h=>mono σ H _ _ (λv H' q=>⟨q.1.ty,q.2⟩) h
theorem jdw:∀{ys:List Str}{us:List Value},Vals (ys.map V.str) us->StrsAre us ys
 |[],us,r=>by rw[Up]at r;cases r;exact .nil
 |y::ys,us,r=>by
  rw[Ay]at r
  cases r with
  |cons r1 r2 =>
   obtain⟨t,rfl⟩:=r1
   exact .cons y t (jdw r2)
def jn7:V->List V->Hp->VK->Prop:=λx vs H Q=>match x,vs with
 |.str z,[.ref p]=>∃ys:List Str,H p=some (.lst (ys.map V.str))/\(ys.map (·.length)).sum+ys.length*z.length<=16777216/\Q (.str (Txt.join z ys)) H
 |_,_=>False
theorem mt_joinU:MtM X "str.join" jn7:=by
 intro pins s σ H x vs v us Q I rx rv h
 unfold jn7 at h
 split at h
 ·rename_i z p
  obtain⟨ys,e,hz,q⟩:=h
  obtain⟨t,rfl⟩:=rx
  obtain⟨u,rfl,ru⟩:=rv.one
  cases ru
  obtain⟨its,rr,pl,_⟩:=I.list (SqL.of e)
  exact join_list pl.isList (by simpa using jdw rr) hz λt' k=>⟨.str _,H,I.tok k,⟨_,rfl⟩,q⟩
 ·exact h.elim
def cutS(z:Str)(lo hi:Option Int):Str:=⟨((z.cps.toList.drop (HT.sIx z.length 0 lo)).take (HT.sIx z.length z.length hi-HT.sIx z.length 0 lo)).toArray⟩
theorem jkv(lo hi:Option Int)(n:Nat):Builtin.Str.strSliceIndices lo hi 1 n=(List.range (HT.sIx n n hi-HT.sIx n 0 lo)).map (HT.sIx n 0 lo+·):=by
 rw[<-sliceRange_one]
 unfold Builtin.Str.strSliceIndices
 have e1:(match lo with|none=>(if(1:Int)>0 then(0:Int)else(n:Int)-1)|some i=>let i:=if i<0 then i+(n:Int)else i;if(1:Int)>0 then max 0 (min i (n:Int))else max (-1) (min i ((n:Int)-1)))=((HT.sIx n 0 lo:Nat):Int):=by
  cases lo with
  |none=>simp[HT.sIx]
  |some v =>
   simp only[show(1:Int)>0 by decide,O0,HT.sIx]
   by_cases h:v<0
   ·simp only[h,O0];omega
   ·simp only[h,Ov];omega
 have e2:(match hi with|none=>(if(1:Int)>0 then(n:Int)else -1)|some i=>let i:=if i<0 then i+(n:Int)else i;if(1:Int)>0 then max 0 (min i (n:Int))else max (-1) (min i ((n:Int)-1)))=((HT.sIx n n hi:Nat):Int):=by
  cases hi with
  |none=>simp[HT.sIx]
  |some v =>
   simp only[show(1:Int)>0 by decide,O0,HT.sIx]
   by_cases h:v<0
   ·simp only[h,O0];omega
   ·simp only[h,Ov];omega
 have key:∀a b a' b':Int,a=a'->b=b'->sliceRange a b 1=sliceRange a' b' 1:=by
  intro a b a' b' h1 h2
  rw[h1,h2]
 exact key _ _ _ _ e1 e2
theorem jho(z:Str)(lo hi:Option Int):Txt.slice z lo hi=cutS z lo hi:=by
 have e:(Builtin.Str.strSliceIndices lo hi 1 z.length).filterMap (z.cps[·]?)=(z.cps.toList.drop (HT.sIx z.length 0 lo)).take (HT.sIx z.length z.length hi-HT.sIx z.length 0 lo):=by
  rw[jkv,pick_run]
 unfold Txt.slice cutS
 split
 ·rename_i h
  have h2:((Builtin.Str.strSliceIndices lo hi 1 z.length).length == z.length)=true:=by simpa using h
  have h3:(Builtin.Str.strSliceIndices lo hi 1 z.length).length=z.length:=eq_of_beq h2
  rw[jkv,Ab,We]at h3
  have hl:z.cps.toList.length=z.length:=by simp[Str.length]
  have q:((z.cps.toList.drop (HT.sIx z.length 0 lo)).take (HT.sIx z.length z.length hi-HT.sIx z.length 0 lo))=z.cps.toList:=by
   have hb:HT.sIx z.length z.length hi<=z.length:=by
    cases hi with
    |none=>exact Ah _
    |some v=>simp only[HT.sIx];split <;> omega
   by_cases h0:z.length=0
   ·have:z.cps.toList=[]:=Ui.mp (by omega)
    rw[this];simp
   ·have ha:HT.sIx z.length 0 lo=0:=by omega
    rw[h3,ha,List.drop_zero]
    exact Oc (by omega)
  rw[q]
 ·rw[e]
def rSlS:V->Option Int->Option Int->Hp->VK->Prop:=λx lo hi H Q=>∃z,x=.str z/\z.length<=sizeLine/\Q (.str (cutS z lo hi)) H
theorem sl_str:SlR X rSlS:=by
 intro pins s σ H x v vl vu lo hi sl Q I rx hs pl pu h
 obtain⟨z,rfl,hz,q⟩:=h
 obtain⟨t,rfl⟩:=rx
 have gen:∀(l u:Option (Int×Tok)),vl=partValue l->vu=partValue u->lo=l.map (·.1)->hi=u.map (·.1) ->
   wpAny (model X.prog X.w) X.A (getItem (.str z t) (.ref sl)) (EP X pins σ Q) X.xe s:=by
  intro l u e1 e2 e3 e4
  subst e1 e2 e3 e4
  refine wpAny_getItem_str_slice (l:=l) (u:=u) (st:=none) hs (by rfl) ?_
  have e:(if((((none:Option (Int×Tok)).map (·.1)).getD 1 == 1 && (slicePicked z l u none).length == z.length)=true)then z else⟨((slicePicked z l u none).filterMap (z.cps[·]?)).toArray⟩)=cutS z (l.map (·.1)) (u.map (·.1)):=by
   rw[<-jho];rfl
  refine post_val_or_str ⟨?_,λt' c=>⟨.str (cutS z (l.map (·.1)) (u.map (·.1))),H,I.tok c,⟨t',Od (Value.str · t') e⟩,q⟩⟩
  rw[e,<-jho]
  exact Ih (Txt.slice_le _ _ _) hz
 refine⟨"str",_,F.slot_str_getitem.lookup,typeIs_str _ _ _,?_⟩
 cases pl with
 |none=>cases pu with
  |none=>exact gen none none rfl rfl rfl rfl
  |int j tj=>exact gen none (some (j,tj)) rfl rfl rfl rfl
 |int i ti=>cases pu with
  |none=>exact gen (some (i,ti)) none rfl rfl rfl rfl
  |int j tj=>exact gen (some (i,ti)) (some (j,tj)) rfl rfl rfl rfl
def jlj(sc:Scope)(N:List Str)(scope:Scope)(Nc:List Str)(js:List (Option Nat)):Bool :=
 (scope.kind == .function) && scope.names.all (λy=>!(y.2 == .cell)) && scope.names.all (λy=>!(y.2 == .local) || scope.names.lookup y.1 == some .local) &&
 scope.names.all (λy=>!(y.2 == .free) || ((sc.names.lookup y.1 == some .cell || sc.names.lookup y.1 == some .free) && !(scope.names.lookup y.1 == some .local))) && (js.length == Nc.length) &&
 (List.range js.length).all (λi=>match js[i]? with
  |some (some j)=>(N[j]? == Nc[i]?) && (match Nc[i]? with|some x=>scope.names.any (λy=>y.1 == x && y.2 == .free)|none=>true)
  |_=>true)
theorem jda{sc scope:Scope}{N Nc:List Str}{js:List (Option Nat)}(hd:jlj sc N scope Nc js=true)(hsc:X.env.scope=sc:=by rfl)(hN:X.N=N:=by rfl):CompOk X scope Nc js:=by
 simp only[jlj,Ob,List.all_eq_true,Bool.or_eq_true,Bool.not_eq_true',Uj,U9]at hd
 obtain⟨⟨⟨⟨⟨h1,h2⟩,h3⟩,h4⟩,h5⟩,h6⟩:=hd
 have kk:∀x,X.env.kindOf x=sc.names.lookup x:=λx=>by rw[<-hsc];rfl
 refine⟨h1,λy hy e=>?_,λy hy e=>?_,λy hy e=>?_,h5,λx hx=>?_,λi j x e1 e2=>?_⟩
 ·have:=h2 y hy
  rw[e]at this;cases this
 ·rcases h3 y hy with q|q
  ·rw[e]at q;cases q
  ·exact q
 ·rcases h4 y hy with q|q
  ·rw[e]at q;cases q
  ·rw[kk]
   exact q.1
 ·rcases h4 _ hx with q|q
  ·cases q
  ·intro z
   have q2:=q.2
   rw[z]at q2
   cases q2
 ·have hi:i<js.length:=(Aj.mp e1).1
  have q:=h6 i hi
  rw[e1,e2]at q
  simp only[Ob,Uj,Uw]at q
  refine⟨by rw[hN];exact q.1,?_⟩
  obtain⟨y,hy,hy1,hy2⟩:=q.2
  obtain⟨a,b⟩:=y
  simp only at hy1 hy2
  subst hy1 hy2
  exact hy
end
def ItT(n:Nat)(vals:Nat->List V):It:=⟨λi _=>i<n,λi H x H'=>∃T,H T=none/\x=.ref T/\H'=upd H T (.tup (vals i)),λi _=>i=n⟩
theorem Inv.turnedNew{X:Cx}{pins:List (Addr×Obj)}{σ:L2.St}{H:Hp}{s:Shared}{h':Heap}{t':Nat}{fp wr:List Addr}{T:Addr}{xs:List V}{vs:List Value}(I:Inv X pins σ H s)(hf:∀b∈wr,FpOk X pins H b)
  (k:∀b o,b∉wr->s.heap.get? b=some o->h'.get? b=some o) (hT:s.heap.objs.size<=T) (tup:IsTup h' T vs.toArray) (r:Vals xs vs) (hz:xs.length<=sizeLine) (there:∀b∈wr,∃o,h'.get? b=some o) :
  Inv X pins σ (upd H T (.tup xs)) {s with heap:=h',toks:=t'}:=by
 have neT:∀b u,H b=some u->b≠T:=λb u e=>Ap (Au (I.hok.lt e) hT)
 have nw:∀b u,H b=some u->b∉wr:=λb u e hb=>by rw[(hf b hb).1]at e;cases e
 refine I.step (g':=s.gens) (d':=s.drawn) (ch:=wr) (λb hb=>?_) (λb o _ _ hc e _=>k b o hc e) (λb o _ _ hc e _=>⟨o.slots,k b o hc e⟩) (λb o hc e n=>?_) (λb o hc e=>⟨o,k b o hc e⟩)
  (λb ys e=>by rw[jf (neT b _ e)];exact e) (λb o u e=>by rw[jf (neT b _ e)];exact e) (λb ps e=>⟨#[],by rw[jf (neT b _ e),e];simp⟩) (λm hm=>?_) (λb u e=>?_) I.bare
 ·obtain⟨_,f1,_,f3,f4,f5⟩:=hf b hb
  exact⟨f3,f1,f4,f5⟩
 ·rw[jf (Ap (Au (Am e) hT))];exact n
 ·obtain⟨o,es,ep,ho,rr⟩:=hm
  exact⟨o,es,ep,k _ o (λz=>(hf _ z).2.1 rfl) ho,rr⟩
 ·by_cases hb:b=T
  ·subst hb
   rw[je]at e
   cases e
   exact⟨hz,vs,r,tup⟩
  ·rw[jf hb]at e
   refine(I.hok b u e).stay (λd v hd q=>k d v ?_ q) (λd q=>by rw[jf (neT d _ q)];exact q) λd ys q=>by rw[jf (neT d _ q)];exact q
   rcases hd with rfl|hd
   ·exact nw _ _ e
   ·exact nw _ _ hd
theorem jq9{P:Program}{w:World}{K:PySem.W.Frag}{elts:List Expr}{kk:Nat}{pos:Pos}{it:Addr}{fp wr:List Addr}{n:Nat}{Pt:Nat->Array Value->Prop}{St:Nat->Heap->Prop}{Mid:Nat->Addr->Heap->Prop}{vals:Nat->List V}
  (W:∀A:Around,A.handled=none->WalksT P w A it fp wr n Pt St Mid) (hI:it∈fp) (obj:∀i h,St i h->∀b∈fp,∃o,h.get? b=some o/\∀v,o.data≠.cell v)
  (hself:∀(A:Around)(i:Nat)(s:Shared)(Q:Value->Shared->Prop)(E:Value->Shared->Prop),St i s.heap->Q (.ref it) s->wpAny (model P w) A (pyIter (.ref it)) Q E s)
  (hv:∀i vs,Pt i vs->Vals (vals i) vs.toList) (hz:∀i,(vals i).length<=sizeLine):Turn P w K (.Tuple elts kk pos) (ItT n vals) fp it St where
 mem:=hI
 obj:=obj
 keep:=λi h h' st k=>by
  obtain⟨A,hA⟩:∃A:Around,A.handled=none:=⟨callerA,rfl⟩
  exact(W A hA).frame i h h' st k
 item:=by
  intro X hP hw hK hc i pins s σ H E I hf st hg
  subst hP hw hK
  have WA:=W X.A (I.ok.hd hc)
  refine WA.item i s _ _ hg st λT vs h' tk hp hT htup mid kk'=>⟨_,rfl,?_⟩
  have nTw:=WA.apart _ _ _ mid
  refine WA.go _ _ _ i T {s with heap:=h',toks:=tk} _ _ mid λh'' st'' k''=>?_
  have fw:∀b∈wr,FpOk X pins H b:=λb hb=>hf b (WA.sub b hb)
  have tup':IsTup h'' T vs:=by
   obtain⟨o,e,r⟩:=htup
   exact⟨o,k'' T o nTw e,r⟩
  refine⟨.ref T,upd H T (.tup (vals i)),?_,rfl,⟨T,I.hok.fresh hT,rfl,rfl⟩,st'',λb hb=>?_⟩
  ·exact I.turnedNew (fp:=fp) fw (λb o hb e=>k'' b o hb (kk' b o hb e)) hT (by simpa using tup') (hv i vs hp) (hz i) λb hb=>let⟨o,e,_⟩:=obj _ _ st'' b (WA.sub b hb);⟨o,e⟩
  ·have hlt:b<s.heap.objs.size:=by
    obtain⟨o,e,_⟩:=obj _ _ st b hb
    exact Am e
   rw[jf (Ap (Au hlt hT))]
   exact(hf b hb).1
 done:=by
  intro X hP hw hK hc i pins s σ H E I hf st hg
  subst hP hw hK
  have hi:i=n:=hg
  subst hi
  have WA:=W X.A (I.ok.hd hc)
  refine WA.done s _ _ st λh' tk kk'=>⟨rfl,?_⟩
  have fw:∀b∈wr,FpOk X pins H b:=λb hb=>hf b (WA.sub b hb)
  have nw:∀b u,H b=some u->b∉wr:=λb u e hb=>by rw[(fw b hb).1]at e;cases e
  refine I.step (g':=s.gens) (d':=s.drawn) (ch:=wr) (λb hb=>?_) (λb o _ _ hc e _=>kk' b o hc e) (λb o _ _ hc e _=>⟨o.slots,kk' b o hc e⟩) (λb o hc e n=>n) (λb o hc e=>⟨o,kk' b o hc e⟩)
   (λ_ _ e=>e) (λ_ _ _ e=>e) (λb ps e=>⟨#[],by rw[e];simp⟩) (λm hm=>?_) (λb u e=>?_) I.bare
  ·obtain⟨_,f1,_,f3,f4,f5⟩:=fw b hb
   exact⟨f3,f1,f4,f5⟩
  ·obtain⟨o,es,ep,ho,rr⟩:=hm
   exact⟨o,es,ep,kk' _ o (λz=>(fw _ z).2.1 rfl) ho,rr⟩
  ·refine(I.hok b u e).stay (λd v hd q=>kk' d v ?_ q) (λ_ q=>q) λ_ _ q=>q
   rcases hd with rfl|hd
   ·exact nw _ _ e
   ·exact nw _ _ hd
 self:=hself
theorem jn3{n:Nat}{vals:Nat->List V}{g:TG}{tb:TS}{D:Ends}{σ:L2.St}{H:Hp}(Pv:Nat->L2.St->Hp->Prop)(h0:Pv 0 σ H)
  (hs:∀i σ H T,i<n->Pv i σ H->H T=none->g (.ref T) σ (upd H T (.tup (vals i))) λσ2 H2=>tb {D with nx:=Pv (i+1),ct:=Pv (i+1),bk:=D.nx} σ2 H2) (hd:∀σ H,Pv n σ H->D.nx σ H):jc8 (ItT n vals) g tb D σ H:=by
 refine⟨λi m σ H=>m=n-i/\i<=n/\Pv i σ H,⟨n,by simp,A8 _,h0⟩,?_⟩
 rintro i m σ H ⟨rfl,hi,p⟩
 by_cases hlt:i<n
 ·refine .inr ⟨hlt,Pv (i+1),λσ' H' p'=>⟨n-(i+1),by omega,rfl,hlt,p'⟩,λx H' y=>?_⟩
  obtain⟨T,hT,e1,e2⟩:=y
  subst e1 e2
  exact hs i σ H T hlt p hT
 ·have e:i=n:=by omega
  subst e
  exact .inl ⟨rfl,hd σ H p⟩
def jdr(z:Str)(i:Nat):List V:=[.int (i:Int),.str ⟨#[z.cps.toList.getD i 0]⟩]
section
variable{X:Cx}
def jgv(ta:TA):TI:=λσ H R=>ta σ H λvs H1=>∃z,vs=[.str z]/\R (ItT z.length (jdr z)) H1
theorem jna{P:Program}{w:World}{K:PySem.W.Frag}{elts:List Expr}{kk:Nat}{pos:Pos}(z:Str)(t:Tok)(e it:Addr)(ne:e≠it) :
  Turn P w K (.Tuple elts kk pos) (ItT z.length (jdr z)) [e,it] e (λi h=>(∃old,IsEnum h e it i old)/\h.IsStrIter it (strIterType z) z t i):=by
 have D:∀A:Around,A.handled=none->Draws P w A.in1 it [it] z.cps.size (λi v=>∃c u,z.cps[i]?=some c/\v=.str ⟨#[c]⟩ u) (λi h=>h.IsStrIter it (strIterType z) z t i):=λA hA=>by
  unfold strIterType
  split
  ·exact Draws.strAscii (A:=A.in1) (show A.in1.handled=none from hA) it z t
  ·exact Draws.strWide (A:=A.in1) (show A.in1.handled=none from hA) it z t
 refine jq9 (wr:=[e,it]) (λA hA=>WalksT.enumerateD (D A hA) e ne (by simpa using ne) (by simp)) (by simp) (λi h st b hb=>?_) (λA i s Q E st q=>?_) (λi vs hp=>?_) (λi=>by show 2<=sizeLine;decide)
 ·obtain⟨⟨old,he⟩,⟨o,ho,hc,hd⟩⟩:=st
  rcases Aw.mp hb with rfl|hb
  ·exact⟨_,he,λv z=>by cases z⟩
  ·rw[Ag.mp hb]
   exact⟨o,ho,λv z=>by rw[hd]at z;cases z⟩
 ·obtain⟨⟨old,he⟩,_⟩:=st
  exact Wf he q
 ·obtain⟨t',x,⟨c,u,hc,rfl⟩,rfl⟩:=hp
  have e1:z.cps.toList.getD i 0=c:=by
   have:z.cps.toList[i]?=some c:=by simpa using hc
   rw[Ac,this];rfl
  refine .cons ⟨t',rfl⟩ (.cons ⟨u,?_⟩ .nil)
  rw[e1]
theorem pi_enumerate{a:Expr}{ta:TA}{p pos tpos:Pos}{elts:List Expr}{kk:Nat}(hg:Gl X "enumerate")(hm:X.mg "enumerate"=none)(ha:PA X [a] ta)(hs:starEach [a] X.env=[(false,eval a X.env)]:=by rfl) :
  PI X (.Tuple elts kk tpos) (.Call (.Name "enumerate" p) [a] [] pos) (jgv ta):=by
 intro pins s σ H R I h
 refine Call_ (jdc I hg hm jay (Ic (thn (ha pos pins s σ H _ I h) λus s1 ⟨vs,H1,I1,r1,q1⟩=>?_) hs rfl))
 obtain⟨z,e,q⟩:=q1
 subst e
 obtain⟨u,rfl,t,rfl⟩:=jc9 r1
 refine call_enumerate_str λh' he hi hz hk=>?_
 have I2:Inv X pins σ H1 {s1 with heap:=h'}:=I1.kept (t':=s1.toks) hk
 refine Wf he ⟨s1.heap.objs.size+1,[s1.heap.objs.size+1,s1.heap.objs.size],_,_,H1,rfl,I2,jna z t (s1.heap.objs.size+1) s1.heap.objs.size (Nat.succ_ne_self _),⟨⟨.none,he⟩,hi⟩,λb hb=>?_,q⟩
 have hb':s1.heap.objs.size<=b:=by
  rcases Aw.mp hb with rfl|hb
  ·omega
  ·rw[Ag.mp hb];exact Ah _
 obtain⟨f0,f1,f2,f3,f4,f5⟩:=I1.fpOk (H':=H1) hb' (I1.hok.fresh hb')
 exact⟨f0,f1,f2,f3,f4,f5⟩
end
section
variable{X:Cx}
theorem jra{xs:List V}{us:List Value}(hl:xs.length=us.length)(h:∀(i:Nat) (x:V) (u:Value),xs[i]?=some x->us[i]?=some u->RelV x u):Vals xs us:=by
 induction xs generalizing us with
 |nil=>cases us with
  |nil=>exact .nil
  |cons _ _=>simp at hl
 |cons x xs ih=>cases us with
  |nil=>simp at hl
  |cons u us=>exact .cons (h 0 x u rfl rfl) (ih (by simpa using hl) λi a b e1 e2=>h (i+1) a b (by simpa using e1) (by simpa using e2))
def rAddW:R2:=λx y H Q=>match x,y with
 |.int i,.int j=>Q (.int (i+j)) H
 |.str i,.str j=>i.length+j.length<=sizeLine/\Q (.str (i++j)) H
 |.ref l,.ref b=>(∃xs zs,jch (H l)=some xs/\jch (H b)=some zs/\xs.length+zs.length<=sizeLine/\∀p,H p=none->Q (.ref p) (upd H p (.lst (xs++zs)))) \/
   (∃xs zs,jfw (H l)=some xs/\jfw (H b)=some zs/\xs≠[]/\zs≠[]/\xs.length+zs.length<=sizeLine/\∀p,H p=none->Q (.ref p) (upd H p (.tup (xs++zs))))
 |_,_=>False
theorem j9:OpR X (binaryOp .Add) rAddW:=by
 intro pins s σ H x y v u Q I rx ry h
 cases x with
 |int i=>cases y with
  |int j=>exact op_add pins s σ H _ _ v u Q I rx ry ⟨i,j,rfl,rfl,h⟩
  |_=>exact False.elim h
 |str i=>cases y with
  |str j=>exact op_add_str pins s σ H _ _ v u Q I rx ry ⟨i,j,rfl,rfl,h⟩
  |_=>exact False.elim h
 |ref l=>cases y with
  |ref b =>
   rcases h with⟨xs,zs,e1,e2,h⟩|⟨xs,zs,e1,e2,n1,n2,hz,h⟩
   ·exact op_cat pins s σ H _ _ v u Q I rx ry ⟨l,b,xs,zs,rfl,rfl,jcp e1,jcp e2,h⟩
   ·exact jb3 pins s σ H _ _ v u Q I rx ry ⟨l,b,xs,zs,rfl,rfl,SqT.of (jge e1),SqT.of (jge e2),n1,hz,λz=>absurd z n2,λ_=>h⟩
  |_=>exact False.elim h
 |_=>exact False.elim h
theorem jfb(H:Hp)(Q:VK)(i j:Int):rAddW (.int i) (.int j) H Q=(Q (.int (i+j)) H):=rfl
theorem jim(H:Hp)(Q:VK)(i j:Str):rAddW (.str i) (.str j) H Q=(i.length+j.length<=sizeLine/\Q (.str (i++j)) H):=rfl
theorem rAddW.tup{H:Hp}{Q:VK}{l b:Addr}{xs zs:List V}(e1:H l=some (.tup xs))(e2:H b=some (.tup zs))(n1:xs≠[])(n2:zs≠[])(hz:xs.length+zs.length<=sizeLine)
  (h:∀p,H p=none->Q (.ref p) (upd H p (.tup (xs++zs)))):rAddW (.ref l) (.ref b) H Q:=.inr ⟨xs,zs,by rw[e1];rfl,by rw[e2];rfl,n1,n2,hz,h⟩
theorem rAddW.lst{H:Hp}{Q:VK}{l b:Addr}{xs zs:List V}(e1:H l=some (.lst xs))(e2:H b=some (.lst zs))(hz:xs.length+zs.length<=sizeLine)
  (h:∀p,H p=none->Q (.ref p) (upd H p (.lst (xs++zs)))):rAddW (.ref l) (.ref b) H Q:=.inl ⟨xs,zs,by rw[e1];rfl,by rw[e2];rfl,hz,h⟩
end
section
variable{X:Cx}
def rSlU(K:PySem.W.Frag):V->Option Int->Option Int->Hp->VK->Prop:=λx lo hi H Q=>match x with
 |.str z=>z.length<=sizeLine/\Q (.str (cutS z lo hi)) H
 |.ref a=>(∃xs,SqL K H a xs/\∀p,H p=none->Q (.ref p) (upd H p (.lst (cutV xs lo hi)))) \/
   ∃xs,SqT K H a xs/\¬(HT.sIx xs.length 0 lo=0/\HT.sIx xs.length xs.length hi=xs.length)/\∀p,H p=none->Q (.ref p) (upd H p (.tup (cutV xs lo hi)))
 |_=>False
theorem sl_U:SlR X (rSlU X.K):=by
 intro pins s σ H x v vl vu lo hi sl Q I rx hs pl pu h
 unfold rSlU at h
 split at h
 ·rename_i z
  exact sl_str pins s σ H (.str z) v vl vu lo hi sl Q I rx hs pl pu ⟨z,rfl,h⟩
 ·rename_i a
  rcases h with⟨xs,hx,q⟩|⟨xs,hx,nw,q⟩
  ·exact sl_list pins s σ H (.ref a) v vl vu lo hi sl Q I rx hs pl pu ⟨a,xs,rfl,hx,q⟩
  ·exact sl_tup pins s σ H (.ref a) v vl vu lo hi sl Q I rx hs pl pu ⟨a,xs,rfl,hx,nw,q⟩
 ·exact h.elim
theorem jkl(K:PySem.W.Frag)(H:Hp)(Q:VK)(z:Str)(lo hi:Option Int):rSlU K (.str z) lo hi H Q=(z.length<=sizeLine/\Q (.str (cutS z lo hi)) H):=rfl
theorem rSlU.sq{K:PySem.W.Frag}{H:Hp}{Q:VK}{a:Addr}{xs:List V}{lo hi:Option Int}(e:SqL K H a xs)(h:∀p,H p=none->Q (.ref p) (upd H p (.lst (cutV xs lo hi)))):rSlU K (.ref a) lo hi H Q:=.inl ⟨xs,e,h⟩
theorem rSlU.lst{K:PySem.W.Frag}{H:Hp}{Q:VK}{a:Addr}{xs:List V}{lo hi:Option Int}(e:H a=some (.lst xs))(h:∀p,H p=none->Q (.ref p) (upd H p (.lst (cutV xs lo hi)))):rSlU K (.ref a) lo hi H Q:=.inl ⟨xs,SqL.of e,h⟩
theorem rSlU.tup{K:PySem.W.Frag}{H:Hp}{Q:VK}{a:Addr}{xs:List V}{lo hi:Option Int}(e:H a=some (.tup xs))(nw:¬(HT.sIx xs.length 0 lo=0/\HT.sIx xs.length xs.length hi=xs.length))(h:∀p,H p=none->Q (.ref p) (upd H p (.tup (cutV xs lo hi)))):rSlU K (.ref a) lo hi H Q:=.inr ⟨xs,SqT.of e,nw,h⟩
end
section
variable{X:Cx}
def hasS(z y:Str):Bool:=!(Builtin.Str.occurrences z y 0 z.length 1).isEmpty
def rInU(K:PySem.W.Frag)(neg:Bool):R2:=λx y H Q=>match x,y with
 |.str i,.str j=>Q (.bl (if neg then !hasS j i else hasS j i)) H
 |x,.ref p=>∃xs,(SqL K H p xs\/SqT K H p xs)/\jdj x=true/\xs.all jdj=true/\Q (.bl (if neg then !inV x xs else inV x xs)) H
 |_,_=>False
theorem jkb(K:PySem.W.Frag)(neg:Bool)(H:Hp)(Q:VK)(i j:Str):rInU K neg (.str i) (.str j) H Q=Q (.bl (if neg then !hasS j i else hasS j i)) H:=rfl
theorem op_inU{K:PySem.W.Frag}(hK:X.K=K):OpR X (compareOp .In) (rInU K false):=by
 subst hK
 intro pins s σ H x y v u Q I rx ry h
 unfold rInU at h
 split at h
 ·rename_i i j
  exact op_in_str pins s σ H _ _ v u Q I rx ry ⟨i,j,rfl,rfl,h⟩
 ·rename_i p
  obtain⟨xs,h⟩:=h
  exact op_in_seq pins s σ H _ _ v u Q I rx ry ⟨p,xs,rfl,h⟩
 ·exact h.elim
theorem rInU.tupS{K:PySem.W.Frag}{neg:Bool}{H:Hp}{Q:VK}{x:V}{p:Addr}{xs:List V}(e:SqT K H p xs)(fx:jdj x=true)(fs:xs.all jdj=true)(q:Q (.bl (if neg then !inV x xs else inV x xs)) H):rInU K neg x (.ref p) H Q:=by
 cases x <;> exact⟨xs,.inr e,fx,fs,q⟩
theorem jqj{s:Shared}{h':Heap}{o:Obj}(hk:∀b x,b∉[s.heap.objs.size]->(s.heap.push o).get? b=some x->h'.get? b=some x):∀b x,s.heap.get? b=some x->h'.get? b=some x :=
 λb x e=>hk b x (λhm=>by rw[Ag.mp hm]at e;exact Oy _ (Am e)) (Ad _ e)
end
theorem jjp{H:Hp}{D:Addr}{a b:HO}:upd (upd H D a) D b=upd H D b:=jh5
section
variable{D:Addr}{te:TE}{E:Ends}{r:L2.St}{H:Hp}
theorem jnk{K:PySem.W.Frag}{a:Addr}{xs:List V}(f:V->V)(ha:H a=some (.lst xs))(hD:H D=none)(hz:xs.length<=sizeLine)(he:∀x∈xs,∀l Q,Q (f x) (upd H D (.lst l))->te (some x::r) (upd H D (.lst l)) Q)
  (hn:∀v,E.nx (v::r) (upd H D (.lst (xs.map f)))):jc8 (Itl K a) (jdk 0) (jec D te) E (none::r) (upd H D (.lst [])):=by
 have ne:a≠D:=jj ha hD
 refine je7 (xs:=xs) (λi σ H'=>∃v:Option V,σ=v::r/\H'=upd H D (.lst ((xs.take i).map f))) ⟨none,rfl,rfl⟩ ?_ ?_ ?_
 ·rintro i σ H' _ ⟨v,_,rfl⟩
  rw[jf ne];exact ha
 ·rintro i x σ H' hx ⟨v,rfl,rfl⟩
  have hl:i<xs.length:=(Aj.mp hx).1
  refine he x (A5 hx) _ _ ⟨_,by rw[je];rfl,by simp;omega,some x,rfl,?_⟩
  rw[jjp,Wb,hx]
  simp
 ·rintro σ H' ⟨v,rfl,rfl⟩
  rw[Oc (Ah _)]
  exact hn v
theorem jor{K:PySem.W.Frag}{a:Addr}{xs:List V}(f:V->V)(ha:H a=some (.tup xs))(hD:H D=none)(hz:xs.length<=sizeLine)(he:∀x∈xs,∀l Q,Q (f x) (upd H D (.lst l))->te (some x::r) (upd H D (.lst l)) Q)
  (hn:∀v,E.nx (v::r) (upd H D (.lst (xs.map f)))):jc8 (Itt K a) (jdk 0) (jec D te) E (none::r) (upd H D (.lst [])):=by
 have ne:a≠D:=jj ha hD
 refine jd4 (xs:=xs) (λi σ H'=>∃v:Option V,σ=v::r/\H'=upd H D (.lst ((xs.take i).map f))) ⟨none,rfl,rfl⟩ ?_ ?_ ?_
 ·rintro i σ H' _ ⟨v,_,rfl⟩
  rw[jf ne];exact ha
 ·rintro i x σ H' hx ⟨v,rfl,rfl⟩
  have hl:i<xs.length:=(Aj.mp hx).1
  refine he x (A5 hx) _ _ ⟨_,by rw[je];rfl,by simp;omega,some x,rfl,?_⟩
  rw[jjp,Wb,hx]
  simp
 ·rintro σ H' ⟨v,rfl,rfl⟩
  rw[Oc (Ah _)]
  exact hn v
end
end L2
set_option autoImplicit true
set_option relaxedAutoImplicit true
namespace L2
open PySem PySem.Spec PyProof.Rows
structure QE(X:Cx)(e:Expr)(t:TE):Prop where
 h:PE X e t
structure QT(X:Cx)(e:Expr)(t:TT):Prop where
 h:PT X e t
structure QW(X:Cx)(e:Expr)(t:TT):Prop where
 h:PW X e t
structure QA(X:Cx)(es:List Expr)(t:TA):Prop where
 h:PA X es t
structure QS(X:Cx)(st:Stmt)(t:TS):Prop where
 h:PS X st t
structure QSs(X:Cx)(st:List Stmt)(t:TS):Prop where
 h:PSs X st t
structure QG(X:Cx)(e:Expr)(t:TG):Prop where
 h:PG X e t
structure QGs(X:Cx)(es:List Expr)(t:TGs):Prop where
 h:PGs X es t
structure QI(X:Cx)(tg iter:Expr)(wi:TI):Prop where
 h:PI X tg iter wi
structure QO(X:Cx)(e:Option Expr)(t:TO):Prop where
 h:PO X e t
structure QC(X:Cx)(op:CmpOp)(a b:Expr)(t:TE):Prop where
 h:PC X op a b t
theorem j6:QSs X [] jjl:=⟨pss_nil⟩
theorem ji(h1:QS X stm t):QSs X [stm] t:=⟨pss_one h1.h⟩
theorem jh(h1:QS X stm t)(h2:QSs X rst u):QSs X (stm::rst) (tSeq t u):=⟨pss_cons h1.h h2.h⟩
theorem qpv(i:Nat){x:Str}{pos:Pos}(hN:X.N[i]?=some x:=by rfl)(hv:Vis X.env.scope x:=by first|exact Or.inl rfl|exact Or.inr (Or.inl rfl)|exact Or.inr (Or.inr rfl))
  (hd:(x == ("__debug__":Str))=false:=by decide) (hcd:(x == ("__classdict__":Str))=false:=by decide):QE X (.Name x pos) (tVar i):=⟨pv i hN hv hd hcd⟩
theorem jg:QE X (.Constant (.int i) j pos) (tC (.int i)):=⟨pe_int⟩
theorem z4:QE X (.Constant (.bool b) j pos) (tC (.bl b)):=⟨pe_bl⟩
theorem jn:QE X (.Constant (.str x) j pos) (tC (.str x)):=⟨pe_str⟩
theorem yi{x:Str}{v:V}{u:Value}{pos:Pos}(hg:Gl X x)(hm:X.mg x=some u)(r:RelV v u)(hd:(x == ("__debug__":Str))=false:=by decide):QE X (.Name x pos) (tC v):=⟨pe_glob hg hm r hd⟩
theorem jaf{x:Str}{v:V}{u:Value}{pos:Pos}(hg:Gl X x)(hm:X.mg x=none)(hv:bootBuiltins x=some u)(r:RelV v u)(hn:x≠"__name__":=by decide)(hd:(x == ("__debug__":Str))=false:=by decide) :
  QE X (.Name x pos) (tC v):=⟨pe_bltn hg hm hv r hn hd⟩
theorem jq(ho:OpR X (binaryOp op) r)(ha:QE X a ta)(hb:QE X b tb):QE X (.BinOp a op b pos) (tOp r ta tb):=⟨pe_op ho ha.h hb.h⟩
theorem jb5(ha:QE X a ta):QE X (.UnaryOp .Not a pos) (jjm ta):=⟨pe_not ha.h⟩
theorem ja3(ho:UnR X (unaryOp op) r)(ha:QE X a ta):QE X (.UnaryOp op a pos) (tUn r ta):=⟨pe_un ho ha.h⟩
theorem zj(ho:OpR X (compareOp op) r)(ha:QE X a ta)(hb:QE X b tb)(hm:behindInMarks op b=false):QE X (.Compare a [op] [b] pos) (tOp r ta tb):=⟨pe_cmpR ho ha.h hb.h hm⟩
theorem jt(ho:OpR X (compareOp op) r)(ha:QE X a ta)(hb:QE X b tb)(hm:behindInMarks op b=false):QT X (.Compare a [op] [b] pos) (jjo (tOp r ta tb)):=⟨pt_cmpR ho ha.h hb.h hm⟩
theorem qpe_chain(ho:OpR X (compareOp op) r)(ho':OpR X (compareOp op') r')(ha:QE X a ta)(hb:QE X b tb)(hc:QE X c tc)(hm:lastMarks [op,op'] [b,c]=false:=by with_unfolding_all rfl) :
  QE X (.Compare a [op,op'] [b,c] pos) (jhe r r' ta tb tc):=⟨pe_chain ho ho' ha.h hb.h hc.h hm⟩
theorem jbm(h:QC X op a b t)(h1:behindInMarks op b=false:=by first|exact nobehind _ (by decide) (by decide)|rfl):QT X (.Compare a [op] [b] pos) (tB t):=⟨pt_cmp h.h h1⟩
theorem qpc_dnotin(hu:X.A.units+1<cLine)(hi:QE X i ty)(ho:QE X o td):QC X .NotIn i o (jfu ty td):=⟨pc_dnotin hu hi.h ho.h⟩
theorem jae(ha:QT X a tA):QT X (.UnaryOp .Not a pos) (tNot tA):=⟨pt_not ha.h⟩
theorem QW.pt(h:QW X e t):QT X e t:=⟨PW.pt h.h⟩
theorem jb7(ha:QT X a tA)(hb:QW X (.BoolOp .And (b::rst) pos) tB'):QW X (.BoolOp .And (a::b::rst) pos) (tAnd tA tB'):=⟨pw_and ha.h hb.h⟩
theorem jaq(ha:QT X a tA)(hb:QW X (.BoolOp .Or (b::rst) pos) tB'):QW X (.BoolOp .Or (a::b::rst) pos) (tOr tA tB'):=⟨pw_or ha.h hb.h⟩
theorem jb1(ha:QT X a tA):QW X (.BoolOp .And [a] pos) tA:=⟨pw_and1 ha.h⟩
theorem jar(ha:QT X a tA):QW X (.BoolOp .Or [a] pos) tA:=⟨pw_or1 ha.h⟩
theorem za{e:Expr}(h:QE X e t)(he:∀whole,isTrue e X.env whole=(do let v <-whole;standAt e.pos;holding [v] (truthy v)):=by intro _;rfl):QT X e (tB t):=⟨pt_val h.h he⟩
theorem jb6(h:QE X a t):QE X (.BoolOp op [a] pos) t:=⟨pe_one h.h⟩
theorem qpe_and(ha:QE X a ta)(hb:QE X (.BoolOp .And (b::rst) pos) tb):QE X (.BoolOp .And (a::b::rst) pos) (jjd ta tb):=⟨pe_and ha.h hb.h⟩
theorem qpe_or(ha:QE X a ta)(hb:QE X (.BoolOp .Or (b::rst) pos) tb):QE X (.BoolOp .Or (a::b::rst) pos) (tOrV ta tb):=⟨pe_or ha.h hb.h⟩
theorem jbs(hc:QT X c tA)(ha:QE X a ta)(hb:QE X b tb):QE X (.IfExp c a b pos) (tIf tA ta tb):=⟨pe_ifExp hc.h ha.h hb.h⟩
theorem j5(h:QA X es t):QE X (.List es pos) (tLst t):=⟨pe_lst h.h⟩
theorem j7(h:QA X es t):QE X (.Tuple es x1 pos) (tTup t):=⟨pe_tup h.h⟩
theorem zd(hr:SlR X r)(he:QE X e te)(hl:QO X lw tl)(hu:QO X hi th):QE X (.Subscript e (.Slice lw hi none p2) pos) (tSl r te tl th):=⟨pe_slice hr he.h hl.h hu.h⟩
theorem z7:QO X none jfv:=⟨po_none⟩
theorem y6(h:QE X e te):QO X (some e) (jjn te):=⟨po_some h.h⟩
theorem jr(hr:IxR X r)(ha:QE X a ta)(hb:QE X b tb)(hs:jle b):QE X (.Subscript a b pos) (tOp r ta tb):=⟨pe_ix hr ha.h hb.h hs⟩
theorem jba(hc:X.calm=true)(c:CompOk X scope Nc js)(hi:QI X tg iter wi)(hg:∀C s3 H3 fp,QG (X.comp scope C Nc s3 H3 fp) tg g)(he:∀C s3 H3 fp,QE (X.comp scope C Nc s3 H3 fp) elt te)
  (hs:∀x,foldedSetIterable iter X.env x=pure x:=by intro _;rfl):QE X (.ListComp elt [⟨tg,iter,[],0⟩] scope pos) (jjg wi g js te):=⟨pe_comp hc c hi.h (λC s H f=>(hg C s H f).h) (λC s H f=>(he C s H f).h) hs⟩
theorem jm(F:FnOk X.prog X.w X.K X.mg X.base CX k f fd ps sp)(hr:Room k X.A)(hg:Gl X x)(hm:X.mg x=some (.ref f))(hk:PySem.W.keepIn X.K (.ref f)=true)(hb:Binds X.K fd ps ds)(hd:Vals dvs ds)(hx:jdl CX X E)
  (ha:QA X (e::es) t) (hdb:(x == ("__debug__":Str))=false:=by decide) (he:starEach (e::es) X.env=(false,eval e X.env)::starEach es X.env:=by rfl) (hpl:(backTo pos (starEach es X.env)).any (·.1)=false:=by rfl) :
  QE X (.Call (.Name x p) (e::es) [] pos) (jjf sp dvs E t):=⟨pe_call F hr hg hm hk hb hd hx ha.h hdb he hpl⟩
theorem kj(hc:jcv X (.type T) r)(hg:Gl X x)(hm:X.mg x=none)(hv:bootBuiltins x=some (.type T))(ha:QA X (e::es) t)(hn:x≠"__name__":=by decide)(hdb:(x == ("__debug__":Str))=false:=by decide)
  (he:starEach (e::es) X.env=(false,eval e X.env)::starEach es X.env:=by rfl) (hpl:(backTo pos (starEach es X.env)).any (·.1)=false:=by rfl):QE X (.Call (.Name x p) (e::es) [] pos) (tCB r t):=⟨pe_callTy hc hg hm hv ha.h hn hdb he hpl⟩
theorem jy(hc:jcv X (.builtin idn) r)(hg:Gl X x)(hm:X.mg x=none)(hv:bootBuiltins x=some (.builtin idn))(ha:QA X (e::es) t)(hn:x≠"__name__":=by decide)(hdb:(x == ("__debug__":Str))=false:=by decide)
  (he:starEach (e::es) X.env=(false,eval e X.env)::starEach es X.env:=by rfl) (hpl:(backTo pos (starEach es X.env)).any (·.1)=false:=by rfl):QE X (.Call (.Name x p) (e::es) [] pos) (tCB r t):=⟨pe_callB hc hg hm hv ha.h hn hdb he hpl⟩
theorem kf(slot:Slot "list" name idn)(hty:typeOf (.builtin idn)=pure (.type "method_descriptor"))(hm:MtM X idn r)(ho:QE X o to)(ha:QA X (e::es) t)(mono:∀σ H Q Q',(∀v H',Q v H'->Q' v H')->to σ H Q->to σ H Q')
  (hbase:attributeBase o name X.env (eval o X.env)=eval o X.env:=by rfl)
  (hfew:((backTo cpos (starEach (e::es) X.env)).all (λx=>!x.1) && (backToKw cpos (keywordEach [] X.env)).all (λx=>x.1.isSome)
   && decide ((e::es).length+([]:List Keyword).length+(if([]:List Keyword).isEmpty then 0 else 1)<30))=true:=by rfl)
  (hline:(apos.endLine == cpos.line)=true:=by rfl) (hs:starEach (e::es) X.env=(false,eval e X.env)::starEach es X.env:=by rfl) (hplain:(backTo cpos (starEach es X.env)).any (·.1)=false:=by rfl) :
  QE X (.Call (.Attribute o name apos) (e::es) [] cpos) (tBML r to t):=⟨pe_bmL slot hty hm ho.h ha.h mono hbase hfew hline hs hplain⟩
theorem ja7(slot:Slot "str" name idn)(hty:typeOf (.builtin idn)=pure (.type "method_descriptor"))(hm:MtM X idn r)(ho:QE X o to)(ha:QA X (e::es) t)(mono:∀σ H Q Q',(∀v H',Q v H'->Q' v H')->to σ H Q->to σ H Q')
  (hbase:attributeBase o name X.env (eval o X.env)=eval o X.env:=by rfl)
  (hfew:((backTo cpos (starEach (e::es) X.env)).all (λx=>!x.1) && (backToKw cpos (keywordEach [] X.env)).all (λx=>x.1.isSome)
   && decide ((e::es).length+([]:List Keyword).length+(if([]:List Keyword).isEmpty then 0 else 1)<30))=true:=by rfl)
  (hline:(apos.endLine == cpos.line)=true:=by rfl) (hs:starEach (e::es) X.env=(false,eval e X.env)::starEach es X.env:=by rfl) (hplain:(backTo cpos (starEach es X.env)).any (·.1)=false:=by rfl) :
  QE X (.Call (.Attribute o name apos) (e::es) [] cpos) (tBMS r to t):=⟨pe_bmS slot hty hm ho.h ha.h mono hbase hfew hline hs hplain⟩
theorem z6(slot:Slot "list" name idn)(hty:typeOf (.builtin idn)=pure (.type "method_descriptor"))(hm:MtM X idn r)(ho:QE X o to)(mono:∀σ H Q Q',(∀v H',Q v H'->Q' v H')->to σ H Q->to σ H Q')
  (hbase:attributeBase o name X.env (eval o X.env)=eval o X.env:=by rfl) (hline:(apos.endLine == cpos.line)=true:=by rfl):QE X (.Call (.Attribute o name apos) [] [] cpos) (jje r to):=⟨pe_bmL0 slot hty hm ho.h mono hbase hline⟩
theorem jd:QA X [] tNil:=⟨jby⟩
theorem jc(ha:QE X e te)(hr:QA X es t)(hs:starEach (e::es) X.env=(false,eval e X.env)::starEach es X.env:=by rfl):QA X (e::es) (jeb te t):=⟨jbj ha.h hr.h hs⟩
theorem kh{i:Nat}{x:Str}(hN:X.N.Nodup)(hi:X.N[i]?=some x)(hx:Loc X.env.scope x)(hf:X.fn x=true\/X.env.scope.names.lookup x=some .local:=by first|exact .inl rfl|exact .inr rfl|assumption):QG X (.Name x pos) (jdk i):=⟨pg_name hN hi hx hf⟩
theorem jbl{es:List Expr}{t:TGs}{n:Nat}{K:PySem.W.Frag}(hc:X.calm=true)(h:QGs X es t)(hK:X.K=K)(hn:(assignEach es X.env).length=n:=by rfl)(hst:(assignEach es X.env).findIdx? (·.1)=none:=by rfl) :
  QG X (.Tuple es k pos) (gTup K n t):=by subst hK;exact⟨pg_tup hc h.h hn hst⟩
theorem jbb:QGs X [] gNil:=⟨pgs_nil⟩
theorem zr{e:Expr}{es:List Expr}(h1:QG X e t)(h2:QGs X es u)(hs:(assignEach (e::es) X.env).map (·.2)=assign e X.env::(assignEach es X.env).map (·.2):=by rfl):QGs X (e::es) (jpw t u):=⟨pgs_cons h1.h h2.h hs⟩
theorem jao{o i:Expr}(ho:QE X o to)(hi:QE X i ti)(hs:PSet X t)
  (ha:∀v,assign (.Subscript o i pos) X.env v=(do
   let ov <-holding [v] (eval o X.env)
   let iv <-holding [v,ov] (eval i X.env)
   standAt pos
   holding [v,ov,iv] (setItem ov iv v)
   release [v,ov,iv] []):=by intro _;rfl):QG X (.Subscript o i pos) (gSub to ti t):=⟨pg_sub ho.h hi.h hs ha⟩
theorem jp{i:Nat}{x:Str}{e:Expr}{te:TE}{pos':Pos}(hN:X.N.Nodup)(hi:X.N[i]?=some x)(hx:Loc X.env.scope x)(he:QE X e te)(hs:swapsWith e (some (.Name x pos')) pos.line X.env=pure false:=by rfl)
  (hf:X.fn x=true\/X.env.scope.names.lookup x=some .local:=by first|exact .inl rfl|exact .inr rfl|assumption):QS X (.Assign [.Name x pos'] e pos) (tAsg te (jdk i)):=⟨ps_set hN hi hx he.h hs hf⟩
theorem jap{tg e:Expr}(he:QE X e te)(hg:QG X tg g)(hs:swapsWithSole [tg] e pos.line X.env=pure false:=by rfl)(hw:swappedStores [tg] e X.env=pure none:=by rfl)
  (h1:(assignEach [tg] X.env).map (·.2)=[assign tg X.env]:=by rfl):QS X (.Assign [tg] e pos) (tAsg te g):=⟨ps_asg he.h hg.h hs hw h1⟩
theorem qps_dput(hu:X.A.units+1<cLine)(ho:QE X o td)(hi:QE X i ty)(hv:QE X value tv)(hs:swapsWith value (some (.Subscript o i pos')) pos.line X.env=pure false) :
  QS X (.Assign [.Subscript o i pos'] value pos) (jjc td ty tv):=⟨ps_dput hu ho.h hi.h hv.h hs⟩
theorem ju(he:QE X e te):QS X (.Return (some e) pos) (tRet te):=⟨ps_ret he.h⟩
theorem jz(he:QE X e te)(hs:swapsWith e none pos.line X.env=pure false:=by rfl):QS X (.Expr e pos) (jji te):=⟨ps_expr he.h hs⟩
theorem j0(hc:QT X c tc)(ha:QSs X a t)(hb:QSs X b u):QS X (.If c a b pos) (tIfS tc t u):=⟨ps_if hc.h ha.h hb.h⟩
theorem zu{iter:Expr}(hp:PassesOwn (model X.prog X.w) X.A X.env X.xe)(hc:X.calm=true)(hi:QI X tg iter wi)(hg:QG X tg g)(hb:QSs X body tb)(hs:∀x,foldedSetIterable iter X.env x=pure x:=by intro _;rfl) :
  QS X (.For tg iter body [] pos) (tFor wi g tb):=⟨ps_for hp hc hi.h hg.h hb.h hs⟩
theorem jak(hp:PassesOwn (model X.prog X.w) X.A X.env X.xe)(hc:QT X c tc)(hb:QSs X body tb):QS X (.While c body [] pos) (jky tc tb):=⟨ps_while hp hc.h hb.h⟩
theorem qps_continue:QS X (.Continue pos) jjh:=⟨ps_continue⟩
theorem jat{a:Expr}{ta:TA}{p pos:Pos}(hg:Gl X "range")(hm:X.mg "range"=none)(ha:QA X [a] ta)(hs:starEach [a] X.env=[(false,eval a X.env)]:=by rfl):QI X tg (.Call (.Name "range" p) [a] [] pos) (ji7 ta):=⟨pi_range1 hg hm ha.h hs⟩
theorem qpi_range2{a b:Expr}{ta:TA}{p pos:Pos}(hg:Gl X "range")(hm:X.mg "range"=none)(ha:QA X [a,b] ta)(hs:starEach [a,b] X.env=[(false,eval a X.env),(false,eval b X.env)]:=by rfl)(hs2:starEach [b] X.env=[(false,eval b X.env)]:=by rfl) :
  QI X tg (.Call (.Name "range" p) [a,b] [] pos) (ji8 ta):=⟨pi_range2 hg hm ha.h hs hs2⟩
theorem jaw{a:Expr}{ta:TA}{p pos tpos:Pos}(hg:Gl X "enumerate")(hm:X.mg "enumerate"=none)(ha:QA X [a] ta)(hs:starEach [a] X.env=[(false,eval a X.env)]:=by rfl) :
  QI X (.Tuple elts kk tpos) (.Call (.Name "enumerate" p) [a] [] pos) (jgv ta):=⟨pi_enumerate hg hm ha.h hs⟩
theorem zt{K:PySem.W.Frag}(hl:QE X l tl)(hK:X.K=K):QI X tg l (iAny K tl):=by subst hK;exact⟨pi_any hl.h⟩
def jd0(D:Addr)(tt:TT)(te:TE):TS:=λE σ H=>tt σ H λb H1=>if b=true then jec D te E σ H1 else E.nx σ H1
def jdz(wi:TI)(g:TG)(js:List (Option Nat))(tt:TT)(te:TE):TE:=λσ H Q=>wi σ H λJ H1=>∀D,H1 D=none ->
 jc8 J g (jd0 D tt te) {nx:=λ_ H'=>Q (.ref D) H',rt:=λ_ _=>False} (jdh js σ) (upd H1 D (.lst []))
theorem jju(elt target iter cd:Expr)(scope:Scope)(pos:Pos)(it acc:Value)(env:Env) :
  compTurn (.ListComp elt [⟨target,iter,[cd],0⟩] scope pos) 0 it acc env=(standAt iter.pos >>= λ_=>pyNext it >>= λr=>match r with
   |none=>pure (.done .next)
   |some v=>letOwnedTupleGo target it v >>= λ_=>assign target env v >>= λ_ =>
    (forIn [cd] true λc ok=>if ok=true then(isTrue c env (eval c env) >>= λb=>pure (ForInStep.yield b))else pure (ForInStep.yield ok)) >>= λok =>
    if ok=true then((eval elt env >>= λx=>call (.builtin "list.append") [acc,x] >>= λ_=>pure ()) >>= λ_=>again (.compLoop (.ListComp elt [⟨target,iter,[cd],0⟩] scope pos) 0 it acc env))
    else again (.compLoop (.ListComp elt [⟨target,iter,[cd],0⟩] scope pos) 0 it acc env)):=by rfl
section
variable{X:Cx}{scope:Scope}{Nc:List Str}{js:List (Option Nat)}{elt tg iter cd:Expr}{pos:Pos}{wi:TI}{g:TG}{te:TE}{tt:TT}
theorem jfz(hc:X.calm=true)(c:CompOk X scope Nc js)(hi:PI X tg iter wi)(hg:∀C s3 H3 fp,PG (X.comp scope C Nc s3 H3 fp) tg g)(ht:∀C s3 H3 fp,PT (X.comp scope C Nc s3 H3 fp) cd tt)(he:∀C s3 H3 fp,PE (X.comp scope C Nc s3 H3 fp) elt te)
  {pins:List (Addr×Obj)}{s:Shared}{σ:L2.St}{H:Hp} (I:Inv X pins σ H s) {RR:Value->Addr->Result->Shared->Prop}{NX:Addr->Hp->Prop}
  (h:wi σ H λJ H1=>∀D,H1 D=none->jc8 J g (jd0 D tt te) {nx:=λ_ H'=>NX D H',rt:=λ_ _=>False} (jdh js σ) (upd H1 D (.lst [])))
  (fin:∀D H3 s3 fp σ5 H5 s6,Inv X pins σ H3 s3->(∀b∈fp,FpOk X pins H3 b)->Inv (X.comp scope s3.heap.objs.size Nc s3 H3 fp) [] σ5 H5 s6->NX D H5->RR (.ref D) s3.heap.objs.size (.ok .next) s6) :
  wpAny (model X.prog X.w) X.A (eval iter X.env) (λx s₁=>wpAny (model X.prog X.w) X.A (pyIter x) (λit s₂=>wpAny (model X.prog X.w) X.A (newList []) (λacc s₃ =>
   wpAny (model X.prog X.w) X.A (newFunctionEnv scope X.env.globals (clOf X.env scope.names []) [] X.env.qual none .none (some X.env)) (λcenv s₄ =>
    codeAny (model X.prog X.w) X.A (.compStart (.ListComp elt [⟨tg,iter,[cd],0⟩] scope pos) 0 it acc {cenv with scope:=relabel scope X.env}) (RR acc cenv.locals) s₄) X.xe s₃) X.xe s₂) X.xe s₁) X.xe s:=by
 refine thn (hi pins s σ H _ I h) λv s1 h1=>thn h1 λitv s2 h2=>?_
 obtain⟨it,fp,tn,J,H2,rfl,I2,T,st2,f2,h2⟩:=h2
 refine Ik ?_ (by show 0<=sizeLine;decide)
 have hD:H2 s2.heap.objs.size=none:=I2.hok.fresh (Ah _)
 have I3:Inv X pins σ (upd H2 s2.heap.objs.size (.lst [])) {s2 with heap:=s2.heap.push {cls:=.type "list",data:=.seq ([]:List Value).toArray}} :=
  I2.laid (t':=s2.toks) (λb u e=>Ad _ e) (Ah _) ⟨by show 0<=sizeLine;decide,[],0,.nil,An _ rfl⟩
 have f3:∀b∈fp,FpOk X pins (upd H2 s2.heap.objs.size (.lst [])) b:=λb hb=>by
  obtain⟨q0,q⟩:=f2 b hb
  obtain⟨o,e,_⟩:=T.obj _ _ st2 b hb
  exact⟨by rw[jf (Ap (Am e))];exact q0,q⟩
 have o3:∀b∈fp,∃o,(s2.heap.push {cls:=.type "list",data:=.seq ([]:List Value).toArray}).get? b=some o:=λb hb=>by
  obtain⟨o,e,_⟩:=T.obj _ _ st2 b hb
  exact⟨o,Ad _ e⟩
 have st3:tn 0 (s2.heap.push {cls:=.type "list",data:=.seq ([]:List Value).toArray}):=T.keep _ _ _ st2 λb _ o e=>Ad _ e
 generalize hh3:s2.heap.push {cls:=.type "list",data:=.seq ([]:List Value).toArray}=h3 at I3 o3 st3⊢
 refine W0 c.nocell (by intro y hy;simp at hy) (λh4 hn4 hs4=>?_) c.kind
 have k4:∀b o,h3.get? b=some o->h4.get? b=some o:=λb o e=>(hs4.2 b (Ap (Am e))).trans (Ad _ e)
 have I4:=jjv (tk:=s2.toks+([]:List (Str×Value)).length) c I3 f3 o3 hn4 k4
 have st4:tn 0 h4:=T.keep _ _ _ st3 λb _ o e=>k4 b o e
 obtain⟨W,⟨m0,w0⟩,turn⟩:=h2 _ hD
 let s3:Shared:={s2 with heap:=h3}
 let Y:Cx:=X.comp scope h3.objs.size Nc s3 (upd H2 s2.heap.objs.size (.lst [])) fp
 have stat:∀{H':Hp},(∀b∈fp,H' b=none)->∀b∈fp,FpOk Y [] H' b:=λhn b hb=>⟨hn b hb,(I4.ok.exf b hb).1,I4.ok.exfs b hb,.inl hb,(I4.ok.exf b hb).2,(λp hp=>nomatch hp)⟩
 have loop:codeAny (model X.prog X.w) X.A (.compLoop (.ListComp elt [⟨tg,iter,[cd],0⟩] scope pos) 0 (.ref it) (.ref s2.heap.objs.size) Y.env)
   (RR (.ref s2.heap.objs.size) h3.objs.size) {s2 with heap:=h4,toks:=s2.toks+([]:List (Str×Value)).length}:=by
  refine codeAny_loop rfl (λn s'=>∃i σ' H',Inv Y [] σ' H' s'/\tn i s'.heap/\(∀b∈fp,H' b=none)/\W i n σ' H') (λn s5 hI=>?_) m0 ⟨0,_,_,I4,st4,λb hb=>(f3 b hb).1,w0⟩
  obtain⟨i,σ5,H5,I5,st5,fr5,w5⟩:=hI
  show wpAny _ X.A ((compTurn (.ListComp elt [⟨tg,iter,[cd],0⟩] scope pos) 0 (.ref it) (.ref s2.heap.objs.size) Y.env).onRaise (λx=>do noteFrame x Y.env;theTreesLotGoes x)) _ _ s5
  refine wpAny_noted (Of (E:=λ_ _=>False) ?_ (λ_ _ q=>q) λ_ _ z=>z.elim)
  rw[jju]
  refine Aa (Yb (Aa ?_))
  rcases turn i n σ5 H5 w5 with⟨stop,qn⟩|⟨go,N,hN,step⟩
  ·refine thn (T.done Y rfl rfl rfl hc i [] s5 σ5 H5 _ I5 (stat fr5) st5 stop) λr s6 ⟨hr,I6⟩=>?_
   subst hr
   refine Af ?_
   exact fin _ _ s3 fp σ5 H5 s6 I3 f3 I6 qn
  ·refine thn (T.item Y rfl rfl rfl hc i [] s5 σ5 H5 _ I5 (stat fr5) st5 go) λr s6 ⟨u,hr,h6⟩=>?_
   subst hr
   refine Aa (thn h6 λ_ s7 ⟨x,H7,I7,r7,y7,st7,fr7⟩=>?_)
   have I7':=I7.pinned (stat fr7) (T.obj _ _ st7)
   refine Aa (thn (hg _ _ _ _ _ s7 σ5 H7 x u _ I7' r7 (step x H7 y7)) λ_ s8 ⟨σ8,H8,I8,q8⟩=>?_)
   have fin2:∀{H':Hp}{s':Shared},Inv Y ([]++je9 fp s7.heap) σ8 H' s'->N σ8 H'->∃m,m<n/\∃i σ1 H1,Inv Y [] σ1 H1 s'/\tn i s'.heap/\(∀b∈fp,H1 b=none)/\W i m σ1 H1:=fun{H'}{s'} I10 n10=>by
    obtain⟨m',hm,w10⟩:=hN σ8 H' n10
    refine⟨m',hm,i+1,σ8,H',I10.unpinned,T.keep _ _ _ st7 λb hb o e=>(I10.pin (b,o) (A9 _ (A9 _ (jdg hb e)))).1,λb hb=>?_,w10⟩
    obtain⟨o,e,d⟩:=T.obj _ _ st7 b hb
    exact(I10.pin (b,o) (A9 _ (A9 _ (jdg hb e)))).2.1
   rw[List.forIn_cons,Ak rfl]
   refine Aa (Aa (Aa (thn (ht _ _ _ _ _ s8 σ8 H8 _ I8 q8) λok s9 ⟨H9,I9,q9⟩=>Af ?_)))
   simp only[List.forIn_nil]
   refine Af ?_
   cases ok with
   |false =>
    simp only[Ip,Ov]at q9⊢
    exact Af ⟨rfl,fin2 I9 q9⟩
   |true =>
    simp only[O0]at q9⊢
    refine Aa (Aa (thn (he _ _ _ _ _ s9 σ8 H9 _ I9 q9) λv s10 ⟨y,H10,I10,r10,ys,e10,z10,n10⟩=>?_))
    refine Aa (thn (ja2 (X:=Y) _ s10 σ8 H10 (.ref s2.heap.objs.size) [y] (.ref s2.heap.objs.size) [v] (λw H'=>N σ8 H') I10 rfl (.cons r10 .nil) ⟨_,ys,y,rfl,rfl,jcp e10,z10,n10⟩) λw s11 ⟨_,H11,I11,_,n11⟩=>?_)
    exact Af (Af ⟨rfl,fin2 I11 n11⟩)
 exact codeAny_compStart_list loop (T.self _ 0 _ _ _ st4 loop)
theorem pe_compIf(hc:X.calm=true)(c:CompOk X scope Nc js)(hi:PI X tg iter wi)(hg:∀C s3 H3 fp,PG (X.comp scope C Nc s3 H3 fp) tg g)(ht:∀C s3 H3 fp,PT (X.comp scope C Nc s3 H3 fp) cd tt)(he:∀C s3 H3 fp,PE (X.comp scope C Nc s3 H3 fp) elt te)
  (hs:∀x,foldedSetIterable iter X.env x=pure x:=by intro _;rfl):PE X (.ListComp elt [⟨tg,iter,[cd],0⟩] scope pos) (jdz wi g js tt te):=by
 intro pins s σ H Q I h
 rw[eval_ListComp]
 refine U7 (use:=none) (g:=⟨tg,iter,[cd],0⟩) (gs:=[]) rfl hs (jem (c.has I)) c.kind c.loc
  (jfz (RR:=λacc C=>compPost (model X.prog X.w) X.A X.xe none (EP X pins σ Q) acc C) (NX:=λD H'=>Q (.ref D) H') hc c hi hg ht he I h λD H3 s3 fp σ5 H5 s6 I3 f3 I6 qn=>?_)
 obtain⟨m,hn,_⟩:=I6.loc
 exact⟨m,hn,λh' hs'=>⟨.ref D,H5,jen I3 f3 I6 hs',rfl,qn⟩⟩
theorem ps_setcIf{i:Nat}{y:Str}{py spos:Pos}(hN:X.N.Nodup)(hiN:X.N[i]?=some y)(hy:Loc X.env.scope y)(hc:X.calm=true)(c:CompOk X scope Nc js)(hi:PI X tg iter wi)(hg:∀C s3 H3 fp,PG (X.comp scope C Nc s3 H3 fp) tg g)
  (ht:∀C s3 H3 fp,PT (X.comp scope C Nc s3 H3 fp) cd tt) (he:∀C s3 H3 fp,PE (X.comp scope C Nc s3 H3 fp) elt te) (hsw:swapsWith (.ListComp elt [⟨tg,iter,[cd],0⟩] scope pos) (some (.Name y py)) spos.line X.env=pure true:=by rfl)
  (hs:∀x,foldedSetIterable iter X.env x=pure x:=by intro _;rfl) (hf:X.fn y=true\/X.env.scope.names.lookup y=some .local:=by first|exact .inl rfl|exact .inr rfl|assumption) :
  PS X (.Assign [.Name y py] (.ListComp elt [⟨tg,iter,[cd],0⟩] scope pos) spos) (tAsg (jdz wi g js tt te) (jdk i)):=by
 intro pins s σ H D I h
 rw[exec_Assign_Name_used _ _ _ _ hsw]
 refine Aa (Yb (Aa ?_))
 show wpAny _ X.A (do let _ <-comprehension (.ListComp elt [⟨tg,iter,[cd],0⟩] scope pos) scope X.env _ (newList []) false (eval iter X.env) (some (assign (.Name y py) X.env))) _ _ s
 refine Aa (Of (U7 (use:=some (assign (.Name y py) X.env)) (g:=⟨tg,iter,[cd],0⟩) (gs:=[]) (Q:=λ_ s'=>SP X pins D .next s') rfl hs (jem (c.has I)) c.kind c.loc
  (jfz (RR:=λacc C=>compPost (model X.prog X.w) X.A X.xe (some (assign (.Name y py) X.env)) (λ_ s'=>SP X pins D .next s') acc C) (NX:=λDa H'=>D.nx (σ.set i (some (.ref Da))) H') hc c hi hg ht he I h λDa H3 s3 fp σ5 H5 s6 I3 f3 I6 qn=>?_))
  (λ_ s' hq=>Af (Af hq)) λ_ _ e=>e)
 obtain⟨m,hn,_⟩:=id I6.loc
 have I7:Inv X pins σ H5 s6:=jen I3 f3 I6 (.refl ..)
 have hC:H5 s3.heap.objs.size=none:=I6.free
 have nL:s3.heap.objs.size≠X.env.locals:=Nat.ne_of_gt I3.lt
 have nc:∀x a,X.env.cells.lookup x=some a->a≠s3.heap.objs.size:=λx a e=>by
  obtain⟨v,q⟩:=I3.cell x a e
  exact Ap q.lt
 have np:∀p∈X.pn++pins,p.1≠s3.heap.objs.size:=λp hp=>Ap (Am (I3.pin p hp).1)
 show wpAny _ _ (assign (.Name y py) X.env (.ref Da)) _ _ _
 refine wpAny_assign_Name (jiz (v:=.ref Da) I7 hN hiN hy rfl (λs8 I8 hb=>?_) hf)
 obtain⟨a,hs8,ha⟩:=hb
 have nCa:s3.heap.objs.size≠a:=by
  rcases ha with z|z
  ·rw[z];exact nL
  ·exact(nc y a z).symm
 refine⟨m,hn.sameBut hs8 nCa,λh9 hs9=>?_⟩
 exact⟨_,H5,I8.turned (t':=s8.toks) (λb o hb e=>(hs9.2 b hb).trans e) hC nL (.inr (Ih I3.sz (Ah _))) nc np,qn⟩
theorem jas(hc:X.calm=true)(c:CompOk X scope Nc js)(hi:QI X tg iter wi)(hg:∀C s3 H3 fp,QG (X.comp scope C Nc s3 H3 fp) tg g)(ht:∀C s3 H3 fp,QT (X.comp scope C Nc s3 H3 fp) cd tt)(he:∀C s3 H3 fp,QE (X.comp scope C Nc s3 H3 fp) elt te)
  (hs:∀x,foldedSetIterable iter X.env x=pure x:=by intro _;rfl):QE X (.ListComp elt [⟨tg,iter,[cd],0⟩] scope pos) (jdz wi g js tt te) :=
 ⟨pe_compIf hc c hi.h (λC s H f=>(hg C s H f).h) (λC s H f=>(ht C s H f).h) (λC s H f=>(he C s H f).h) hs⟩
theorem qps_setcIf{i:Nat}{y:Str}{py spos:Pos}(hN:X.N.Nodup)(hiN:X.N[i]?=some y)(hy:Loc X.env.scope y)(hc:X.calm=true)(c:CompOk X scope Nc js)(hi:QI X tg iter wi)(hg:∀C s3 H3 fp,QG (X.comp scope C Nc s3 H3 fp) tg g)
  (ht:∀C s3 H3 fp,QT (X.comp scope C Nc s3 H3 fp) cd tt) (he:∀C s3 H3 fp,QE (X.comp scope C Nc s3 H3 fp) elt te) (hsw:swapsWith (.ListComp elt [⟨tg,iter,[cd],0⟩] scope pos) (some (.Name y py)) spos.line X.env=pure true:=by rfl)
  (hs:∀x,foldedSetIterable iter X.env x=pure x:=by intro _;rfl) (hf:X.fn y=true\/X.env.scope.names.lookup y=some .local:=by first|exact .inl rfl|exact .inr rfl|assumption) :
  QS X (.Assign [.Name y py] (.ListComp elt [⟨tg,iter,[cd],0⟩] scope pos) spos) (tAsg (jdz wi g js tt te) (jdk i)) :=
 ⟨ps_setcIf hN hiN hy hc c hi.h (λC s H f=>(hg C s H f).h) (λC s H f=>(ht C s H f).h) (λC s H f=>(he C s H f).h) hsw hs hf⟩
end
section
variable{D:Addr}{te:TE}{tt:TT}{E:Ends}{r:L2.St}{H:Hp}
theorem jd7{α:Type}(p:α->Bool)(f:α->V)(xs:List α)(i:Nat)(x:α)(h:xs[i]?=some x):((xs.take (i+1)).filter p).map f=((xs.take i).filter p).map f++(if p x=true then[f x]else[]):=by
 rw[Wb,h]
 simp only[Option.toList_some,List.filter_append,Ig]
 congr 1
 by_cases q:p x=true
 ·simp[q]
 ·simp[q]
theorem jk7{K:PySem.W.Frag}{a:Addr}{xs:List V}(p:V->Bool)(f:V->V)(ha:H a=some (.lst xs))(hD:H D=none)(hz:xs.length<=sizeLine)
  (ht:∀x∈xs,∀l Q,Q (p x) (upd H D (.lst l))->tt (some x::r) (upd H D (.lst l)) Q) (he:∀x∈xs,p x=true->∀l Q,Q (f x) (upd H D (.lst l))->te (some x::r) (upd H D (.lst l)) Q)
  (hn:∀v,E.nx (v::r) (upd H D (.lst ((xs.filter p).map f)))):jc8 (Itl K a) (jdk 0) (jd0 D tt te) E (none::r) (upd H D (.lst [])):=by
 have ne:a≠D:=jj ha hD
 refine je7 (xs:=xs) (λi σ H'=>∃v:Option V,σ=v::r/\H'=upd H D (.lst (((xs.take i).filter p).map f))) ⟨none,rfl,rfl⟩ ?_ ?_ ?_
 ·rintro i σ H' _ ⟨v,_,rfl⟩
  rw[jf ne];exact ha
 ·rintro i x σ H' hx ⟨v,rfl,rfl⟩
  have hl:i<xs.length:=(Aj.mp hx).1
  have hm:=A5 hx
  have hf:(((xs.take i).filter p).map f).length<=i:=by
   rw[Ab]
   exact Ih (List.length_filter_le _ _) (by rw[Om];omega)
  refine ht x hm _ _ ?_
  by_cases q:p x=true
  ·rw[q,Ak rfl]
   refine he x hm q _ _ ⟨_,by rw[je];rfl,by omega,some x,rfl,?_⟩
   rw[jjp,jd7 p f xs i x hx,Ak q]
  ·rw[Ae q]
   refine⟨some x,rfl,?_⟩
   rw[jd7 p f xs i x hx,Ae q,Og]
 ·rintro σ H' ⟨v,rfl,rfl⟩
  rw[Oc (Ah _)]
  exact hn v
theorem jmn{K:PySem.W.Frag}{a:Addr}{xs:List V}(p:V->Bool)(f:V->V)(ha:H a=some (.tup xs))(hD:H D=none)(hz:xs.length<=sizeLine)
  (ht:∀x∈xs,∀l Q,Q (p x) (upd H D (.lst l))->tt (some x::r) (upd H D (.lst l)) Q) (he:∀x∈xs,p x=true->∀l Q,Q (f x) (upd H D (.lst l))->te (some x::r) (upd H D (.lst l)) Q)
  (hn:∀v,E.nx (v::r) (upd H D (.lst ((xs.filter p).map f)))):jc8 (Itt K a) (jdk 0) (jd0 D tt te) E (none::r) (upd H D (.lst [])):=by
 have ne:a≠D:=jj ha hD
 refine jd4 (xs:=xs) (λi σ H'=>∃v:Option V,σ=v::r/\H'=upd H D (.lst (((xs.take i).filter p).map f))) ⟨none,rfl,rfl⟩ ?_ ?_ ?_
 ·rintro i σ H' _ ⟨v,_,rfl⟩
  rw[jf ne];exact ha
 ·rintro i x σ H' hx ⟨v,rfl,rfl⟩
  have hl:i<xs.length:=(Aj.mp hx).1
  have hm:=A5 hx
  have hf:(((xs.take i).filter p).map f).length<=i:=by
   rw[Ab]
   exact Ih (List.length_filter_le _ _) (by rw[Om];omega)
  refine ht x hm _ _ ?_
  by_cases q:p x=true
  ·rw[q,Ak rfl]
   refine he x hm q _ _ ⟨_,by rw[je];rfl,by omega,some x,rfl,?_⟩
   rw[jjp,jd7 p f xs i x hx,Ak q]
  ·rw[Ae q]
   refine⟨some x,rfl,?_⟩
   rw[jd7 p f xs i x hx,Ae q,Og]
 ·rintro σ H' ⟨v,rfl,rfl⟩
  rw[Oc (Ah _)]
  exact hn v
end
section
variable{X:Cx}
def rTru(x:V)(H:Hp)(Q:Bool->Hp->Prop):Prop:=match x with
 |.bl b=>Q b H
 |.int i=>Q (i != 0) H
 |.non=>Q false H
 |.str y=>y.length<=sizeLine/\Q ((y.length:Int) != 0) H
 |.ref p=>∃xs,jcy (H p)=some xs/\Q (!xs.isEmpty) H
 |_=>False
def tTru(ta:TE):TT:=λσ H Q=>ta σ H λx H1=>rTru x H1 Q
theorem jd6(p:Addr)(H:Hp)(Q:Bool->Hp->Prop):rTru (.ref p) H Q=(∃xs,jcy (H p)=some xs/\Q (!xs.isEmpty) H):=rfl
theorem jl4(b:Bool)(H:Hp)(Q:Bool->Hp->Prop):rTru (.bl b) H Q=Q b H:=rfl
theorem jkm(y:Str)(H:Hp)(Q:Bool->Hp->Prop):rTru (.str y) H Q=(y.length<=sizeLine/\Q ((y.length:Int) != 0) H):=rfl
theorem pt_tru{a:Expr}{ta:TE}(ha:PE X a ta)(he:∀whole,isTrue a X.env whole=(do let v <-whole;standAt a.pos;holding [v] (truthy v)):=by intro _;rfl):PT X a (tTru ta):=by
 intro pins s σ H Q I h
 refine isTrue_plain (thn (ha pins s σ H _ I h) λv s1 ⟨x,H1,I1,r1,q1⟩=>jr9 pins s1 σ H1 x v Q I1 r1 ?_) (he _)
 replace q1:rTru x H1 Q:=q1
 unfold rTru at q1
 split at q1
 ·exact⟨_,rfl,q1⟩
 ·exact⟨_,rfl,q1⟩
 ·exact⟨_,rfl,q1⟩
 ·exact⟨_,⟨q1.1,rfl⟩,q1.2⟩
 ·obtain⟨xs,e,q⟩:=q1
  rcases jet e with e|e
  ·exact⟨_,.inl ⟨xs,SqL.of e,rfl⟩,q⟩
  ·exact⟨_,.inr (.inl ⟨xs,SqT.of e,rfl⟩),q⟩
 ·exact q1.elim
def jkj:V->List V->Hp->VK->Prop:=λx vs H Q=>match x,vs with
 |.ref l,[]=>∃xs,jch (H l)=some xs/\∃y,xs[xs.length-1]?=some y/\Q y (upd H l (.lst xs.dropLast))
 |_,_=>False
theorem jc6(l:Addr)(H:Hp)(Q:VK):jkj (.ref l) [] H Q=(∃xs,jch (H l)=some xs/\∃y,xs[xs.length-1]?=some y/\Q y (upd H l (.lst xs.dropLast))):=rfl
theorem z5:MtM X "list.pop" jkj:=by
 intro pins s σ H x vs v us Q I rx rv h
 unfold jkj at h
 split at h
 ·rename_i l
  obtain⟨xs,e,y,hy,q⟩:=h
  exact mt_pop pins s σ H _ _ v us Q I rx rv ⟨l,xs,y,rfl,rfl,jcp e,hy,q⟩
 ·exact h.elim
theorem jee(ns:List Int):∀k,k<=ns.length->preSum (λi=>(ns[i]?).getD 0) k=(ns.take k).sum
 |0,_=>by simp[preSum]
 |k+1,h=>by
  have ih:=jee ns k (by omega)
  show preSum _ k+(ns[k]?).getD 0=_
  have e:ns[k]?=some (ns[k]'(by omega)):=by simp
  rw[ih,Wb,e,Option.getD_some,List.sum_append]
  simp
def jm5:List V->Hp->VK->Prop:=λxs H Q=>match xs with
 |[.ref p]=>∃ns:List Int,H p=some (.lst (ns.map V.int))/\(∀n∈ns,0<=n)/\ns.sum<1073741824/\Q (.int ns.sum) H
 |_=>False
theorem jiu(p:Addr)(H:Hp)(Q:VK):jm5 [.ref p] H Q=(∃ns:List Int,H p=some (.lst (ns.map V.int))/\(∀n∈ns,0<=n)/\ns.sum<1073741824/\Q (.int ns.sum) H):=rfl
theorem jhj:∀{ns:List Int}{us:List Value},Vals (ns.map V.int) us->∀(i:Nat)(v:Value),us[i]?=some v->∃n t,ns[i]?=some n/\v=.int n t
 |[],us,r,i,v,e=>by rw[Up]at r;cases r;simp at e
 |n::ns,us,r,i,v,e=>by
  rw[Ay]at r
  cases r with
  |cons r1 r2 =>
   cases i with
   |zero=>obtain⟨t,rfl⟩:=r1;simp at e;exact⟨n,t,rfl,e.symm⟩
   |succ i=>simp at e;obtain⟨n',t,e1,e2⟩:=jhj r2 i v e;exact⟨n',t,by simpa using e1,e2⟩
theorem jhb:∀{l:List Int},(∀n∈l,0<=n)->0<=l.sum
 |[],_=>by simp
 |x::l,h=>by
  rw[List.sum_cons]
  have:=h x (.head _)
  have:=jhb λn hn=>h n (.tail _ hn)
  omega
theorem jlb(l:List Int)(h:∀n∈l,0<=n)(k:Nat):(l.take k).sum<=l.sum:=by
 have e:l.sum=(l.take k).sum+(l.drop k).sum:=by rw[<-List.sum_append,Uq]
 have:=jhb λn hn=>h n (List.mem_of_mem_drop (i:=k) hn)
 omega
theorem jg1:∀{l:List Int},(∀n∈l,0<=n)->∀x∈l,x<=l.sum
 |[],_,x,h=>nomatch h
 |y::l,h,x,hx=>by
  rw[List.sum_cons]
  have h0:=h y (.head _)
  have h1:=jhb λn hn=>h n (.tail _ hn)
  rcases Aw.mp hx with rfl|hx
  ·omega
  ·have:=jg1 (λn hn=>h n (.tail _ hn)) x hx
   omega
theorem call_sumU(hc:X.calm=true):jcv X (.builtin "sum") jm5:=by
 intro pins s σ H xs us Q I r h
 unfold jm5 at h
 split at h
 ·rename_i p
  obtain⟨ns,e,nn,hs,q⟩:=h
  obtain⟨u,rfl,ru⟩:=jc9 r
  cases ru
  obtain⟨its,rr,pl,_⟩:=I.list (SqL.of e)
  have isl:=pl.isList
  have plt:p<s.heap.objs.size:=by obtain⟨_,e,_⟩:=isl;exact Am e
  have hlen:its.length=ns.length:=by have:=rr.length;simpa using this.symm
  refine call_sum_walk (wpAny_pyIter_list isl ?_)
  refine⟨s.heap.objs.size,[s.heap.objs.size,p],[s.heap.objs.size],its.toArray.size,_,_,λi=>(ns[i]?).getD 0,rfl,Walks.list (A:=X.A.in1) (I.ok.hd hc) _ p (Ap plt) its.toArray,
   ⟨⟨_,An _ rfl,rfl,rfl⟩,isl.push _⟩,?_,λi v hp=>?_,λj hj=>?_,λh' tk t' hk=>?_⟩
  ·intro b hb
   show b<(s.heap.objs.push _).size
   rw[Array.size_push]
   rcases Aw.mp hb with rfl|hb
   ·exact Ij _
   ·rw[Ag.mp hb];exact O9 plt
  ·obtain⟨n,t,e1,rfl⟩:=jhj rr i v (by simpa using hp)
   exact⟨t,by show Value.int n t=Value.int ((ns[i]?).getD 0) t;rw[e1];rfl⟩
  ·have hj':j<ns.length:=by rw[Al,hlen]at hj;exact hj
   have e1:ns[j]?=some (ns[j]'hj'):=by simp
   have m1:=jg1 nn _ (Iu hj')
   have m0:=nn _ (Iu hj')
   refine⟨?_,?_⟩
   ·show InLong ((ns[j]?).getD 0)
    rw[e1]
    show InLong (ns[j]'hj')
    unfold InLong
    omega
   ·rw[jee ns (j+1) (by omega)]
    have:=jlb ns nn (j+1)
    have:=jhb λn hn=>nn n (W1 (i:=j+1) hn)
    unfold InLong
    omega
  ·rw[Al,hlen,jee ns ns.length (Ah _),List.take_length]
   exact⟨.int _,H,I.kept (jqj hk),⟨_,rfl⟩,q⟩
 ·exact h.elim
end
theorem jpf:typeLookup (.type "list_reverseiterator") "__len__"=pure none:=by rw[W2,Ur];kernel_rfl
theorem jq1:typeLookup (.type "list_reverseiterator") "__length_hint__"=pure (some (.builtin "list_reverseiterator.__length_hint__")):=by rw[W2,Ur];kernel_rfl
section
variable{P:Program}{w:World}{A:Around}{E:Value->Shared->Prop}{s:Shared}
theorem jn9{R:Result->Shared->Prop}{it l:Addr}{items:Array Value}(hh:A.handled=none)(hne:l≠it)(hit:s.heap.IsRevIter it l ((items.size:Int)-1))(hl:s.heap.IsList l items)(D:Addr)(res:Value)(c0:Nat)
  (hD:s.heap.get? D=some {cls:=.type "list",data:=.seq #[] c0}) (h1:D≠it) (h2:D≠l)
  (hR:∀h' tk acc c',(∀b o,b≠D->b≠it->s.heap.get? b=some o->h'.get? b=some o)->h'.get? D=some {cls:=.type "list",dict:=none,data:=.seq acc c',slots:=#[]} ->
   ItemsOf (λi v=>items[items.size-1-i]?=some v) acc items.size->R (.ok (.ret res)) {s with heap:=h',toks:=tk}) (hn:items.size<=sizeLine) :
  wpAny (model P w) A.in1 (Builtin.List.listExtendWith (.ref D) (.ref it) res)
   (λfin s'=>match fin with|.done f=>R (.ok f) s'|.again c'=>c'.quiet=true/\codeAny (model P w) A c' R s') (λe s'=>R (.error e) s') s:=by
 have hDf:D∉[it,l]:=λhm=>by
  rcases Aw.mp hm with e|hm
  ·exact h1 e
  ·exact h2 (Ag.mp hm)
 have W:=(Walks.listRev (prog:=P) (w:=w) (A:=A.in1) hh it l hne items).toS
 have st0:(0:Nat)<=items.size/\s.heap.IsRevIter it l ((items.size:Int)-1-((0:Nat):Int))/\s.heap.IsList l items:=⟨A8 _,by simpa using hit,hl⟩
 have q1:Builtin.List.listSameRef (.ref D) (.ref it)=false:=by simp[Builtin.List.listSameRef,h1]
 unfold Builtin.List.listExtendWith
 refine Aa (wpAny_typeOf (T:="list_reverseiterator") hit.typeIs ?_)
 rw[Ae (by rw[q1];decide)]
 refine Aa (wpAny_pyIter_revIter hit ?_)
 refine Aa (Op ?_)
 unfold Builtin.List.listLengthHint
 refine Aa (Wz (T:="list_reverseiterator") hit.typeIs jpf ?_)
 show wpAny _ A.in1 ((specialOf (Value.ref it) (Str.ofString "__length_hint__")) >>= _) _ _ _
 refine Aa (Wz (T:="list_reverseiterator") hit.typeIs jq1 ?_)
 generalize hid:("list_reverseiterator.__length_hint__":String)=idh
 wp_delta
 rw[show splitId idh=some ("list_reverseiterator","__length_hint__")from by subst hid;decide +kernel]
 subst hid
 refine Aa (wpAny_isInstance (b:=true) (T:="list_reverseiterator") hit.typeIs (by rw[Us];kernel_rfl) (Af ?_))
 rw[Ae (by decide)]
 refine Af ⟨Uy F.plain_extend_loop _,codeAny_extend_loopS W hn _ hDf _ items.size 0 _ _ _ rfl (A8 _) st0 hD (ItemsOf.nil _) λs' acc' c' hm hS' hacc=>?_⟩
 rw[Moved.eq_with hm]
 refine hR s'.heap s'.toks acc' c' (λb o hb hb2 e=>hm.heap b o (λhmem=>?_) e) hS' hacc
 rcases Aw.mp hmem with e'|hmem
 ·exact hb e'
 ·exact hb2 (Ag.mp hmem)
theorem jq2{Q:Value->Shared->Prop}{it l:Addr}{items:Array Value}(hh:A.handled=none)(hne:l≠it)(hit:s.heap.IsRevIter it l ((items.size:Int)-1))(hl:s.heap.IsList l items)(hn:items.size<=sizeLine)
  (hQ:∀h' tk acc c',(∀b o,b≠it->s.heap.get? b=some o->h'.get? b=some o)->h'.get? s.heap.objs.size=some {cls:=.type "list",dict:=none,data:=.seq acc c',slots:=#[]} ->
   ItemsOf (λi v=>items[items.size-1-i]?=some v) acc items.size->Q (.ref s.heap.objs.size) {s with heap:=h',toks:=tk}) :
  wpAny (model P w) A (call (.type "list") [.ref it]) Q E s:=by
 refine callType_codes (Q₁:=λobj s1=>obj=.ref s.heap.objs.size/\s1={s with heap:=s.heap.push {cls:=.type "list",data:=.seq #[]}}) F.called_list (F.typeCall_list_1 _) F.entry_list_init (code_list_new _ ⟨rfl,rfl⟩) λobj s1 hs1=>?_
 obtain⟨rfl,rfl⟩:=hs1
 have hS:(s.heap.push {cls:=.type "list",data:=.seq #[]}).get? s.heap.objs.size=some {cls:=.type "list",data:=.seq #[]}:=(An _ rfl)
 have ni:s.heap.objs.size≠it:=λe=>by obtain⟨o,ho,_⟩:=hit;rw[<-e]at ho;exact Oy _ (Am ho)
 have nl:s.heap.objs.size≠l:=λe=>by obtain⟨o,ho,_⟩:=hl;rw[<-e]at ho;exact Oy _ (Am ho)
 refine⟨⟨_,hS,rfl⟩,F.args_list_init_2 _ _,?_⟩
 show wpAny _ _ (do let was <-Builtin.List.listItems (.ref s.heap.objs.size);Builtin.List.listUpdate (.ref s.heap.objs.size) (λ_=>#[]);letGo was.toList.reverse;Builtin.List.listExtendWith (.ref s.heap.objs.size) (.ref it) .none) _ _ _
 refine Aa ?_
 unfold Builtin.List.listItems
 refine Aa (wpAny_seqItems hS rfl (Af ?_))
 show wpAny _ _ (updateSeq s.heap.objs.size (λ_=>#[]) >>= λ_=>letGo (#[]:Array Value).toList.reverse >>= λ_=>Builtin.List.listExtendWith (.ref s.heap.objs.size) (.ref it) .none) _ _ _
 refine Aa (wpAny_updateSeq hS rfl ?_)
 have hS2:=Ie (Obj.mapSeq (λ_=>(#[]:Array Value))) hS rfl
 have oth:∀b o,b≠s.heap.objs.size->s.heap.get? b=some o->((s.heap.push {cls:=.type "list",data:=.seq #[]}).update s.heap.objs.size (Obj.mapSeq (λ_=>(#[]:Array Value)))).get? b=some o :=
  λb o hb e=>(Ir _ _ (O6 hb)).trans (Ad _ e)
 refine Aa (wpAny_letGo ?_)
 refine jn9 (A:=A.in1) hh hne (hit.at λo e=>oth it o ni.symm e) (hl.at λo e=>oth l o nl.symm e) _ .none _ hS2 ni nl (λh' tk acc c' hk hS' hacc=>?_) hn
 exact⟨rfl,hQ h' tk acc c' (λb o hb e=>hk b o (Ap (Am e)) hb (oth b o (Ap (Am e)) e)) hS' hacc⟩
end
section
variable{X:Cx}
def rRev:List V->Hp->VK->Prop:=λvs H Q=>match vs with
 |[.ref p]=>∃xs,jch (H p)=some xs/\∀l,H l=none->Q (.ref l) (upd H l (.lst xs.reverse))
 |_=>False
theorem jkk(p:Addr)(H:Hp)(Q:VK):rRev [.ref p] H Q=(∃xs,jch (H p)=some xs/\∀l,H l=none->Q (.ref l) (upd H l (.lst xs.reverse))):=rfl
def jez(ta:TE):TE:=tCB rRev (jeb ta tNil)
theorem bt_reversed:bootBuiltins "reversed"=some (.type "reversed"):=by decide +kernel
theorem pe_listRev{a:Expr}{ta:TE}{p1 p2 q1 q2:Pos}(hc:X.calm=true)(hg:Gl X "list")(hm:X.mg "list"=none)(hg2:Gl X "reversed")(hm2:X.mg "reversed"=none)(ha:PE X a ta)
  (hs:starEach [(.Call (.Name "reversed" p2) [a] [] q2)] X.env=[(false,eval (.Call (.Name "reversed" p2) [a] [] q2) X.env)]:=by rfl) (hs2:starEach [a] X.env=[(false,eval a X.env)]:=by rfl) :
  PE X (.Call (.Name "list" p1) [.Call (.Name "reversed" p2) [a] [] q2] [] q1) (jez ta):=by
 intro pins s σ H Q I h
 refine Io (jdc I hg hm jbf ?_)
 refine Ic ?_ hs rfl
 rw[hs]
 show wpAny _ _ (spliced ((false,eval (.Call (.Name "reversed" p2) [a] [] q2) X.env)::[])) _ _ s
 refine Uk ?_
 refine Io (jdc I hg2 hm2 bt_reversed ?_)
 have hA:PA X [a] (jeb ta tNil):=jbj ha jby hs2
 refine Ic (thn (hA q2 pins s σ H (λvs H1=>rRev vs H1 Q) I h) λus s1 ⟨vs,H1,I1,r1,q1⟩=>?_) hs2 rfl
 replace q1:rRev vs H1 Q:=q1
 unfold rRev at q1
 split at q1
 ·rename_i p
  obtain⟨xs,e,q⟩:=q1
  replace e:=jcp e
  obtain⟨u,rfl,ru⟩:=jc9 r1
  cases ru
  obtain⟨its,rr,pl,hz⟩:=I1.list (SqL.of e)
  have isl:=pl.isList
  have hlen:its.length=xs.length:=by have:=rr.length;simpa using this.symm
  refine call_reversed_list isl (Wd ?_)
  have plt:p<s1.heap.objs.size:=by obtain⟨_,e,_⟩:=isl;exact Am e
  refine jq2 (I1.ok.hd hc) (Ap plt) ⟨_,An _ rfl,rfl,rfl⟩ (isl.push _) (by rw[Al];omega) λh' tk acc c' hk hS' hacc=>?_
  have hD:s1.heap.objs.size<=(s1.heap.push (revObj p ((its.toArray.size:Int)-1))).objs.size:=by
   show _<=(s1.heap.objs.push _).size
   rw[Array.size_push];exact U0 _
  obtain⟨a1,a2⟩:=hacc
  refine⟨.ref _,_,I1.laid (o:=.lst xs.reverse) (t':=tk) (λb o eb=>hk b o (Ap (Am eb)) (Ad _ eb)) hD ⟨by rw[Uf];exact hz,acc.toList,c',?_,by simpa using hS'⟩,rfl,q _ (I1.hok.fresh hD)⟩
  refine jra (by simp[a1,hlen]) λi x u e1 e2=>?_
  have hi:i<xs.length:=by have:=(Aj.mp e1).1;simpa using this
  have h2:=a2 i u (by simpa using e2)
  rw[List.getElem?_reverse hi]at e1
  obtain⟨u',hu,ruu⟩:=rr.get e1
  have e3:its[xs.length-1-i]?=some u:=by
   have:its.toArray.size=xs.length:=by simp[hlen]
   rw[this]at h2
   simpa using h2
  rw[e3]at hu
  cases hu
  exact ruu
 ·exact q1.elim
end
def tMid(t u:TS):TS:=λD σ H=>∃J:L2.St->Hp->Prop,t {D with nx:=J} σ H/\∀σ H,J σ H->u D σ H
theorem pss_mid{X:Cx}{st:Stmt}{rest:List Stmt}{t u:TS}(h1:PS X st t)(h2:PSs X rest u):PSs X (st::rest) (tMid t u):=by
 intro pins s σ H D I h
 obtain⟨J,h,hJ⟩:=h
 refine wpAny_execs_cons (thn (h1 pins s σ H {D with nx:=J} I h) λf s1 q=>?_)
 cases f with
 |next =>
  obtain⟨σ1,H1,I1,q1⟩:=q
  exact h2 pins s1 σ1 H1 D I1 (hJ _ _ q1)
 |ret v=>exact q
 |brk=>exact q
 |cont=>exact q
theorem yr{X:Cx}{st:Stmt}{rest:List Stmt}{t u:TS}(h1:QS X st t)(h2:QSs X rest u):QSs X (st::rest) (tMid t u):=⟨pss_mid h1.h h2.h⟩
section
variable{X:Cx}
theorem ja4{st:Stmt}:QS X st jof:=⟨ps_never⟩
theorem ja8{a:Expr}{ta:TE}(ha:QE X a ta)(he:∀whole,isTrue a X.env whole=(do let v <-whole;standAt a.pos;holding [v] (truthy v)):=by intro _;rfl):QT X a (tTru ta):=⟨pt_tru ha.h he⟩
theorem qpe_listRev{a:Expr}{ta:TE}{p1 p2 q1 q2:Pos}(hc:X.calm=true)(hg:Gl X "list")(hm:X.mg "list"=none)(hg2:Gl X "reversed")(hm2:X.mg "reversed"=none)(ha:QE X a ta)
  (hs:starEach [(.Call (.Name "reversed" p2) [a] [] q2)] X.env=[(false,eval (.Call (.Name "reversed" p2) [a] [] q2) X.env)]:=by rfl) (hs2:starEach [a] X.env=[(false,eval a X.env)]:=by rfl) :
  QE X (.Call (.Name "list" p1) [.Call (.Name "reversed" p2) [a] [] q2] [] q1) (jez ta):=⟨pe_listRev hc hg hm hg2 hm2 ha.h hs hs2⟩
theorem yp{K:PySem.W.Frag}(hK:X.K=K):jcv X (.builtin "isinstance") (rIsU K):=by
 subst hK
 exact call_isinstanceU
end
theorem Kp.setD{S:List Addr}{H H1:Hp}(k:Kp S H H1){b:Addr}{kvs:List (List Key×V)}{o:HO}(hb:H1 b=some (.dT kvs))(h:b∈S\/H b=none):Kp S H (upd H1 b o) :=
 ⟨λc u e n=>by
  have:c≠b:=by
   rintro rfl
   rcases h with h|h
   ·exact n h
   ·rw[h]at e;cases e
  rw[jf this];exact k.old c u e n,
 λc ys e=>by
  have e1:=k.tup c ys e
  rw[jf (ji9 e1 hb (by intro z;cases z))];exact e1,
 λc u e=>by
  obtain⟨o',e'⟩:=k.dom c u e
  by_cases q:c=b
  ·subst q;exact⟨o,je⟩
  ·exact⟨o',by rw[jf q];exact e'⟩⟩
theorem jal{X:Cx}{K:PySem.W.Frag}(hK:X.K=K):SlR X (rSlU K):=by
 subst hK
 exact sl_U
def plc(l:List Nat)(c:Nat):Int:=if c∈l then(l.idxOf c:Int)else -1
theorem jqs(x:Str)(c:Nat):(match Builtin.Str.occurrences x ⟨#[c]⟩ 0 x.length 1 with|i::_=>(i:Int)|[]=>-1)=plc x.cps.toList c:=by
 rcases StrLaws.occ_head x ⟨#[c]⟩ 1 (Ah _)with⟨e,hn⟩|⟨i,r,e,hi,hk⟩
 ·rw[e]
  unfold plc
  rw[Ae]
  intro hm
  obtain⟨i,hi⟩:=List.mem_iff_getElem?.mp hm
  exact hn i ((StrLaws.subAt_one x c i).mpr hi)
 ·rw[e]
  have h1:=(StrLaws.subAt_one x c i).mp hi
  have hm:c∈x.cps.toList:=List.mem_iff_getElem?.mpr ⟨i,h1⟩
  unfold plc
  rw[Ak hm]
  have hlt:x.cps.toList.idxOf c<x.cps.toList.length:=Ut hm
  have h2:x.cps.toList[x.cps.toList.idxOf c]?=some c:=by rw[Ai hlt,List.getElem_idxOf]
  have a1:¬x.cps.toList.idxOf c<i:=λh=>hk _ h ((StrLaws.subAt_one x c _).mpr h2)
  have a2:¬i<x.cps.toList.idxOf c:=λh=>by
   have h3:=List.not_of_lt_findIdx (p:=(· == c)) (xs:=x.cps.toList) (i:=i) h
   obtain⟨hl,h4⟩:=Aj.mp h1
   simp[h4]at h3
  show(i:Int)=_
  omega
section
variable{X:Cx}
def jka:V->List V->Hp->VK->Prop:=λx vs H Q=>match x,vs with
 |.str z,[.str y]=>∃c,y=⟨#[c]⟩/\Q (.int (plc z.cps.toList c)) H
 |_,_=>False
theorem jg3(z y:Str)(H:Hp)(Q:VK):jka (.str z) [.str y] H Q=(∃c,y=⟨#[c]⟩/\Q (.int (plc z.cps.toList c)) H):=rfl
theorem mt_findU:MtM X "str.find" jka:=by
 intro pins s σ H x vs v us Q I rx rv h
 unfold jka at h
 split at h
 ·rename_i z y
  obtain⟨c,rfl,q⟩:=h
  obtain⟨t,rfl⟩:=rx
  obtain⟨u,rfl,⟨t',rfl⟩⟩:=rv.one
  refine call_gives PySem.F.slot_str_find (typeIs_str s z t) PySem.F.entry_str_find (PySem.F.args_str_find_2 _ _) (gives_str_find z _ t t') ?_
  refine(Od (λj=>(Made.int j).post (EP X pins σ Q) s) (jqs z c)).mpr ?_
  exact⟨.int _,H,I.tok _,⟨_,rfl⟩,q⟩
 ·exact h.elim
end
def stpS(σ:List Str)(v:Str):List Str:=if σ.any (· == v)then σ else σ++[v]
def fmS(val:Nat->Str)(i:Nat):List Str:=((List.range i).map val).foldl stpS []
theorem jf9(val:Nat->Str)(i:Nat):fmS val (i+1)=stpS (fmS val i) (val i):=by
 unfold fmS;rw[List.range_succ,Ig,List.foldl_append];rfl
theorem jlr(val:Nat->Str):∀(i:Nat)(k:Str),k∈fmS val i↔∃j,j<i/\val j=k
 |0,k=>by simp[fmS]
 |i+1,k=>by
  rw[jf9]
  unfold stpS
  have ih:=jlr val i
  split
  ·rename_i h
   rw[Uw]at h
   obtain⟨y,hy,e⟩:=h
   have e:y=val i:=by simpa using e
   subst e
   rw[ih]
   constructor
   ·rintro⟨j,hj,e⟩
    exact⟨j,by omega,e⟩
   ·rintro⟨j,hj,e'⟩
    by_cases hji:j=i
    ·rw[hji]at e'
     rw[<-e']
     exact(ih _).mp hy
    ·exact⟨j,by omega,e'⟩
  ·rw[A6,ih,Ag]
   constructor
   ·rintro(⟨j,hj,e⟩|e)
    ·exact⟨j,by omega,e⟩
    ·exact⟨i,by omega,e.symm⟩
   ·rintro⟨j,hj,e⟩
    by_cases hji:j=i
    ·subst hji
     exact .inr e.symm
    ·exact .inl ⟨j,by omega,e⟩
theorem jjz(val:Nat->Str):∀i,(fmS val i).length<=i
 |0=>by simp[fmS]
 |i+1=>by
  rw[jf9]
  unfold stpS
  have:=jjz val i
  split
  ·omega
  ·simp;omega
section
variable{prog:Program}{w:World}{A:Around}{R:Result->Shared->Prop}{I:Addr}{fp wr:List Addr}{G:Array GenState->Array GenState->Prop}{n:Nat}{P:Nat->Value->Prop}{St:Nat->Shared->Prop}
theorem jj0(x:Str)(t:Tok):(strKind prog w).is x (.str x t)=true:=by
 show Value.isStrOf x (.str x t)=true
 simp[Value.isStrOf]
end
end L2
set_option autoImplicit true
set_option relaxedAutoImplicit true
namespace HT
open PySem PyProof.Rows
section
open PySem.AutoSeq1 (wpAny_loadPart')
open PySem.MeetsSeq PySem.MeetsSeq2 PySem.MeetsSeq3
theorem tuple_add0(l b:Addr)(items2:Array Value)(n n2:Nat)(dd dd2:Option Addr)(sl sl2:Array (Option Value)) :
  Meets (Builtin.«tuple.__add__» ⟨[.ref l,.ref b],[]⟩)
   (λ_ R s=>s.heap.get? l=some {cls:=.type "tuple",dict:=dd,data:=.seq #[] n,slots:=sl}/\s.heap.get? b=some {cls:=.type "tuple",dict:=dd2,data:=.seq items2 n2,slots:=sl2}/\R (.ok (.ret (.ref b))) s) :=
 .of_wp λprog w A R s h=>by
  obtain⟨hp,g,d,tk,os⟩:=s;obtain⟨hl,hb,h⟩:=h
  have f2:=AutoSeq1.sub_tuple_tuple
  wp_walk using Ou hl,Ou hb
  exact⟨_,rfl,h⟩
end
end HT
set_option autoImplicit true
set_option relaxedAutoImplicit true
namespace L2
open PySem PySem.Spec PyProof.Rows
section
variable{X:Cx}
theorem jmd(K:PySem.W.Frag)(z:Str)(H:Hp):tyV K "str" (.str z) H=True:=by simp[tyV]
end
section
variable{prog:Program}{w:World}{A:Around}{E:Value->Shared->Prop}{s:Shared}
theorem jk0{h:Heap}{g:Array GenState}{d:Drawn}{t:Nat}{os:OsState}{it a:Addr}{i:Nat}{vs:Array Value}{u:Value}{Q:Value->Shared->Prop}(hi:h.IsTupleIter it a i)(ha:h.IsTuple a vs)(hu:vs[i]?=some u)
  (q:∀h',h'.IsTupleIter it a (i+1)->Heap.SameBut it h h'->Q u ⟨h',g,d,t,os⟩):wpAny (model prog w) A (Builtin.SmallTypes.nextOf (.ref it)) Q E ⟨h,g,d,t,os⟩:=by
 obtain⟨⟨ci,di,dti,si⟩,e1,c1,d1⟩:=id hi
 obtain⟨⟨ca,da,dta,sa⟩,e2,c2,n2,d2⟩:=ha
 dsimp only at c1 d1 c2 d2
 subst c1 d1 c2 d2
 have sl:=PySem.F.slot_tuple_iterator_next
 have hT:(⟨h,g,d,t,os⟩:Shared).TypeIs (.ref it) "tuple_iterator":=hi.typeIs
 have fin:=q _ ⟨_,Ie (Obj.mapFields (·.setIfInBounds 1 (rawInt (i+1)))) e1 rfl,rfl,by simp[Obj.mapFields,rawInt]⟩ (.update ..)
 refine Aa (Uh hT sl (O1 sl hT Wn ?_ (Wg _)))
 unfold Builtin.«tuple_iterator.__next__»
 repeat (any_goals (first|assumption|with_reducible refine Wh e1 ?_|with_reducible refine Wh e2 ?_|wp_step))
 have e3:vs[((i:Nat):Int).toNat]?=some u:=hu
 rw[e3]
 exact Aa (O2 e1 rfl (by simp) (Af ⟨u,rfl,Af fin⟩))
theorem jlc{h:Heap}{g:Array GenState}{d:Drawn}{t:Nat}{os:OsState}{it a:Addr}{i:Nat}{vs:Array Value}{Q:Value->Shared->Prop}(hh:A.handled=none)(hi:h.IsTupleIter it a i)(ha:h.IsTuple a vs)(hu:vs[i]?=none)
  (q:∀h' e,Heap.ExtBut it h h'->(∃o,h'.get? e=some o/\o.cls=.type "StopIteration")->E (.ref e) ⟨h',g,d,t,os⟩):wpAny (model prog w) A (Builtin.SmallTypes.nextOf (.ref it)) Q E ⟨h,g,d,t,os⟩:=by
 obtain⟨⟨ci,di,dti,si⟩,e1,c1,d1⟩:=id hi
 obtain⟨⟨ca,da,dta,sa⟩,e2,c2,n2,d2⟩:=ha
 dsimp only at c1 d1 c2 d2
 subst c1 d1 c2 d2
 have sl:=PySem.F.slot_tuple_iterator_next
 have hT:(⟨h,g,d,t,os⟩:Shared).TypeIs (.ref it) "tuple_iterator":=hi.typeIs
 have h1:A.in1.handled=none:=hh
 refine Aa (Uh hT sl (O1 sl hT Wn ?_ (Wg _)))
 unfold Builtin.«tuple_iterator.__next__»
 repeat (any_goals (first|assumption|with_reducible refine Wh e1 ?_|with_reducible refine Wh e2 ?_|wp_step))
 have e3:vs[((i:Nat):Int).toNat]?=none:=hu
 rw[e3]
 refine Aa (W3 (Aa (O2 e1 rfl (by simp) ?_)))
 unfold Builtin.SmallTypes.stopIteration
 have fm:firstArgMember (.type "StopIteration") []=pure .none:=rfl
 unfold newExc
 repeat (any_goals (first|assumption|rw[fm]|wp_step))
 exact wpAny_raiseNew_none h1 (q _ _ (((Oe ..).extBut.push _).push _) ⟨_,An _ rfl,rfl⟩)
theorem jno(hh:A.handled=none)(it a:Addr)(ne:a≠it)(vs:Array Value):Draws prog w A it [it,a] vs.size (λi v=>vs[i]?=some v) (λi h=>h.IsTupleIter it a i/\h.IsTuple a vs) where
 live:=λ_ _ st=>let⟨o,ho,_⟩:=st.1;⟨o,ho⟩
 frame:=λ_ _ _ st hk=>by
  obtain⟨⟨o,ho,r⟩,⟨o2,ho2,r2⟩⟩:=st
  exact⟨⟨o,hk it (by simp) o ho,r⟩,⟨o2,hk a (by simp) o2 ho2,r2⟩⟩
 item:=λi s Q E hi st hQ=>by
  obtain⟨hp,g,d,t,os⟩:=s
  obtain⟨o2,ho2,r2⟩:=st.2
  exact jk0 st.1 st.2 (u:=vs[i]) (by simp[hi]) λh' hit' hs'=>hQ _ h' t (by simp[hi]) ⟨hit',⟨o2,(hs'.2 a ne).trans ho2,r2⟩⟩ hs'
 done:=λs Q E st hE=>by
  obtain⟨hp,g,d,t,os⟩:=s
  exact jlc hh st.1 st.2 (by simp) hE
open AutoSeq1 (wpAny_loadPart')in
theorem jnp(a:Addr)(vs:Array Value)(n:Nat)(dct:Option Addr)(sl:Array (Option Value)) :
  Meets (Builtin.«enumerate.__new__» ⟨[.type "enumerate",.ref a],[]⟩) (λ_ R s=>s.heap.get? a=some ⟨.type "tuple",dct,.seq vs n,sl⟩ /\
   R (.ok (.ret (.ref (s.heap.push {cls:=.type "tuple_iterator",data:=.fields #[.ref a,.int 0 0]}).objs.size)))
    {s with heap:=(s.heap.push {cls:=.type "tuple_iterator",data:=.fields #[.ref a,.int 0 0]}).push {cls:=.type "enumerate",data:=.fields #[.none,.bool false,.ref s.heap.objs.size,rawInt 0,.none,.none]}}) :=
 .of_wp λprog w A R s h=>by
  obtain⟨hp,g,d,tk,os⟩:=s;obtain⟨ha,h⟩:=h
  have hsb:=sub_enumerate
  have hT:Heap.IsTuple (Shared.heap ⟨hp,g,d,tk,os⟩) a vs:=⟨_,ha,rfl,n,rfl⟩
  wp_walk using Ou ha
  refine wpAny_stack_any λk=>Af ?_
  split <;> (try (rename_i c _ _ _ _ _;generalize(c == Value.type "enumerate")=b;cases b)) <;> (wp_walk using Ou ha,Ya hT) <;> exact⟨_,rfl,h⟩
theorem call_enumT{a:Addr}{vs:Array Value}{Q:Value->Shared->Prop}(ht:s.heap.IsTuple a vs)
  (q:∀h',IsEnum h' (s.heap.objs.size+1) s.heap.objs.size 0 .none->h'.IsTupleIter s.heap.objs.size a 0->(∀b o,s.heap.get? b=some o->h'.get? b=some o)->Q (.ref (s.heap.objs.size+1)) {s with heap:=h'}) :
  wpAny (model prog w) A (call (.type "enumerate") [.ref a]) Q E s:=by
 obtain⟨⟨c,dct,dt,sl⟩,ha,hc,n,hd⟩:=ht
 dsimp only at hc hd
 subst hc hd
 refine callType_new PySem.F.called_enumerate (by decide) (PySem.F.typeCall_enumerate_1 _) (PySem.F.newCall_enumerate_1 _) (λobj=>PySem.F.args_object_init_2 obj _) PySem.F.entry_enumerate_new (jnp a vs n dct sl) ⟨ha,?_⟩
 have hz:(s.heap.push {cls:=.type "tuple_iterator",data:=.fields #[.ref a,.int 0 0]}).objs.size=s.heap.objs.size+1:=Im ..
 have he:IsEnum ((s.heap.push {cls:=.type "tuple_iterator",data:=.fields #[.ref a,.int 0 0]}).push {cls:=.type "enumerate",data:=.fields #[.none,.bool false,.ref s.heap.objs.size,rawInt 0,.none,.none]}) (s.heap.objs.size+1) s.heap.objs.size 0 .none:=by
  have e:=An (s.heap.push {cls:=.type "tuple_iterator",data:=.fields #[.ref a,.int 0 0]}) (o:={cls:=.type "enumerate",data:=.fields #[.none,.bool false,.ref s.heap.objs.size,rawInt 0,.none,.none]}) rfl
  rw[hz]at e;exact e
 show _/\_
 rw[hz]
 exact⟨⟨_,he,rfl⟩,q _ he ⟨_,Ad _ (An _ rfl),rfl,rfl⟩ λb o x=>Ad _ (Ad _ x)⟩
end
def ItE(K:PySem.W.Frag)(a:Addr):It:=⟨λi H=>∃xs x,SqT K H a xs/\xs[i]?=some x,λi H x H'=>∃T y,H T=none/\x=.ref T/\(∀xs,SqT K H a xs->xs[i]?=some y)/\H'=upd H T (.tup [.int (i:Int),y]),λi H=>∃xs,SqT K H a xs/\xs.length=i⟩
theorem jnb{P:Program}{w:World}{K:PySem.W.Frag}{elts:List Expr}{kk:Nat}{pos:Pos}(a e it:Addr)(ne:e≠it):Turn P w K (.Tuple elts kk pos) (ItE K a) [e,it] e (λi h=>(∃old,IsEnum h e it i old)/\h.IsTupleIter it a i) where
 mem:=by simp
 obj:=λi h st b hb=>by
  obtain⟨⟨old,he⟩,⟨o,ho,hc,hd⟩⟩:=st
  rcases Aw.mp hb with rfl|hb
  ·exact⟨_,he,λv z=>by cases z⟩
  ·rw[Ag.mp hb]
   exact⟨o,ho,λv z=>by rw[hd]at z;cases z⟩
 keep:=λi h h' st k=>by
  obtain⟨⟨old,he⟩,⟨o,ho,r⟩⟩:=st
  exact⟨⟨old,k e (by simp) _ he⟩,⟨o,k it (by simp) o ho,r⟩⟩
 item:=by
  intro X hP hw hK hc i pins s σ H E I hf st hg
  subst hP hw hK
  obtain⟨xs,x,hq,hx⟩:=hg
  obtain⟨its,rv,p,hz⟩:=I.tuple hq
  obtain⟨u,hu,ru⟩:=rv.get hx
  have fr:∀b∈[e,it],b≠a:=λb hb z=>by
   subst z
   obtain⟨o,eo,hcl⟩:∃o,s.heap.get? b=some o/\o.cls≠.type "tuple":=by
    obtain⟨⟨old,he⟩,⟨o,ho,hc',hd⟩⟩:=st
    rcases Aw.mp hb with rfl|hb
    ·exact⟨_,he,by simp⟩
    ·rw[Ag.mp hb]
     exact⟨o,ho,by rw[hc'];simp⟩
   obtain⟨o2,ho2,hc2,_⟩:=p
   rw[eo]at ho2
   cases ho2
   exact hcl hc2
  have WA:=WalksT.enumerateD (jno (prog:=X.prog) (w:=X.w) (A:=X.A.in1) (show X.A.in1.handled=none from I.ok.hd hc) it a (fr it (by simp)).symm its.toArray) e ne (by simp[ne,fr e (by simp)]) (by simp)
  have hlt:i<its.toArray.size:=by
   rw[Al]
   exact(Aj.mp hu).1
  refine WA.item i s _ _ hlt ⟨st.1,st.2,p⟩ λT vs h' tk hp hT htup mid kk'=>⟨_,rfl,?_⟩
  have nTw:=WA.apart _ _ _ mid
  refine WA.go _ _ _ i T {s with heap:=h',toks:=tk} _ _ mid λh'' st'' k''=>?_
  have tup':IsTup h'' T vs:=by
   obtain⟨o,eo,r⟩:=htup
   exact⟨o,k'' T o nTw eo,r⟩
  have hv:Vals [V.int (i:Int),x] vs.toList:=by
   obtain⟨t',u',hu',rfl⟩:=hp
   rw[show its.toArray[i]?=some u from by simpa using hu]at hu'
   cases hu'
   exact .cons ⟨t',rfl⟩ (.cons ru .nil)
  refine⟨.ref T,upd H T (.tup [.int (i:Int),x]),?_,rfl,⟨T,x,I.hok.fresh hT,rfl,λys hy=>by rw[I.tuple_inj hy hq];exact hx,rfl⟩,⟨st''.1,st''.2.1⟩,λb hb=>?_⟩
  ·refine I.turnedNew (fp:=[e,it]) (wr:=[e,it]) hf (λb o hb eo=>k'' b o hb (kk' b o hb eo)) hT (by simpa using tup') hv (by show 2<=sizeLine;decide) λb hb=>?_
   obtain⟨⟨old,he⟩,⟨⟨o,ho,_⟩,_⟩⟩:=st''
   rcases Aw.mp hb with rfl|hb
   ·exact⟨_,he⟩
   ·rw[Ag.mp hb];exact⟨o,ho⟩
  ·have hlt:b<s.heap.objs.size:=by
    obtain⟨⟨old,he⟩,⟨o,ho,_⟩⟩:=st
    rcases Aw.mp hb with rfl|hb
    ·exact Am he
    ·rw[Ag.mp hb];exact Am ho
   rw[jf (Ap (Au hlt hT))]
   exact(hf b hb).1
 done:=by
  intro X hP hw hK hc i pins s σ H E I hf st hg
  subst hP hw hK
  obtain⟨xs,hq,hi⟩:=hg
  obtain⟨its,rv,p,hz⟩:=I.tuple hq
  have fr:∀b∈[e,it],b≠a:=λb hb z=>by
   subst z
   obtain⟨o,eo,hcl⟩:∃o,s.heap.get? b=some o/\o.cls≠.type "tuple":=by
    obtain⟨⟨old,he⟩,⟨o,ho,hc',hd⟩⟩:=st
    rcases Aw.mp hb with rfl|hb
    ·exact⟨_,he,by simp⟩
    ·rw[Ag.mp hb]
     exact⟨o,ho,by rw[hc'];simp⟩
   obtain⟨o2,ho2,hc2,_⟩:=p
   rw[eo]at ho2
   cases ho2
   exact hcl hc2
  have WA:=WalksT.enumerateD (jno (prog:=X.prog) (w:=X.w) (A:=X.A.in1) (show X.A.in1.handled=none from I.ok.hd hc) it a (fr it (by simp)).symm its.toArray) e ne (by simp[ne,fr e (by simp)]) (by simp)
  have hn:its.toArray.size=i:=by rw[Al,<-rv.length];exact hi
  refine WA.done s _ _ (by rw[hn];exact⟨st.1,st.2,p⟩) λh' tk kk'=>⟨rfl,?_⟩
  have nw:∀b u,H b=some u->b∉[e,it]:=λb u eo hb=>by rw[(hf b hb).1]at eo;cases eo
  refine I.step (g':=s.gens) (d':=s.drawn) (ch:=[e,it]) (λb hb=>?_) (λb o _ _ hc e _=>kk' b o hc e) (λb o _ _ hc e _=>⟨o.slots,kk' b o hc e⟩) (λb o hc e n=>n) (λb o hc e=>⟨o,kk' b o hc e⟩)
   (λ_ _ e=>e) (λ_ _ _ e=>e) (λb ps e=>⟨#[],by rw[e];simp⟩) (λm hm=>?_) (λb u e=>?_) I.bare
  ·obtain⟨_,f1,_,f3,f4,f5⟩:=hf b hb
   exact⟨f3,f1,f4,f5⟩
  ·obtain⟨o,es,ep,ho,rr⟩:=hm
   exact⟨o,es,ep,kk' _ o (λz=>(hf _ z).2.1 rfl) ho,rr⟩
  ·refine(I.hok b u e).stay (λd v hd q=>kk' d v ?_ q) (λ_ q=>q) λ_ _ q=>q
   rcases hd with rfl|hd
   ·exact nw _ _ e
   ·exact nw _ _ hd
 self:=λA i s Q E st q=>by
  obtain⟨⟨old,he⟩,_⟩:=st
  exact Wf he q
section
variable{X:Cx}
def jgw(K:PySem.W.Frag)(ta:TA):TI:=λσ H R=>ta σ H λvs H1=>∃a,vs=[.ref a]/\(∃xs,SqT K H1 a xs)/\R (ItE K a) H1
theorem pi_enumT{K:PySem.W.Frag}{a:Expr}{ta:TA}{p pos tpos:Pos}{elts:List Expr}{kk:Nat}(hK:X.K=K)(hg:Gl X "enumerate")(hm:X.mg "enumerate"=none)(ha:PA X [a] ta)(hs:starEach [a] X.env=[(false,eval a X.env)]:=by rfl) :
  PI X (.Tuple elts kk tpos) (.Call (.Name "enumerate" p) [a] [] pos) (jgw K ta):=by
 subst hK
 intro pins s σ H R I h
 refine Call_ (jdc I hg hm jay (Ic (thn (ha pos pins s σ H _ I h) λus s1 ⟨vs,H1,I1,r1,q1⟩=>?_) hs rfl))
 obtain⟨ad,e,⟨xs,hx⟩,q⟩:=q1
 subst e
 obtain⟨u,rfl,ru⟩:=jc9 r1
 cases ru
 obtain⟨its,rv,pt,hz⟩:=I1.tuple hx
 refine call_enumT (vs:=its.toArray) pt λh' he hi hk=>?_
 have I2:Inv X pins σ H1 {s1 with heap:=h'}:=I1.kept (t':=s1.toks) hk
 refine Wf he ⟨s1.heap.objs.size+1,[s1.heap.objs.size+1,s1.heap.objs.size],_,_,H1,rfl,I2,jnb ad (s1.heap.objs.size+1) s1.heap.objs.size (Nat.succ_ne_self _),⟨⟨.none,he⟩,hi⟩,λb hb=>?_,q⟩
 have hb':s1.heap.objs.size<=b:=by
  rcases Aw.mp hb with rfl|hb
  ·omega
  ·rw[Ag.mp hb];exact Ah _
 exact I1.fpOk (H':=H1) hb' (I1.hok.fresh hb')
theorem qpi_enumT{K:PySem.W.Frag}{a:Expr}{ta:TA}{p pos tpos:Pos}{elts:List Expr}{kk:Nat}(hK:X.K=K)(hg:Gl X "enumerate")(hm:X.mg "enumerate"=none)(ha:QA X [a] ta)(hs:starEach [a] X.env=[(false,eval a X.env)]:=by rfl) :
  QI X (.Tuple elts kk tpos) (.Call (.Name "enumerate" p) [a] [] pos) (jgw K ta):=⟨pi_enumT hK hg hm ha.h hs⟩
end
section
variable{X:Cx}
def jso:R2:=λx y H Q=>∃a b xs ys,x=.ref a/\y=.ref b/\H a=some (.tup xs)/\H b=some (.tup ys)/\xs.length+ys.length<=sizeLine/\∀p H',Kp [] H H'->H' p=some (.tup (xs++ys))->Q (.ref p) H'
theorem op_addX:OpR X (binaryOp .Add) jso:=by
 intro pins s σ H x y v u Q I rx ry h
 obtain⟨a,b,xs,ys,rfl,rfl,ha,hb,hz,q⟩:=h
 by_cases hx:xs=[]
 ·subst hx
  cases rx
  cases ry
  obtain⟨its,r1,p1,_⟩:=I.tuple (SqT.of ha)
  obtain⟨its2,r2,p2,_⟩:=I.tuple (SqT.of hb)
  cases r1
  obtain⟨⟨cls,dd,data,sl⟩,ho,hc,n,hd⟩:=id p1
  obtain⟨⟨cls2,dd2,data2,sl2⟩,ho2,hc2,n2,hd2⟩:=id p2
  simp only at hc hd hc2 hd2
  subst hc hd hc2 hd2
  exact concat_meets ⟨_,ho,rfl⟩ ⟨_,ho2,rfl⟩ noFill_tuple_add seq_tuple_add Wk Wc (U4 _ _)
   (HT.tuple_add0 a b its2.toArray n n2 dd dd2 sl sl2) ⟨ho,ho2,.ref b,H,I,rfl,q b H (Kp.refl _ _) (by simpa using hb)⟩
 ·exact jb3 pins s σ H _ _ v u Q I rx ry ⟨a,b,xs,ys,rfl,rfl,SqT.of ha,SqT.of hb,hx,hz,λe=>q a H (Kp.refl _ _) (by rw[e,Og];exact ha),λe p hp=>q p _ ((Kp.refl [] H).new hp) je⟩
end
section
variable{X:Cx}
theorem jfk:∀{ss:List Str}{its:List Value},StrsAre its ss->Vals (ss.map V.str) its
 |_,_,.nil=>.nil
 |_,_,.cons x t r=>.cons ⟨t,rfl⟩ (jfk r)
end
section
variable{X:Cx}
def jl1:V->List V->Hp->VK->Prop:=λx vs H Q=>match x,vs with
 |.ref l,[y]=>∃(xs:List V)(ds:List PyData)(d:PyData)(j:Nat),H l=some (.lst xs)/\Reps H xs ds/\Rep H y d/\PyData.canLayAll0 ds=true/\d.canLay0=true/\PyData.depthAll ds<=40/\(∃e,ds[j]?=some e/\PyData.eqv e d=true) /\
   (∀m e,m<j->ds[m]?=some e->PyData.eqv e d=false)/\Q (.int (j:Int)) H
 |_,_=>False
theorem mt_indexD(hu:X.A.units+64<cLine):MtM X "list.index" jl1:=by
 intro pins s σ H x vs v us Q I rx rv h
 unfold jl1 at h
 split at h
 ·rename_i l y
  obtain⟨xs,ds,d,j,e,hr,hy,hcs,hcd,hdp,⟨ej,hj,hit⟩,hno,q⟩:=h
  cases rx
  obtain⟨u,rfl,ru⟩:=rv.one
  obtain⟨z,its,n,r,hl,eo⟩:=I.lstM e
  obtain⟨as,ra⟩:=hr.reads I r
  obtain⟨bs,rb⟩:=hy.reads I ru
  have hm:=SeqAt.readsAll_map ds its as hcs ra
  have hlen:its.length=ds.length:=by rw[<-hm,Ab]
  have hjl:j<ds.length:=(Aj.mp hj).1
  have at':∀m (hm':m<its.toArray.size),ds[m]?=some (SeqAt.readOf s.heap its.toArray[m]):=λm hm'=>by
   rw[<-hm,Ao]
   have:its[m]?=some its.toArray[m]:=by simp
   rw[this]
   rfl
  have hs:sizeLine=16777216:=Uz
  have hjs:j<its.toArray.size:=by rw[Al];omega
  have hxl:xs.length=its.length:=r.length
  have hz:xs.length<=sizeLine:=z
  refine Wa F.slot_list_index ⟨_,eo,rfl⟩ F.entry_list_index (F.args_list_index_2 _ _) (SeqAt.list_indexAt l its.toArray n none #[] u (λy=>PyData.eqv (SeqAt.readOf s.heap y) d) j hjs (by omega) ?_ ?_) ⟨eo,?_,?_⟩
  ·have:=at' j hjs
   rw[hj]at this
   rw[<-Av this]
   exact hit
  ·intro m hm' hlt
   exact hno m _ hlt (at' m hm')
  ·refine SeqAt.items_eqAt (by simpa using ra) rb hcs hcd ?_
   omega
  ·exact⟨.int (j:Int),H,I.tok _,⟨_,rfl⟩,q⟩
 ·exact h.elim
end
theorem jmv(t:SetTable)(es:Array (Int×Value))(h:Int)(x:Value):(layNew t es h x).2.1.led=t.led:=by
 unfold layNew
 cases t.freeSlot h with
 |none=>rfl
 |some p =>
  show((t.put p.1).1.orStandIn _).led=t.led
  unfold SetTable.orStandIn
  split <;> rfl
theorem jn0(t:SetTable)(es:Array (Int×Value))(h:Int)(x:Value)(hp:t.plain=false):(layNew t es h x).2.1.plain=false:=by
 unfold layNew
 cases t.freeSlot h with
 |none=>rfl
 |some p =>
  show((t.put p.1).1.orStandIn _).plain=false
  unfold SetTable.orStandIn
  split
  ·exact hp
  ·rfl
theorem jj1{m f mv:Nat}{L p:Bool}{hs:Array Int}{r:SetTable×Array Nat}(e:SetTable.laid m f mv L p hs=some r):r.1.led=L/\r.1.plain=p:=by
 unfold SetTable.laid at e
 cases h:SetTable.layClean m hs with
 |none=>rw[h]at e;cases e
 |some o=>rw[h]at e;cases e;exact⟨rfl,rfl⟩
theorem jn8(t:SetTable)(es:Array (Int×Value))(k:Nat):(relayAll t es k).2.1.led=t.led:=by
 unfold relayAll
 cases h:t.relaid (es.map (·.1)) k with
 |none=>rfl
 |some r =>
  dsimp only
  split
  ·exact(jj1 h).1
  ·rfl
theorem jpb(t:SetTable)(es:Array (Int×Value))(k:Nat)(hp:t.plain=false):(relayAll t es k).2.1.plain=false:=by
 unfold relayAll
 cases h:t.relaid (es.map (·.1)) k with
 |none=>rfl
 |some r =>
  dsimp only
  split
  ·rw[(jj1 h).2];exact hp
  ·rfl
def keyE(e:Int×Value):Str:=match e.2 with
 |.str k _=>k
 |_=>⟨#[]⟩
section
variable{prog:Program}{w:World}{A:Around}{E:Value->Shared->Prop}{s:Shared}
structure SX(prog:Program)(w:World)(h:Heap)(a:Addr)(L:Bool)(ks:List Str)(o:Obj)(es:Array (Int×Value))(ep:Nat)(t:SetTable):Prop where
 at_:h.get? a=some o
 ex:o.ExactSet
 dt:o.data=.set es ep t
 el:ElemsOf (strKind prog w) es.toList
 key:(es.toList.map keyE).Perm ks
 nd:ks.Nodup
 sz:es.size<scanBound
 fits:t.fits es.size=true
 led:t.led=L
 pl:es.size=0\/t.plain=false
def SXO(prog:Program)(w:World)(h:Heap)(a:Addr)(L:Bool)(ks:List Str):Prop:=∃o es ep t,SX prog w h a L ks o es ep t
theorem SX.to{h h':Heap}{a:Addr}{L:Bool}{ks:List Str}{o:Obj}{es:Array (Int×Value)}{ep:Nat}{t:SetTable}(x:SX prog w h a L ks o es ep t)(e:h'.get? a=some o):SX prog w h' a L ks o es ep t :=
 ⟨e,x.ex,x.dt,x.el,x.key,x.nd,x.sz,x.fits,x.led,x.pl⟩
theorem jhs{e:Int×Value}{k:Str}(h:Value.isStrOf k e.2=true):keyE e=k:=by
 obtain⟨t,e2⟩:=W6 h
 unfold keyE
 rw[e2]
theorem SX.mem{h:Heap}{a:Addr}{L:Bool}{ks:List Str}{o:Obj}{es:Array (Int×Value)}{ep:Nat}{t:SetTable}(x:SX prog w h a L ks o es ep t)(k:Str):k∈ks↔∃e∈es.toList,Value.isStrOf k e.2=true:=by
 rw[<-x.key.mem_iff,A4]
 constructor
 ·rintro⟨e,he,rfl⟩
  obtain⟨⟨k',hk,_⟩,_⟩:=x.el e he
  have hk':Value.isStrOf k' e.2=true:=hk
  exact⟨e,he,by rw[jhs hk'];exact hk'⟩
 ·rintro⟨e,he,hk⟩
  exact⟨e,he,jhs hk⟩
theorem SX.len{h:Heap}{a:Addr}{L:Bool}{ks:List Str}{o:Obj}{es:Array (Int×Value)}{ep:Nat}{t:SetTable}(x:SX prog w h a L ks o es ep t):es.size=ks.length:=by
 rw[<-x.key.length_eq,Ab,Array.length_toList]
theorem SX.store{h:Heap}{a:Addr}{L:Bool}{ks ks':List Str}{o:Obj}{es es':Array (Int×Value)}{ep:Nat}{t t':SetTable}(x:SX prog w h a L ks o es ep t)(el:ElemsOf (strKind prog w) es'.toList)
  (key:(es'.toList.map keyE).Perm ks') (nd:ks'.Nodup) (sz:es'.size<scanBound) (fits:t'.fits es'.size=true) (led:t'.led=L) (pl:t'.plain=false) :
  SX prog w (h.update a (Obj.putSet es' t')) a L ks' {o with data:=.set es' (ep+1) t'} es' (ep+1) t':=by
 refine⟨?_,x.ex,rfl,el,key,nd,sz,fits,led,.inr pl⟩
 have e:=Ie (Obj.putSet es' t') x.at_ (by rw[putSet_of es' t' x.dt];rfl)
 rwa[putSet_of es' t' x.dt]at e
theorem jbz{g:Bool->Sem Unit}(hg:∀(b:Bool) (s1:Shared) (Q1:Unit->Shared->Prop),Q1 () s1->wpAny (model prog w) A (g b) Q1 E s1){a:Addr}{L:Bool}{ks ks':List Str}{o:Obj}{es es1:Array (Int×Value)}{ep:Nat}{t t2:SetTable}
  (x:SX prog w s.heap a L ks o es ep t) (el:ElemsOf (strKind prog w) es1.toList) (key:(es1.toList.map keyE).Perm ks') (nd:ks'.Nodup) (sz:es1.size<scanBound) (fits:t2.fits es1.size=true) (led:t2.led=L) (pl:t2.plain=false)
  {wd:Bool}{R:Option Bool->Shared->Prop} (h:∀h',Heap.SameBut a s.heap h'->SXO prog w h' a L ks'->R (some true) {s with heap:=h'}) :
  wpAny (model prog w) A (do
   storeSet a es1 t2
   if(!wd && t2.tooFull)=true then do
      g (relayAll t2 es1 (SetTable.grown es1.size)).2.2
      storeSet a (relayAll t2 es1 (SetTable.grown es1.size)).1 (relayAll t2 es1 (SetTable.grown es1.size)).2.1
      pure (some true)
    else pure (some true)) R E s:=by
 have x1:=x.store el key nd sz fits led pl
 have b1:=Oe s.heap a (Obj.putSet es1 t2)
 refine Aa (wpAny_storeSet_of x.at_ x.dt ?_ (Wi sz))
 by_cases hc:(!wd && t2.tooFull)=true
 ·rw[Ak hc]
  have rp:=relayAll_perm t2 es1 (SetTable.grown es1.size)
  have rf:=relayAll_fits t2 es1 (SetTable.grown es1.size)
  have rl:=jn8 t2 es1 (SetTable.grown es1.size)
  have rq:=jpb t2 es1 (SetTable.grown es1.size) pl
  generalize relayAll t2 es1 (SetTable.grown es1.size)=W at rp rf rl rq
  obtain⟨es2,t3,gv⟩:=W
  dsimp only at rp rf rl rq⊢
  have z2:es2.size=es1.size:=by rw[<-Array.length_toList,rp.length_eq,Array.length_toList]
  have x2:=x1.store (el.perm rp) ((rp.map keyE).trans key) nd (by rw[z2];exact sz) rf (rl.trans led) rq
  refine Aa (hg _ _ _ (Aa (wpAny_storeSet_of x1.at_ x1.dt ?_ (Wi (by rw[z2];exact sz)))))
  exact Af (h _ (b1.trans (Oe _ a _)) ⟨_,_,_,_,x2⟩)
 ·rw[Ae hc]
  exact Af (h _ b1 ⟨_,_,_,_,x1⟩)
theorem jop{a:Addr}{L:Bool}{ks:List Str}{k:Str}{tk:Tok}{Q:Bool->Shared->Prop}(hS:SXO prog w s.heap a L ks)(hr:ks.length+1<scanBound)
  (h:∀h',Heap.SameBut a s.heap h'->SXO prog w h' a L (stpS ks k)->∀b,Q b {s with heap:=h'}) :
  wpAny (model prog w) A (setAddHashed a (.str k tk) ((strKind prog w).hash k)) Q E s:=by
 obtain⟨o,es,ep,t,x⟩:=hS
 have hk:=jj0 (prog:=prog) (w:=w) k tk
 have hsc:(Value.str k tk).scannable=true:=rfl
 have hl:=x.len
 unfold setAddHashed setAddHashedIn
 refine Op (Aa (Ua x.at_ x.dt x.fits ?_))
 dsimp only
 rw[byScan_of hsc x.sz x.el,Ak rfl]
 unfold setAddByScan
 refine Aa (Aa (W3 (Aa (wpAny_setScan_of hk x.at_ x.dt x.fits x.el ?_))))
 by_cases hin:k∈ks
 ·obtain⟨e,he,hke⟩:=(x.mem k).mp hin
  have hst:stpS ks k=ks:=by unfold stpS;rw[Ak (Uw.mpr ⟨k,hin,by simp⟩)]
  cases hf:es.toList.findIdx? (λe=>(strKind prog w).is k e.2)with
  |none=>exact absurd hke (by rw[show Value.isStrOf k e.2=(strKind prog w).is k e.2 from rfl,List.findIdx?_eq_none_iff.mp hf e he];decide)
  |some j =>
   dsimp only
   have q:=h s.heap (Heap.SameBut.refl a s.heap) (by rw[hst];exact⟨o,es,ep,t,x⟩)
   exact Af (Af (q _))
 ·have hst:stpS ks k=ks++[k]:=by
   unfold stpS
   rw[Ae]
   intro q
   obtain⟨y,hy,e⟩:=Uw.mp q
   exact hin (by rw[<-show y=k by simpa using e];exact hy)
  cases hf:es.toList.findIdx? (λe=>(strKind prog w).is k e.2)with
  |some j =>
   obtain⟨hj,hpj,_⟩:=List.findIdx?_eq_some_iff_getElem.mp hf
   exact absurd ((x.mem k).mpr ⟨_,Iu hj,hpj⟩) hin
  |none =>
   dsimp only
   have lp:=layNew_perm t es ((strKind prog w).hash k) (.str k tk)
   have lf:=layNew_fits t es ((strKind prog w).hash k) (.str k tk)
   have ll:=jmv t es ((strKind prog w).hash k) (.str k tk)
   have lq:=jn0 t es ((strKind prog w).hash k) (.str k tk)
   generalize layNew t es ((strKind prog w).hash k) (.str k tk)=W at lp lf ll lq
   obtain⟨es1,t1,wd,gv⟩:=W
   dsimp only at lp lf ll lq⊢
   rw[Array.toList_push]at lp
   have el1:ElemsOf (strKind prog w) es1.toList:=(x.el.push hk hsc).perm lp
   have key1:(es1.toList.map keyE).Perm (ks++[k]):=by
    refine(lp.map keyE).trans ?_
    rw[Ig]
    exact x.key.append_right [k]
   have nd1:(ks++[k]).Nodup:=by
    rw[Ox]
    exact⟨x.nd,by simp,λu hu v hv e=>hin (by rw[<-Ag.mp hv,<-e];exact hu)⟩
   have sz1:es1.size<scanBound:=by
    rw[<-Array.length_toList,lp.length_eq,Ax,Array.length_toList,hl]
    exact hr
   have gv_ok:∀(b:Bool)(s1:Shared)(Q1:Unit->Shared->Prop),Q1 () s1->wpAny (model prog w) A (match b with|true=>rule "set.scan.the-table-gave-way"|false=>pure ()) Q1 E s1:=λb s1 Q1 q=>by
    cases b
    ·exact Af q
    ·exact W3 q
   refine Aa (gv_ok gv _ _ ?_)
   have done:∀h',Heap.SameBut a s.heap h'->SXO prog w h' a L (ks++[k])->∀b,Q b {s with heap:=h'}:=λh' b1 b2=>h h' b1 (by rw[hst];exact b2)
   by_cases hp:t1.plain=true
   ·rw[Ak hp]
    refine Aa ?_
    rw[hashByValue_scannable 8 hsc]
    refine Af ?_
    refine jbz gv_ok x el1 key1 nd1 sz1 ?_ ?_ ?_ λh' b1 b2=>Af (done h' b1 b2 _)
    ·exact SetTable.fits_plain_off lf
    ·exact ll.trans x.led
    ·rfl
   ·rw[Ae hp]
    refine Aa (Af ?_)
    rw[Ak rfl]
    exact jbz gv_ok x el1 key1 nd1 sz1 lf (ll.trans x.led) (by simpa using hp) λh' b1 b2=>Af (done h' b1 b2 _)
end
section
variable{prog:Program}{w:World}{A:Around}{R:Result->Shared->Prop}{I:Addr}{fp wr:List Addr}{G:Array GenState->Array GenState->Prop}{n:Nat}{P:Nat->Value->Prop}{St:Nat->Shared->Prop}
theorem joc(W:WalksS prog w A.in1 I fp wr G n P St)(S:Addr)(hSf:S∉fp)
  {L:Bool} (val:Nat->Str) (hval:∀i v,P i v->∃t,v=.str (val i) t) (hb:n+1<scanBound) :
  ∀(k i:Nat)(s:Shared),n-i=k->i<=n->St i s ->
   SXO prog w s.heap S L (fmS val i) ->
   (∀s',Moved (S::wr) G s s'->SXO prog w s'.heap S L (fmS val n)->R (.ok (.ret .none)) s') ->
   codeAny (model prog w) A (.builtin "set.update.loop" ⟨[.ref S,.ref I],[]⟩) R s:=by
 have hSw:S∉wr:=λh=>hSf (W.sub _ h)
 have hsub:∀b∈wr,b∈S::wr:=λb hb=>Ib _ hb
 intro k
 induction k with
 |zero =>
  intro i s hk hi hst hS hR
  have hin:i=n:=by omega
  subst hin
  refine Ul U8 ?_
  rw[Ub O3 _]
  show wpAny _ A.in1 (pyNext (.ref I) >>= _) _ _ s
  refine Aa (W.done s _ _ hst λs' hm=>?_)
  show wpAny _ A.in1 (ret Value.none) _ _ s'
  exact Af (hR s' (hm.mono hsub) (by
   obtain⟨o,es,ep,t,x⟩:=hS
   exact⟨o,es,ep,t,x.to (hm.heap S _ hSw x.at_)⟩))
 |succ k ih =>
  intro i s hk hi hst hS hR
  have hlt:i<n:=by omega
  refine Ul U8 ?_
  rw[Ub O3 _]
  show wpAny _ A.in1 (pyNext (.ref I) >>= _) _ _ s
  refine Aa (W.item i s _ _ hlt hst λv s' hP hst' hm=>?_)
  obtain⟨t,rfl⟩:=hval i v hP
  have hS':SXO prog w s'.heap S L (fmS val i):=by
   obtain⟨o,es,ep,tb,x⟩:=hS
   exact⟨o,es,ep,tb,x.to (hm.heap S _ hSw x.at_)⟩
  show wpAny _ A.in1 (holding [Value.str (val i) t] (setAdd S (.str (val i) t)) >>= _) _ _ s'
  refine Aa (Op ?_)
  unfold setAdd
  refine Op ?_
  refine Aa ((strKind prog w).pyHash (k:=val i) (jj0 _ _) ?_)
  have hroom:(fmS val i).length+1<scanBound:=by have:=jjz val i;omega
  refine jop (s:={s' with toks:=s'.toks+1}) hS' hroom λh' hsb hS2 _=>?_
  have hSi:SXO prog w h' S L (fmS val (i+1)):=by rw[jf9];exact hS2
  refine Af ⟨Uy O3 _,ih (i+1) _ (by omega) hlt (W.frame _ s' _ _ hst' (U0 _) λb hb o e=>?_) hSi λs'' hm'' hS''=>?_⟩
  ·rw[hsb.2 b (λh:b=S=>hSf (by rw[<-h];exact hb))];exact e
  ·refine hR s'' (Moved.trans W.gtrans ((hm.mono hsub).then_heap (U0 _) λb o hb e=>?_) hm'') hS''
   rw[hsb.2 b (λh:b=S=>hb (by rw[h];exact Ol))];exact e
end
def setO(L:Bool):Obj:={cls:=.type "set",dict:=none,data:=.set #[] 0 (.fresh 0 0 L)}
section
variable{prog:Program}{w:World}{A:Around}{E:Value->Shared->Prop}{s:Shared}
theorem jph(a:Value){Q₁:Value->Shared->Prop}(h:Q₁ (.ref s.heap.objs.size) {s with heap:=s.heap.push (setO (!w.params.followText "set-order"))}) :
  codeAny (model prog w) A (.call (.builtin "set.__new__") ⟨[.type "set",a],[]⟩) (wants Q₁ E) s:=by
 have hsub:=sub_set_self
 refine codeAny_of_tree (show wpAny _ A.in1 (do checkBuiltinCall "set.__new__" ⟨[.type "set",a],[]⟩;again (.builtin "set.__new__" ⟨[.type "set",a],[]⟩)) _ _ s from ?_)
 refine Aa (wpAny_of_eq (PySem.F.newCall_set_1 a) (Af ⟨Uy PySem.F.plain_set_new _,Ul PySem.F.entry_set_new ?_⟩))
 rw[Ub PySem.F.plain_set_new _,Builtin.«set.__new__»,Builtin.Frozenset.newClass]
 obtain⟨hp,g,d,tk,os⟩:=s
 dsimp only
 wp_walk
 refine Ue (Af ?_)
 show wpAny _ _ (newObj (.type "set") (.set #[] 0 (.fresh 0 0 (!w.params.followText "set-order")))) _ _ _
 unfold newObj
 exact Aa (wpAny_alloc (Af (Af h)))
theorem jbo{T IT:String}{l:Addr}{ol:Obj}{items:Array Value}{ss:List Str}{St:Addr->Nat->Heap->Prop}{Q:Value->Shared->Prop}(hh:A.handled=none)(hol:s.heap.get? l=some ol)(hcl:ol.cls=.type T)
  (hsls:isSubtype (.type T) (.type "set")=pure false) (hslf:isSubtype (.type T) (.type "frozenset")=pure false) (hne:(Value.type T == Value.type "dict")=false)
  (hit:∀(A':Around)(E':Value->Shared->Prop)(s':Shared)(Q':Value->Shared->Prop),s'.heap.get? l=some ol->Q' (.ref s'.heap.objs.size) {s' with heap:=s'.heap.push {cls:=.type IT,data:=.fields #[.ref l,.int 0 0]}}->wpAny (model prog w) A' (pyIter (.ref l)) Q' E' s')
  (hw:∀(A':Around)(I:Addr),A'.handled=none->l≠I->Walks prog w A' I [I,l] [I] items.size (λi v=>items[i]?=some v) (St I))
  (hs0:∀(I:Addr)(h:Heap),h.get? l=some ol->h.get? I=some {cls:=.type IT,data:=.fields #[.ref l,.int 0 0]}->St I 0 h)
  (hs:∀(i:Nat)(v:Value),items[i]?=some v->∃t,v=.str (ss.getD i ⟨#[]⟩) t) (hb:items.size+1<scanBound)
  (h:∀(h':Heap)(tk:Nat),SXO prog w h' s.heap.objs.size (!w.params.followText "set-order") (fmS (λi=>ss.getD i ⟨#[]⟩) items.size) ->
   (∀b o,b<s.heap.objs.size->s.heap.get? b=some o->h'.get? b=some o)->Q (.ref s.heap.objs.size) {s with heap:=h',toks:=tk}) :
  wpAny (model prog w) A (call (.type "set") [.ref l]) Q E s:=by
 obtain⟨c,tl,hmro⟩:=On.mro
 have hmade:=On.made
 have hsub:=On.sub
 refine wpAny_call (codeAny_of_tree ?_)
 show wpAny _ _ (callAny (.type "set") _) _ _ _
 refine Af ⟨Code.quiet_builtin _ (by decide +kernel),Ul PySem.F.entry_type_call ?_⟩
 rw[Around.under_plain (weight_type_call_type "set" [.ref l] []) rfl]
 have h1:=On.notType
 have h2:=On.canCreate
 have hct:=PySem.F.typeCall_set_1 (.ref l)
 repeat (any_goals (first|assumption|wp_step))
 refine Ud (jph (.ref l) (E:=E) (Q₁:=λobj s₁=>obj=.ref s.heap.objs.size/\s₁={s with heap:=s.heap.push (setO (!w.params.followText "set-order"))}) ⟨rfl,rfl⟩) λr s₁ hr=>?_
 cases r with
 |error e=>exact hr
 |ok fl =>
  cases fl with
  |ret obj =>
   obtain⟨rfl,rfl⟩:=hr
   have hS:(s.heap.push (setO (!w.params.followText "set-order"))).get? s.heap.objs.size=some (setO (!w.params.followText "set-order")):=An _ rfl
   have hT:Shared.TypeIs {s with heap:=s.heap.push (setO (!w.params.followText "set-order"))} (.ref s.heap.objs.size) "set":=⟨_,hS,rfl⟩
   have hli:=On.init.lookup
   have hbi:=On.init.bind (.ref s.heap.objs.size)
   repeat (any_goals (first|assumption|wp_step))
   refine Ud (codeAny_call_builtin (R:=wants (λr s₂=>r=.none/\∃h' tk,s₂={s with heap:=h',toks:=tk} /\
     SXO prog w h' s.heap.objs.size (!w.params.followText "set-order") (fmS (λi=>ss.getD i ⟨#[]⟩) items.size) /\
     (∀b o,b<s.heap.objs.size->s.heap.get? b=some o->h'.get? b=some o)) E) On.init.plain PySem.F.entry_set_init (check_set_init_1 hT ?_)) λr₂ s₂ hr₂=>?_
   ·have hol':(s.heap.push (setO (!w.params.followText "set-order"))).get? l=some ol:=Ad _ hol
    have hTl:Shared.TypeIs {s with heap:=s.heap.push (setO (!w.params.followText "set-order"))} (.ref l) T:=⟨_,hol',hcl⟩
    unfold Builtin.«set.__init__» noKeywords Builtin.Frozenset.updateFrom
    generalize hPI:pyIter=PI
    wp_walk
    subst hPI
    refine hit _ _ _ _ hol' ?_
    refine Aa (wpAny_runValue ?_)
    have hlS:l<s.heap.objs.size:=Am hol
    have hh3:A.in1.in1.in1.handled=none:=by simp[hh]
    have hneI:l≠(s.heap.push (setO (!w.params.followText "set-order"))).objs.size:=by
     rw[Im]
     exact Ap (O9 hlS)
    have hSf:s.heap.objs.size∉[(s.heap.push (setO (!w.params.followText "set-order"))).objs.size,l]:=by
     rw[Im,Aw,Ag]
     rintro(q|q)
     ·exact absurd q (Ap (Ij _))
     ·exact absurd q (Nat.ne_of_gt hlS)
    refine joc ((hw _ _ hh3 hneI).toS) s.heap.objs.size hSf (L:=!w.params.followText "set-order") (λi=>ss.getD i ⟨#[]⟩) hs hb (items.size-0) 0 _ rfl (A8 _)
     (hs0 _ _ (Ad _ hol') (An _ rfl)) ?hS0 ?hR
    case hS0 =>
     exact⟨_,#[],0,_,Ad _ hS,⟨rfl,rfl,rfl⟩,rfl,λe he=>by simp at he,.nil,.nil,by decide,rfl,rfl,.inl rfl⟩
    case hR =>
     intro s' hm hS'
     obtain⟨h',g',d',tk',os'⟩:=s'
     have eg:g'=s.gens:=hm.gens
     have ed:d'=s.drawn:=hm.drawn
     have eo:os'=s.os:=hm.os
     subst eg;subst ed;subst eo
     show wpAny _ _ _ _ _ _
     refine Af ?_
     show wpAny _ _ (ret Value.none) _ _ _
     refine Af ⟨rfl,h',tk',rfl,hS',λb o hb e=>?_⟩
     have hb1:b≠s.heap.objs.size:=Ap hb
     have hb2:b≠(s.heap.push (setO (!w.params.followText "set-order"))).objs.size:=by
      rw[Im];exact Ap (O9 hb)
     exact hm.heap b o (by simp only[Aw,Ag,Aq,or_false,not_or];exact⟨hb1,hb2⟩) (Ad _ (Ad _ e))
   ·cases r₂ with
    |error e=>exact hr₂
    |ok fl₂ =>
     cases fl₂ with
     |ret r =>
      obtain⟨rfl,h',tk,rfl,hS',hk'⟩:=hr₂
      repeat (any_goals (first|assumption|wp_step))
      exact h _ _ hS' hk'
     |_=>exact hr₂.elim
  |_=>exact hr.elim
end
theorem sit_next:Slot "set_iterator" "__next__" "set_iterator.__next__":=.of (owner:="set_iterator") (n:="__next__") (by rw[W2,Ur];kernel_rfl) (by decide +kernel) (by decide +kernel) (by decide +kernel) (.inl (by decide +kernel)) (by rw[Us];kernel_rfl)
theorem jkr:Slot "set_iterator" "__iter__" "set_iterator.__iter__":=.of (owner:="set_iterator") (n:="__iter__") (by rw[W2,Ur];kernel_rfl) (by decide +kernel) (by decide +kernel) (by decide +kernel) (.inl (by decide +kernel)) (by rw[Us];kernel_rfl)
theorem joe:entryFor table "set_iterator.__next__"=some Builtin.«set_iterator.__next__»:=entryFor_of_tree (by kernel_rfl)
theorem jpi(a:Value):argsOk "set_iterator.__next__" ⟨[a],[]⟩:=by unfold argsOk;kernel_rfl
theorem jod(a:Value):argsOk "set_iterator.__iter__" ⟨[a],[]⟩:=by unfold argsOk;kernel_rfl
theorem jh0:entryFor table "set.__iter__"=some Builtin.«frozenset.__iter__»:=entryFor_alias (id':="frozenset.__iter__") (by kernel_rfl) rfl (by decide +kernel) (by kernel_rfl)
theorem jm7:entryFor table "set_iterator.__iter__"=some Builtin.«dict_keyiterator.__iter__»:=entryFor_alias (id':="dict_keyiterator.__iter__") (by kernel_rfl) rfl (by decide +kernel) (by kernel_rfl)
def SIt(h:Heap)(I:Addr)(f:Value)(i:Nat)(a:Addr)(n ep:Nat):Prop:=∃o,h.get? I=some o/\o.cls=.type "set_iterator"/\o.data=.fields #[f,.int i 0,.ref a,.int n 0,.int ep 0]
theorem SIt.ty{s:Shared}{I:Addr}{f:Value}{i:Nat}{a:Addr}{n ep:Nat}(x:SIt s.heap I f i a n ep):s.TypeIs (.ref I) "set_iterator":=let⟨o,h,c,_⟩:=x;⟨o,h,c⟩
section
variable{prog:Program}{w:World}{A:Around}{E:Value->Shared->Prop}{s:Shared}
theorem jgj{I:Addr}{f:Value}{i:Nat}{a:Addr}{n ep:Nat}{Q:Value->Shared->Prop}(x:SIt s.heap I f i a n ep)(h:Q (.ref I) s):wpAny (model prog w) A (pyIter (.ref I)) Q E s:=by
 refine wpAny_pyIter_slot x.ty jkr (O1 jkr x.ty jm7 ?_ (jod _))
 exact Af ⟨_,rfl,"set_iterator",_,x.ty,sit_next.lookup,h⟩
theorem SIt.upd{h:Heap}{I:Addr}{f:Value}{i:Nat}{a:Addr}{n ep:Nat}{o:Obj}(g:h.get? I=some o)(c:o.cls=.type "set_iterator")(d:o.data=.fields #[f,.int i 0,.ref a,.int n 0,.int ep 0])(k:Nat)(v:Value) :
  ∃o',(h.update I (Obj.mapFields (·.setIfInBounds k v))).get? I=some o'/\o'.cls=.type "set_iterator"/\o'.data=.fields ((#[f,.int i 0,.ref a,.int n 0,.int ep 0]:Array Value).setIfInBounds k v) :=
 ⟨_,Ie _ g (Ws (O4 d _)),(Obj.cls_mapFields ..).trans c,by rw[O4 d]⟩
theorem jkt{B:Around}(hh:B.handled=none){Q:Option Value->Shared->Prop}{R:Fin->Shared->Prop}(h:∀h',(∀b o,s.heap.get? b=some o->h'.get? b=some o)->Q none {s with heap:=h'}) :
  wpAny (model prog w) B.in1 (newExc (.type "StopIteration") [] >>= λe=>(raiseNew e:Sem Fin)) R
   (λe s'=>wpAny (model prog w) B (do if(<-isInstance e (.type "StopIteration"))=true then pure none else throw e) Q E s') s:=by
 refine Aa ?_
 simp only[newExc,newTuple]
 refine Aa (Ik ?_ (by size_fits))
 refine Aa (m:=firstArgMember _ _) (wpAny_of_eq (a:=Value.none) (by first|rfl|(simp only[firstArgMember];rfl)) (Ik ?_ (by size_fits)))
 simp only[raiseNew]
 refine Aa (wpAny_handled ?_)
 rw[show B.in1.handled=none from hh]
 refine Aa (Af (wpAny_throw ?_))
 refine Aa (wpAny_isInstance (T:="StopIteration") (b:=true) ⟨_,An _ rfl,rfl⟩ isSubtype_stop (Af ?_))
 exact(h _ λb o e=>Ad _ (Ad _ e))
theorem jex{I a:Addr}{f:Value}{i n ep:Nat}{L:Bool}{ks:List Str}{o:Obj}{es:Array (Int×Value)}{t:SetTable}{Q:Option Value->Shared->Prop}(x:SIt s.heap I f i a n ep)(y:SX prog w s.heap a L ks o es ep t)(hn:es.size=n)
  (h:wpAny (model prog w) A.in1 (match f with
    |.int slot _=>do
     match <-setNext a slot.toNat i ep with
     |some (x,next) =>
      setField (.ref I) 0 (rawInt next)
      setField (.ref I) 1 (rawInt (i+1))
      ret x
     |none=>setField (.ref I) 2 .none;raiseNew (<-newExc (.type "StopIteration") [])
    |_=>do
     let some places <-seqItems? f|unsupported "internal:set_iterator"
     match places[i]? with
     |some (.int place _) =>
      let x <-setNextDrawn a place.toNat ep
      setField (.ref I) 1 (rawInt (i+1))
      ret x
     |some _=>unsupported "internal:set_iterator"
     |none=>setField (.ref I) 0 (rawInt 0);setField (.ref I) 2 .none;raiseNew (<-newExc (.type "StopIteration") []))
   (λfin s'=>∃v,fin=Fin.done (Flow.ret v)/\Q (some v) s') (λe s'=>wpAny (model prog w) A (do if(<-isInstance e (.type "StopIteration"))=true then pure none else throw e) Q E s') s) :
  wpAny (model prog w) A (pyNext (.ref I)) Q E s:=by
 obtain⟨oi,hi,ci,di⟩:=id x
 unfold pyNext
 refine Aa (wpAny_attempt (Uh (name:=Str.ofString "__next__") x.ty sit_next (O1 sit_next x.ty joe ?_ (jpi _))))
 unfold Builtin.«set_iterator.__next__»
 refine Aa (Af ?_)
 refine Aa (wpAny_fieldsOf hi di ?_)
 dsimp only
 refine Aa (wpAny_setEntries_of y.at_ y.dt y.fits ?_)
 rw[Ae (by rw[hn];simp)]
 refine Of ?_ (Q:=λfin s'=>∃v,fin=Fin.done (Flow.ret v)/\Q (some v) s') (λfin s' ⟨v,e,q⟩=>⟨v,e,Af q⟩) λ_ _ q=>q
 simp only[Int.toNat_natCast]
 cases f <;> exact h
theorem jl6{I a:Addr}{sl i n ep nx:Nat}{L:Bool}{ks:List Str}{o:Obj}{es:Array (Int×Value)}{t:SetTable}{v:Value}{Q:Option Value->Shared->Prop}(x:SIt s.heap I (.int sl 0) i a n ep)(y:SX prog w s.heap a L ks o es ep t)(hn:es.size=n)
  (hx:∀(A':Around)(E':Value->Shared->Prop)(Q':Option (Value×Nat)->Shared->Prop),Q' (some (v,nx)) s->wpAny (model prog w) A' (setNext a sl i ep) Q' E' s)
  (hQ:∀h',SIt h' I (.int nx 0) (i+1) a n ep->Heap.SameBut I s.heap h'->Q (some v) {s with heap:=h'}):wpAny (model prog w) A (pyNext (.ref I)) Q E s:=by
 refine jex x y hn ?_
 obtain⟨oi,hi,ci,di⟩:=id x
 dsimp only
 rw[Int.toNat_natCast]
 refine Aa (hx _ _ _ ?_)
 dsimp only
 refine Aa (O2 hi di (by simp) ?_)
 obtain⟨o1,g1,c1,d1⟩:=SIt.upd hi ci di 0 (rawInt nx)
 refine Aa (O2 g1 d1 (by simp) ?_)
 refine Af ⟨v,rfl,hQ _ ?_ ((Oe ..).trans (Oe ..))⟩
 exact⟨_,Ie _ g1 (Ws (O4 d1 _)),(Obj.cls_mapFields ..).trans c1,by rw[O4 d1];simp[rawInt]⟩
theorem jkq{I a:Addr}{sl i n ep:Nat}{L:Bool}{ks:List Str}{o:Obj}{es:Array (Int×Value)}{t:SetTable}{Q:Option Value->Shared->Prop}(hh:A.handled=none)(x:SIt s.heap I (.int sl 0) i a n ep)(y:SX prog w s.heap a L ks o es ep t)(hn:es.size=n)
  (hx:∀(A':Around)(E':Value->Shared->Prop)(Q':Option (Value×Nat)->Shared->Prop),Q' none s->wpAny (model prog w) A' (setNext a sl i ep) Q' E' s)
  (hQ:∀h',(∀b o,b≠I->s.heap.get? b=some o->h'.get? b=some o)->Q none {s with heap:=h'}):wpAny (model prog w) A (pyNext (.ref I)) Q E s:=by
 refine jex x y hn ?_
 obtain⟨oi,hi,ci,di⟩:=id x
 dsimp only
 rw[Int.toNat_natCast]
 refine Aa (hx _ _ _ ?_)
 dsimp only
 refine Aa (O2 hi di (by simp) ?_)
 exact jkt hh λh' k=>hQ h' λb o hb e=>k b o ((Ir _ _ (O6 hb)).trans e)
theorem jq6{I a tp:Addr}{i n ep pl c:Nat}{L:Bool}{ks:List Str}{o:Obj}{es:Array (Int×Value)}{t:SetTable}{hv:Int}{v:Value}{ps:Array Value}{Q:Option Value->Shared->Prop}(x:SIt s.heap I (.ref tp) i a n ep)(y:SX prog w s.heap a L ks o es ep t)(hn:es.size=n)
  {ot:Obj} (ht:s.heap.get? tp=some ot) (hd:ot.data=.seq ps c) (hp:ps[i]?=some (rawInt pl)) (he:es[pl]?=some (hv,v))
  (hQ:∀h',SIt h' I (.ref tp) (i+1) a n ep->Heap.SameBut I s.heap h'->Q (some v) {s with heap:=h'}):wpAny (model prog w) A (pyNext (.ref I)) Q E s:=by
 refine jex x y hn ?_
 obtain⟨oi,hi,ci,di⟩:=id x
 dsimp only
 refine Aa (wpAny_seqItems ht hd ?_)
 dsimp only
 rw[hp]
 dsimp only[rawInt]
 unfold setNextDrawn
 refine Aa (Aa (Ua y.at_ y.dt y.fits ?_))
 dsimp only
 rw[Ae (by simp),Int.toNat_natCast,he]
 refine Af ?_
 refine Aa (O2 hi di (by simp) ?_)
 refine Af ⟨v,rfl,hQ _ ?_ (Oe ..)⟩
 exact⟨_,Ie _ hi (Ws (O4 di _)),(Obj.cls_mapFields ..).trans ci,by rw[O4 di];simp⟩
theorem jpj{I a tp:Addr}{i n ep c:Nat}{L:Bool}{ks:List Str}{o:Obj}{es:Array (Int×Value)}{t:SetTable}{ps:Array Value}{Q:Option Value->Shared->Prop}(hh:A.handled=none)(x:SIt s.heap I (.ref tp) i a n ep)(y:SX prog w s.heap a L ks o es ep t)(hn:es.size=n)
  {ot:Obj} (ht:s.heap.get? tp=some ot) (hd:ot.data=.seq ps c) (hp:ps[i]?=none)
  (hQ:∀h',(∀b o,b≠I->s.heap.get? b=some o->h'.get? b=some o)->Q none {s with heap:=h'}):wpAny (model prog w) A (pyNext (.ref I)) Q E s:=by
 refine jex x y hn ?_
 obtain⟨oi,hi,ci,di⟩:=id x
 dsimp only
 refine Aa (wpAny_seqItems ht hd ?_)
 dsimp only
 rw[hp]
 dsimp only
 refine Aa (O2 hi di (by simp) ?_)
 obtain⟨o1,g1,c1,d1⟩:=SIt.upd hi ci di 0 (rawInt 0)
 refine Aa (O2 g1 d1 (by simp) ?_)
 exact jkt hh λh' k=>hQ h' λb o hb e=>k b o ((Ir _ _ (O6 hb)).trans ((Ir _ _ (O6 hb)).trans e))
end
theorem jgf{α:Type}:∀(l:List α)(i:Nat)(x:α),l[i]?=some x->(x::l.eraseIdx i).Perm l
 |[],i,x,h=>by simp at h
 |a::l,0,x,h=>by simp at h;subst h;exact List.Perm.refl _
 |a::l,i+1,x,h=>by
  rw[List.eraseIdx_cons_succ]
  exact(List.Perm.swap a x _).trans ((jgf l i x (by simpa using h)).cons a)
theorem jb4{α:Type}(f:Nat->Nat):∀(fuel k:Nat)(left:List α)(out:Array α),left.length=fuel->(pickOrder.go f fuel k left out).toList.Perm (out.toList++left)
 |0,k,left,out,h=>by
  rw[Ui.mp h,Og]
  exact List.Perm.refl _
 |fuel+1,k,left,out,h=>by
  have hlt:f k%left.length<left.length:=Nat.mod_lt _ (by omega)
  unfold pickOrder.go
  rw[Ai hlt]
  dsimp only
  refine(jb4 f fuel (k+1) _ _ (by rw[List.length_eraseIdx_of_lt hlt];omega)).trans ?_
  rw[Array.toList_push,Ix]
  exact List.Perm.append_left _ (jgf left _ _ (Ai hlt))
theorem jbq{α:Type}(f:Nat->Nat)(es:Array α):(pickOrder f es).toList.Perm es.toList:=by
 have:=jb4 f es.size 0 es.toList #[] (by simp)
 simpa[pickOrder]using this
section
variable{prog:Program}{w:World}{A:Around}{E:Value->Shared->Prop}{s:Shared}
theorem jmm{src:Source}{n:Nat}{Q:Nat->Shared->Prop}(hn:0<n)(h:∀i dr,i<n->Q i {s with drawn:=dr}):wpAny (model prog w) A (choose src n) Q E s:=λΓ p hΓ=>by
 show Sem.wp _ Γ (.choose src n .pure) _ _ p s
 rw[Sem.wp_choose]
 exact⟨by omega,h _ _ (Nat.mod_lt _ hn)⟩
theorem jjw{α:Type}:∀(n:Nat)(xs:List α)(s:Shared){Q:List α->Shared->Prop},xs.length=n->(∀ys dr,ys.Perm xs->Q ys {s with drawn:=dr})->wpAny (model prog w) A (drawOrder n xs) Q E s
 |0,xs,s,Q,hl,h=>by
  unfold drawOrder
  exact Af (h [] s.drawn (by rw[Ui.mp hl]))
 |n+1,[],s,Q,hl,h=>by simp at hl
 |n+1,x::xs,s,Q,hl,h=>by
  unfold drawOrder
  refine Aa (jmm (by simp) λi dr hi=>?_)
  rw[Ai hi]
  dsimp only
  refine Aa (jjw n _ _ (by rw[List.length_eraseIdx_of_lt hi];omega) λys dr' hp=>Af (h _ dr' ?_))
  exact(hp.cons _).trans (jgf _ i _ (Ai hi))
theorem SX.str{h:Heap}{a:Addr}{L:Bool}{ks:List Str}{o:Obj}{es:Array (Int×Value)}{ep:Nat}{t:SetTable}(x:SX prog w h a L ks o es ep t){e:Int×Value}(he:e∈es.toList):∃tk,e.2=.str (keyE e) tk:=by
 obtain⟨⟨k,hk,_⟩,_⟩:=x.el e he
 have hk':Value.isStrOf k e.2=true:=hk
 rw[jhs hk']
 exact W6 hk'
theorem jij{a:Addr}{L:Bool}{ks:List Str}{o:Obj}{es:Array (Int×Value)}{ep:Nat}{t:SetTable}{sl i:Nat}{Q:Option (Value×Nat)->Shared->Prop}(hB:w.params.followText "set-order"=true)(x:SX prog w s.heap a L ks o es ep t)
  (h:Q (((pickOrder (w.params.setOrder a ep) es)[i]?).map λe=>(e.2,sl)) s):wpAny (model prog w) A (setNext a sl i ep) Q E s:=by
 unfold setNext setsByText
 refine Aa (Ua x.at_ x.dt x.fits ?_)
 dsimp only
 refine Aa (Aa (Ue (Af ?_)))
 refine I0 (λ_=>?_) (λq=>absurd hB q)
 refine I0 (λq=>absurd q (by simp)) (λ_=>?_)
 unfold setWalk setsByText
 refine Aa (Aa (Ua x.at_ x.dt x.fits ?_))
 dsimp only
 refine Aa (Aa (Ue (Af ?_)))
 refine I0 (λ_=>?_) (λq=>absurd hB q)
 exact Aa (Ue (Af (Af h)))
theorem jii{a:Addr}{ks:List Str}{o:Obj}{es:Array (Int×Value)}{ep:Nat}{t:SetTable}{sl i:Nat}{Q:Option (Value×Nat)->Shared->Prop}(hB:w.params.followText "set-order"=false)(x:SX prog w s.heap a true ks o es ep t)(h1:es.size<=1)
  (h:Q (match es[SetTable.below t.place sl]?,t.place[SetTable.below t.place sl]? with|some (_,x),some j=>some (x,j+1)|_,_=>none) s):wpAny (model prog w) A (setNext a sl i ep) Q E s:=by
 unfold setNext setsByText
 refine Aa (Ua x.at_ x.dt x.fits ?_)
 dsimp only
 refine Aa (Aa (Ue (Af ?_)))
 have hB':¬w.params.followText "set-order"=true:=by rw[hB];decide
 refine I0 (λq=>absurd q hB') (λ_=>?_)
 refine I0 (λq=>?_) (λ_=>?_)
 ·have q':(!t.plain && decide (es.size>1))=true:=q
  simp at q'
  omega
 refine Aa (show wpAny _ _ (if(!t.led && !es.isEmpty)=true then unsupported _ else pure ()) _ _ _ from ?_)
 refine I0 (λq=>absurd q (by rw[x.led];simp)) (λ_=>Af (Af h))
theorem SX.keep{h h':Heap}{a:Addr}{L:Bool}{ks:List Str}{o:Obj}{es:Array (Int×Value)}{ep:Nat}{t:SetTable}(x:SX prog w h a L ks o es ep t)(k:∀o,h.get? a=some o->h'.get? a=some o):SX prog w h' a L ks o es ep t:=x.to (k _ x.at_)
theorem SIt.keep{h h':Heap}{I:Addr}{f:Value}{i:Nat}{a:Addr}{n ep:Nat}(x:SIt h I f i a n ep)(k:∀o,h.get? I=some o->h'.get? I=some o):SIt h' I f i a n ep:=let⟨o,g,c,d⟩:=x;⟨o,k _ g,c,d⟩
theorem jon{a I:Addr}(hne:a≠I){L:Bool}{ks:List Str}{o:Obj}{es:Array (Int×Value)}{ep:Nat}{t:SetTable}(hB:w.params.followText "set-order"=true)(hh:A.handled=none) :
  Walks prog w A I [I,a] [I] ((pickOrder (w.params.setOrder a ep) es).toList.map keyE).length (λi v=>∃tk,v=.str (((pickOrder (w.params.setOrder a ep) es).toList.map keyE).getD i ⟨#[]⟩) tk)
   (λi h=>SIt h I (.int (0:Nat) 0) i a es.size ep/\SX prog w h a L ks o es ep t) where
 sub:=λb hb=>by simp at hb;simp[hb]
 frame:=λ_ _ _ st hk=>⟨st.1.keep λo e=>hk I (by simp) o e,st.2.keep λo e=>hk a (by simp) o e⟩
 item:=λi s Q E hi st hQ=>by
  rw[Ab]at hi
  have hg:(pickOrder (w.params.setOrder a ep) es).toList[i]?=some ((pickOrder (w.params.setOrder a ep) es).toList[i]):=Ai hi
  have hm:=(jbq (w.params.setOrder a ep) es).mem_iff.mp (Iu hi)
  generalize(pickOrder (w.params.setOrder a ep) es).toList[i]=e at hg hm
  obtain⟨tk,ek⟩:=st.2.str hm
  refine jl6 (v:=e.2) (nx:=0) st.1 st.2 rfl (λA' E' Q' q=>jij hB st.2 ?_) λh' x' k=>hQ e.2 h' s.toks ⟨tk,?_⟩ ⟨x',st.2.keep λo g=>(k.2 a hne).trans g⟩ λb o hb g=>(k.2 b (by simpa using hb)).trans g
  ·rw[<-Ot,hg]
   exact q
  ·rw[ek,Ac,Ao,hg]
   rfl
 done:=λs Q E st hQ=>by
  refine jkq hh st.1 st.2 rfl (λA' E' Q' q=>jij hB st.2 ?_) λh' k=>hQ h' s.toks λb o hb g=>k b o (by simpa using hb) g
  rw[<-Ot,Ab,Oh (Ah _)]
  exact q
 self:=λ_ _ _ _ st hQ=>jgj st.1 hQ
theorem jne{a I tp:Addr}(hne:a≠I)(hnt:tp≠I){L:Bool}{ks:List Str}{o ot:Obj}{es:Array (Int×Value)}{ep c:Nat}{t:SetTable}{ps:List Nat}(hp:ps.Perm (List.range es.size))(hd:ot.data=.seq (ps.map fun(i:Nat)=>rawInt i).toArray c)(hh:A.handled=none) :
  Walks prog w A I [I,a,tp] [I] (ps.map λp=>keyE (es.toList.getD p (0,.none))).length (λi v=>∃tk,v=.str ((ps.map λp=>keyE (es.toList.getD p (0,.none))).getD i ⟨#[]⟩) tk)
   (λi h=>SIt h I (.ref tp) i a es.size ep/\SX prog w h a L ks o es ep t/\h.get? tp=some ot) where
 sub:=λb hb=>by simp at hb;simp[hb]
 frame:=λ_ _ _ st hk=>⟨st.1.keep λo e=>hk I (by simp) o e,st.2.1.keep λo e=>hk a (by simp) o e,hk tp (by simp) _ st.2.2⟩
 item:=λi s Q E hi st hQ=>by
  rw[Ab]at hi
  have hg:ps[i]?=some ps[i]:=Ai hi
  have hm:=U9.mp (hp.mem_iff.mp (Iu hi))
  generalize ps[i]=pl at hg hm
  have hm':pl<es.toList.length:=by simpa using hm
  have he:es.toList[pl]?=some es.toList[pl]:=Ai hm'
  have hmem:=Iu hm'
  generalize es.toList[pl]=e at he hmem
  obtain⟨tk,ek⟩:=st.2.1.str hmem
  refine jq6 (pl:=pl) (hv:=e.1) (v:=e.2) st.1 st.2.1 rfl st.2.2 hd (by simp[hg]) (by rw[<-Ot,he]) λh' x' k=>hQ e.2 h' s.toks ⟨tk,?_⟩ ⟨x',st.2.1.keep λo g=>(k.2 a hne).trans g,(k.2 tp hnt).trans st.2.2⟩ λb o hb g=>(k.2 b (by simpa using hb)).trans g
  rw[ek,Ac,Ao,hg]
  show Value.str (keyE e) tk=.str (keyE (es.toList.getD pl (0,.none))) tk
  rw[Ac,he]
  rfl
 done:=λs Q E st hQ=>by
  refine jpj hh st.1 st.2.1 rfl st.2.2 hd ?_ λh' k=>hQ h' s.toks λb o hb g=>k b o (by simpa using hb) g
  simp
 self:=λ_ _ _ _ st hQ=>jgj st.1 hQ
def jfg(t:SetTable)(i:Nat):Nat:=if i=0 then 0 else t.place.getD 0 0+1
theorem jom{a I:Addr}(hne:a≠I){ks:List Str}{o:Obj}{es:Array (Int×Value)}{ep:Nat}{t:SetTable}(hB:w.params.followText "set-order"=false)(h1:es.size<=1)(hf:t.fits es.size=true)(hh:A.handled=none) :
  Walks prog w A I [I,a] [I] (es.toList.map keyE).length (λi v=>∃tk,v=.str ((es.toList.map keyE).getD i ⟨#[]⟩) tk)
   (λi h=>SIt h I (.int (jfg t i:Nat) 0) i a es.size ep/\SX prog w h a true ks o es ep t) where
 sub:=λb hb=>by simp at hb;simp[hb]
 frame:=λ_ _ _ st hk=>⟨st.1.keep λo e=>hk I (by simp) o e,st.2.keep λo e=>hk a (by simp) o e⟩
 item:=λi s Q E hi st hQ=>by
  rw[Ab,Array.length_toList]at hi
  have hi0:i=0:=by omega
  subst hi0
  have hz:es.size=1:=by omega
  have hps:t.place.size=1:=by
   simp only[SetTable.fits,Ob,Uj]at hf
   omega
  obtain⟨e,he⟩:∃e,es=#[e]:=Wt.mp hz
  obtain⟨j,hj⟩:∃j,t.place=#[j]:=Wt.mp hps
  obtain⟨tk,ek⟩:=st.2.str (e:=e) (by rw[he];simp)
  have hb0:SetTable.below t.place 0=0:=by rw[hj];simp[SetTable.below,SetTable.below.go]
  refine jl6 (v:=e.2) (nx:=j+1) st.1 st.2 rfl (λA' E' Q' q=>jii hB st.2 h1 ?_) λh' x' k=>hQ e.2 h' s.toks ⟨tk,?_⟩ ⟨?_,st.2.keep λo g=>(k.2 a hne).trans g⟩ λb o hb g=>(k.2 b (by simpa using hb)).trans g
  ·show Q' (match es[SetTable.below t.place 0]?,t.place[SetTable.below t.place 0]? with|some (_,x),some j=>some (x,j+1)|_,_=>none) s
   rw[hb0,he,hj]
   exact q
  ·rw[ek,he]
   rfl
  ·have:jfg t 1=j+1:=by unfold jfg;rw[hj];rfl
   rw[this]
   exact x'
 done:=λs Q E st hQ=>by
  rw[Ab,Array.length_toList]at st
  refine jkq hh st.1 st.2 rfl (λA' E' Q' q=>jii hB st.2 h1 ?_) λh' k=>hQ h' s.toks λb o hb g=>k b o (by simpa using hb) g
  have hps:t.place.size=es.size:=by
   simp only[SetTable.fits,Ob,Uj]at hf
   exact hf.1
  have hx:es.size<=SetTable.below t.place (jfg t es.size):=by
   by_cases hz:es.size=0
   ·omega
   ·have hz1:es.size=1:=by omega
    obtain⟨j,hj⟩:∃j,t.place=#[j]:=Wt.mp (hps.trans hz1)
    rw[hz1]
    unfold jfg
    rw[hj]
    simp[SetTable.below,SetTable.below.go]
  rw[Array.getElem?_eq_none hx]
  exact q
 self:=λ_ _ _ _ st hQ=>jgj st.1 hQ
theorem jo0{a:Addr}{ks:List Str}{o:Obj}{es:Array (Int×Value)}{ep:Nat}{t:SetTable}{Q:Value->Shared->Prop}(x:SX prog w s.heap a (!w.params.followText "set-order") ks o es ep t)(hlt:a<s.heap.objs.size)
  (hQ:∀(I:Addr)(h':Heap)(dr:Drawn)(fp:List Addr)(ord:List Str)(St:Nat->Heap->Prop),(∀b o,s.heap.get? b=some o->h'.get? b=some o)->s.heap.objs.size<=I->I<h'.objs.size->ord.Perm ks ->
   (∀A':Around,A'.handled=none->Walks prog w A' I fp [I] ord.length (λi v=>∃tk,v=.str (ord.getD i ⟨#[]⟩) tk) St)->(∀b∈fp,b=a\/s.heap.objs.size<=b/\b<h'.objs.size)->St 0 h'->Q (.ref I) {s with heap:=h',drawn:=dr}) :
  wpAny (model prog w) A (pyIter (.ref a)) Q E s:=by
 have hT:s.TypeIs (.ref a) "set":=⟨o,x.at_,x.ex.1⟩
 refine wpAny_pyIter_slot hT PySem.F.slot_set_iter (O1 PySem.F.slot_set_iter hT jh0 ?_ (PySem.F.args_set_iter_1 _))
 unfold Builtin.«frozenset.__iter__» Builtin.Frozenset.slot0 Builtin.Frozenset.sizeOf
 refine Aa (Aa (Af (Af ?_)))
 refine Aa (Aa (wpAny_setEntries_of x.at_ x.dt x.fits (Af ?_)))
 unfold setDrawn setsByText
 refine Aa (Aa (Ua x.at_ x.dt x.fits ?_))
 dsimp only
 refine Aa (Aa (Ue (Af (Af ?_))))
 have mk:∀(f:Value)(s1:Shared)(R:Shared->Prop),SX prog w s1.heap a (!w.params.followText "set-order") ks o es ep t->R {s1 with heap:=s1.heap.push {cls:=.type "set_iterator",data:=.fields #[f,.int (0:Nat) 0,.ref a,.int es.size 0,.int ep 0]}} ->
   wpAny (model prog w) A.in1 (do
    let e <-setEpoch a
    let v <-newFields "set_iterator" [f,rawInt 0,.ref a,rawInt es.size,rawInt e]
    ret v) (λfin s'=>∃v,fin=Fin.done (Flow.ret v)/\v=.ref s1.heap.objs.size/\R s') E s1:=by
  intro f s1 R x1 hR
  refine Aa (wpAny_setEpoch_of x1.at_ x1.dt x1.fits ?_)
  unfold newFields
  exact Aa (Ik (Af ⟨_,rfl,rfl,hR⟩) (by size_fits))
 by_cases hB:w.params.followText "set-order"=true
 ·refine I0 (λq=>?_) (λ_=>?_)
  ·have q':(!w.params.followText "set-order" && (!t.plain && decide (es.size>1)))=true:=q
   rw[hB]at q'
   cases q'
  refine Aa (Af ?_)
  refine Of (mk (rawInt 0) s (λs'=>∃T' r,s'.TypeIs (.ref s.heap.objs.size) T'/\typeLookup (.type T') (Str.ofString "__next__")=pure (some r)/\Q (.ref s.heap.objs.size) s') x ?_) (λfin s' ⟨v,e1,e2,r⟩=>⟨v,e1,by rw[e2];exact r⟩) λ_ _ q=>q
  have hI:(s.heap.push {cls:=.type "set_iterator",data:=.fields #[rawInt 0,.int (0:Nat) 0,.ref a,.int es.size 0,.int ep 0]}).get? s.heap.objs.size=some {cls:=.type "set_iterator",data:=.fields #[rawInt 0,.int (0:Nat) 0,.ref a,.int es.size 0,.int ep 0]}:=An _ rfl
  refine⟨"set_iterator",_,⟨_,hI,rfl⟩,sit_next.lookup,?_⟩
  exact hQ _ _ s.drawn [s.heap.objs.size,a] _ _ (λb o e=>Ad _ e) (Ah _) (by rw[Im];exact Ij _) (((jbq (w.params.setOrder a ep) es).map keyE).trans x.key)
   (λA' hh=>jon (L:=!w.params.followText "set-order") (ks:=ks) (o:=o) (t:=t) (Ap hlt) hB hh) (λb hb=>by
    rcases Aw.mp hb with rfl|hb
    ·exact .inr ⟨Ah _,by rw[Im];exact Ij _⟩
    ·exact .inl (Ag.mp hb)) ⟨⟨_,hI,rfl,rfl⟩,x.keep λo e=>Ad _ e⟩
 ·have hB':w.params.followText "set-order"=false:=by simpa using hB
  refine I0 (λq=>?_) (λq=>?_)
  ·refine Aa (jjw es.size (List.range es.size) s (by simp) λps dr hp=>?_)
   have pl:ps.length=es.size:=by rw[hp.length_eq,We]
   unfold newTuple
   refine Aa (Ik ?_ (by
    show(ps.map fun(i:Nat)=>rawInt i).toArray.size<=sizeLine
    rw[Al,Ab,pl]
    exact Wi x.sz))
   have x1:SX prog w (s.heap.push {cls:=.type "tuple",data:=.seq (ps.map fun(i:Nat)=>rawInt i).toArray}) a (!w.params.followText "set-order") ks o es ep t:=x.keep λo e=>Ad _ e
   refine Of (mk (.ref s.heap.objs.size) {s with drawn:=dr,heap:=s.heap.push {cls:=.type "tuple",data:=.seq (ps.map fun(i:Nat)=>rawInt i).toArray}} (λs'=>∃T' r,s'.TypeIs (.ref (s.heap.push {cls:=.type "tuple",data:=.seq (ps.map fun(i:Nat)=>rawInt i).toArray}).objs.size) T'/\typeLookup (.type T') (Str.ofString "__next__")=pure (some r)/\Q (.ref (s.heap.push {cls:=.type "tuple",data:=.seq (ps.map fun(i:Nat)=>rawInt i).toArray}).objs.size) s') x1 ?_) (λfin s' ⟨v,e1,e2,r⟩=>⟨v,e1,by rw[e2];exact r⟩) λ_ _ q=>q
   have ht:(s.heap.push {cls:=.type "tuple",data:=.seq (ps.map fun(i:Nat)=>rawInt i).toArray}).get? s.heap.objs.size=some {cls:=.type "tuple",data:=.seq (ps.map fun(i:Nat)=>rawInt i).toArray}:=An _ rfl
   have hs1:(s.heap.push {cls:=.type "tuple",data:=.seq (ps.map fun(i:Nat)=>rawInt i).toArray}).objs.size=s.heap.objs.size+1:=Im ..
   have kk:∀b o,s.heap.get? b=some o->(s.heap.push {cls:=.type "tuple",data:=.seq (ps.map fun(i:Nat)=>rawInt i).toArray}).get? b=some o:=λb o e=>Ad _ e
   generalize s.heap.push {cls:=.type "tuple",data:=.seq (ps.map fun(i:Nat)=>rawInt i).toArray}=h1 at x1 ht hs1 kk
   have hI:(h1.push {cls:=.type "set_iterator",data:=.fields #[.ref s.heap.objs.size,.int (0:Nat) 0,.ref a,.int es.size 0,.int ep 0]}).get? h1.objs.size=some {cls:=.type "set_iterator",data:=.fields #[.ref s.heap.objs.size,.int (0:Nat) 0,.ref a,.int es.size 0,.int ep 0]}:=An _ rfl
   have hs2:(h1.push {cls:=.type "set_iterator",data:=.fields #[.ref s.heap.objs.size,.int (0:Nat) 0,.ref a,.int es.size 0,.int ep 0]}).objs.size=h1.objs.size+1:=Im ..
   refine⟨"set_iterator",_,⟨_,hI,rfl⟩,sit_next.lookup,?_⟩
   have hne:a≠h1.objs.size:=by rw[hs1];exact Ap (O9 hlt)
   have hnt:s.heap.objs.size≠h1.objs.size:=by rw[hs1];exact Ap (Ij _)
   refine hQ _ _ dr [h1.objs.size,a,s.heap.objs.size] _ _ (λb o e=>Ad _ (kk b o e)) (by rw[hs1];exact U0 _) (by rw[hs2];exact Ij _) ?_
    (λA' hh=>jne (L:=!w.params.followText "set-order") (ks:=ks) (o:=o) (t:=t) (ep:=ep) hne hnt hp rfl hh) (λb hb=>?_) ⟨⟨_,hI,rfl,rfl⟩,x1.keep λo e=>Ad _ e,Ad _ ht⟩
   ·refine List.Perm.trans ?_ x.key
    have e2:es.toList.map keyE=(List.range es.size).map λp=>keyE (es.toList.getD p (0,.none)):=by
     refine List.ext_getElem? λj=>?_
     rw[Ao,Ao]
     by_cases hj:j<es.size
     ·have hj':j<es.toList.length:=by simpa using hj
      rw[List.getElem?_range hj,Ai hj']
      show some (keyE es.toList[j])=some (keyE (es.toList.getD j (0,.none)))
      rw[Ac,Ai hj']
      rfl
     ·rw[Oh (by simpa using hj),Oh (by simpa using hj)]
      rfl
    rw[e2]
    exact hp.map _
   ·rcases Aw.mp hb with rfl|hb
    ·exact .inr ⟨by rw[hs1];exact U0 _,by rw[hs2];exact Ij _⟩
    ·rcases Aw.mp hb with rfl|hb
     ·exact .inl rfl
     ·rw[Ag.mp hb]
      exact .inr ⟨Ah _,by rw[hs2,hs1];exact O9 (Ij _)⟩
  ·have q':¬(!w.params.followText "set-order" && (!t.plain && decide (es.size>1)))=true:=q
   have h1:es.size<=1:=by
    rw[hB']at q'
    rcases x.pl with h|h
    ·omega
    ·rw[h]at q'
     simp at q'
     exact q'
   refine Aa (Af ?_)
   have xt:SX prog w s.heap a true ks o es ep t:=by have:=x;rw[hB']at this;exact this
   refine Of (mk (rawInt 0) s (λs'=>∃T' r,s'.TypeIs (.ref s.heap.objs.size) T'/\typeLookup (.type T') (Str.ofString "__next__")=pure (some r)/\Q (.ref s.heap.objs.size) s') x ?_) (λfin s' ⟨v,e1,e2,r⟩=>⟨v,e1,by rw[e2];exact r⟩) λ_ _ q=>q
   have hI:(s.heap.push {cls:=.type "set_iterator",data:=.fields #[rawInt 0,.int (0:Nat) 0,.ref a,.int es.size 0,.int ep 0]}).get? s.heap.objs.size=some {cls:=.type "set_iterator",data:=.fields #[rawInt 0,.int (0:Nat) 0,.ref a,.int es.size 0,.int ep 0]}:=An _ rfl
   refine⟨"set_iterator",_,⟨_,hI,rfl⟩,sit_next.lookup,?_⟩
   exact hQ _ _ s.drawn [s.heap.objs.size,a] _ _ (λb o e=>Ad _ e) (Ah _) (by rw[Im];exact Ij _) x.key
    (λA' hh=>jom (ks:=ks) (o:=o) (ep:=ep) (Ap hlt) hB' h1 x.fits hh) (λb hb=>by
     rcases Aw.mp hb with rfl|hb
     ·exact .inr ⟨Ah _,by rw[Im];exact Ij _⟩
     ·exact .inl (Ag.mp hb)) ⟨⟨_,hI,rfl,rfl⟩,xt.keep λo e=>Ad _ e⟩
end
section
variable{prog:Program}{w:World}{A:Around}{E:Value->Shared->Prop}{s:Shared}
theorem joz{r:Addr}{Q:Bool->Shared->Prop}(hT:s.TypeIs (.ref r) "set")(h:Q false s):wpAny (model prog w) A (Builtin.List.listLengthHint (.ref r)) Q E s:=by
 unfold Builtin.List.listLengthHint
 refine Aa (Wz hT PySem.F.slot_set_len.lookup ?_)
 generalize hid:("set.__len__":String)=id0
 wp_delta
 rw[show splitId id0=some ("set","__len__")from by subst hid;decide +kernel]
 subst hid
 refine Aa (wpAny_isInstance (T:="set") (b:=true) hT (by rw[Us];kernel_rfl) (I0 (λq=>absurd q (by decide)) (λ_=>?_)))
 refine I0 (λ_=>Aa (wpAny_typeOf hT ?_)) (λq=>absurd (by decide +kernel) q)
 exact Af h
theorem jm6{a S:Addr}{ks:List Str}{o:Obj}{es:Array (Int×Value)}{ep:Nat}{t:SetTable}{R:Result->Shared->Prop}(x:SX prog w s.heap a (!w.params.followText "set-order") ks o es ep t)(hh:A.handled=none)(hSa:S≠a)(hS:s.heap.get? S=some {cls:=.type "list",data:=.seq #[]})
  (hR:∀(h':Heap)(tk:Nat)(dr:Drawn)(acc:Array Value)(c:Nat)(ord:List Str),(∀b o,b≠S->s.heap.get? b=some o->h'.get? b=some o)->h'.get? S=some {cls:=.type "list",dict:=none,data:=.seq acc c,slots:=#[]}->ord.Perm ks ->
   ItemsOf (λi v=>∃tk,v=.str (ord.getD i ⟨#[]⟩) tk) acc ord.length->R (.ok (.ret (.ref S))) {s with heap:=h',toks:=tk,drawn:=dr}) :
  wpAny (model prog w) A.in1 (Builtin.List.listExtendWith (.ref S) (.ref a) (.ref S))
   (λfin s'=>match fin with|.done f=>R (.ok f) s'|.again c'=>c'.quiet=true/\codeAny (model prog w) A c' R s') (λe s'=>R (.error e) s') s:=by
 have hT:s.TypeIs (.ref a) "set":=⟨o,x.at_,x.ex.1⟩
 have hlt:a<s.heap.objs.size:=Am x.at_
 have hSl:S<s.heap.objs.size:=Am hS
 have hks:ks.length<=sizeLine:=by rw[<-x.len];exact Wi x.sz
 unfold Builtin.List.listExtendWith
 refine Aa (wpAny_typeOf (T:="set") hT ?_)
 have e1:Builtin.List.listSameRef (.ref S) (.ref a)=false:=by simp[Builtin.List.listSameRef,hSa]
 simp only[e1,show(Value.type "set" == Value.type "list")=false by decide,show(Value.type "set" == Value.type "tuple")=false by decide,Bool.or_false,Ip,Ov]
 refine Aa (jo0 x hlt λI h1 dr fp ord St k1 hI hI2 hp W hfp st=>?_)
 have x1:=x.keep λo e=>k1 a o e
 have hT1:({s with heap:=h1,drawn:=dr}:Shared).TypeIs (.ref a) "set":=⟨o,x1.at_,x.ex.1⟩
 have hS1:=k1 S _ hS
 have hSf:S∉fp:=λq=>by
  rcases hfp S q with q|q
  ·exact hSa q
  ·exact absurd hSl (Nat.not_lt.mpr q.1)
 have key:∀(h:Heap)(c1 tk:Nat),St 0 h->(∀b o,b≠S->h1.get? b=some o->h.get? b=some o)->h.get? S=some {cls:=.type "list",data:=.seq #[] c1} ->
   codeAny (model prog w) A (.builtin "list.extend.loop" ⟨[.ref S,.ref I,.ref S],[]⟩) R {s with heap:=h,toks:=tk,drawn:=dr}:=by
  intro h c1 tk st' kk hS'
  refine codeAny_extend_loopS (W A.in1 hh).toS (by rw[hp.length_eq];exact hks) S hSf (.ref S) ord.length 0 _ #[] c1 rfl (A8 _) st' hS' (ItemsOf.nil _) λs' acc c' hm hS2 hacc=>?_
  rw[Moved.eq_with hm]
  refine hR s'.heap s'.toks dr acc c' ord (λb o hb e=>hm.heap b o (λq=>?_) (kk b o hb (k1 b o e))) hS2 hp hacc
  rcases Aw.mp q with q|q
  ·exact hb q
  ·exact absurd (Am e) (Nat.not_lt.mpr (by rw[Ag.mp q];exact hI))
 refine Aa (Op (joz hT1 ?_))
 refine I0 (λ_=>?_) (λ_=>Af ⟨Uy PySem.F.plain_extend_loop _,key _ 0 _ st (λb o _ e=>e) hS1⟩)
 refine Aa (W3 (Aa (show wpAny _ _ (updateSeq S (·.push .none) >>= λ_=>updateSeq S (·.pop)) _ _ _ from ?_)))
 refine Aa (wpAny_updateSeq hS1 rfl ?_)
 have hS2:=Ie (Obj.mapSeq (·.push Value.none)) hS1 rfl
 refine wpAny_updateSeq (hz:=by seq_fits) hS2 rfl ?_
 have hS3:=Ie (Obj.mapSeq (·.pop)) hS2 rfl
 have oth:∀b o,b≠S->h1.get? b=some o->((h1.update S (Obj.mapSeq (·.push Value.none))).update S (Obj.mapSeq (·.pop))).get? b=some o:=λb o hb e=>(Ir _ _ (O6 hb)).trans ((Ir _ _ (O6 hb)).trans e)
 exact Af ⟨Uy PySem.F.plain_extend_loop _,key _ _ _ ((W A.in1 hh).frame 0 _ _ st λb hb o e=>oth b o (λq=>hSf (q▸hb)) e) oth hS3⟩
theorem jk6{a:Addr}{ks:List Str}{o:Obj}{es:Array (Int×Value)}{ep:Nat}{t:SetTable}{R:List Value->Shared->Prop}(x:SX prog w s.heap a (!w.params.followText "set-order") ks o es ep t)(hh:A.handled=none)
  (h:∀(h':Heap)(tk:Nat)(dr:Drawn)(vs:List Value)(ord:List Str),(∀b o,s.heap.get? b=some o->h'.get? b=some o)->s.heap.objs.size<=h'.objs.size->ord.Perm ks->StrsAre vs ord->R vs {s with heap:=h',toks:=tk,drawn:=dr}) :
  wpAny (model prog w) A (collect (.ref a)) R E s:=by
 have hlt:a<s.heap.objs.size:=Am x.at_
 have areS:∀(ord:List Str)(vs:List Value),vs.length=ord.length->(∀(j:Nat)(v:Value),vs[j]?=some v->∃tk,v=.str (ord.getD j ⟨#[]⟩) tk)->StrsAre vs ord:=by
  intro ord
  induction ord with
  |nil=>intro vs hl _;rw[Ui.mp hl];exact .nil
  |cons k ord ih =>
   intro vs hl hv
   cases vs with
   |nil=>cases hl
   |cons v vs =>
    obtain⟨tk,rfl⟩:=hv 0 v rfl
    exact .cons _ _ (ih vs (by simpa using hl) λj u hu=>hv (j+1) u hu)
 unfold collect
 refine Aa (wpAny_runValue (Ul entry_proto_collect' ?_))
 rw[Ub PySem.F.plain_proto_collect _]
 refine show wpAny _ A.in1 (newList [] >>= λl=>again (.builtin "list.__iadd__" ⟨[l,.ref a],[]⟩)) _ _ s from ?_
 refine Aa (Ik (Af ⟨Uy PySem.F.plain_list_iadd _,Ul entry_list_iadd' ?_⟩))
 rw[Ub PySem.F.plain_list_iadd _]
 have hS:(s.heap.push {cls:=.type "list",data:=.seq ([]:List Value).toArray}).get? s.heap.objs.size=some {cls:=.type "list",data:=.seq #[]}:=An _ rfl
 refine show wpAny _ A.in1 (Builtin.List.listExtendWith (.ref s.heap.objs.size) (.ref a) (.ref s.heap.objs.size)) _ _ _ from ?_
 have key:=jm6 (A:=A) (s:={s with heap:=s.heap.push {cls:=.type "list",data:=.seq ([]:List Value).toArray}}) (S:=s.heap.objs.size)
  (R:=fun(q:Result) (s':Shared)=>∃(h':Heap)(tk:Nat)(dr:Drawn)(acc:Array Value)(c:Nat)(ord:List Str),q=.ok (.ret (.ref s.heap.objs.size))/\s'={s with heap:=h',toks:=tk,drawn:=dr} /\
   (∀b o,s.heap.get? b=some o->h'.get? b=some o)/\h'.get? s.heap.objs.size=some {cls:=.type "list",dict:=none,data:=.seq acc c,slots:=#[]}/\ord.Perm ks/\StrsAre acc.toList ord)
  (x.keep λo e=>Ad _ e) hh (Nat.ne_of_gt hlt) hS
  (λh' tk dr acc c ord hk hS' hp hacc=>⟨h',tk,dr,acc,c,ord,rfl,rfl,λb o e=>hk b o (Ap (Am e)) (Ad _ e),hS',hp,areS ord acc.toList (by rw[Array.length_toList];exact hacc.1) λj v hv=>hacc.2 j v (by rw[<-Ot];exact hv)⟩)
 refine Of key (λfin s' y=>?_) λe s' y=>?_
 ·cases fin with
  |done f =>
   obtain⟨h',tk,dr,acc,c,ord,e,rfl,hk,hS',hp,hst⟩:=y
   cases e
   exact Aa (wpAny_load hS' (Af (h h' tk dr _ ord hk (Uo (Am hS')) hp hst)))
  |again c1 =>
   refine⟨y.1,Ud y.2 λq s2 y2=>?_⟩
   obtain⟨h',tk,dr,acc,c,ord,rfl,rfl,hk,hS',hp,hst⟩:=y2
   exact Aa (wpAny_load hS' (Af (h h' tk dr _ ord hk (Uo (Am hS')) hp hst)))
 ·obtain⟨_,_,_,_,_,_,q,_⟩:=y
  cases q
theorem jm8{a:Addr}{ks:List Str}{o:Obj}{es:Array (Int×Value)}{ep:Nat}{t:SetTable}{Q:Value->Shared->Prop}(x:SX prog w s.heap a (!w.params.followText "set-order") ks o es ep t)(hh:A.handled=none)(h64:ks.length<64)
  (h:∀(D:Addr)(h':Heap)(tk:Nat)(dr:Drawn)(vs:List Value)(ss:List Str)(c:Nat),(∀b o,s.heap.get? b=some o->h'.get? b=some o)->s.heap.objs.size<=D->h'.get? D=some (seqObj "list" vs.toArray c)->StrsAre vs ss->ss.Perm ks->sortedS ss=true ->
   Q (.ref D) {s with heap:=h',toks:=tk,drawn:=dr}) :
  wpAny (model prog w) A (call (.builtin "sorted") [.ref a]) Q E s:=by
 refine Calls.call_function_entry kind_sorted plain_sorted entry_sorted (args_sorted1 _) ?_
 unfold Builtin.«sorted»
 refine Aa (m:=checkCount "sorted" 1 1 _) (Af ?_)
 refine Aa (jk6 (A:=A.in1) x hh λh1 tk dr vs ord k1 z1 hp hst=>?_)
 have hl:vs.length=ord.length:=hst.length
 have ho:ord.length<64:=by rw[hp.length_eq];exact h64
 refine Aa (wpAny_newList ?_ (by rw[hl];have:=Uz;omega))
 have hD:(h1.push (seqObj "list" vs.toArray 0)).get? h1.objs.size=some (seqObj "list" vs.toArray 0):=An _ rfl
 refine Aa (Op (O1 slot_list_sort ⟨_,hD,rfl⟩ entry_list_sort (list_sort_treeK strKind_oneLt hD hst.keysOf (λv1 v2 rest e=>keyKind_strs (by rw[<-e];exact hst)) (by omega) λst' a1 a2=>⟨_,rfl,?_⟩) (args_list_sort _)))
 obtain⟨ss,q1,q2,q3⟩:=sorted_out_str hst a1 a2
 obtain⟨c,hc⟩:=sortedHeap_at (out:=(arrOf st').map (·.2)) hD
 have hlt1:∀b o,s.heap.get? b=some o->b<h1.objs.size:=λb o e=>Am (k1 b o e)
 refine Af ⟨_,rfl,h h1.objs.size _ tk dr _ ss c (λb o e=>?_) z1 (by rw[Array.toArray_toList];exact hc) q1 (q2.trans hp) q3⟩
 rw[sortedHeap_old (Ap (hlt1 b o e)) (by rw[Im];exact O9 (hlt1 b o e))]
 exact Ad _ (k1 b o e)
end
theorem ji4:isSubtype (.type "tuple") (.type "set")=pure false:=by rw[Us];kernel_rfl
theorem jkx:isSubtype (.type "tuple") (.type "frozenset")=pure false:=by rw[Us];kernel_rfl
section
variable{X:Cx}{pins:List (Addr×Obj)}{σ:L2.St}{H:Hp}{s:Shared}
theorem Inv.dr(I:Inv X pins σ H s)(dr:Drawn):Inv X pins σ H {s with drawn:=dr}:=⟨I.ok,I.os,I.bare,I.base,I.loc,I.cell,I.free,I.freeC,I.pin,I.hok,I.len⟩
theorem jkw:∀{its:List Value}{ss:List Str},StrsAre its ss->∀(i:Nat)(v:Value),its[i]?=some v->∃t,v=.str (ss.getD i ⟨#[]⟩) t
 |_,_,.nil,i,v,h=>by simp at h
 |_,_,.cons x t r,0,v,h=>by simp at h;exact⟨t,h.symm⟩
 |_,_,.cons x t r,i+1,v,h=>jkw r i v (by simpa using h)
def jdn:List V->Hp->VK->Prop:=λvs H Q=>match vs with
 |[.ref l]=>∃ss:List Str,jcy (H l)=some (ss.map V.str)/\ss.length<64/\∀(p:Addr)(ss':List Str),H p=none->sortedS ss'=true->ss'.Nodup->(∀x,x∈ss'↔x∈ss)->Q (.ref p) (upd H p (.lst (ss'.map V.str)))
 |_=>False
theorem jei(l:Addr)(H:Hp)(Q:VK):jdn [.ref l] H Q=(∃ss:List Str,jcy (H l)=some (ss.map V.str)/\ss.length<64/\∀(p:Addr)(ss':List Str),H p=none->sortedS ss'=true->ss'.Nodup->(∀x,x∈ss'↔x∈ss)->Q (.ref p) (upd H p (.lst (ss'.map V.str)))):=rfl
def jdx(ta:TE):TE:=tCB jdn (jeb ta tNil)
theorem jrl(ss:List Str)(x:Str):x∈fmS (λi=>ss.getD i ⟨#[]⟩) ss.length↔x∈ss:=by
 rw[jlr]
 constructor
 ·rintro⟨j,hj,e⟩
  rw[Ac,Ai hj]at e
  exact e▸Iu hj
 ·intro h
  obtain⟨j,hj,e⟩:=List.getElem_of_mem h
  exact⟨j,hj,by rw[Ac,Ai hj];exact e⟩
theorem jr4{l:Addr}{ss:List Str}{Q:Value->Shared->Prop}(I:Inv X pins σ H s)(hh:X.A.handled=none)(e:jcy (H l)=some (ss.map V.str))(hl:ss.length<64)
  (h:∀(h':Heap)(tk:Nat),SXO X.prog X.w h' s.heap.objs.size (!X.w.params.followText "set-order") (fmS (λi=>ss.getD i ⟨#[]⟩) ss.length)->(∀b o,b<s.heap.objs.size->s.heap.get? b=some o->h'.get? b=some o)->Q (.ref s.heap.objs.size) {s with heap:=h',toks:=tk}) :
  wpAny (model X.prog X.w) X.A (call (.type "set") [.ref l]) Q X.xe s:=by
 cases eo:H l with
 |none=>rw[eo]at e;cases e
 |some ob =>
  rw[eo]at e
  cases ob with
  |lst xs =>
   have ex:xs=ss.map V.str:=by simpa[jcy]using e
   subst ex
   obtain⟨its,rr,pl,hz⟩:=I.list (SqL.of eo)
   have hli:=rr.length
   rw[Ab]at hli
   have hst:=jdw rr
   obtain⟨ol,g1,g2,n,g3⟩:=pl.isList
   have hsz:its.toArray.size=ss.length:=by rw[Al];exact hli.symm
   refine jbo (T:="list") (IT:="list_iterator") (items:=its.toArray) (ss:=ss) (St:=λJ i h=>h.IsListIter J l i/\h.IsList l its.toArray) hh g1 g2 PySem.F.sub_list_set PySem.F.sub_list_frozenset (by decide) (λA' E' s' Q' e' q=>wpAny_pyIter_list ⟨ol,e',g2,n,g3⟩ q)
    (λA' J hA hne=>Walks.list hA J l hne its.toArray) (λJ h e1 e2=>⟨⟨_,e2,rfl,rfl⟩,ol,e1,g2,n,g3⟩) (λi v hv=>jkw hst i v (by simpa using hv)) (by rw[hsz];unfold scanBound;omega) ?_
   rw[hsz]
   exact h
  |tup xs =>
   have ex:xs=ss.map V.str:=by simpa[jcy]using e
   subst ex
   obtain⟨its,rr,pl,hz⟩:=I.tuple (SqT.of eo)
   have hli:=rr.length
   rw[Ab]at hli
   have hst:=jdw rr
   obtain⟨ol,g1,g2,n,g3⟩:=pl
   have hsz:its.toArray.size=ss.length:=by rw[Al];exact hli.symm
   refine jbo (T:="tuple") (IT:="tuple_iterator") (items:=its.toArray) (ss:=ss) (St:=λJ i h=>h.IsTupleIter J l i/\h.IsTuple l its.toArray) hh g1 g2 ji4 jkx (by decide) (λA' E' s' Q' e' q=>Ya ⟨ol,e',g2,n,g3⟩ q)
    (λA' J hA hne=>Walks.tuple hA J l hne its.toArray) (λJ h e1 e2=>⟨⟨_,e2,rfl,rfl⟩,ol,e1,g2,n,g3⟩) (λi v hv=>jkw hst i v (by simpa using hv)) (by rw[hsz];unfold scanBound;omega) ?_
   rw[hsz]
   exact h
  |_=>simp[jcy]at e
theorem pe_sortedSet{a:Expr}{ta:TE}{p1 p2 q1 q2:Pos}(hc:X.calm=true)(hg:Gl X "sorted")(hm:X.mg "sorted"=none)(hg2:Gl X "set")(hm2:X.mg "set"=none)(ha:PE X a ta)
  (hs:starEach [(.Call (.Name "set" p2) [a] [] q2)] X.env=[(false,eval (.Call (.Name "set" p2) [a] [] q2) X.env)]:=by rfl) (hs2:starEach [a] X.env=[(false,eval a X.env)]:=by rfl) :
  PE X (.Call (.Name "sorted" p1) [.Call (.Name "set" p2) [a] [] q2] [] q1) (jdx ta):=by
 intro pins s σ H Q I h
 refine Io (jdc I hg hm bt_sorted (PyProof.Rows.callWith_builtin1 ?_ hs rfl))
 rw[hs]
 refine show wpAny _ _ (spliced ((false,eval (.Call (.Name "set" p2) [a] [] q2) X.env)::[])) _ _ s from Uk ?_
 have hA:PA X [a] (jeb ta tNil):=jbj ha jby hs2
 refine Io (jdc I hg2 hm2 bt_set (Ic (thn (hA q2 pins s σ H (λvs H1=>jdn vs H1 Q) I h) λus s1 ⟨vs,H1,I1,r1,q1⟩=>?_) hs2 rfl))
 replace q1:jdn vs H1 Q:=q1
 unfold jdn at q1
 split at q1
 ·rename_i l
  obtain⟨ss,e,hl,q⟩:=q1
  obtain⟨u,rfl,ru⟩:=jc9 r1
  cases ru
  have hh:=I1.ok.hd hc
  refine jr4 I1 hh e hl λh' tk hS hk=>Wd ?_
  obtain⟨o,es,ep,t,x⟩:=hS
  have fl:=jjz (λi=>ss.getD i ⟨#[]⟩) ss.length
  have I2:Inv X pins σ H1 {s1 with heap:=h',toks:=tk}:=I1.kept λb o e=>hk b o (Am e) e
  refine jm8 (s:={s1 with heap:=h',toks:=tk}) x hh (by omega) λD h2 tk2 dr vs2 ss2 c k2 hD e2 st2 p2 srt=>?_
  have hsl:ss2.length<64:=by rw[p2.length_eq];omega
  have hvl:vs2.length=ss2.length:=st2.length
  have hln:sizeLine=16777216:=Uz
  have I3:Inv X pins σ (upd H1 D (.lst (ss2.map V.str))) { ({s1 with heap:=h',toks:=tk}:Shared)with heap:=h2,toks:=tk2} :=
   I2.laid (λb o e=>k2 b o e) hD ⟨by rw[Ab];omega,vs2,c,jfk st2,e2⟩
  refine⟨.ref D,_,I3.dr dr,rfl,q D ss2 (I2.hok.fresh hD) srt (p2.nodup_iff.mpr x.nd) λy=>?_⟩
  rw[p2.mem_iff]
  exact jrl ss y
 ·exact q1.elim
theorem qpe_sortedSet{a:Expr}{ta:TE}{p1 p2 q1 q2:Pos}(hc:X.calm=true)(hg:Gl X "sorted")(hm:X.mg "sorted"=none)(hg2:Gl X "set")(hm2:X.mg "set"=none)(ha:QE X a ta)
  (hs:starEach [(.Call (.Name "set" p2) [a] [] q2)] X.env=[(false,eval (.Call (.Name "set" p2) [a] [] q2) X.env)]:=by rfl) (hs2:starEach [a] X.env=[(false,eval a X.env)]:=by rfl) :
  QE X (.Call (.Name "sorted" p1) [.Call (.Name "set" p2) [a] [] q2] [] q1) (jdx ta):=⟨pe_sortedSet hc hg hm hg2 hm2 ha.h hs hs2⟩
end
section
variable{N:Nat}{r:Array Nat}(hN:0<N)(hr:∀x∈r.toList,x<N)
include hN hr
omit hN hr in
end
abbrev FZ(o:Obj):HO:=.frz o (.ext λ_=>True)
section
variable{P:Program}{w:World}{H H':Hp}{h h':Heap}{a:Addr}{o:Obj}{cs:List Addr}
theorem FZ.get(x:HOk P w H h)(e:H a=some (FZ o)):h.get? a=some o:=(x a _ e).1
theorem FZ.mk(e:h.get? a=some o):ObjOk P w H h a (FZ o):=⟨e,trivial,⟨o,e⟩,λ_ _ _ _=>trivial⟩
def hideC(H:Hp)(cs:List Addr):Hp:=λb=>if b∈cs then none else H b
def backC(H H':Hp)(cs:List Addr):Hp:=λb=>if b∈cs then H b else H' b
theorem jdp(m:a∈cs):hideC H cs a=none:=Ak m
theorem jcm(m:a∉cs):hideC H cs a=H a:=Ae m
theorem jmr{u:HO}(e:hideC H cs a=some u):a∉cs/\H a=some u:=by
 by_cases m:a∈cs
 ·rw[jdp m]at e;cases e
 ·exact⟨m,by rwa[jcm m]at e⟩
theorem jc4(e:H a=none):hideC H cs a=none:=by unfold hideC;split <;> first|rfl|exact e
theorem jd1(m:a∈cs):backC H H' cs a=H a:=Ak m
theorem jct(m:a∉cs):backC H H' cs a=H' a:=Ae m
theorem HOk.hideC(x:HOk P w H h)(fz:∀c∈cs,∃o,H c=some (FZ o)):HOk P w (hideC H cs) h:=λb u q=>by
 obtain⟨_,q'⟩:=jmr q
 refine(x b u q').stay (λ_ _ _ z=>z) (λc z=>?_) λc xs z=>?_
 ·rw[jcm λm=>by obtain⟨o,e⟩:=fz c m;rw[z]at e;cases e];exact z
 ·rw[jcm λm=>by obtain⟨o,e⟩:=fz c m;rw[z]at e;cases e];exact z
theorem Un.backC{fs:List Addr}(u:Un fs [] (hideC H cs) H' h h')(fz:∀c∈cs,∃o,H c=some (FZ o)):Un fs [] H (backC H H' cs) h h' where
 keep:=λb o e n hb hx=>u.keep b o e (jc4 n) hb hx
 slot:=λb o e n hb hx=>u.slot b o e (jc4 n) hb hx
 free:=λb o e n hx=>by
  rw[jct λm=>by obtain⟨o,z⟩:=fz b m;rw[n]at z;cases z]
  exact u.free b o e (jc4 n) hx
 there:=u.there
 tups:=λb xs e=>by
  have m:b∉cs:=λm=>by obtain⟨o,z⟩:=fz b m;rw[e]at z;cases z
  rw[jct m];exact u.tups b xs (by rw[jcm m];exact e)
 frzs:=λb o u' e=>by
  by_cases m:b∈cs
  ·rw[jd1 m];exact e
  ·rw[jct m];exact u.frzs b o u' (by rw[jcm m];exact e)
 tbls:=λb ps e=>by
  have m:b∉cs:=λm=>by obtain⟨o,z⟩:=fz b m;rw[e]at z;cases z
  obtain⟨more,q⟩:=u.tbls b ps (by rw[jcm m];exact e)
  exact⟨more,by rw[jct m];exact q⟩
theorem HOk.backC{fs:List Addr}(x:HOk P w H h)(x':HOk P w H' h')(u:Un fs [] (L2.hideC H cs) H' h h')(fz:∀c∈cs,∃o,H c=some (FZ o))(nf:∀c∈cs,c∉fs):HOk P w (backC H H' cs) h':=λb v q=>by
 by_cases m:b∈cs
 ·rw[jd1 m]at q
  obtain⟨o,e⟩:=fz b m
  rw[e]at q
  cases Av q
  exact FZ.mk (u.keep b o (FZ.get x e) (jdp m) (nf b m) (by simp))
 ·rw[jct m]at q
  have no:∀c∈cs,H' c=none:=λc hc=>by
   obtain⟨o,e⟩:=fz c hc
   exact u.free c o (FZ.get x e) (jdp hc) (by simp)
  refine(x' b v q).stay (λ_ _ _ z=>z) (λc z=>?_) λc xs z=>?_
  ·rw[jct λhc=>by rw[no c hc]at z;cases z];exact z
  ·rw[jct λhc=>by rw[no c hc]at z;cases z];exact z
theorem Kp.backC{S:List Addr}(k:Kp S (L2.hideC H cs) H'):Kp S H (backC H H' cs):=by
 refine⟨λb o e n=>?_,λb xs e=>?_,λb o e=>?_⟩
 ·by_cases m:b∈cs
  ·rw[jd1 m];exact e
  ·rw[jct m];exact k.old b o (by rw[jcm m];exact e) n
 ·by_cases m:b∈cs
  ·rw[jd1 m];exact e
  ·rw[jct m];exact k.tup b xs (by rw[jcm m];exact e)
 ·by_cases m:b∈cs
  ·exact⟨o,by rw[jd1 m];exact e⟩
  ·rw[jct m];exact k.dom b o (by rw[jcm m];exact e)
end
structure LamScope(ps fs:List Str)(sc:Scope):Prop where
 kind:sc.kind=.function
 co:sc.isCoroutine=false
 gen:sc.isGenerator=false
 nd:(ps++fs).Nodup
 par:∀x∈ps,sc.names.lookup x=some .local
 nocell:∀y∈sc.names,y.2≠.cell
 fr:∀x∈fs,sc.names.lookup x=some .free
 only:∀x,sc.names.lookup x=some .free->x∈fs
def jmo(P:Program)(w:World)(K:PySem.W.Frag)(mg:Str->Option Value)(base:Heap)(N:List Str)(qual:Str)(scope:Scope)(f:Addr)(cd:Value)(cl:List (Str×Addr))(A:Around)(outer:List Env)(s:Shared)(H:Hp):Cx where
 prog:=P
 w:=w
 K:=K
 mg:=mg
 base:=base
 A:=A.deeper (PySem.W.envX qual scope s.heap.objs.size f cd cl)
 N:=N
 s₀:=s
 H₀:=H
 env:=PySem.W.envX qual scope s.heap.objs.size f cd cl
 outer:=outer
 stack:=PySem.W.envX qual scope s.heap.objs.size f cd cl::outer
 ex:=[]
 calm:=true
 fn:=λ_=>false
 pn:=[]
 xe:=λ_ _=>False
structure Caps(H:Hp)(cl:List (Str×Addr))(fs:List Str)(ws:List V):Prop where
 len:ws.length=fs.length
 at_:∀(i:Nat)(x:Str)(v:V),fs[i]?=some x->ws[i]?=some v->∃c o u,cl.lookup x=some c/\H c=some (FZ o)/\o.data=.cell (some u)/\RelV v u
 has:∀x∈fs,∃c,cl.lookup x=some c
 fz:∀p∈cl,∃o u,H p.2=some (FZ o)/\o.data=.cell u
 inj:∀x y c,cl.lookup x=some c->cl.lookup y=some c->x=y
def CodeZ(H:Hp)(c:Addr)(qual:Str):Prop:=∃oc vs t,H c=some (FZ oc)/\oc.data=.fields vs/\vs[1]?=some (.str qual t)
theorem jmf{α β:Type}:∀{l:List α}{m:List β}{i:Nat}{x:α}{y:β},l[i]?=some x->m[i]?=some y->(l.zip m)[i]?=some (x,y)
 |[],_,_,_,_,h,_=>by simp at h
 |_::_,[],_,_,_,_,h=>by simp at h
 |_::_,_::_,0,_,_,h,h'=>by simp at h h';subst h;subst h';rfl
 |_::l,_::m,i+1,_,_,h,h'=>by
  simp at h h'
  simpa using jmf (l:=l) (m:=m) h h'
theorem jmx{ps:List Str}{us:List Value}(nd:ps.Nodup){i:Nat}{x:Str}{u:Value}(h:ps[i]?=some x)(h':us[i]?=some u):(ps.zip us).reverse.lookup x=some u:=by
 have key:∀(l:List (Str×Value)),(l.map Prod.fst).Nodup->(x,u)∈l->l.lookup x=some u:=by
  intro l
  induction l with
  |nil=>intro _ m;cases m
  |cons q l ih =>
   intro nd m
   obtain⟨y,v⟩:=q
   rw[Ay,O8]at nd
   rcases Aw.mp m with e|m
   ·cases e;simp[List.lookup]
   ·have:x≠y:=λe=>nd.1 (by rw[<-e];exact A4.mpr ⟨(x,u),m,rfl⟩)
    rw[List.lookup_cons]
    have b:(x == y)=false:=by simpa using this
    rw[b]
    exact ih nd.2 m
 refine key _ ?_ (List.mem_reverse.mpr (A5 (jmf h h')))
 rw[List.map_reverse]
 refine(List.reverse_perm _).nodup_iff.mpr ?_
 have:∀(l:List Str)(m:List Value),((l.zip m).map Prod.fst).Sublist l:=by
  intro l
  induction l with
  |nil=>intro m;simp
  |cons y l ih =>
   intro m
   cases m with
   |nil=>simp
   |cons v m=>exact(ih m).cons₂ y
 exact nd.sublist (this ps us)
section
variable{P:Program}{w:World}{K:PySem.W.Frag}{mg:Str->Option Value}{base:Heap}{k:Nat}{f c':Addr}{name qual:Str}{params:Arguments}{body:Expr}{scope:Scope}{pm ct:Value}{ps fs:List Str}{cl:List (Str×Addr)}{sp:Sp}
theorem jqg{A:Around}{outer:List Env}{s:Shared}{h1:Heap}{tk:Tok}{H:Hp}{us:List Value}{vs ws:List V}(S:LamScope ps fs scope)(hd:A.handled=none)(e0:Env0 P w K mg base A outer s H)(hl:vs.length=ps.length)(r:Vals vs us)(cap:Caps H cl fs ws)
  (hns:h1.Ns s.heap.objs.size λy=>(ps.zip us).reverse.lookup y) (hk:∀b o,s.heap.get? b=some o->h1.get? b=some o) :
  Inv (jmo P w K mg base (ps++fs) qual scope f (.ref c') cl A outer s (hideC H (cl.map Prod.snd))) [] (vs.map some++ws.map some) (hideC H (cl.map Prod.snd)) {s with heap:=h1,toks:=tk}:=by
 have fz:∀c∈cl.map Prod.snd,∃o,H c=some (FZ o):=λc hc=>by
  obtain⟨p,hp,rfl⟩:=A4.mp hc
  obtain⟨o,u,e,_⟩:=cap.fz p hp
  exact⟨o,e⟩
 have hok:=HOk.hideC e0.hok fz
 have inC:∀x c,cl.lookup x=some c->c∈cl.map Prod.snd:=λx c e=>A4.mpr ⟨(x,c),Iv e,rfl⟩
 have noA:∀b:Addr,b∉(jmo P w K mg base (ps++fs) qual scope f (.ref c') cl A outer s (hideC H (cl.map Prod.snd))).ex:=λb z=>absurd (show b∈([]:List Addr)from z) (by simp)
 refine⟨⟨e0.mod,S.kind,rfl,rfl,Ah _,cap.inj,λy hy=>?_,λy c z=>(by cases z),λ_=>hd,Around.frames_deeper e0.frames,.inr ⟨rfl,rfl⟩,λb z=>absurd z (noA b),λb o e=>⟨(e0.bs b o e).1,jc4 (e0.bs b o e).2⟩,e0.bsz,λb _ _=>noA b,λb z=>absurd z (noA b),e0.funs,λb z=>jc4 (e0.frf b z)⟩,
  rfl,e0.bare,Un.kept hk,⟨_,hns,λi y v q1 q2 q3=>?_⟩,λy c h=>?_,jc4 (e0.hok.fresh (Ah _)),λy c h=>jdp (inC y c h),λp hp=>absurd (show p∈([]:List (Addr×Obj))from hp) (by simp),hok.kept hk,?_⟩
 ·have hy:scope.names.lookup y=some .cell\/scope.names.lookup y=some .free:=hy
  rcases hy with hy|hy
  ·exact absurd rfl (S.nocell _ (Iv hy))
  ·exact cap.has y (S.only y hy)
 ·have q1:(ps++fs)[i]?=some y:=q1
  by_cases hi:i<ps.length
  ·rw[A1 hi]at q1
   rw[A1 (by rw[Ab];omega),Ao]at q2
   have ha:vs[i]?=some v:=by
    cases e:vs[i]? with
    |none=>rw[e]at q2;cases q2
    |some a=>rw[e]at q2;cases q2;rfl
   obtain⟨u,hu,rv⟩:=r.get ha
   exact⟨u,rv,.inl ⟨S.par y (A5 q1),jmx (S.nd.sublist (List.sublist_append_left _ _)) q1 hu⟩⟩
  ·rw[A7 (by omega)]at q1
   rw[A7 (by rw[Ab];omega),Ab,hl,Ao]at q2
   have ha:ws[i-ps.length]?=some v:=by
    cases e:ws[i-ps.length]? with
    |none=>rw[e]at q2;cases q2
    |some a=>rw[e]at q2;cases q2;rfl
   obtain⟨c,o,u,e1,e2,e3,rv⟩:=cap.at_ _ y v q1 ha
   exact⟨u,rv,.inr ⟨.inr (S.fr y (A5 q1)),c,e1,o,hk _ _ (FZ.get e0.hok e2),e3⟩⟩
 ·obtain⟨o,u,e,d⟩:=cap.fz (y,c) (Iv h)
  exact⟨u,o,hk _ _ (FZ.get e0.hok e),d⟩
 ·show(vs.map some++ws.map some).length=(ps++fs).length
  rw[Ax,Ax,Ab,Ab,hl,cap.len]
theorem jrm(S:LamScope ps fs scope)(len:∀vs H Q E,sp vs H Q E->vs.length=ps.length)
  (hbody:∀(vs:List V)(H:Hp)(Q:VK)(E:XK),sp vs H Q E->H f=some (FZ (PySem.W.kla_obj name qual params body scope cl pm c' ct))/\CodeZ H c' qual/\∃ws,Caps H cl fs ws /\
   ∀(A:Around)(outer:List Env)(s:Shared),Room k (A.deeper (PySem.W.envX qual scope s.heap.objs.size f (.ref c') cl)) ->
    ∃t,PE (jmo P w K mg base (ps++fs) qual scope f (.ref c') cl A outer s (hideC H (cl.map Prod.snd))) body t/\t (vs.map some++ws.map some) (hideC H (cl.map Prod.snd)) λv H'=>(∀c∈cl.map Prod.snd,H' c=none)->Q v (backC H H' (cl.map Prod.snd))) :
  FnOk P w K mg base CX0 (k+1) f (PySem.W.kla_fn name qual params body scope cl pm (.ref c') ct) ps sp:=by
 refine⟨len,λA outer s H args us vs Q E hr e0 hb r hsp=>?_⟩
 have hl:=len _ _ _ _ hsp
 obtain⟨hf,⟨oc,vc,tc,hc,hoc,hv1⟩,ws,cap,hb0⟩:=hbody vs H Q E hsp
 have lim:s.heap.NoLimit:=e0.mod.nolimit.keeps λb o e=>(e0.bs b o e).1
 have fz:∀c∈cl.map Prod.snd,∃o,H c=some (FZ o):=λc hc=>by
  obtain⟨p,hp,rfl⟩:=A4.mp hc
  obtain⟨o,u,e,_⟩:=cap.fz p hp
  exact⟨o,e⟩
 refine PySem.W.kla_callFunE hr.depth (FZ.get e0.hok hf) rfl S.co S.gen rfl ⟨c',oc,vc,tc,rfl,FZ.get e0.hok hc,hoc,hv1⟩ (hb _ _ _ _ ?_)
 refine W0 S.nocell (λy hy=>S.par _ (Wy hy).1) (λh1 hns hsb=>⟨lim.fresh _ hsb,?_⟩) S.kind
 show codeAny _ _ (.expr body (PySem.W.envX qual scope s.heap.objs.size f (.ref c') cl)) _ _
 have hk:∀b o,s.heap.get? b=some o->h1.get? b=some o:=λb o e=>hsb.extBut b o (Ap (Am e)) (Ad _ e)
 obtain⟨t,ht,hq⟩:=hb0 A outer s (hr.deeper _)
 have I:=jqg (f:=f) (c':=c') (qual:=qual) (tk:=s.toks+(ps.zip us).length) S hr.hd e0 hl r cap hns hk
 refine PySem.W.kla_codeExpr (Of (ht [] _ _ _ _ I hq) (λu s' hs=>?_) λe s' hs=>False.elim hs)
 obtain⟨v,H',J,rv,q⟩:=hs
 have nf:∀c∈cl.map Prod.snd,c∉frs outer:=λc hc z=>by
  obtain⟨o,e⟩:=fz c hc
  rw[e0.frf c z]at e;cases e
 exact⟨v,_,J.os,J.bare,Un.backC J.base fz,HOk.backC e0.hok J.hok J.base fz nf,rv,q λc hc=>by
  obtain⟨o,e⟩:=fz c hc
  exact J.base.free c o (FZ.get e0.hok e) (jdp hc) (by intro z;exact absurd (show c∈([]:List Addr)from z) (by simp))⟩
end
section
variable{X:Cx}
def jhd(P:Program)(w:World)(K:PySem.W.Frag)(mg:Str->Option Value)(base:Heap)(k i:Nat)(t:TA):TE:=λσ H Q=>∃(f:Addr)(o:Obj)(fd:FuncData)(ps:List Str)(sp:Sp),σ[i]?=some (some (.ref f))/\o.data=.func fd /\
 FnOk P w K mg base CX0 k f fd ps sp/\Binds K fd ps []/\t σ H λvs H1=>H1 f=some (FZ o)/\sp vs H1 Q E0
theorem pe_callD{P:Program}{w:World}{K:PySem.W.Frag}{mg:Str->Option Value}{base:Heap}(hP:X.prog=P)(hw:X.w=w)(hK:X.K=K)(hM:X.mg=mg)(hB:X.base=base){k:Nat}{x:Str}{p pos:Pos}{e:Expr}{es:List Expr}{t:TA}(i:Nat)(hr:Room k X.A)(ha:PA X (e::es) t)
  (hN:X.N[i]?=some x:=by rfl) (hv:Vis X.env.scope x:=by first|exact Or.inl rfl|exact Or.inr (Or.inl rfl)|exact Or.inr (Or.inr rfl))
  (hdb:(x == ("__debug__":Str))=false:=by decide) (hcd:(x == ("__classdict__":Str))=false:=by decide) (he:starEach (e::es) X.env=(false,eval e X.env)::starEach es X.env:=by rfl) :
  PE X (.Call (.Name x p) (e::es) [] pos) (jhd P w K mg base k i t):=by
 subst hP;subst hw;subst hK;subst hM;subst hB
 intro pins s σ H Q I h
 obtain⟨f,o,fd,ps,sp,e0,hd,F,hb,h⟩:=h
 refine Io (thn (jcb hN hv hdb hcd pins s σ H (λv H'=>v=.ref f/\t σ H' λvs H1=>H1 f=some (FZ o)/\sp vs H1 Q E0) I ⟨_,e0,rfl,h⟩) λu s1 ⟨v,H1,I1,r,hv1,h1⟩=>?_)
 subst hv1
 cases r
 refine callWith_def (o:=o) (fd:=fd) hd (thn (ha pos pins s1 σ H1 _ I1 h1) λus s2 ⟨vs,H2,I2,r2,q1,q2⟩=>⟨FZ.get I2.hok q1,?_⟩) he
 exact jko F hr hb .nil jo I2 r2 (by rw[Og];exact q2)
def jc7(H:Hp)(cs:List (Addr×Obj)):Hp:=λb=>match cs.lookup b with
 |some o=>some (FZ o)
 |none=>H b
theorem jew{H:Hp}{cs:List (Addr×Obj)}{b:Addr}{o:Obj}(e:cs.lookup b=some o):jc7 H cs b=some (FZ o):=by unfold jc7;rw[e]
theorem jcu{H:Hp}{cs:List (Addr×Obj)}{b:Addr}(e:cs.lookup b=none):jc7 H cs b=H b:=by unfold jc7;rw[e]
theorem jg0{cs:List (Addr×Obj)}{b:Addr}(h:b∈cs.map Prod.fst):∃o,cs.lookup b=some o:=by
 cases e:cs.lookup b with
 |some o=>exact⟨o,rfl⟩
 |none =>
  obtain⟨p,hp,rfl⟩:=A4.mp h
  have:=List.lookup_eq_none_iff.mp e p hp
  simp at this
theorem jj2{cs:List (Addr×Obj)}{b:Addr}(h:b∉cs.map Prod.fst):cs.lookup b=none:=by
 refine List.lookup_eq_none_iff.mpr λp hp=>?_
 simp only[bne_iff_ne,ne_eq]
 rintro rfl
 exact h (A4.mpr ⟨p,hp,rfl⟩)
theorem Inv.env0C{pins:List (Addr×Obj)}{σ:St}{H:Hp}{s:Shared}{cs:List (Addr×Obj)}(I:Inv X pins σ H s)(hc:∀b o,cs.lookup b=some o->s.heap.get? b=some o/\H b=none/\X.base.get? b=none/\b∉frs X.stack) :
  Env0 X.prog X.w X.K X.mg X.base X.A X.stack s (jc7 H cs):=by
 have e:=I.env0
 refine⟨e.frames,e.mod,λb o q=>⟨(e.bs b o q).1,?_⟩,e.bsz,e.funs,λb hb=>?_,λb u q=>?_,e.bare⟩
 ·cases z:cs.lookup b with
  |some o'=>rw[(hc b o' z).2.2.1]at q;cases q
  |none=>rw[jcu z];exact(e.bs b o q).2
 ·cases z:cs.lookup b with
  |some o'=>exact absurd hb (hc b o' z).2.2.2
  |none=>rw[jcu z];exact e.frf b hb
 ·cases z:cs.lookup b with
  |some o' =>
   rw[jew z]at q
   cases Av q
   exact FZ.mk (hc b o' z).1
  |none =>
   rw[jcu z]at q
   have no:∀c,(∃v,H c=some v)->jc7 H cs c=H c:=λc ⟨v,hv⟩=>jcu (by
    cases y:cs.lookup c with
    |none=>rfl
    |some o=>rw[(hc c o y).2.1]at hv;cases hv)
   exact(e.hok b u q).stay (λ_ _ _ y=>y) (λc y=>by rw[no c ⟨_,y⟩];exact y) λc xs y=>by rw[no c ⟨_,y⟩];exact y
theorem Un.hideS{fs:List Addr}{P:Program}{w:World}{H H':Hp}{h h':Heap}{cs:List (Addr×Obj)}(u:Un fs [] (jc7 H cs) H' h h')(x':HOk P w H' h')(hc:∀b o,cs.lookup b=some o->h.get? b=some o/\H b=none):Un fs [] H (hideC H' (cs.map Prod.fst)) h h':=by
 have out:∀b v,H b=some v->cs.lookup b=none:=λb v e=>by
  cases y:cs.lookup b with
  |none=>rfl
  |some o=>rw[(hc b o y).2]at e;cases e
 have nin:∀b v,H b=some v->b∉cs.map Prod.fst:=λb v e m=>by
  obtain⟨o,y⟩:=jg0 m
  rw[out b v e]at y;cases y
 have kept:∀b o,cs.lookup b=some o->h'.get? b=some o:=λb o z=>FZ.get x' (u.frzs b o _ (jew z))
 refine⟨λb o e n hb hx=>?_,λb o e n hb hx=>?_,λb o e n hx=>?_,u.there,λb xs e=>?_,λb o v e=>?_,λb ps e=>?_⟩
 ·cases z:cs.lookup b with
  |some o' =>
   have:=(hc b o' z).1
   rw[e]at this;cases this
   exact kept b o z
  |none=>exact u.keep b o e (by rw[jcu z];exact n) hb hx
 ·cases z:cs.lookup b with
  |some o' =>
   have:=(hc b o' z).1
   rw[e]at this;cases this
   exact⟨o.slots,kept b o z⟩
  |none=>exact u.slot b o e (by rw[jcu z];exact n) hb hx
 ·cases z:cs.lookup b with
  |some o' =>
   refine jdp (Classical.byContradiction λm=>?_)
   rw[jj2 m]at z;cases z
  |none=>exact jc4 (u.free b o e (by rw[jcu z];exact n) hx)
 ·rw[jcm (nin b _ e)];exact u.tups b xs (by rw[jcu (out b _ e)];exact e)
 ·rw[jcm (nin b _ e)];exact u.frzs b o v (by rw[jcu (out b _ e)];exact e)
 ·obtain⟨more,q⟩:=u.tbls b ps (by rw[jcu (out b _ e)];exact e)
  exact⟨more,by rw[jcm (nin b _ e)];exact q⟩
variable{pins:List (Addr×Obj)}{σ:St}{H:Hp}{s:Shared}
theorem jq0{k:Nat}{f:Addr}{fd:FuncData}{ps:List Str}{sp:Sp}{Q:VK}{us:List Value}{vs:List V}{cs:List (Addr×Obj)}(F:FnOk X.prog X.w X.K X.mg X.base CX0 k f fd ps sp)(hr:Room k X.A)(hb:Binds X.K fd ps [])
  (I:Inv X pins σ H s) (r:Vals vs us) (hc:∀b o,cs.lookup b=some o->s.heap.get? b=some o/\H b=none/\X.base.get? b=none/\b∉frs X.stack)
  (h:sp vs (jc7 H cs) (λv H2=>Q v (hideC H2 (cs.map Prod.fst))) E0):wpAny (model X.prog X.w) X.A (call (.ref f) us) (EP X pins σ Q) X.xe s:=by
 have hl:us.length=ps.length:=by rw[<-r.length];exact F.len _ _ _ _ h
 have hbb:=hb s us I.kIn (by rw[Og];exact hl)
 rw[Og]at hbb
 refine wpAny_call (Ud (F.run X.A X.stack s (jc7 H cs) ⟨us,[]⟩ us vs _ E0 hr (I.env0C hc) hbb r h) λr s' hq=>?_)
 cases r with
 |error e=>exact False.elim hq
 |ok fl =>
  cases fl with
  |ret u =>
   obtain⟨v,H',os,bare,un,hok,rv,q⟩:=hq
   refine I.after ⟨v,_,os,bare,Un.hideS un hok λb o z=>⟨(hc b o z).1,(hc b o z).2.1⟩,HOk.hideC hok λc m=>?_,rv,q⟩
   obtain⟨o,z⟩:=jg0 m
   exact⟨o,un.frzs c o _ (jew z)⟩
  |next=>exact False.elim hq
  |brk=>exact False.elim hq
  |cont=>exact False.elim hq
def jld(σ:St)(H:Hp)(js:List (Nat×Addr))(cs:List (Addr×Obj)):Prop :=
 Paired (fun(j:Nat×Addr) (p:Addr×Obj)=>p.1=j.2/\H j.2=none/\∃v u,σ[j.1]?=some (some v)/\p.2.data=.cell (some u)/\RelV v u) js cs
def jhc(js:List (Nat×Addr))(sp:Sp)(t:TA):TE:=λσ H Q=>t σ H λvs H1=>(∀j∈js,∃v,σ[j.1]?=some (some v))/\∀cs,jld σ H1 js cs->sp vs (jc7 H1 cs) (λv H2=>Q v (hideC H2 (cs.map Prod.fst))) E0
theorem Inv.cellAt(I:Inv X pins σ H s){i:Nat}{c:Addr}{x:Str}{v:V}(hN:X.N[i]?=some x)(hk:X.env.kindOf x=some .cell)(hf:X.fn x=true)(hl:X.env.cells.lookup x=some c)(e:σ[i]?=some (some v)) :
  ∃o u,s.heap.get? c=some o/\o.data=.cell (some u)/\RelV v u/\H c=none/\X.base.get? c=none/\c∉frs X.stack:=by
 obtain⟨m,hns,loc⟩:=I.loc
 obtain⟨u,rv,lk⟩:=loc i x v hN e (.inr (.inl hk))
 rcases lk with⟨k,_⟩|⟨_,c',e',o,ho,hd⟩
 ·rw[hk]at k;cases k
 ·rw[hl]at e'
  cases Av e'
  have ge:=I.ok.cab x c hf hl
  refine⟨o,u,ho,hd,rv,I.freeC x c hl,Heap.get?_none_of_le (Ih I.ok.bsz ge),λhb=>?_⟩
  rcases Aw.mp (I.stkSub c hb)with z|z
  ·obtain⟨ol,es,ep,e1,e2,_⟩:=hns
   rw[<-z,ho]at e1
   cases Av e1
   rw[hd]at e2;cases e2
  ·obtain⟨_,ob,hob,_⟩:=I.ok.funs.mem z
   exact absurd (Am hob) (Nat.not_lt.mpr ge)
theorem jjs(I:Inv X pins σ H s):∀{js:List (Nat×Addr)},(∀j∈js,∃x,X.N[j.1]?=some x/\X.env.kindOf x=some .cell/\X.fn x=true/\X.env.cells.lookup x=some j.2)->(∀j∈js,∃v,σ[j.1]?=some (some v)) ->
  ∃cs,jld σ H js cs/\∀b o,cs.lookup b=some o->s.heap.get? b=some o/\H b=none/\X.base.get? b=none/\b∉frs X.stack
 |[],_,_=>⟨[],.nil,λb o z=>by cases z⟩
 |j::js,h1,h2=>by
  obtain⟨cs,pr,hc⟩:=jjs I (js:=js) (λi hi=>h1 i (.tail _ hi)) λi hi=>h2 i (.tail _ hi)
  obtain⟨x,e1,e2,e3,e4⟩:=h1 j (.head _)
  obtain⟨v,e5⟩:=h2 j (.head _)
  obtain⟨o,u,q1,q2,q3,q4,q5,q6⟩:=I.cellAt e1 e2 e3 e4 e5
  refine⟨(j.2,o)::cs,.cons ⟨rfl,q4,v,u,e5,q2,q3⟩ pr,λb o' z=>?_⟩
  rw[List.lookup_cons]at z
  split at z
  ·rename_i hb
   cases Av z
   have:b=j.2:=by simpa using hb
   subst this
   exact⟨q1,q4,q5,q6⟩
  ·exact hc b o' z
theorem pe_callC{k:Nat}{f:Addr}{fd:FuncData}{ps:List Str}{sp:Sp}{x:Str}{p pos:Pos}{e:Expr}{es:List Expr}{t:TA}(js:List (Nat×Addr))(hjs:∀j∈js,∃x,X.N[j.1]?=some x/\X.env.kindOf x=some .cell/\X.fn x=true/\X.env.cells.lookup x=some j.2)
  (F:FnOk X.prog X.w X.K X.mg X.base CX0 k f fd ps sp) (hr:Room k X.A) (hg:Gl X x) (hm:X.mg x=some (.ref f)) (hk:PySem.W.keepIn X.K (.ref f)=true) (hb:Binds X.K fd ps []) (ha:PA X (e::es) t)
  (hdb:(x == ("__debug__":Str))=false:=by decide) (he:starEach (e::es) X.env=(false,eval e X.env)::starEach es X.env:=by rfl) (hpl:(backTo pos (starEach es X.env)).any (·.1)=false:=by rfl) :
  PE X (.Call (.Name x p) (e::es) [] pos) (jhc js sp t):=by
 intro pins s σ H Q I h
 refine Io (jfs I hg hm ?_ hdb)
 refine W9 (h₀:=X.base) I.ok.mod.kin hk (thn (ha pos pins s σ H _ I h) λus s1 ⟨vs,H1,I1,r,hb1,q⟩=>⟨I1.kIn,?_⟩) he hpl
 obtain⟨cs,pr,hc⟩:=jjs I1 hjs hb1
 exact jq0 F hr hb I1 r hc (q cs pr)
end
theorem jmi{pos pos':Pos}{c:Value}(l:List Value)(h:TriplesOk l){v:Value}(e:codeAmong pos' (l++[rawInt pos.line,rawInt pos.col,c])=some v):codeAmong pos' l=some v\/v=c:=by
 fun_induction TriplesOk l with
 |case1 =>
  simp only[List.nil_append,codeAmong,rawInt]at e
  split at e
  ·exact .inr (Av e).symm
  ·cases e
 |case2 a t b u x rest ih =>
  simp only[List.cons_append,codeAmong]at e⊢
  split at e
  ·rename_i hc;rw[Ak hc];exact .inl e
  ·rename_i hc;rw[Ae hc];exact ih h e
 |case3 l h1 h2=>exact h.elim
def TabOk(H:Hp)(Pt:Addr)(qual:Str):Prop:=∃ps,H Pt=some (.tbl ps)/\TriplesOk ps.toList/\∀pos cv,codeAmong pos ps.toList=some cv->∃c,cv=.ref c/\CodeZ H c qual
theorem CodeZ.kp{S:List Addr}{H H':Hp}{c:Addr}{qual:Str}(k:Kp S H H')(n:c∉S)(x:CodeZ H c qual):CodeZ H' c qual:=let⟨oc,vs,t,e,r⟩:=x;⟨oc,vs,t,k.old _ _ e n,r⟩
def tLam(Pt:Addr)(qual:Str)(params:Arguments)(body:Expr)(scope:Scope)(cl:List (Str×Addr))(pm:Value):TE:=λσ H Q=>TabOk H Pt qual/\∀f c ct H',H f=none->Kp [Pt] H H'->H' f=some (FZ (PySem.W.kla_obj "<lambda>" qual params body scope cl pm c ct))->CodeZ H' c qual->TabOk H' Pt qual->Q (.ref f) H'
section
variable{X:Cx}
theorem pe_lambda{params:Arguments}{body:Expr}{scope:Scope}{pos:Pos}{c Pt:Addr}{cl:List (Str×Addr)}(hdef:defaultsOf params X.env=([],[]))(hcl:closureFor scope X.env=pure cl)(hcode:X.env.code=.ref c)(hC:PySem.W.CodeHd X.base c Pt)(hbt:X.base.BuiltinsAt X.mg Pt) :
  PE X (.Lambda params body scope pos) (tLam Pt (X.env.qual++"<lambda>") params body scope cl ((X.mg "__name__").getD .none)):=by
 intro pins s σ H Q I h
 obtain⟨⟨ps,hP,ht,hin⟩,h⟩:=h
 have oP:s.heap.get? Pt=some (PySem.W.tabObj ps):=I.hok Pt _ hP
 have hgs:s.heap.Ns mainGlobals X.mg:=I.mod.glob.keeps I.bk
 have hgP:mainGlobals≠Pt:=λq=>by
  obtain⟨o,es,ep,e,hd,_⟩:=hgs
  rw[q,oP]at e;cases e;cases hd
 have hb:s.heap.BuiltinsAt X.mg Pt:=let⟨bm,o,b1,b2,b3,b4,b5,r⟩:=hbt;⟨bm,o,b1,b2,b3,b4,I.bk _ _ b5,r⟩
 have C:=hC.keeps I.bk
 refine PySem.W.kla_eval hdef ?_
 cases hf:codeAmong pos ps.toList with
 |some cv =>
  obtain⟨c',rfl,cz⟩:=hin pos cv hf
  refine PySem.W.kla_makeFunctionHit (mg:=X.mg) hcl I.ok.glob hgs hcode C oP ht hf hb λctv h' tk hk hsz=>?_
  have hf:H h'.objs.size=none:=I.hok.fresh hsz
  have kp:Kp [Pt] H (upd H h'.objs.size (FZ (PySem.W.kla_obj "<lambda>" (X.env.qual++"<lambda>") params body scope cl ((X.mg "__name__").getD .none) c' ctv))):=(Kp.refl [Pt] H).new hf
  have kp0:Kp [] H (upd H h'.objs.size (FZ (PySem.W.kla_obj "<lambda>" (X.env.qual++"<lambda>") params body scope cl ((X.mg "__name__").getD .none) c' ctv))):=(Kp.refl [] H).new hf
  refine⟨.ref h'.objs.size,_,I.laid (t':=tk) (λb u e=>Ad _ (hk b u e)) hsz (FZ.mk (An _ rfl)),rfl,h _ c' ctv _ hf kp je (cz.kp kp0 (by simp)) ⟨ps,kp0.old _ _ hP Aq,ht,λp v e=>?_⟩⟩
  obtain⟨c2,e2,z⟩:=hin p v e
  exact⟨c2,e2,z.kp kp0 (by simp)⟩
 |none =>
  refine PySem.W.kla_makeFunction (mg:=X.mg) hcl I.ok.glob hgs hcode C oP ht hf hgP hb λc' ctv h' tk hx hge hlt hrec htb=>?_
  obtain⟨c₂,oc,vs,t,e2,hoc,hd,hv⟩:=hrec
  cases e2
  have lP:Pt<s.heap.objs.size:=Am oP
  have lt:∀b u,H b=some u->b<s.heap.objs.size:=λb u e=>(I.hok b u e).lt
  have nPc:Pt≠c':=Ap (Au lP hge)
  have nPf:Pt≠h'.objs.size:=Ap (Nat.lt_trans (Au lP hge) hlt)
  have ncf:c'≠h'.objs.size:=Ap hlt
  have fC:H c'=none:=I.hok.fresh hge
  have fF:H h'.objs.size=none:=I.hok.fresh (Ih hge (Uo hlt))
  let o1:Obj:=PySem.W.kla_obj "<lambda>" (X.env.qual++"<lambda>") params body scope cl ((X.mg "__name__").getD .none) c' ctv
  let ps':Array Value:=ps++#[rawInt pos.line,rawInt pos.col,.ref c']
  let H':Hp:=upd (upd (upd H Pt (.tbl ps')) c' (FZ oc)) h'.objs.size (FZ o1)
  have eF:H' h'.objs.size=some (FZ o1):=je
  have eC:H' c'=some (FZ oc):=by show upd _ _ _ c'=_;rw[jf ncf,je]
  have eP:H' Pt=some (.tbl ps'):=by show upd _ _ _ Pt=_;rw[jf nPf,jf nPc,je]
  have eO:∀b,b≠Pt->b≠c'->b≠h'.objs.size->H' b=H b:=λb n1 n2 n3=>by show upd _ _ _ b=_;rw[jf n3,jf n2,jf n1]
  have eS:∀b,b<s.heap.objs.size->b≠Pt->H' b=H b:=λb l n=>eO b n (Ap (Au l hge)) (Ap (Nat.lt_trans (Au l hge) hlt))
  have kp:Kp [Pt] H H':=by
   refine⟨λb o e n=>?_,λb xs e=>?_,λb o e=>?_⟩
   ·rw[eS b (lt b _ e) (by simpa using n)];exact e
   ·rw[eS b (lt b _ e) (λz=>by rw[z,hP]at e;cases e)];exact e
   ·by_cases z:b=Pt
    ·exact⟨_,by rw[z];exact eP⟩
    ·exact⟨o,by rw[eS b (lt b _ e) z];exact e⟩
  have kept:∀b o,b≠Pt->s.heap.get? b=some o->(h'.push o1).get? b=some o:=λb o n e=>Ad _ (hx b o n e)
  have un:Un (frs X.stack) [] H H' s.heap (h'.push o1):=by
   refine⟨λb o e n _ _=>kept b o (λz=>by rw[z,hP]at n;cases n) e,λb o e n _ _=>⟨o.slots,kept b o (λz=>by rw[z,hP]at n;cases n) e⟩,λb o e n _=>?_,λb o e _=>?_,λb xs e=>kp.tup b xs e,λb o u e=>?_,λb qs e=>?_⟩
   ·rw[eS b (Am e) (λz=>by rw[z,hP]at n;cases n)];exact n
   ·by_cases z:b=Pt
    ·exact⟨_,by rw[z];exact Ad _ htb⟩
    ·exact⟨o,kept b o z e⟩
   ·exact kp.old b _ e (by simp;intro z;rw[z,hP]at e;cases e)
   ·by_cases z:b=Pt
    ·subst z
     rw[hP]at e
     cases Av e
     exact⟨_,eP⟩
    ·exact⟨#[],by rw[eS b (lt b _ e) z,e];simp⟩
  have hok:HOk X.prog X.w H' (h'.push o1):=λb u q=>by
   by_cases z1:b=h'.objs.size
   ·subst z1
    rw[eF]at q
    cases Av q
    exact FZ.mk (An _ rfl)
   ·by_cases z2:b=c'
    ·subst z2
     rw[eC]at q
     cases Av q
     exact FZ.mk (Ad _ hoc)
    ·by_cases z3:b=Pt
     ·subst z3
      rw[eP]at q
      cases Av q
      exact Ad _ htb
     ·rw[eO b z3 z2 z1]at q
      refine(I.hok b u q).stay (λd v hd' e=>kept d v ?_ e) (λd e=>?_) λd xs e=>kp.tup d xs e
      ·rcases hd' with rfl|hd'
       ·exact z3
       ·intro z;rw[z,hP]at hd';cases hd'
      ·exact kp.old d _ e (by simp;intro z;rw[z,hP]at e;cases e)
  have nC:∀c2,(∃o,H c2=some (FZ o))->c2∉[Pt]:=λc2 ⟨o,e⟩ m=>by
   rw[Ag.mp m,hP]at e;cases e
  refine⟨.ref h'.objs.size,H',I.call (g':=s.gens) (d':=s.drawn) (t':=tk) (ch:=[]) un hok I.bare (λb z=>absurd z (by simp)),rfl,h _ c' ctv H' fF kp eF ⟨oc,vs,t,eC,hd,hv⟩ ⟨ps',eP,?_,λp v e=>?_⟩⟩
  ·have hl:ps'.toList=ps.toList++[rawInt pos.line,rawInt pos.col,.ref c']:=by simp[ps']
   rw[hl];exact TriplesOk_snoc _ _ _ _ ht
  ·have hl:ps'.toList=ps.toList++[rawInt pos.line,rawInt pos.col,.ref c']:=by simp[ps']
   rw[hl]at e
   rcases jmi _ ht e with e|rfl
   ·obtain⟨c2,e2,z⟩:=hin p v e
    exact⟨c2,e2,z.kp kp (nC c2 (let⟨oc,_,_,q,_⟩:=z;⟨oc,q⟩))⟩
   ·exact⟨c',rfl,oc,vs,t,eC,hd,hv⟩
end
theorem jqb{h:Heap}{c P:Addr}{ps:Array Value}(C:PySem.W.CodeHd h c P)(e:h.get? P=some (PySem.W.tabObj ps)):isCodeTable h P:=(C.tab e).isCodeTable
theorem jny{P:Program}{w:World}{K:PySem.W.Frag}{mg mb:Str->Option Value}{CX:CXT}{k:Nat}{fa a:Addr}{fd:FuncData}{x:Str}{sp:Sp}{s₁:Shared}{vs:List Value}{ns:List Int}{ts:List Addr}
  (KX:K.In s₁.heap) (hns:s₁.heap.Ns mainGlobals mg) (hb:s₁.heap.Ns builtinsNs mb) (hbb:∀x:Str,x≠"__name__"->mb x=bootBuiltins x) (hlim:s₁.heap.NoLimit) (hg:s₁.gens=#[])
  (ha:s₁.heap.get? a=some {cls:=.type "list",data:=.seq vs.toArray}) (hi:IntsAre vs ns) (hl:ns.length<=sizeLine) (hr:Room k callerA)
  (hts:∀t∈ts,s₁.heap.get? t=some (PySem.W.tabObj #[])) (hcd:∀t∈ts,∃c,PySem.W.CodeHd s₁.heap c t) (hKt:∀t∈ts,K.lookup t=none) (hbm:∀t∈ts,s₁.heap.BuiltinsAt mg t)
  (F:∀base:Heap,K.In base->base.Ns mainGlobals mg->(∀t∈ts,base.BuiltinsAt mg t)->FnOk P w K mg base CX k fa fd [x] sp) (hbind:∀(s:Shared)(u:Value),BindsTo s fd ⟨[u],[]⟩ [(x,u)])
  (hsp:∀H:Hp,SqL K H a (ns.map V.int)->(∀t∈ts,H t=some (.tbl #[]))->sp [.ref a] H (λv _=>v=.bl true) λ_ _ _=>False)
  (hCX:∀H e s',CX [] H s₁ (λ_ _ _=>False) e s'->False) :
  codeAny (model P w) callerA (.call (.ref fa) ⟨[.ref a],[]⟩) (λr s'=>r=.ok (.ret (.bool true))/\OldK s₁.heap s'.heap/\s'.os=s₁.os/\AllBare s'.gens) s₁:=by
 have rv:=ji2 hi
 have lenV:=hi.length
 have naT:a∉ts:=λm=>by
  have:=hts a m
  rw[ha]at this
  cases this
 have core:∀H:Hp,(∀b,H b=none\/(∃o xs,H b=some (.frz o (.lst xs)))\/b∈ts)->(∀t∈ts,H t=some (.tbl #[]))->SqL K H a (ns.map V.int)->HOk P w H s₁.heap->(∀b,H b≠none->b=a\/b∈ts)->(H a≠none->K.lookup a=none) ->
   codeAny (model P w) callerA (.call (.ref fa) ⟨[.ref a],[]⟩) (λr s'=>r=.ok (.ret (.bool true))/\OldK s₁.heap s'.heap/\s'.os=s₁.os/\AllBare s'.gens) s₁:=by
  intro H hO hT hS hok hA hK
  have base_of:∀{b:Addr}{o:Obj},s₁.heap.get? b=some o->H b=none->(hidT s₁.heap H).get? b=some o:=λe n=>joy e n
  have noB:∀{b:Addr}{o:Obj},s₁.heap.get? b=some o->(∀vs n,o.data≠.seq vs n)->(∀vs,o.data≠.fields vs)->H b=none:=fun{b o} e d1 d2=>by
   cases q:H b with
   |none=>rfl
   |some u =>
    rcases hA b (by rw[q];simp)with e'|e'
    ·subst e'
     rw[ha]at e;cases e
     exact absurd rfl (d1 _ _)
    ·rw[hts b e']at e;cases e
     exact absurd rfl (d2 _)
  have nsK:∀{b:Addr}{m:Str->Option Value},s₁.heap.Ns b m->(hidT s₁.heap H).Ns b m:=fun{b m} ⟨o,es,ep,e,d,r⟩=>⟨o,es,ep,base_of e (noB e (by rw[d];nofun) (by rw[d];nofun)),d,r⟩
  have hKb:K.In (hidT s₁.heap H):=λb o e=>base_of (KX b o e) (by
   cases q:H b with
   |none=>rfl
   |some u =>
    rcases hA b (by rw[q];simp)with e'|e'
    ·subst e'
     rw[hK (by rw[q];simp)]at e;cases e
    ·rw[hKt b e']at e;cases e)
  have hBb:∀t∈ts,(hidT s₁.heap H).BuiltinsAt mg t:=λt ht=>let⟨bm,o,b1,b2,b3,b4,b5,b6,b7,b8⟩:=hbm t ht
   ⟨bm,o,b1,b2,b3,b4,base_of b5 (noB b5 (by rw[b8];nofun) (by rw[b8];nofun)),b6,b7,b8⟩
  have hM:Mod K mg (hidT s₁.heap H):=⟨hKb,nsK hns,⟨mb,nsK hb,hbb⟩,let⟨mc,h1,h2⟩:=hlim;⟨mc,nsK h1,h2⟩⟩
  have e0:Env0 P w K mg (hidT s₁.heap H) callerA [] s₁ H:=⟨rfl,hM,λb o e=>jqt e,Wx (jnt _ _),trivial,λb hb=>absurd (show b∈([]:List Addr)from hb) (by simp),hok,.of_eq hg⟩
  refine Ud ((F _ hKb (nsK hns) hBb).run callerA [] s₁ H ⟨[.ref a],[]⟩ [.ref a] [.ref a] _ _ hr e0 (hbind s₁ (.ref a)) (.cons rfl .nil) (hsp H hS hT)) λr s' h=>?_
  cases r with
  |error e=>exact(hCX H e s' h).elim
  |ok fl =>
   cases fl with
   |next=>exact False.elim h
   |brk=>exact False.elim h
   |cont=>exact False.elim h
   |ret u =>
    obtain⟨v,H',os,bare,un,hok',r',q⟩:=h
    have q':v=.bl true:=q
    subst q'
    obtain rfl:u=Value.bool true:=r'
    have grown:∀b∈ts,∃ps,s'.heap.get? b=some (PySem.W.tabObj ps):=λb m=>by
     obtain⟨more,e⟩:=un.tbls b #[] (hT b m)
     exact⟨_,hok' b _ e⟩
    have keep:∀b o,b∉ts->s₁.heap.get? b=some o->s'.heap.get? b=some o:=λb o m e=>by
     cases q:H b with
     |none=>exact un.keep b o e q (by intro z;exact absurd (show b∈([]:List Addr)from z) (by simp)) (by simp)
     |some u =>
      rcases hO b with z|⟨ob,xs,z⟩|z
      ·rw[q]at z;cases z
      ·have z2:=un.frzs b ob _ z
       obtain⟨e1,_⟩:=hok b _ z
       obtain⟨e2,_⟩:=hok' b _ z2
       rw[e]at e1;cases e1
       exact e2
      ·exact absurd z m
    refine⟨rfl,⟨λb o e=>?_,λb o e=>?_⟩,os,bare⟩
    ·by_cases m:b∈ts
     ·obtain⟨c,hc⟩:=hcd b m
      obtain⟨ps,hP⟩:=grown b m
      have e2:=hts b m
      rw[e]at e2
      cases Av e2
      exact .inr (.inl ⟨jqb hc (hts b m),rfl,#[],ps,rfl,by rw[Array.empty_append];exact hP⟩)
     ·exact .inl (keep b o m e)
    ·by_cases m:b∈ts
     ·obtain⟨ps,hP⟩:=grown b m
      exact⟨_,hP⟩
     ·exact⟨o,keep b o m e⟩
 cases hk:K.lookup a with
 |some o =>
  have e:=KX a o hk
  rw[ha]at e
  cases e
  refine core (λb=>if b∈ts then some (.tbl #[])else none) (λb=>?_) (λt m=>Ak m) (.inr ⟨_,vs.toArray,_,hk,rfl,rfl,rfl,by rw[Al,lenV];exact hl,by simpa using rv⟩) (λb u z=>?_) (λb z=>?_) λz=>absurd (Ae naT) z
  ·by_cases m:b∈ts
   ·exact .inr (.inr m)
   ·exact .inl (Ae m)
  ·by_cases m:b∈ts
   ·have z':=(Ak m).symm.trans z
    cases z'
    exact hts b m
   ·have z':=(Ae m).symm.trans z
    cases z'
  ·by_cases m:b∈ts
   ·exact .inr m
   ·exact absurd (Ae m) z
 |none =>
  refine core (λb=>if b∈ts then some (.tbl #[])else if b=a then some (.frz {cls:=.type "list",data:=.seq vs.toArray} (.lst (ns.map V.int)))else none) (λb=>?_) (λt m=>Ak m) (.inl (.inr ⟨{cls:=.type "list",data:=.seq vs.toArray},(Ae naT).trans (Ak rfl)⟩)) (λb u z=>?_) (λb z=>?_) λ_=>hk
  ·by_cases m:b∈ts
   ·exact .inr (.inr m)
   ·by_cases hb:b=a
    ·exact .inr (.inl ⟨_,_,(Ae m).trans (Ak hb)⟩)
    ·exact .inl ((Ae m).trans (Ae hb))
  ·by_cases m:b∈ts
   ·have z':=(Ak m).symm.trans z
    cases z'
    exact hts b m
   ·by_cases hb:b=a
    ·have z':=((Ae m).trans (Ak hb)).symm.trans z
     cases z'
     subst hb
     exact⟨ha,by rw[Ab];exact hl,vs,_,rv,ha⟩
    ·have z':=((Ae m).trans (Ae hb)).symm.trans z
     cases z'
  ·by_cases m:b∈ts
   ·exact .inr m
   ·by_cases hb:b=a
    ·exact .inl hb
    ·exact absurd ((Ae m).trans (Ae hb)) z
theorem walk_ofT{l:PySem.W.OpenLaw}{n k:Nat}{q:Program}{loose:List Str}{XP:(Str->Option Value)->Heap->Prop}{YP:World->Heap->Prop}{d:DefRec}{K:Params->PySem.W.Frag}{CX:World->CXT}{sp:World->Sp}{x:Str}{ts:List Addr}
  (hn:l.most=some n) (hn2:n<=sizeLine) (hdf:d.params.defaults=[]) (hr:Room k callerA)
  (hY:∀(w:World)(h:Heap),YP w h->(K w.params).In h) (hT:∀(w:World)(h:Heap),YP w h->∀t∈ts,h.get? t=some (PySem.W.tabObj #[]))
  (hC:∀(w:World)(h:Heap),(K w.params).In h->∀t∈ts,∃c,PySem.W.CodeHd h c t) (hN:∀w:World,∀t∈ts,(K w.params).lookup t=none)
  (F:∀(w:World)(mg:Str->Option Value)(fa:Addr)(h:Heap),(K w.params).In h->h.Ns mainGlobals mg->mg d.name=some (.ref fa) ->
   ∃fd:FuncData,(∀(s:Shared)(u:Value),BindsTo s fd ⟨[u],[]⟩ [(x,u)]) /\
    ∀base:Heap,(K w.params).In base->base.Ns mainGlobals mg->(∀t∈ts,base.BuiltinsAt mg t)->FnOk l.prog w (K w.params) mg base (CX w) k fa fd [x] (sp w))
  (hsp:∀(w:World)(H:Hp)(a:Addr)(ns:List Int),ns.length<=n->SqL (K w.params) H a (ns.map V.int)->(∀t∈ts,H t=some (.tbl #[]))->sp w [.ref a] H (λv _=>v=.bl true) λ_ _ _=>False)
  (hCX:∀(w:World)(H:Hp)(s:Shared)(e:Value)(s':Shared),CX w [] H s (λ_ _ _=>False) e s'->False) :
  PySem.W.WalkO q loose XP YP l.row.toRowW d [] (λf vs=>PySem.call f vs):=by
 refine Att.attach_call hn hdf λw s₀ s₁ mg mb fa o pm cd doc a vs ns G Y ho hd hcd hmg hobj hints hlen hg=>?_
 have KX:=hY w _ Y
 have TX:=hT w _ Y
 obtain⟨fd,hb,hF⟩:=F w mg fa _ KX G.T.g hmg
 refine jny (ts:=ts) KX G.T.g G.T.b G.T.builtins G.T.nolimit hg hobj hints (Ih hlen hn2) hr TX (hC w _ KX) (hN w) (λt ht=>?_) hF hb (λH hS hT=>hsp w H a ns hlen hS hT) λH e s'=>hCX w H s₁ e s'
 obtain⟨bm,ob,b1,b2,b3,b4,b5,b6⟩:=G.T.bmain
 refine⟨bm,ob,b1,b2,λq=>?_,λq=>?_,b3,b4,b5,b6⟩
 ·obtain⟨o,es,ep,e,hd,_⟩:=G.T.g
  rw[q,e]at b3;cases b3;rw[hd]at b6;cases b6
 ·rw[q,TX t ht]at b3;cases b3;cases b4
def KDict(P:Program)(w:World)(K:PySem.W.Frag)(a:Addr)(kvs:List (Key×V)):Prop:=∀h:Heap,K.In h->∃vs,KV kvs vs/\h.DictOf (jco P w) a vs
abbrev entS(w:World)(p:Str×Tok×Value):DictEntry:={hash:=PyData.keyHash w.params p.1,key:=.str p.1 p.2.1,val:=p.2.2}
theorem KDict.of{P:Program}{w:World}{K:PySem.W.Frag}{a:Addr}{kvs:List (Key×V)}{l:List (Str×Tok×Value)}{es:Array DictEntry}{ep:Nat}(lk:K.lookup a=some {cls:=.type "dict",data:=.dict es ep})(he:es.toList=l.map (entS w))
  (hv:KV kvs (l.map λp=>((Sum.inr p.1:Key),p.2.2))) (nd:(kvs.map Prod.fst).Nodup):KDict P w K a kvs:=λh hK=>by
 refine⟨l.map λp=>((Sum.inr p.1:Key),p.2.2),hv,_,es,ep,hK _ _ lk,⟨rfl,rfl,rfl⟩,rfl,λe hm=>?_,?_,?_⟩
 ·have:e∈es.toList:=Array.mem_toList_iff.mpr hm
  rw[he]at this
  obtain⟨p,_,rfl⟩:=A4.mp this
  exact⟨.inr p.1,by simp[jco,jd8,Value.isStrOf],rfl⟩
 ·rw[he]
  clear he hv nd lk
  induction l with
  |nil=>exact .nil
  |cons p l ih=>exact .cons (by simp[jco,jd8,Value.isStrOf]) rfl ih
 ·have:∀{kvs:List (Key×V)}{vs:List (Key×Value)},KV kvs vs->vs.map Prod.fst=kvs.map Prod.fst:=fun{kvs vs} r=>by
   induction r with
   |nil=>rfl
   |cons h _ ih=>rw[Ay,Ay,ih,h.1]
  have e2:=this hv
  rw[show(List.map (λx=>x.1) (List.map (λp:Str×Tok×Value=>((Sum.inr p.1:Key),p.2.2)) l))=_ from e2]
  exact nd
section
variable{X:Cx}{o i:Expr}{td ty:TE}{pos:Pos}
def jej(P:Program)(w:World)(K:PySem.W.Frag)(td ty:TE):TE:=λσ H Q=>td σ H λx H1=>ty σ H1 λy H2=>∃a kvs k v,x=.ref a/\KDict P w K a kvs/\y=kV k/\valV kvs k=some v/\Q v H2
theorem pe_dgetK{P:Program}{w:World}{K:PySem.W.Frag}(hP:X.prog=P)(hw:X.w=w)(hK:X.K=K)(ho:PE X o td)(hi:PE X i ty)(hs:NoSl i):PE X (.Subscript o i pos) (jej P w K td ty):=by
 subst hP;subst hw;subst hK
 intro pins s σ H Q I h
 refine jq7 PySem.F.slot_dict_getitem.lookup hs (thn (ho pins s σ H _ I h) λu s1 ⟨x,H1,I1,rx,q1⟩=>thn (hi pins s1 σ H1 _ I1 q1) λiv s2 ⟨y,H2,I2,ry,a,kvs,k,v,ex,D,ey,l,q2⟩=>?_)
 subst ex
 subst ey
 obtain rfl:u=Value.ref a:=rx
 obtain⟨vs,rel,dd⟩:=D _ I2.kIn
 obtain⟨w',hw,rw'⟩:=RelO.some_of (v:=v) (o:=valueAt vs k) (by rw[<-l];exact rel.val k)
 exact⟨dd.typeIs,wpAny_getItem_of (jfr ry) dd.mapOf hw ⟨v,H2,I2.tok _,rw',q2⟩⟩
theorem zc{P:Program}{w:World}{K:PySem.W.Frag}(hP:X.prog=P)(hw:X.w=w)(hK:X.K=K)(ho:QE X o td)(hi:QE X i ty)(hs:NoSl i):QE X (.Subscript o i pos) (jej P w K td ty):=⟨pe_dgetK hP hw hK ho.h hi.h hs⟩
theorem jbr{P:Program}{w:World}{K:PySem.W.Frag}{mg:Str->Option Value}{base:Heap}(hP:X.prog=P)(hw:X.w=w)(hK:X.K=K)(hM:X.mg=mg)(hB:X.base=base){k:Nat}{x:Str}{p pos:Pos}{e:Expr}{es:List Expr}{t:TA}(i:Nat)(hr:Room k X.A)(ha:QA X (e::es) t)
  (hN:X.N[i]?=some x:=by rfl) (hv:Vis X.env.scope x:=by first|exact Or.inl rfl|exact Or.inr (Or.inl rfl)|exact Or.inr (Or.inr rfl))
  (hdb:(x == ("__debug__":Str))=false:=by decide) (hcd:(x == ("__classdict__":Str))=false:=by decide) (he:starEach (e::es) X.env=(false,eval e X.env)::starEach es X.env:=by rfl) :
  QE X (.Call (.Name x p) (e::es) [] pos) (jhd P w K mg base k i t):=⟨pe_callD hP hw hK hM hB i hr ha.h hN hv hdb hcd he⟩
theorem qpe_callC{k:Nat}{f:Addr}{fd:FuncData}{ps:List Str}{sp:Sp}{x:Str}{p pos:Pos}{e:Expr}{es:List Expr}{t:TA}(js:List (Nat×Addr))(hjs:∀j∈js,∃x,X.N[j.1]?=some x/\X.env.kindOf x=some .cell/\X.fn x=true/\X.env.cells.lookup x=some j.2)
  (F:FnOk X.prog X.w X.K X.mg X.base CX0 k f fd ps sp) (hr:Room k X.A) (hg:Gl X x) (hm:X.mg x=some (.ref f)) (hk:PySem.W.keepIn X.K (.ref f)=true) (hb:Binds X.K fd ps []) (ha:QA X (e::es) t)
  (hdb:(x == ("__debug__":Str))=false:=by decide) (he:starEach (e::es) X.env=(false,eval e X.env)::starEach es X.env:=by rfl) (hpl:(backTo pos (starEach es X.env)).any (·.1)=false:=by rfl) :
  QE X (.Call (.Name x p) (e::es) [] pos) (jhc js sp t):=⟨pe_callC js hjs F hr hg hm hk hb ha.h hdb he hpl⟩
theorem qpe_lambda{params:Arguments}{body:Expr}{scope:Scope}{pos:Pos}{c Pt:Addr}{cl:List (Str×Addr)}{qual:Str}{pm:Value}(hq:X.env.qual++"<lambda>"=qual)(hpm:(X.mg "__name__").getD .none=pm)(hcode:X.env.code=.ref c)(hC:PySem.W.CodeHd X.base c Pt)(hbt:X.base.BuiltinsAt X.mg Pt)
  (hdef:defaultsOf params X.env=([],[]):=by rfl) (hcl:closureFor scope X.env=pure cl:=by rfl):QE X (.Lambda params body scope pos) (tLam Pt qual params body scope cl pm):=by
 subst hq;subst hpm
 exact⟨pe_lambda hdef hcl hcode hC hbt⟩
end
theorem Fun.okC{P:Program}{w:World}{K:PySem.W.Frag}{mg:Str->Option Value}{base:Heap}{x qual:Str}{st:Stmt}{f:Addr}{fd:FuncData}{N ps:List Str}{k:Nat}{sp:Sp}(F:Fun K x qual st f fd)(S:FnScope N ps (jk st))(len:∀vs H Q E,sp vs H Q E->vs.length=ps.length)
  (hbody:∀(A:Around)(outer:List Env)(s:Shared)(H:Hp)(vs:List V)(Q:VK)(E:XK),Room k (A.deeper (envOfC qual (jk st) s.heap.objs.size f fd.code))->sp vs H Q E ->
   ∃t,PSs (cxOf CX0 P w K mg base N qual (jk st) f fd.code A outer s H E).nox (jv st) t/\t {nx:=λ_ H'=>Q .non H',rt:=Q} (start N vs) H):FnOk P w K mg base CX0 (k+1) f fd ps sp:=by
 obtain⟨oc,od,kV,doc,pm,an,cdv,ct,osl,rfl,lk,hcd⟩:=F.ex
 refine jpv lk hcd S len λA outer s H vs Q E hr hsp=>?_
 obtain⟨t,h,q⟩:=hbody A outer s H vs Q E hr hsp
 exact⟨t,h.nox,q⟩
theorem Caps.kp{S:List Addr}{H H':Hp}{cl:List (Str×Addr)}{fs:List Str}{ws:List V}(k:Kp S H H')(n:∀p∈cl,p.2∉S)(c:Caps H cl fs ws):Caps H' cl fs ws :=
 ⟨c.len,λi x v e1 e2=>let⟨a,o,u,h1,h2,h3,h4⟩:=c.at_ i x v e1 e2;⟨a,o,u,h1,k.old _ _ h2 (n (x,a) (Iv h1)),h3,h4⟩,c.has,λp hp=>let⟨o,u,e,d⟩:=c.fz p hp;⟨o,u,k.old _ _ e (n p hp),d⟩,c.inj⟩
theorem TabOk.kp{S:List Addr}{H H':Hp}{Pt:Addr}{qual:Str}(k:Kp S H H')(n:Pt∉S)(hc:∀c o,H c=some (FZ o)->c∉S)(x:TabOk H Pt qual):TabOk H' Pt qual :=
 let⟨ps,e,t,h⟩:=x
 ⟨ps,k.old _ _ e n,t,λp v q=>let⟨c,e2,z⟩:=h p v q;⟨c,e2,z.kp k (let⟨oc,_,_,q,_⟩:=z;hc c oc q)⟩⟩
section
variable{X:Cx}{o e f:Expr}{apos cpos:Pos}{td ty tx:TE}
def jhh:TE:=λ_ H Q=>∀p,H p=none->Q (.ref p) (upd H p (.dK []))
theorem pe_disp0{pos:Pos}:PE X (.Dict [] [] pos) jhh:=by
 intro pins s σ H Q I q
 have hn:=I.hok.fresh (Ah s.heap.objs.size)
 have I1:=I.laid (a:=s.heap.objs.size) (o:=.dK []) (h':=s.heap.push {cls:=.type "dict",data:=.dict #[]}) (t':=s.toks) (λ_ _ q=>Ad _ q) (Ah _) (jot s.heap I.big)
 exact wpAny_Dict_empty ⟨.ref s.heap.objs.size,_,I1,rfl,q _ hn⟩
theorem qpe_disp0{pos:Pos}:QE X (.Dict [] [] pos) jhh:=⟨pe_disp0⟩
end
section
variable{prog:Program}{w:World}{J:Type}[DecidableEq J]{knd:HeapKind prog w J}{A:Around}{E:Value->Shared->Prop}{s:Shared}{d a:Addr}{k:J}{xs:List (J×Addr×Value)}{x:Value}
theorem jj3{h:Heap}{o:Obj}{es:Array DictEntry}{ep:Nat}(ho:h.get? d=some o)(hc:o.ExactDict)(hd:o.data=.dict es ep)(he:es.toList=xs.map (entryOfKey knd))(his:∀x∈xs,knd.is h x.1 x.2.1)(hn:(xs.map (·.1)).Nodup)
  (hk:knd.is h k a) (no:∀(j:Nat)(p:Addr×Value),xs[j]?≠some (k,p)):(h.update d (Obj.mapDictKeys λes=>es.push ⟨knd.hash k,.ref a,x⟩)).DictOfH knd d (xs++[(k,a,x)]):=by
 have kp:∀{k' a'},knd.is h k' a'->knd.is (h.update d (Obj.mapDictKeys λes=>es.push ⟨knd.hash k,.ref a,x⟩)) k' a':=λq=>knd.keeps q ho hd (Oe ..)
 refine⟨_,_,ep+1,Ie _ ho (Obj.isFreed_of_dict (Obj.data_mapDictKeys hd _)),hc.mapDictKeys _,Obj.data_mapDictKeys hd _,?_,λy hy=>?_,?_⟩
 ·simp[he,entryOfKey]
 ·rcases A6.mp hy with q|q
  ·exact kp (his y q)
  ·cases Ag.mp q;exact kp hk
 ·have q:k∉xs.map (·.1):=not_mem_keys_of_get no
  rw[Ig]
  exact Ox.mpr ⟨hn,by simp,λu hu v hv e=>q (by simp at hv;rw[<-hv,<-e];exact hu)⟩
theorem jou{Q:Value->Shared->Prop}(hu:knd.room A)(hk:knd.is s.heap k a)(hm:s.heap.DictOfH knd d xs)(hz:xs.length<=sizeLine)(h1:∀p,atKey xs k=some p->Q p.2 {s with toks:=s.toks+knd.draws k})
  (h2:atKey xs k=none->∀h',h'.DictOfH knd d (xs++[(k,a,x)])->Heap.SameBut d s.heap h'->Q x {s with heap:=h',toks:=s.toks+knd.draws k}):wpAny (model prog w) A (dictSetDefault d (.ref a) x) Q E s:=by
 obtain⟨o,es,ep,ho,hc,hd,he,his,hn⟩:=hm
 unfold dictSetDefault
 try with_reducible refine Op ?_
 refine Aa (knd.pyHash hu hk (Aa (wpAny_dictFind_heap (s:={s with toks:=s.toks+knd.draws k}) hu hk ho hd he his hn (λno=>?_) λj p hj=>?_)))
 ·refine Aa (W3 (Aa (wpAny_updateDictKeys (hz:=by rw[size_of_entries he];exact hz) (s:={s with toks:=s.toks+knd.draws k}) ho hd (Af (h2 (atKey_none_of_get no) _ (jj3 ho hc hd he his hn hk no) (Oe ..))))))
 ·refine Aa (wpAny_dictEntries (s:={s with toks:=s.toks+knd.draws k}) ho hd ?_)
  rw[entry_at he j,hj]
  exact Aa (W3 (Af (h1 p (atKey_of_get hn hj))))
theorem jn4(hd:(d == sysModules)=false):MeetsIn prog w (Builtin.«dict.setdefault» ⟨[.ref d,.ref a,x],[]⟩) λA R s=>knd.room A.in1/\∃(k:J)(xs:List (J×Addr×Value)),knd.is s.heap k a/\s.heap.DictOfH knd d xs/\xs.length<=sizeLine /\
  (∀p,atKey xs k=some p->R (.ok (.ret p.2)) {s with toks:=s.toks+knd.draws k})/\(atKey xs k=none->∀h',h'.DictOfH knd d (xs++[(k,a,x)])->Heap.SameBut d s.heap h'->R (.ok (.ret x)) {s with heap:=h',toks:=s.toks+knd.draws k}):=by
 refine .of_wp λA R s ⟨hu,k,xs,hk,hm,hz,h1,h2⟩=>?_
 show wpAny _ _ (Builtin.Dict.keyAndDefault _ _ >>= _) _ _ s
 refine Aa ?_
 unfold Builtin.Dict.keyAndDefault
 refine Aa (wpAny_notOrdered_dict hm.typeIs (Af ?_))
 show wpAny _ _ (if(d == sysModules)=true then _ else _) _ _ _
 rw[hd,Ae (by decide)]
 exact Aa (jou hu hk hm hz (λp hp=>Af ⟨_,rfl,h1 p hp⟩) λhn h' dd hs=>Af ⟨_,rfl,h2 hn h' dd hs⟩)
end
section
variable{X:Cx}{o e f:Expr}{apos cpos:Pos}{td ty tx:TE}
def jhg(td ty tx:TE):TE:=λσ H Q=>td σ H λx H1=>∃a,x=.ref a/\IsD H1 a/\ty σ H1 λy H2=>tx σ H2 λz H3=>∃kvs k b,H3 a=some (.dT kvs)/\y=.ref b/\H3 b=some (.tup (k.map kV))/\kvs.length<sizeLine /\
 (∀v,valV kvs k=some v->Q v H3)/\(valV kvs k=none->Q z (upd H3 a (.dT (putK kvs k z))))
theorem pe_dsetT(hu:X.A.units+1<cLine)(ho:PE X o td)(he:PE X e ty)(hf:PE X f tx)(m:M2 X o "setdefault" apos e f cpos):PE X (.Call (.Attribute o "setdefault" apos) [e,f] [] cpos) (jhg td ty tx):=by
 intro pins s σ H Q I h
 refine wpAny_Call_method m.base m.few m.line PySem.F.plainAttrs_dict PySem.F.slot_dict_setdefault PySem.F.type_dict_setdefault (thn (ho pins s σ H _ I h) λu s1 ⟨x,H1,I1,rx,a,ex,d,q1⟩=>?_)
 subst ex
 obtain rfl:u=Value.ref a:=rx
 obtain⟨t1,t2,_⟩:=jrp I1 d
 refine⟨t1,t2,?_⟩
 rw[m.trees]
 refine Wl rfl (Calls.evalArgs_plain (Uk (thn (he pins s1 σ H1 _ I1 q1) λiv s2 ⟨y,H2,I2,ry,q2⟩ =>
  Uk (thn (hf pins s2 σ H2 _ I2 q2) λfv s3 ⟨z,H3,I3,rz,kvs,k,b,ea,ey,eb,hl,q3,q4⟩=>Wd ?_))))
 subst ey
 cases(show iv=Value.ref b from ry)
 obtain⟨zz,hd,xs,rel,dd⟩:=jpu I3.hok ea
 have hz:xs.length<=sizeLine:=by rw[<-Il rel];exact zz
 have va:RelO (valV kvs k) ((atKey xs k).map (·.2)):=rel.val k
 refine call_meetsIn PySem.F.slot_dict_setdefault dd.typeIs PySem.F.entry_dict_setdefault (PySem.F.args_dict_setdefault_3 _ _ _) (jn4 (knd:=tupleKind (jco X.prog X.w)) hd) ⟨U6 hu,k,xs,je4 I3.hok eb,dd,hz,λp hp=>?_,λhn h' dd' hs=>?_⟩
 ·rw[hp]at va
  cases l:valV kvs k with
  |none=>rw[l]at va;cases va
  |some v' =>
   rw[l]at va
   obtain⟨w',hw,rw'⟩:=RelO.some_of va
   cases hw
   exact⟨v',H3,I3.tok _,rw',q3 v' l⟩
 ·rw[hn]at va
  have ln:valV kvs k=none:=by
   cases l:valV kvs k with
   |none=>rfl
   |some v'=>rw[l]at va;obtain⟨w',hw,_⟩:=RelO.some_of va;cases hw
  have hlp:(putK kvs k z).length<=sizeLine:=by have:=jdi kvs k z;omega
  have rel':=rel.put k eb rz
  rw[storedH_new hn]at rel'
  obtain⟨q,es,ep,hq,g2,g3,g4,_,g5⟩:=dd'
  refine⟨z,_,jhp (ob:=.dT (putK kvs k z)) I3 (by rw[ea];exact True.intro) hs ⟨q,hq⟩ ⟨hlp,hd,_,rel'.keeps λc ys ec=>?_,q,es,ep,hq,g2,g3,g4,g5⟩,rz,q4 ln⟩
  rw[jf (ji9 ec ea λz=>nomatch z)]
  exact ec
theorem qpe_dsetT(hu:X.A.units+1<cLine)(ho:QE X o td)(he:QE X e ty)(hf:QE X f tx)(m:M2 X o "setdefault" apos e f cpos):QE X (.Call (.Attribute o "setdefault" apos) [e,f] [] cpos) (jhg td ty tx):=⟨pe_dsetT hu ho.h he.h hf.h m⟩
theorem qpe_dnewT{pos:Pos}:QE X (.Dict [] [] pos) jhf:=⟨pe_dnewT⟩
end
section
variable{X:Cx}
def rIxD:R2:=λx y H Q=>∃a v,x=.ref a/\DGet H a y (some v)/\Q v H
theorem ix_D(hu:X.A.units+1<cLine):IxR X rIxD:=by
 intro value slice pins s σ H x y v u Q I rx ry h hs
 obtain⟨a,z,rfl,g,q⟩:=h
 cases rx
 exact tail_any (jk8 I g) PySem.F.slot_dict_getitem.lookup (jnl hu I g ry λw' s3 I3 rw'=>⟨z,H,I3,rw',q⟩) hs
theorem ix_UD(hu:X.A.units+1<cLine):IxR X (λx y H Q=>rIxU x y H Q\/rIxD x y H Q):=IxR.or ix_U (ix_D hu)
def FzT(H:Hp)(a:Addr)(xs:List V):Prop:=∃o:Obj,o.dict=none/\H a=some (.frz o (.tup xs))
theorem FzT.sq{K:PySem.W.Frag}{H:Hp}{a:Addr}{xs:List V}(h:FzT H a xs):SqT K H a xs:=let⟨o,_,e⟩:=h;.inl (.inr ⟨o,e⟩)
def jqz:List V->Hp->VK->Prop:=λxs H Q=>∃p ys,xs=[.ref p]/\H p=some (.lst ys)/\∀l H',H l=none->FzT H' l ys->Kp [] H H'->Q (.ref l) H'
theorem call_tupleF:jcv X (.type "tuple") jqz:=by
 intro pins s σ H xs us Q I r h
 obtain⟨p,ys,rfl,e,q⟩:=h
 obtain⟨u,rfl,rx⟩:=jc9 r
 cases rx
 obtain⟨its,r',pl,hz⟩:=I.list (SqL.of e)
 have hlen:=r'.length
 refine call_tuple_list pl.isList (λh' kp=>?_) (by simp only[Al] <;> omega)
 have I1:Inv X pins σ H {s with heap:=h'}:=I.kept (t':=s.toks) kp
 have I2:=I1.laid (t':=s.toks) (o:=.frz {cls:=.type "tuple",data:=.seq its.toArray} (.tup ys)) (h':=h'.push {cls:=.type "tuple",data:=.seq its.toArray}) (λb o e=>Ad _ e) (Ah _)
  (show ObjOk X.prog X.w _ _ _ (.frz _ (.tup ys))from⟨An _ rfl,hz,its,r',IsTup.new _ _⟩)
 have hf:=I1.hok.fresh (Ah h'.objs.size)
 exact⟨.ref h'.objs.size,_,I2,rfl,q _ _ hf ⟨_,rfl,je⟩ ((Kp.refl [] H).new hf)⟩
theorem jey{pins:List (Addr×Obj)}{σ:St}{H:Hp}{s:Shared}{a:Addr}{xs:List V}{ds:List PyData}(I:Inv X pins σ H s)(h:SqT X.K H a xs)(r:Reps H xs ds):∃as,Reads s.heap (.ref a) (.tuple ds) as:=by
 obtain⟨its,rv,⟨o,e1,e2,n,e4⟩,hz⟩:=I.tuple h
 obtain⟨as,q⟩:=Reps.reads I r rv
 exact⟨_,reads_tuple_at e1 e2 e4 (by simpa using q)⟩
def rEqT(K:PySem.W.Frag):R2:=λx y H Q=>∃a b xs ys ds es,x=.ref a/\y=.ref b/\SqT K H a xs/\SqT K H b ys/\Reps H xs ds/\Reps H ys es/\SeqAt.shaped (.tuple ds)=true/\SeqAt.shaped (.tuple es)=true/\Q (.bl (PyData.eqvAll ds es)) H
theorem jbw{K:PySem.W.Frag}(hK:X.K=K)(hu:X.A.units+64<cLine):OpR X (compareOp .Eq) (rEqT K):=by
 subst hK
 intro pins s σ H x y v u Q I rx ry h
 obtain⟨a,b,xs,ys,ds,es,rfl,rfl,h1,h2,r1,r2,s1,s2,q⟩:=h
 cases rx
 cases ry
 obtain⟨as,r1⟩:=jey I h1 r1
 obtain⟨bs,r2⟩:=jey I h2 r2
 exact eq_dataH r1 r2 s1 s2 hu ⟨.bl _,H,I,rfl,by simpa[PyData.eqv]using q⟩
end
theorem jo7{K:PySem.W.Frag}{a:Addr}{xs:List V}{g:TG}{tb:TS}{D:Ends}{σ:L2.St}{H:Hp}(Pv:Nat->L2.St->Hp->Prop)(h0:Pv 0 σ H)(hl:∀i σ H,i<=xs.length->Pv i σ H->SqT K H a xs)
  (hs:∀i x σ H T,xs[i]?=some x->Pv i σ H->H T=none->g (.ref T) σ (upd H T (.tup [.int (i:Int),x])) λσ2 H2=>tb {D with nx:=Pv (i+1),ct:=Pv (i+1),bk:=D.nx} σ2 H2) (hd:∀σ H,Pv xs.length σ H->D.nx σ H):jc8 (ItE K a) g tb D σ H:=by
 refine⟨λi m σ H=>m=xs.length-i/\i<=xs.length/\Pv i σ H,⟨xs.length,by simp,A8 _,h0⟩,?_⟩
 rintro i m σ H ⟨rfl,hi,p⟩
 have q:=hl i σ H hi p
 rcases Nat.lt_or_ge i xs.length with hlt|hge
 ·refine .inr ⟨⟨xs,xs[i],q,by simp[hlt]⟩,Pv (i+1),λσ' H' p'=>⟨xs.length-(i+1),by omega,rfl,hlt,p'⟩,λx H' y=>?_⟩
  obtain⟨T,y',hT,e1,hy,e2⟩:=y
  subst e1 e2
  exact hs i y' σ H T (hy xs q) p hT
 ·obtain rfl:i=xs.length:=by omega
  exact .inl ⟨⟨xs,q,rfl⟩,hd σ H p⟩
section
variable{X:Cx}
def Mono(t:TE):Prop:=∀σ H (Q Q':VK),(∀v H',Q v H'->Q' v H')->t σ H Q->t σ H Q'
theorem jdm(i:Nat):Mono (tVar i):=jcl
end
section
variable{X:Cx}
def jqy:R2:=λx y H Q=>∃(a:Addr)(ys:List V)(ds:List PyData)(d:PyData),y=.ref a/\H a=some (.lst ys)/\Reps H ys ds/\Rep H x d/\PyData.canLayAll0 ds=true/\d.canLay0=true/\PyData.depthAll ds<=40/\Q (.bl (!ds.any λe=>PyData.eqv e d)) H
theorem op_notinL(hu:X.A.units+64<cLine):OpR X (compareOp .NotIn) jqy:=by
 intro pins s σ H x y v u Q I rx ry h
 obtain⟨a,ys,ds,d,rfl,e,hl,hp,c1,c2,c3,q⟩:=h
 have hy:Rep H (.ref a) (.list ds):=by
  simp only[Rep]
  exact⟨a,ys,rfl,e,hl⟩
 obtain⟨as,r1⟩:=hp.reads I rx
 obtain⟨bs,r2⟩:=hy.reads I ry
 exact SeqAt.notIn_list_reads r2 r1 c1 c2 (by omega) ⟨.bl _,H,I,rfl,q⟩
end
section
variable{X:Cx}{K:PySem.W.Frag}{o e value:Expr}{f:Str}{pos pos' tpos:Pos}{ta tv:TE}
theorem ke(hK:X.K=K)(he:QE X e ta)(hb:attributeBase e f X.env (eval e X.env)=eval e X.env:=by rfl):QE X (.Attribute e f pos) (tFld K ta f):=by subst hK;exact⟨pe_fld he.h hb⟩
theorem z8(hK:X.K=K)(ha:QE X o ta)(hv:QE X value tv)(hs:swapsWith value (some (.Attribute o f pos')) pos.line X.env=pure false:=by rfl):QS X (.Assign [.Attribute o f pos'] value pos) (sFld K ta tv f):=by subst hK;exact⟨ps_fld ha.h hv.h hs⟩
theorem jbe{op:Operator}{rd:V->V->Hp->VK->Prop}(hK:X.K=K)(ha:QE X o ta)(hv:QE X value tv)(hop:InOp X op rd):QS X (.AugAssign (.Attribute o f tpos) op value pos) (jft K ta tv rd f):=by subst hK;exact⟨ps_fldaug ha.h hv.h hop⟩
end
section
variable{X:Cx}{CX:CXT}{k:Nat}{f C:Addr}{fd:FuncData}{ps:List Str}{sp:Sp}{dvs:List V}{ds:List Value}{E:XK}{x m:Str}{p pos apos:Pos}{e o:Expr}{es:List Expr}{ta:TE}{t:TA}
theorem yq{pl:Sem Bool}(he:QE X o ta)(c:Cls X.K C)(hm:Meth X.K C m f)(F:FnOk X.prog X.w X.K X.mg X.base CX k f fd ps sp)(hr:Room k X.A)(hb:Binds X.K fd ps ds)(hd:Vals dvs ds)(hx:jdl CX X E)(ha:QA X (e::es) t)
  (hst:starEach (e::es) X.env=(false,eval e X.env)::starEach es X.env:=by rfl) (hpl:(backTo pos (starEach es X.env)).any (·.1)=false:=by rfl)
  (ht:eval (.Call (.Attribute o m apos) (e::es) [] pos) X.env=(do
   let ov <-eval o X.env
   standAt apos.atName
   let(f,first) <-holding [ov] (getMethod ov m pl)
   callWith pos f first (backTo pos (starEach (e::es) X.env)) (backToKw pos (keywordEach [] X.env))):=by rfl) :
  QE X (.Call (.Attribute o m apos) (e::es) [] pos) (jjk C m sp dvs E ta t):=⟨pe_meth he.h c hm F hr hb hd hx ha.h hst hpl ht⟩
theorem qpe_make0(M:Mk X.K C f)(F:FnOk X.prog X.w X.K X.mg X.base CX k f fd ps sp)(hr:Room (k+1) X.A)(hg:Gl X x)(hm:X.mg x=some (.ref C))(hb:Binds X.K fd ps ds)(hd:Vals dvs ds)(hx:jdl CX X E)
  (hdb:(x == ("__debug__":Str))=false:=by decide):QE X (.Call (.Name x p) [] [] pos) (jjj C sp dvs E tNil):=⟨pe_make0 M F hr hg hm hb hd hx hdb⟩
end
theorem jc5{K:PySem.W.Frag}{a:TE}{f:Str}(ha:Mono a):Mono (tFld K a f):=λσ H Q Q' h q=>ha σ H _ _ (λx H1 ⟨a,C,dx,fs,v,e1,e2,e3,e4,e5,q1⟩=>⟨a,C,dx,fs,v,e1,e2,e3,e4,e5,h _ _ q1⟩) q
section
variable{X:Cx}
def jm9(P:Program)(w:World)(K:PySem.W.Frag)(ty td:TE):TE:=λσ H Q=>ty σ H λy H1=>td σ H1 λx H2=>∃a kvs k,x=.ref a/\KDict P w K a kvs/\(a == sysModules)=false/\y=kV k/\Q (.bl ((valV kvs k).isSome)) H2
theorem jb0{P:Program}{w:World}{K:PySem.W.Frag}(hP:X.prog=P)(hw:X.w=w)(hK:X.K=K){i o:Expr}{ty td:TE}(hi:QE X i ty)(ho:QE X o td):QC X .In i o (jm9 P w K ty td):=by
 subst hP;subst hw;subst hK
 refine⟨λpins s σ H Q I h=>?_⟩
 refine thn (hi.h pins s σ H _ I h) λiv s1 ⟨y,H1,I1,ry,q1⟩=>thn (ho.h pins s1 σ H1 _ I1 q1) λu s2 ⟨x,H2,I2,rx,a,kvs,k,ex,D,hs,ey,q2⟩=>?_
 subst ex
 subst ey
 obtain rfl:u=Value.ref a:=rx
 obtain⟨vs,rel,dd⟩:=D _ I2.kIn
 refine wpAny_in_of (jfr ry) hs dd.mapOf ?_
 rw[<-(rel.val k).isSome_eq]
 exact⟨.bl _,H2,I2.tok _,rfl,q2⟩
end
section
variable{X:Cx}
def rNeT(K:PySem.W.Frag):R2:=λx y H Q=>∃a b xs ys ds es,x=.ref a/\y=.ref b/\SqT K H a xs/\SqT K H b ys/\Reps H xs ds/\Reps H ys es/\SeqAt.shaped (.tuple ds)=true/\SeqAt.shaped (.tuple es)=true/\Q (.bl (!PyData.eqvAll ds es)) H
theorem jb9{K:PySem.W.Frag}(hK:X.K=K)(hu:X.A.units+64<cLine):OpR X (compareOp .NotEq) (rNeT K):=by
 subst hK
 intro pins s σ H x y v u Q I rx ry h
 obtain⟨a,b,xs,ys,ds,es,rfl,rfl,h1,h2,r1,r2,s1,s2,q⟩:=h
 cases rx
 cases ry
 obtain⟨as,r1⟩:=jey I h1 r1
 obtain⟨bs,r2⟩:=jey I h2 r2
 exact ne_dataH r1 r2 s1 s2 hu ⟨.bl _,H,I,rfl,by simpa[PyData.eqv]using q⟩
end
section
variable{X:Cx}
def jhx:V->List V->Hp->VK->Prop:=λx vs H Q=>match x,vs with
 |.str z,[.str y]=>∃c,y=⟨#[c]⟩/\Q (.int (Txt.count z ⟨#[c]⟩)) H
 |_,_=>False
theorem jf2(z y:Str)(H:Hp)(Q:VK):jhx (.str z) [.str y] H Q=(∃c,y=⟨#[c]⟩/\Q (.int (Txt.count z ⟨#[c]⟩)) H):=rfl
theorem jbp:MtM X "str.count" jhx:=by
 intro pins s σ H x vs v us Q I rx rv h
 unfold jhx at h
 split at h
 ·rename_i z y
  obtain⟨c,rfl,q⟩:=h
  obtain⟨t,rfl⟩:=rx
  obtain⟨u,rfl,⟨t',rfl⟩⟩:=rv.one
  refine call_gives Wo (typeIs_str s z t) PySem.F.entry_str_count (PySem.F.args_str_count_2 _ _) (gives_str_count z _ t t') ?_
  exact⟨.int _,H,I.tok _,⟨_,rfl⟩,q⟩
 ·exact h.elim
end
end L2
namespace My
open PySem
def toS(l:List Nat):Str:=⟨l.toArray⟩
theorem jq8(l:List Nat)(c:Nat):toS l++(⟨#[c]⟩:Str)=toS (l++[c]):=by
 show(⟨l.toArray++#[c]⟩:Str)=⟨(l++[c]).toArray⟩
 simp
theorem jh3(l:List Nat):(toS l).length=l.length:=by simp[toS,Str.length]
end My
namespace My
open PySem L2 PyProof.Rows
def sg(z:Str):List Nat:=z.cps.toList
theorem jcq(z:Str):(sg z).length=z.length:=by simp[sg,Str.length]
theorem jr5(x y:Str):sg (x++y)=sg x++sg y:=by simp[sg,Str.cps_append]
theorem jr6{x y:Str}(h:sg x=sg y):x=y:=by
 cases x;cases y
 simp only[sg]at h
 rw[Array.toList_inj.mp h]
theorem jpx:∀l:List Str,sg (Str.join ⟨#[]⟩ l)=(l.map sg).flatten
 |[]=>rfl
 |x::l=>by rw[join_nil_cons,jr5,jpx l];rfl
theorem jsj(l:List Str):sg (Txt.join (Str.ofString "") l)=(l.map sg).flatten:=by
 have e0:(Str.ofString "")=(⟨#[]⟩:Str):=by decide +kernel
 have e:=eq_of_beq (join_plain_closes ⟨#[]⟩ l)
 rw[e0,e,jpx]
def tx(T:List Str)(i:Nat):Str:=(T[i]?).getD ⟨#[]⟩
def pcL(T:List Str):V->List Nat
 |.str s=>sg s
 |.int i=>sg (tx T i.toNat)
 |_=>[]
def cat(T:List Str)(l:List V):List Nat:=(l.map (pcL T)).flatten
theorem jdy(T:List Str)(a b:List V):cat T (a++b)=cat T a++cat T b:=by simp[cat]
def isPc(n:Nat)(x:V):Prop:=(∃s,x=.str s)\/∃i:Nat,x=.int (i:Int)/\i<n
theorem jo6(T:List Str)(l:List V):(cat T l).length=(l.map λx=>(pcL T x).length).sum:=by
 simp[cat,List.length_flatten,O5]
 rfl
theorem isPc.mono{m n:Nat}{x:V}(h:isPc m x)(k:m<=n):isPc n x:=by
 rcases h with h|⟨i,e,hi⟩
 ·exact .inl h
 ·exact .inr ⟨i,e,by omega⟩
theorem jlx{α:Type}{xs:List α}{x:α}(h:xs[xs.length-1]?=some x):xs=xs.dropLast++[x]:=by
 have hne:xs≠[]:=by rintro rfl;simp at h
 have e:=List.dropLast_concat_getLast hne
 have e2:xs.getLast hne=x:=by
  rw[List.getLast_eq_getElem hne]
  have:=(Aj.mp h).2
  exact this
 rw[<-e2,e]
theorem jni{α:Type}{xs:List α}{v:α}(h:xs[xs.length-1]?=some v):atI xs (-1)=some v:=by
 rw[jlx h]
 exact jf5 _ _
theorem jlg(T:List Str):∀(l:List V)(x:V),x∈l->(pcL T x).length<=(cat T l).length
 |[],x,h=>nomatch h
 |y::l,x,h=>by
  have e:cat T (y::l)=pcL T y++cat T l:=by simp[cat]
  rw[e,Ax]
  rcases Aw.mp h with rfl|h
  ·omega
  ·have:=jlg T l x h
   omega
theorem jma:∀l:List Nat,(l.map λn:Nat=>(n:Int)).sum=((l.sum:Nat):Int)
 |[]=>rfl
 |x::l=>by simp[jma l]
inductive BW where
 |or|and|beh
inductive RE where
 |nothing|blank|letter (a:Str)|no (i:Nat)|bin (w:BW) (i j:Nat)
def ew:BW->Str
 |.or=>"or"
 |.and=>"and"
 |.beh=>"behind"
def jcf:RE->List V
 |.nothing=>[.str "nothing"]
 |.blank=>[.str "blank"]
 |.letter a=>[.str "letter",.str a]
 |.no i=>[.str "not",.int (i:Int)]
 |.bin w i j=>[.str (ew w),.int (i:Int),.int (j:Int)]
def RE.ok(k:Nat):RE->Prop
 |.nothing=>True
 |.blank=>True
 |.letter a=>a.length=1
 |.no i=>i<k
 |.bin _ i j=>i<k/\j<k
end My
namespace My
open PySem L2
abbrev Row:=List L2.Key
def mapR(g:Nat->Nat):L2.Key->L2.Key
 |.inl i=>.inl (g i.toNat:Nat)
 |.inr s=>.inr s
def ptK:L2.Key->Option Nat
 |.inl i=>some i.toNat
 |.inr _=>none
def wpR(g:Nat->Nat)(r:Row):Row:=r.map (mapR g)
def ptR(r:Row):List Nat:=r.filterMap ptK
def RowOk(k:Nat)(r:Row):Prop:=∀i:Int,(Sum.inl i:L2.Key)∈r->0<=i/\i<k
theorem jfa(g:Nat->Nat):∀r,ptR (wpR g r)=(ptR r).map g
 |[]=>rfl
 |.inl i::r=>by
  have:=jfa g r
  simp only[ptR,wpR,Ay,List.filterMap_cons,mapR,ptK]at this⊢
  rw[this];simp
 |.inr s::r=>by
  have:=jfa g r
  simp only[ptR,wpR,Ay,List.filterMap_cons,mapR,ptK]at this⊢
  rw[this]
theorem jcw{k:Nat}{r:Row}(h:RowOk k r){p:Nat}(hp:p∈ptR r):p<k:=by
 obtain⟨x,hx,e⟩:=U2.mp hp
 cases x with
 |inl i=>simp[ptK]at e;have:=h i hx;omega
 |inr s=>simp[ptK]at e
theorem jhw{r:Row}{i:Int}(h:(Sum.inl i:L2.Key)∈r):i.toNat∈ptR r:=U2.mpr ⟨_,h,rfl⟩
theorem jcz{g g':Nat->Nat}{r:Row}(h:∀p∈ptR r,g p=g' p):wpR g r=wpR g' r:=by
 refine Iw λx hx=>?_
 cases x with
 |inl i=>simp only[mapR];rw[h _ (jhw hx)]
 |inr s=>rfl
theorem jdq(g g':Nat->Nat)(r:Row):wpR g (wpR g' r)=wpR (λx=>g (g' x)) r:=by
 unfold wpR
 rw[O5]
 refine Iw λx _=>?_
 cases x <;> simp[mapR]
theorem jsd{g:Nat->Nat}{k:Nat}{r:Row}(h:∀p∈ptR r,g p<k):RowOk k (wpR g r):=λi hi=>by
 obtain⟨x,hx,e⟩:=A4.mp hi
 cases x with
 |inl j=>simp only[mapR,Sum.inl.injEq]at e;have:=h _ (jhw hx);omega
 |inr s=>simp[mapR]at e
def wkF(C:Nat->List Nat):Nat->Nat->List Nat->List Nat
 |0,v,cm=>cm++[v]
 |f+1,v,cm=>(C v).foldl (λcm p=>if p∈cm then cm else wkF C f p cm) cm++[v]
def wk(C:Nat->List Nat)(v:Nat)(cm:List Nat):List Nat:=wkF C v v cm
def Dn(C:Nat->List Nat)(n:Nat):Prop:=∀v,v<n->∀p∈C v,p<v
def stp(C:Nat->List Nat)(cm:List Nat)(p:Nat):List Nat:=if p∈cm then cm else wk C p cm
theorem jk5{C:Nat->List Nat}{n:Nat}(d:Dn C n):∀(f f' v:Nat)(cm:List Nat),v<n->v<=f->v<=f'->wkF C f v cm=wkF C f' v cm:=by
 have z:∀f cm,0<n->wkF C f 0 cm=cm++[0]:=λf cm hn=>by
  cases f with
  |zero=>rfl
  |succ f =>
   have:C 0=[]:=by
    cases h:C 0 with
    |nil=>rfl
    |cons p t=>exact absurd (d 0 hn p (by rw[h];exact .head _)) (by omega)
   simp[wkF,this]
 intro f
 induction f with
 |zero =>
  intro f' v cm h1 h2 _
  obtain rfl:v=0:=by omega
  rw[z _ _ h1,z _ _ h1]
 |succ f ih =>
  intro f' v cm h1 h2 h3
  cases f' with
  |zero =>
   obtain rfl:v=0:=by omega
   rw[z _ _ h1,z _ _ h1]
  |succ f' =>
   simp only[wkF]
   congr 1
   have go:∀ps:List Nat,(∀p∈ps,p<v)->∀cm,ps.foldl (λcm p=>if p∈cm then cm else wkF C f p cm) cm=ps.foldl (λcm p=>if p∈cm then cm else wkF C f' p cm) cm:=by
    intro ps
    induction ps with
    |nil=>intro _ _;rfl
    |cons p ps ihp =>
     intro hp cm
     have:=hp p (.head _)
     rw[List.foldl_cons,List.foldl_cons,ih f' p cm (by omega) (by omega) (by omega)]
     exact ihp (λq hq=>hp q (.tail _ hq)) _
   exact go _ (d v h1) cm
theorem jdo{C:Nat->List Nat}{n:Nat}(d:Dn C n){v:Nat}(hv:v<n)(cm:List Nat):wk C v cm=(C v).foldl (stp C) cm++[v]:=by
 have e:wk C v cm=wkF C (v+1) v cm:=jk5 d _ _ _ _ hv (Ah _) (by omega)
 rw[e]
 simp only[wkF]
 congr 1
 have go:∀ps:List Nat,(∀p∈ps,p<v)->∀cm,ps.foldl (λcm p=>if p∈cm then cm else wkF C v p cm) cm=ps.foldl (stp C) cm:=by
  intro ps
  induction ps with
  |nil=>intro _ _;rfl
  |cons p ps ihp =>
   intro hp cm
   have:=hp p (.head _)
   rw[List.foldl_cons,List.foldl_cons]
   have:(if p∈cm then cm else wkF C v p cm)=stp C cm p:=by
    unfold stp wk
    rw[jk5 d v p p cm (by omega) (by omega) (Ah _)]
   rw[this]
   exact ihp (λq hq=>hp q (.tail _ hq)) _
 exact go _ (d v hv) cm
theorem jdb{C:Nat->List Nat}{P:List Nat->Prop}:∀{ps:List Nat}{cm:List Nat},P cm->(∀p∈ps,∀cm,P cm->p∉cm->P (wk C p cm))->P (ps.foldl (stp C) cm)
 |[],_,h,_=>h
 |p::ps,cm,h,st=>by
  rw[List.foldl_cons]
  refine jdb ?_ λq hq=>st q (.tail _ hq)
  unfold stp
  split
  ·exact h
  ·exact st p (.head _) cm h (by assumption)
theorem jhk{C:Nat->List Nat}{n:Nat}(d:Dn C n):∀(v:Nat),v<n->∀cm,∃t,wk C v cm=cm++t++[v]:=by
 intro v
 induction v using Nat.strongRecOn with
 |_ v ih =>
  intro hv cm
  rw[jdo d hv]
  obtain⟨t,e⟩:∃t,(C v).foldl (stp C) cm=cm++t:=by
   refine jdb (P:=λl=>∃t,l=cm++t) ⟨[],by simp⟩ λp hp l ⟨t,e⟩ _=>?_
   have:=d v hv p hp
   obtain⟨t',e'⟩:=ih p this (by omega) l
   exact⟨t++t'++[p],by rw[e',e];simp⟩
  exact⟨t,by rw[e]⟩
theorem jme{C:Nat->List Nat}{n:Nat}(d:Dn C n){v:Nat}(hv:v<n){cm:List Nat}{x:Nat}(h:x∈cm):x∈wk C v cm:=by
 obtain⟨t,e⟩:=jhk d v hv cm
 rw[e];simp[h]
theorem jh6{C:Nat->List Nat}{n:Nat}(d:Dn C n){v:Nat}(hv:v<n)(cm:List Nat):v∈wk C v cm:=by
 obtain⟨t,e⟩:=jhk d v hv cm
 rw[e];simp
theorem jnf{C:Nat->List Nat}{n:Nat}(d:Dn C n):∀(v:Nat),v<n->∀cm,∀x∈wk C v cm,x∈cm\/x<=v:=by
 intro v
 induction v using Nat.strongRecOn with
 |_ v ih =>
  intro hv cm x hx
  rw[jdo d hv]at hx
  rcases A6.mp hx with h|h
  ·have:∀x∈(C v).foldl (stp C) cm,x∈cm\/x<=v:=by
    refine jdb (P:=λl=>∀x∈l,x∈cm\/x<=v) (λx hx=>.inl hx) λp hp l hl _ x hx=>?_
    have hp':=d v hv p hp
    rcases ih p hp' (by omega) l x hx with h|h
    ·exact hl x h
    ·exact .inr (by omega)
   exact this x h
  ·exact .inr (by simp at h;omega)
theorem jpn{C:Nat->List Nat}{n:Nat}(d:Dn C n):∀(v:Nat),v<n->∀cm,cm.Nodup->v∉cm->(wk C v cm).Nodup:=by
 intro v
 induction v using Nat.strongRecOn with
 |_ v ih =>
  intro hv cm nd nv
  rw[jdo d hv]
  have:((C v).foldl (stp C) cm).Nodup/\v∉(C v).foldl (stp C) cm:=by
   refine jdb (P:=λl=>l.Nodup/\v∉l) ⟨nd,nv⟩ λp hp l ⟨h1,h2⟩ np=>?_
   have hp':=d v hv p hp
   refine⟨ih p hp' (by omega) l h1 np,λh=>?_⟩
   rcases jnf d p (by omega) l v h with h|h
   ·exact h2 h
   ·omega
  rw[Ox]
  exact⟨this.1,by simp,λa ha b hb e=>this.2 ((e.trans (Ag.mp hb))▸ha)⟩
theorem jep{C:Nat->List Nat}{n:Nat}(d:Dn C n):∀{ps:List Nat}(cm:List Nat),(∀p∈ps,p<n)->∀x,x∈cm\/x∈ps->x∈ps.foldl (stp C) cm
 |[],cm,_,x,h=>by simpa using h
 |p::ps,cm,hp,x,h=>by
  rw[List.foldl_cons]
  refine jep d _ (λq hq=>hp q (.tail _ hq)) x ?_
  have pn:=hp p (.head _)
  have m:∀y,y∈cm\/y=p->y∈stp C cm p:=λy hy=>by
   unfold stp
   split
   ·rcases hy with h|rfl <;> assumption
   ·rcases hy with h|rfl
    ·exact jme d pn h
    ·exact jh6 d pn cm
  rcases h with h|h
  ·exact .inl (m x (.inl h))
  ·rcases Aw.mp h with rfl|h
   ·exact .inl (m x (.inr rfl))
   ·exact .inr h
def Cl(C:Nat->List Nat)(l:List Nat):Prop:=∀(i x:Nat),l[i]?=some x->∀p∈C x,p∈l.take i
theorem Cl.snoc{C:Nat->List Nat}{l:List Nat}{v:Nat}(h:Cl C l)(hv:∀p∈C v,p∈l):Cl C (l++[v]):=λi x e p hp=>by
 rcases Nat.lt_trichotomy i l.length with hi|hi|hi
 ·rw[A1 hi]at e
  rw[List.take_append_of_le_length (by omega)]
  exact h i x e p hp
 ·subst hi
  simp at e
  subst e
  rw[List.take_append_of_le_length (Ah _),List.take_length]
  exact hv p hp
 ·rw[Oh (by simp;omega)]at e
  cases e
theorem jss{C:Nat->List Nat}{n:Nat}(d:Dn C n):∀(v:Nat),v<n->∀cm,Cl C cm->Cl C (wk C v cm):=by
 intro v
 induction v using Nat.strongRecOn with
 |_ v ih =>
  intro hv cm cl
  rw[jdo d hv]
  refine Cl.snoc ?_ λp hp=>jep d cm (λq hq=>by have:=d v hv q hq;omega) p (.inr hp)
  exact jdb (P:=Cl C) cl λp hp l hl _=>by
   have hp':=d v hv p hp
   exact ih p hp' (by omega) l hl
inductive Rch (C:Nat->List Nat) (v:Nat):Nat->Prop
 |refl:Rch C v v
 |step {x p:Nat}:Rch C v x->p∈C x->Rch C v p
theorem Rch.trans{C:Nat->List Nat}{v x y:Nat}(h:Rch C v x)(h':Rch C x y):Rch C v y:=by
 induction h' with
 |refl=>exact h
 |step _ hp ih=>exact .step ih hp
theorem jsc{C:Nat->List Nat}{n:Nat}(d:Dn C n):∀(v:Nat),v<n->∀cm,∀x∈wk C v cm,x∈cm\/Rch C v x:=by
 intro v
 induction v using Nat.strongRecOn with
 |_ v ih =>
  intro hv cm x hx
  rw[jdo d hv]at hx
  rcases A6.mp hx with h|h
  ·have:∀x∈(C v).foldl (stp C) cm,x∈cm\/Rch C v x:=by
    refine jdb (P:=λl=>∀x∈l,x∈cm\/Rch C v x) (λx hx=>.inl hx) λp hp l hl _ x hx=>?_
    have hp':=d v hv p hp
    rcases ih p hp' (by omega) l x hx with h|h
    ·exact hl x h
    ·exact .inr (Rch.trans (.step .refl hp) h)
   exact this x h
  ·simp at h;subst h;exact .inr .refl
theorem jic{C:Nat->List Nat}{n:Nat}(d:Dn C n){p:Nat}:∀{ps rest:List Nat}{cm:List Nat},(∀q∈ps,q<n)->ps.filter (λq=>!decide (q∈cm))=p::rest->ps.foldl (stp C) (wk C p cm)=ps.foldl (stp C) cm
 |[],_,_,_,h=>by simp at h
 |q::ps,rest,cm,hp,h=>by
  rw[Wr]at h
  by_cases hq:q∈cm
  ·simp[hq]at h
   have pn:p<n:=hp p (.tail _ (Wu.mp (show p∈ps.filter (λq=>!decide (q∈cm))by rw[show ps.filter (λq=>!decide (q∈cm))=p::rest by simpa using h];exact .head _)).1)
   rw[List.foldl_cons,List.foldl_cons]
   have e1:stp C cm q=cm:=Ak hq
   have e2:stp C (wk C p cm) q=wk C p cm:=Ak (jme d pn hq)
   rw[e1,e2]
   exact jic d (λr hr=>hp r (.tail _ hr)) (by simpa using h)
  ·simp[hq]at h
   obtain⟨rfl,_⟩:=h
   have pn:q<n:=hp q (.head _)
   rw[List.foldl_cons,List.foldl_cons]
   have e1:stp C cm q=wk C q cm:=Ae hq
   have e2:stp C (wk C q cm) q=wk C q cm:=Ak (jh6 d pn cm)
   rw[e1,e2]
theorem je3{C:Nat->List Nat}:∀{ps:List Nat}{cm:List Nat},ps.filter (λq=>!decide (q∈cm))=[]->ps.foldl (stp C) cm=cm
 |[],_,_=>rfl
 |q::ps,cm,h=>by
  rw[Wr]at h
  by_cases hq:q∈cm
  ·simp[hq]at h
   rw[List.foldl_cons,show stp C cm q=cm from Ak hq]
   exact je3 (by simpa using h)
  ·simp[hq]at h
theorem jrb{C:Nat->List Nat}{n:Nat}(d:Dn C n){v p:Nat}{rest cm:List Nat}(hv:v<n)(h:(C v).filter (λq=>!decide (q∈cm))=p::rest):wk C v (wk C p cm)=wk C v cm:=by
 rw[jdo d hv,jdo d hv,jic d (λq hq=>by have:=d v hv q hq;omega) h]
theorem jrc{C:Nat->List Nat}{n:Nat}(d:Dn C n){v:Nat}{cm:List Nat}(hv:v<n)(h:(C v).filter (λq=>!decide (q∈cm))=[]):wk C v cm=cm++[v]:=by
 rw[jdo d hv,je3 h]
theorem jsb{C C':Nat->List Nat}{n n':Nat}(d:Dn C n)(d':Dn C' n'){g:Nat->Nat}{S:Nat->Prop}(inj:∀x y,S x->S y->g x=g y->x=y)(hS:∀x,S x->x<n/\g x<n'/\C' (g x)=(C x).map g/\∀p∈C x,S p) :
  ∀(v:Nat),S v->∀cm,(∀x∈cm,S x)->wk C' (g v) (cm.map g)=(wk C v cm).map g/\∀x∈wk C v cm,S x:=by
 intro v
 induction v using Nat.strongRecOn with
 |_ v ih =>
  intro sv cm sc
  obtain⟨vn,gn,ce,cs⟩:=hS v sv
  rw[jdo d vn,jdo d' gn,ce]
  have go:∀ps:List Nat,(∀p∈ps,p<v/\S p)->∀cm,(∀x∈cm,S x)->(ps.map g).foldl (stp C') (cm.map g)=(ps.foldl (stp C) cm).map g/\∀x∈ps.foldl (stp C) cm,S x:=by
   intro ps
   induction ps with
   |nil=>intro _ cm sc;exact⟨rfl,sc⟩
   |cons p ps ihp =>
    intro hp cm sc
    obtain⟨h1,h2⟩:=hp p (.head _)
    have st:stp C' (cm.map g) (g p)=(stp C cm p).map g/\∀x∈stp C cm p,S x:=by
     unfold stp
     by_cases hm:p∈cm
     ·rw[Ak hm,Ak (A4.mpr ⟨p,hm,rfl⟩)]
      exact⟨rfl,sc⟩
     ·rw[Ae hm,Ae (λh=>by
       obtain⟨q,hq,e⟩:=A4.mp h
       exact hm (inj q p (sc q hq) h2 e▸hq))]
      exact ih p h1 h2 cm sc
    rw[Ay,List.foldl_cons,List.foldl_cons,st.1]
    exact ihp (λq hq=>hp q (.tail _ hq)) _ st.2
  obtain⟨e,f⟩:=go (C v) (λp hp=>⟨d v vn p hp,cs p hp⟩) cm sc
  rw[e]
  refine⟨by simp,λx hx=>?_⟩
  rcases A6.mp hx with h|h
  ·exact f x h
  ·simp at h;subst h;exact sv
theorem jam{l:List Nat}{x:Nat}(h:x∈l):l[l.idxOf x]?=some x:=by
 rw[Ai (Ut h),List.getElem_idxOf]
theorem jpz{α:Type}{l:List α}(nd:l.Nodup){i j:Nat}{x:α}(hi:l[i]?=some x)(hj:l[j]?=some x):i=j:=by
 have h1:=(Aj.mp hi).1
 exact(List.getElem?_inj h1 nd).mp (hi.trans hj.symm)
theorem jcc{l:List Nat}(nd:l.Nodup){i x:Nat}(h:l[i]?=some x):l.idxOf x=i:=jpz nd (jam (A5 h)) h
theorem ix_inj{l:List Nat}{x y:Nat}(hx:x∈l)(hy:y∈l)(e:l.idxOf x=l.idxOf y):x=y:=by
 have a:=jam hx
 rw[e,jam hy]at a
 exact(Av a).symm
theorem ix_take{l:List Nat}{x k:Nat}(h:x∈l.take k):l.idxOf x<k:=by
 have e:l.idxOf x=(l.take k).idxOf x:=by
  conv=>lhs;rw[<-Uq k l]
  rw[List.idxOf_append,Ak h]
 have:=Ut h
 rw[Om]at this
 omega
theorem jab{l m:List Nat}{x:Nat}(h:x∈l):(l++m).idxOf x=l.idxOf x:=by
 rw[List.idxOf_append,Ak h]
def RwA(R:List Row)(h:Nat->Nat)(i:Nat):Row:=wpR h (R.getD i [])
def OkR(R:List Row):Prop:=∀k r,R[k]?=some r->RowOk k r
theorem OkR.d{R:List Row}(ok:OkR R){i:Nat}(hi:i<R.length):RowOk i (R.getD i []):=ok i _ (by rw[Ac,Ai hi];rfl)
structure Hd(R:List Row)(h:Nat->Nat):Prop where
 le:∀i,i<R.length->h i<=i
 same:∀i,i<R.length->RwA R h (h i)=RwA R h i
 first:∀i,i<R.length->∀j,j<h i->RwA R h j≠RwA R h i
theorem Hd.of{R:List Row}{h:Nat->Nat}(H:Hd R h){i j:Nat}(hi:i<R.length)(hj:j<R.length)(e:RwA R h i=RwA R h j):h i=h j:=by
 rcases Nat.lt_trichotomy (h i) (h j)with l|l|l
 ·exact absurd ((H.same i hi).trans e) (H.first j hj _ l)
 ·exact l
 ·exact absurd ((H.same j hj).trans e.symm) (H.first i hi _ l)
theorem Hd.idem{R:List Row}{h:Nat->Nat}(H:Hd R h){i:Nat}(hi:i<R.length):h (h i)=h i:=H.of (by have:=H.le i hi;omega) hi (H.same i hi)
def chd(R:List Row)(h:Nat->Nat)(i:Nat):List Nat:=ptR (RwA R h i)
theorem jgp(R:List Row)(h:Nat->Nat)(i:Nat):chd R h i=(ptR (R.getD i [])).map h:=jfa h _
theorem jdu{R:List Row}{h:Nat->Nat}(ok:OkR R)(H:Hd R h):Dn (chd R h) R.length:=λv hv p hp=>by
 rw[jgp]at hp
 obtain⟨q,hq,rfl⟩:=A4.mp hp
 have h1:=jcw (ok.d hv) hq
 have:=H.le q (by omega)
 omega
def own(R:List Row)(i:Nat):List Nat:=ptR (R.getD i [])
theorem jr0{R:List Row}(ok:OkR R):Dn (own R) R.length:=λv hv p hp=>jcw (ok.d hv) hp
def ordR(R:List Row)(h:Nat->Nat):List Nat:=wk (chd R h) (h (R.length-1)) []
def tidR(R:List Row)(h:Nat->Nat):List Row:=(ordR R h).map λv=>wpR (λx=>(ordR R h).idxOf x) (RwA R h v)
structure Ord(R:List Row)(h:Nat->Nat)(dn:List Nat):Prop where
 nd:dn.Nodup
 cl:Cl (chd R h) dn
 lt:∀x∈dn,x<R.length
 hd:∀x∈dn,h x=x
 la:∃t,dn=t++[h (R.length-1)]
theorem jeh{R:List Row}{h:Nat->Nat}(ok:OkR R)(H:Hd R h)(n1:1<=R.length):Ord R h (ordR R h):=by
 have d:=jdu ok H
 have hr:h (R.length-1)<R.length:=by have:=H.le (R.length-1) (by omega);omega
 refine⟨jpn d _ hr [] W8 (by simp),jss d _ hr [] (λi x e=>by simp at e),λx hx=>?_,λx hx=>?_,?_⟩
 ·rcases jnf d _ hr [] x hx with h|h
  ·simp at h
  ·omega
 ·rcases jsc d _ hr [] x hx with h'|h'
  ·simp at h'
  ·cases h' with
   |refl=>exact H.idem (by omega)
   |step r hp =>
    rename_i y
    rw[jgp]at hp
    obtain⟨q,hq,rfl⟩:=A4.mp hp
    have yl:y<R.length:=by
     clear hp hq hx
     induction r with
     |refl=>exact hr
     |step _ hp ih=>have:=d _ ih _ hp;omega
    exact H.idem (by have:=jcw (ok.d yl) hq;omega)
 ·obtain⟨t,e⟩:=jhk d _ hr []
  exact⟨t,by unfold ordR;rw[e];simp⟩
def TidP(R F:List Row):Prop:=∃h,Hd R h/\F=tidR R h
section
variable{R:List Row}{h:Nat->Nat}
theorem jh2(R:List Row)(h:Nat->Nat):(tidR R h).length=(ordR R h).length:=by simp[tidR]
theorem jog{i v:Nat}(e:(ordR R h)[i]?=some v):(tidR R h)[i]?=some (wpR (λx=>(ordR R h).idxOf x) (RwA R h v)):=by simp[tidR,e]
theorem jr7(ok:OkR R)(H:Hd R h)(n1:1<=R.length):OkR (tidR R h):=λk r e=>by
 have O:=jeh ok H n1
 have hk:k<(ordR R h).length:=by rw[<-jh2];exact(Aj.mp e).1
 have ev:=Ai hk
 rw[jog ev]at e
 cases e
 exact jsd λp hp=>ix_take (O.cl k _ ev p hp)
theorem jil(g:Nat->Nat)(r:Row):∀i:Int,(Sum.inl i:L2.Key)∈wpR g r->0<=i:=λi hi=>by
 obtain⟨x,_,e⟩:=A4.mp hi
 cases x with
 |inl j=>simp only[mapR,Sum.inl.injEq]at e;omega
 |inr s=>simp[mapR]at e
theorem jrz(ok:OkR R)(H:Hd R h)(n1:1<=R.length){v:Nat}(hv:v∈ordR R h):∀p∈chd R h v,p∈ordR R h:=λp hp=>by
 have O:=jeh ok H n1
 exact W1 (O.cl _ v (jam hv) p hp)
theorem jpc(H:Hd R h){v:Nat}(hv:v<R.length)(hm:h v∈ordR R h):(tidR R h)[(ordR R h).idxOf (h v)]?=some (wpR (λx=>(ordR R h).idxOf (h x)) (R.getD v [])):=by
 rw[jog (jam hm),H.same v hv]
 unfold RwA
 rw[jdq]
theorem jj7(ok:OkR R)(H:Hd R h)(n1:1<=R.length):(ordR R h).idxOf (h (R.length-1))=(ordR R h).length-1/\1<=(ordR R h).length:=by
 have O:=jeh ok H n1
 obtain⟨t,e⟩:=O.la
 have l:(ordR R h).length=t.length+1:=by rw[e];simp
 refine⟨jcc O.nd ?_,by omega⟩
 rw[l,e]
 simp
end
theorem jfy{g k:Nat->Nat}:∀{r r':Row},wpR g r=wpR g r'->(∀p∈ptR r,∀q∈ptR r',g p=g q->k p=k q)->wpR k r=wpR k r'
 |[],[],_,_=>rfl
 |[],_::_,h,_=>by simp[wpR]at h
 |_::_,[],h,_=>by simp[wpR]at h
 |x::r,y::r',h,hk=>by
  simp only[wpR,Ay,W5]at h⊢
  have ih:wpR k r=wpR k r':=jfy (g:=g) h.2 λp hp q hq=>by
   refine hk p ?_ q ?_
   ·simp only[ptR,List.filterMap_cons]at hp⊢;cases ptK x <;> simp[hp]
   ·simp only[ptR,List.filterMap_cons]at hq⊢;cases ptK y <;> simp[hq]
  refine⟨?_,ih⟩
  cases x with
  |inl i =>
   cases y with
   |inl j =>
    have e:((g i.toNat:Nat):Int)=(g j.toNat:Nat):=Sum.inl.inj h.1
    have:=hk i.toNat (by simp[ptR,ptK]) j.toNat (by simp[ptR,ptK]) (by omega)
    simp only[mapR,this]
   |inr s=>cases h.1
  |inr s =>
   cases y with
   |inl j=>cases h.1
   |inr t=>cases h.1;rfl
structure Hom(R' R:List Row)(φ:Nat->Nat):Prop where
 lt:∀x,x<R'.length->φ x<R.length
 row:∀x,x<R'.length->wpR φ (R'.getD x [])=R.getD (φ x) []
section
variable{R' R:List Row}{φ h' h:Nat->Nat}
theorem Hom.rwa(m:Hom R' R φ){x:Nat}(hx:x<R'.length):RwA R h (φ x)=wpR (λy=>h (φ y)) (R'.getD x []):=by
 unfold RwA;rw[<-m.row x hx,jdq]
theorem Hom.iff(m:Hom R' R φ)(ok':OkR R')(H':Hd R' h')(H:Hd R h):∀n x y,x<n->y<n->x<R'.length->y<R'.length->(h' x=h' y↔h (φ x)=h (φ y)):=by
 intro n
 induction n with
 |zero=>intro x y hx;omega
 |succ n ih =>
  intro x y hx hy lx ly
  have px:∀p∈ptR (R'.getD x []),p<x:=λp hp=>jcw (ok'.d lx) hp
  have py:∀p∈ptR (R'.getD y []),p<y:=λp hp=>jcw (ok'.d ly) hp
  constructor
  ·intro e
   have e1:RwA R' h' x=RwA R' h' y:=by rw[<-H'.same x lx,<-H'.same y ly,e]
   refine H.of (m.lt x lx) (m.lt y ly) ?_
   rw[m.rwa lx,m.rwa ly]
   exact jfy (g:=h') e1 λp hp q hq e=>(ih p q (by have:=px p hp;omega) (by have:=py q hq;omega) (by have:=px p hp;omega) (by have:=py q hq;omega)).mp e
  ·intro e
   have e1:RwA R h (φ x)=RwA R h (φ y):=by rw[<-H.same _ (m.lt x lx),<-H.same _ (m.lt y ly),e]
   rw[m.rwa lx,m.rwa ly]at e1
   refine H'.of lx ly ?_
   exact jfy (g:=λy=>h (φ y)) e1 λp hp q hq e=>(ih p q (by have:=px p hp;omega) (by have:=py q hq;omega) (by have:=px p hp;omega) (by have:=py q hq;omega)).mpr e
theorem jb2{g:Nat->Nat}{S:Nat->Prop}(inj:∀x y,S x->S y->g x=g y->x=y):∀{l:List Nat}{x:Nat},(∀y∈l,S y)->S x->(l.map g).idxOf (g x)=l.idxOf x
 |[],_,_,_=>rfl
 |y::l,x,hs,sx=>by
  have ih:=jb2 inj (l:=l) (λz hz=>hs z (.tail _ hz)) sx
  rw[Ay,List.idxOf_cons,List.idxOf_cons,ih]
  by_cases c:y=x
  ·subst c;simp
  ·have c2:g y≠g x:=λe=>c (inj y x (hs y (.head _)) sx e)
   rw[show(y == x)=false by simpa using c,show(g y == g x)=false by simpa using c2]
theorem Hom.tid(m:Hom R' R φ)(ok':OkR R')(ok:OkR R)(H':Hd R' h')(H:Hd R h)(n1:1<=R'.length)(n2:1<=R.length)(la:φ (R'.length-1)=R.length-1):tidR R' h'=tidR R h:=by
 have I:∀x y,x<R'.length->y<R'.length->(h' x=h' y↔h (φ x)=h (φ y)):=λx y lx ly=>m.iff ok' H' H R'.length x y lx ly lx ly
 have back:∀x,x<R'.length->h (φ (h' x))=h (φ x):=λx lx=>by
  have:=H'.le x lx
  exact(I _ _ (by omega) lx).mp (H'.idem lx)
 let S:Nat->Prop:=λx=>x<R'.length/\h' x=x
 have inj:∀x y,S x->S y->h (φ x)=h (φ y)->x=y:=λx y sx sy e=>by
  rw[<-sx.2,<-sy.2];exact(I x y sx.1 sy.1).mpr e
 have row:∀x,x<R'.length->RwA R h (h (φ x))=wpR (λy=>h (φ y)) (RwA R' h' x):=λx lx=>by
  rw[H.same _ (m.lt x lx),m.rwa lx]
  unfold RwA
  rw[jdq]
  exact jcz λp hp=>(back p (by have:=jcw (ok'.d lx) hp;omega)).symm
 have hS:∀x,S x->x<R'.length/\h (φ x)<R.length/\chd R h (h (φ x))=(chd R' h' x).map (λy=>h (φ y))/\∀p∈chd R' h' x,S p:=λx sx=>by
  refine⟨sx.1,?_,?_,λp hp=>?_⟩
  ·have:=m.lt x sx.1
   have:=H.le _ this
   omega
  ·unfold chd
   rw[row x sx.1,jfa]
  ·rw[jgp]at hp
   obtain⟨q,hq,rfl⟩:=A4.mp hp
   have ql:=jcw (ok'.d sx.1) hq
   have q2:=sx.1
   have:=H'.le q (by omega)
   exact⟨by omega,H'.idem (by omega)⟩
 have l0:R'.length-1<R'.length:=by omega
 have sl:S (h' (R'.length-1)):=⟨by have:=H'.le _ l0;omega,H'.idem l0⟩
 have w:=jsb (jdu ok' H') (jdu ok H) (g:=λy=>h (φ y)) inj hS _ sl [] (λx hx=>nomatch hx)
 have e:ordR R h=(ordR R' h').map λy=>h (φ y):=by
  unfold ordR
  rw[<-la,<-back _ l0]
  exact w.1
 unfold tidR
 rw[e,O5]
 refine Iw λx hx=>?_
 have sx:=w.2 x hx
 show _=wpR (λy=>((ordR R' h').map λy=>h (φ y)).idxOf y) (RwA R h (h (φ x)))
 rw[row x sx.1,jdq]
 refine jcz λp hp=>?_
 exact(jb2 inj w.2 ((hS x sx).2.2.2 p hp)).symm
end
def layL(R:List Row)(h:Nat->Nat)(cm:List Nat):List Row:=cm.map λv=>wpR (λx=>cm.idxOf x) (RwA R h v)
structure Lay(R:List Row)(h:Nat->Nat)(cm:List Nat):Prop where
 nd:cm.Nodup
 cl:∀x∈cm,∀p∈chd R h x,p∈cm
 lt:∀x∈cm,x<R.length
 hd:∀x∈cm,h x=x
section
variable{R:List Row}{h:Nat->Nat}
theorem Lay.nil:Lay R h []:=⟨W8,nofun,nofun,nofun⟩
theorem Lay.snoc{cm:List Nat}{v:Nat}(L:Lay R h cm)(nv:v∉cm)(vl:v<R.length)(hv:h v=v)(ch:∀p∈chd R h v,p∈cm):Lay R h (cm++[v]):=by
 refine⟨?_,λx hx p hp=>?_,λx hx=>?_,λx hx=>?_⟩
 ·rw[Ox]
  exact⟨L.nd,by simp,λx hx y hy e=>nv ((e.trans (Ag.mp hy))▸hx)⟩
 ·rcases A6.mp hx with hx|hx
  ·exact Oa _ (L.cl x hx p hp)
  ·cases Ag.mp hx;exact Oa _ (ch p hp)
 ·rcases A6.mp hx with hx|hx
  ·exact L.lt x hx
  ·cases Ag.mp hx;exact vl
 ·rcases A6.mp hx with hx|hx
  ·exact L.hd x hx
  ·cases Ag.mp hx;exact hv
theorem jnz{cm:List Nat}{v:Nat}(L:Lay R h cm)(ch:∀p∈chd R h v,p∈cm):layL R h (cm++[v])=layL R h cm++[wpR (λx=>cm.idxOf x) (RwA R h v)]:=by
 unfold layL
 rw[Ig]
 congr 1
 ·exact Iw λx hx=>jcz λp hp=>jab (L.cl x hx p hp)
 ·rw[Ay,Up]
  exact Od (·::[]) (jcz λp hp=>jab (ch p hp))
theorem ix_injm{l:List Nat}{x y:Nat}(hx:x∈l)(hy:y∈l)(e:l.idxOf x=l.idxOf y):x=y:=ix_inj hx hy e
theorem jly{cm:List Nat}(L:Lay R h cm)(H:Hd R h){u v:Nat}(vl:v<R.length)(hv:h v=v)(ch:∀p∈chd R h v,p∈cm)(um:u∈cm)(e:wpR (λx=>cm.idxOf x) (RwA R h u)=wpR (λx=>cm.idxOf x) (RwA R h v)):u=v:=by
 have e2:RwA R h u=RwA R h v:=by
  have:=jfy (k:=λx=>x) e λp hp q hq e=>ix_injm (L.cl u um p hp) (ch q hq) e
  have id:∀{r:Row}(x:Nat),r=RwA R h x->wpR (λx=>x) r=r:=fun{r} x er=>by
   subst er
   unfold RwA
   rw[jdq]
  rw[id u rfl,id v rfl]at this
  exact this
 rw[<-L.hd u um,<-hv]
 exact H.of (L.lt u um) vl e2
theorem jql{cm:List Nat}(L:Lay R h cm)(H:Hd R h):(layL R h cm).Nodup:=by
 unfold layL
 refine List.pairwise_map.mpr (L.nd.imp_of_mem fun{x y} hx hy n e=>n ?_)
 exact jly L H (L.lt y hy) (L.hd y hy) (L.cl y hy) hx e
theorem jo3{cm:List Nat}(L:Lay R h cm)(H:Hd R h){v:Nat}(vl:v<R.length)(hv:h v=v)(ch:∀p∈chd R h v,p∈cm):wpR (λx=>cm.idxOf x) (RwA R h v)∈layL R h cm↔v∈cm:=by
 refine⟨λm=>?_,λm=>A4.mpr ⟨v,m,rfl⟩⟩
 obtain⟨u,um,e⟩:=A4.mp m
 exact jly L H vl hv ch um e▸um
theorem jqk{cm:List Nat}{v:Nat}(m:v∈cm):(layL R h cm)[cm.idxOf v]?=some (wpR (λx=>cm.idxOf x) (RwA R h v)):=by
 unfold layL
 rw[Ao,jam m];rfl
theorem jru(ok:OkR R)(H:Hd R h):∀(v:Nat),v<R.length->h v=v->∀cm,Lay R h cm->v∉cm->Lay R h (wk (chd R h) v cm)/\(chd R h v).foldl (stp (chd R h)) cm++[v]=wk (chd R h) v cm/\Lay R h ((chd R h v).foldl (stp (chd R h)) cm)/\v∉(chd R h v).foldl (stp (chd R h)) cm/\∀p∈chd R h v,p∈(chd R h v).foldl (stp (chd R h)) cm:=by
 have d:=jdu ok H
 intro v
 induction v using Nat.strongRecOn with
 |_ v ih =>
  intro vl hv cm L nv
  have hp:∀p∈chd R h v,p<v/\h p=p:=λp hp=>by
   refine⟨d v vl p hp,?_⟩
   rw[jgp]at hp
   obtain⟨q,hq,rfl⟩:=A4.mp hp
   exact H.idem (by have:=jcw (ok.d vl) hq;omega)
  have L1:Lay R h ((chd R h v).foldl (stp (chd R h)) cm):=jdb (P:=Lay R h) L λp hp' cm L n=>(ih p (hp p hp').1 (by have:=(hp p hp').1;omega) (hp p hp').2 cm L n).1
  have n1:v∉(chd R h v).foldl (stp (chd R h)) cm:=jdb (P:=λcm=>v∉cm) nv λp hp' cm n _ m=>by
   rcases jnf d p (by have:=(hp p hp').1;omega) cm v m with m|m
   ·exact n m
   ·have:=(hp p hp').1;omega
  have c1:∀p∈chd R h v,p∈(chd R h v).foldl (stp (chd R h)) cm:=λp hp'=>jep d cm (λq hq=>by have:=(hp q hq).1;omega) p (.inr hp')
  have e:=jdo d vl cm
  exact⟨by rw[e];exact L1.snoc n1 vl hv c1,e.symm,L1,n1,c1⟩
theorem jqm(ok:OkR R)(H:Hd R h){i:Nat}(il:i<R.length){cm:List Nat}(L:Lay R h cm) :
  Lay R h (stp (chd R h) cm (h i))/\Lay R h ((chd R h (h i)).foldl (stp (chd R h)) cm)/\(∀p∈chd R h (h i),p∈(chd R h (h i)).foldl (stp (chd R h)) cm) /\
  stp (chd R h) cm (h i)=(if h i∈(chd R h (h i)).foldl (stp (chd R h)) cm then(chd R h (h i)).foldl (stp (chd R h)) cm else(chd R h (h i)).foldl (stp (chd R h)) cm++[h i]):=by
 have vl:h i<R.length:=by have:=H.le i il;omega
 have hv:=H.idem il
 by_cases c:h i∈cm
 ·have e:(chd R h (h i)).foldl (stp (chd R h)) cm=cm:=je3 (Wp.mpr λp hp=>by simp[L.cl _ c p hp])
  have es:stp (chd R h) cm (h i)=cm:=Ak c
  rw[e,es,Ak c]
  exact⟨L,L,L.cl _ c,rfl⟩
 ·obtain⟨q1,q2,q3,q4,q5⟩:=jru ok H (h i) vl hv cm L c
  have es:stp (chd R h) cm (h i)=wk (chd R h) (h i) cm:=Ae c
  rw[es,Ae q4]
  exact⟨q1,q3,q5,q2.symm⟩
theorem jjt(H:Hd R h){i:Nat}(il:i<R.length):chd R h (h i)=(own R i).map h:=by
 unfold chd own
 rw[H.same i il]
 exact jfa h _
theorem jqn(ok:OkR R)(H:Hd R h)(n1:1<=R.length):layL R h (stp (chd R h) [] (h (R.length-1)))=tidR R h:=by
 rw[show stp (chd R h) [] (h (R.length-1))=ordR R h from Ae (by simp)]
 rfl
end
end My
namespace My
open PySem L2 PyProof.Rows
def pw4(T:List Str):V->Nat
 |.str _=>1
 |.int i=>4*(tx T i.toNat).length-2
 |_=>0
def jcn(T:List Str)(l:List V):Nat:=(l.map (pw4 T)).sum
theorem jc3(T:List Str)(a b:List V):jcn T (a++b)=jcn T a+jcn T b:=by simp[jcn]
theorem jng(T:List Str)(x:V)(b:List V):jcn T (x::b)=pw4 T x+jcn T b:=by simp[jcn]
theorem jfl(T:List Str):∀l:List V,jcn T l.reverse=jcn T l
 |[]=>rfl
 |x::l=>by
  rw[List.reverse_cons,jc3,jfl T l]
  simp[jcn]
  omega
structure Wr4(n:Nat)(pc:Nat->List V)(T:List Str):Prop where
 pos:0<n
 few:n<=1000
 len:T.length=n
 ok:∀k,k<n->∀x∈pc k,isPc k x
 sz:∀k,k<n->(pc k).length<=100
 eq:∀k,k<n->sg (tx T k)=cat T (pc k)
 bd:∀k,(tx T k).length<=50000
 one:∀k,k<n->1<=(tx T k).length
 wt:∀k,k<n->jcn T (pc k)<4*(tx T k).length-2
theorem jgl(T:List Str){n:Nat}(h1:∀i,i<n->1<=(tx T i).length):∀l:List V,(∀x∈l,isPc n x)->l.length<=jcn T l
 |[],_=>A8 _
 |x::l,h=>by
  have ih:=jgl T h1 l λy hy=>h y (.tail _ hy)
  have:1<=pw4 T x:=by
   rcases h x (.head _)with⟨s,rfl⟩|⟨i,rfl,hi⟩
   ·exact Ah _
   ·have:=h1 i hi
    simp[pw4]
    omega
  rw[jng,List.length_cons]
  omega
theorem Wr4.pc_le{n:Nat}{pc:Nat->List V}{T:List Str}(W:Wr4 n pc T){i:Nat}(h:i<n){x:V}(hx:x∈pc i):(pcL T x).length<=50000:=by
 have h1:=jlg T (pc i) x hx
 rw[<-W.eq i h,jcq]at h1
 have:=W.bd i
 omega
theorem Wr4.sum{n:Nat}{pc:Nat->List V}{T:List Str}(W:Wr4 n pc T){i:Nat}(h:i<n):((pc i).map λx=>(pcL T x).length).sum=(tx T i).length:=by
 rw[<-jo6,<-W.eq i h,jcq]
end My
namespace My
open PySem L2
local macro_rules
 | `(tactic| simp!)=>`(tactic| simp only [tSeq,tIfS,jjo,tOp,tVar,tC,tAsg,jdk,gSub,tRet,jjl,jjh,jji,tAnd,tOr,tNot,jjd,tOrV,jjm,tB,tIf,jhe,jjf,rI0,rI,jfb,jim,jiq,jir,jkf,jkg,jkd,jke,jgh,jd5,jio,jfd,jin,jkc,jg6,jg5,jis,jc1,jfc,jj8,jl0,jev,jj9,jkh,jl3,jgi,jki,jl2,jit,jls,jig,ji0,jiw,jix,Option.isSome_some,tBML,jje,tCB,jeb,tNil,tLst,tTup,tSl,jjn,jfv,jkl,iAny,ji7,ji8,jgv,jgw,jip,jfu,jjc,jmb,jjg,jdz,jdh,tUn,rU,tTru,jd6,jl4,jkm,jc6,jiu,jkk,jez,tBMS,jlt,jkb,tBM0,tBM,jmd,jg3,Option.bind_some,Option.bind_none,Option.getD_some,L2.start,Ay,Up,List.length_cons,List.length_nil,List.cons_append,List.nil_append,Og,W5,List.replicate,List.getElem?_cons_zero,List.getElem?_cons_succ,List.set_cons_zero,List.set_cons_succ,Nat.reduceSub,Nat.reduceAdd,Nat.reduceLeDiff,Option.some.injEq,V.int.injEq,V.bl.injEq,V.str.injEq,V.ref.injEq,HO.lst.injEq,HO.tup.injEq,exists_eq_left',exists_eq_left,exists_and_left,true_and,and_true,je,jh5,jmj,jmk,jps,Bool.not_true,Bool.not_false,decide_eq_true_eq,Ip,Ov,O0,reduceIte,reduceCtorEq,jf2,jdx,jei,jhd,jhc,tLam,jej,jhh,jhf,jhg,tTru,jd6,jjk,jjj,jm9,jej,rAdd,rSub])
 | `(tactic| simp! [$ls,*])=>`(tactic| simp only [tSeq,tIfS,jjo,tOp,tVar,tC,tAsg,jdk,gSub,tRet,jjl,jjh,jji,tAnd,tOr,tNot,jjd,tOrV,jjm,tB,tIf,jhe,jjf,rI0,rI,jfb,jim,jiq,jir,jkf,jkg,jkd,jke,jgh,jd5,jio,jfd,jin,jkc,jg6,jg5,jis,jc1,jfc,jj8,jl0,jev,jj9,jkh,jl3,jgi,jki,jl2,jit,jls,jig,ji0,jiw,jix,Option.isSome_some,tBML,jje,tCB,jeb,tNil,tLst,tTup,tSl,jjn,jfv,jkl,iAny,ji7,ji8,jgv,jgw,jip,jfu,jjc,jmb,jjg,jdz,jdh,tUn,rU,tTru,jd6,jl4,jkm,jc6,jiu,jkk,jez,tBMS,jlt,jkb,tBM0,tBM,jmd,jg3,Option.bind_some,Option.bind_none,Option.getD_some,L2.start,Ay,Up,List.length_cons,List.length_nil,List.cons_append,List.nil_append,Og,W5,List.replicate,List.getElem?_cons_zero,List.getElem?_cons_succ,List.set_cons_zero,List.set_cons_succ,Nat.reduceSub,Nat.reduceAdd,Nat.reduceLeDiff,Option.some.injEq,V.int.injEq,V.bl.injEq,V.str.injEq,V.ref.injEq,HO.lst.injEq,HO.tup.injEq,exists_eq_left',exists_eq_left,exists_and_left,true_and,and_true,je,jh5,jmj,jmk,jps,Bool.not_true,Bool.not_false,decide_eq_true_eq,Ip,Ov,O0,reduceIte,reduceCtorEq,jf2,jdx,jei,jhd,jhc,tLam,jej,jhh,jhf,jhg,tTru,jd6,jjk,jjj,jm9,jej,rAdd,rSub,$ls,*])
def jes(st:Stmt)(n:Nat):Stmt:=match st with
 |.ClassDef _ _ _ body _ _ _ _ _ _ _=>body.getD n (.Pass ⟨0,0,0,0⟩)
 |s=>s
def top(i:Nat):Stmt:=PySem.Challenge.pw_calmword_k30_whole_there_and_back.main.body.getD i (.Pass ⟨0,0,0,0⟩)
def BoxO(o:HO):Prop:=∃c s,o=.lst [.int c,.int s]/\1<=s/\s<=2147483629
def jde:Sp:=λvs H Q _=>∃b w o,vs=[.ref b,.int w]/\H b=some o/\BoxO o/\0<w/\w<1073741824/\∀d o,0<=d->d<w->BoxO o->Q (.int d) (upd H b o)
def jp2(K:PySem.W.Frag):Sp:=λvs H Q _=>∃(a:Addr)(k:Int)(ns:List Int),vs=[.ref a,.int k]/\SqL K H a (ns.map V.int)/\0<=k/\k<=1000/\∀b o,H b=none->BoxO o->Q (.ref b) (upd H b o)
section
variable{P:Program}{w:World}{K:PySem.W.Frag}{mg:Str->Option Value}{base:Heap}
abbrev kg:Stmt:=top 27
theorem jah:FnScope ["_law_box_here","_law_wide","_law_digit","_law_one"] ["_law_box_here","_law_wide"] (jk kg):=⟨rfl,rfl,rfl,by decide +kernel,rfl,by decide +kernel,by decide +kernel⟩
theorem ok__law_take{f:Addr}{fd:FuncData}(F:Fun K "_law_take" "_law_take" kg f fd):FnOk P w K mg base CX0 1 f fd ["_law_box_here","_law_wide"] jde:=by
 refine F.ok jah (λvs H Q E h=>?_) (λcdv A outer s H vs Q E hr h=>?_)
 ·obtain⟨b,w,o,rfl,_⟩:=h
  rfl
 ·obtain⟨b,w,o,rfl,hb,⟨c,sd,rfl,s1,s2⟩,w0,w1,k⟩:=h
  refine⟨_,(QSs.h (jh (j0 (jt ja6 (jr ix_U (qpv 0) jg (λ_ _=>rfl)) jg (jx _)) (jh (jp (i:=2) jah.nd rfl (by first|exact Or.inl rfl|exact Or.inr rfl) (jq z0 (jr ix_U (qpv 0) jg (λ_ _=>rfl)) (qpv 1)))
  (jh (jap (jq jbi (jr ix_U (qpv 0) jg (λ_ _=>rfl)) (qpv 1)) (jao (qpv 0) jg jg7))
  (ji (ju (qpv 2))))) j6)
  (jh (jp (i:=3) jah.nd rfl (by first|exact Or.inl rfl|exact Or.inr rfl) (jq z0 (jq zq (jr ix_U (qpv 0) jg (λ_ _=>rfl)) jg) jg))
  (jh (jap (jq j9 (jq z0 (jq j9 (jq zq (qpv 3) jg) jg) jg) jg) (jao (qpv 0) jg jg7))
  (ji (ju (jq z0 (jq jbi (jq j9 (jq zq (qpv 3) jg) (jr ix_U (qpv 0) jg (λ_ _=>rfl))) jg) (qpv 1)))))))),?_⟩
  have m1:∀z m:Int,0<m->0<=z%m/\z%m<m:=λz m h=>⟨Int.emod_nonneg z (by omega),Int.emod_lt_of_pos z h⟩
  simp! [hb]
  refine ite2 (λhc=>?_) (λ_=>?_)
  ·refine⟨w0,⟨w0,w1⟩,0,rfl,?_⟩
   simp! [hb]
   exact k _ _ (m1 c w w0).1 (m1 c w w0).2 ⟨_,_,rfl,s1,s2⟩
  ·have q1:=m1 (sd*69623) 2147483647 (by decide)
   refine⟨.inl ⟨by omega,by omega⟩,by decide,.inl ⟨by omega,by omega⟩,by decide,1,rfl,?_⟩
   simp! [hb]
   have q2:=m1 (sd*69623%2147483647*48271+30103) 2147483629 (by decide)
   refine⟨.inl ⟨by omega,by omega⟩,⟨by decide,by decide⟩,w0,?_⟩
   exact k _ _ (m1 _ w w0).1 (m1 _ w w0).2 ⟨_,_,rfl,by omega,by omega⟩
structure TBox(mg:Str->Option Value):Prop where
 n_len:mg "len"=none
 n_int:mg "int"=none
abbrev ze:Stmt:=top 26
theorem zn:FnScope ["_law_script","_law_k","_law_cell","_law_seed"] ["_law_script","_law_k"] (jk ze):=⟨rfl,rfl,rfl,by decide +kernel,rfl,by decide +kernel,by decide +kernel⟩
theorem ok__law_box{f:Addr}{fd:FuncData}(F:Fun K "_law_box" "_law_box" ze f fd)(T:TBox mg):FnOk P w K mg base CX0 1 f fd ["_law_script","_law_k"] (jp2 K):=by
 refine F.ok zn (λvs H Q E h=>?_) (λcdv A outer s H vs Q E hr h=>?_)
 ·obtain⟨a,k,ns,rfl,_⟩:=h
  rfl
 ·obtain⟨a,k,ns,rfl,hS,k0,k1,kk⟩:=h
  refine⟨_,(QSs.h (jh (jp (i:=2) zn.nd rfl (by first|exact Or.inl rfl|exact Or.inr rfl) (jq j9 (jq zq jg (qpv 1)) jg))
  (jh (j0 (jt jan (qpv 1) (jy zh (by rfl) T.n_len ky (jc (qpv 0) jd)) (jx _)) (ji (jp (i:=2) zn.nd rfl (by first|exact Or.inl rfl|exact Or.inr rfl) (jr jbg (qpv 0) (qpv 1) (λ_ _=>rfl)))) (ji (j0 (jt ja6 (jy zh (by rfl) T.n_len ky (jc (qpv 0) jd)) jg (jx _)) (ji (jp (i:=2) zn.nd rfl (by first|exact Or.inl rfl|exact Or.inr rfl) (jq j9 (qpv 2) (jq zq (jq z0 (jr jbg (qpv 0) (jq z0 (qpv 1) (jy zh (by rfl) T.n_len ky (jc (qpv 0) jd))) (λ_ _=>rfl)) jg) jg)))) j6)))
  (jh (jp (i:=3) zn.nd rfl (by first|exact Or.inl rfl|exact Or.inr rfl) (jq j9 (jq z0 (jq j9 (jq zq (jq z0 (qpv 2) jg) jg) (jq zq jg (qpv 1))) jg) jg))
  (ji (ju (j5 (jc (jq zq (qpv 2) (kj ja0 (by rfl) T.n_int jaz (jc (zj jcd (qpv 2) (jq op_pow jg jg) (jx _)) jd))) (jc (qpv 3) jd))))))))),?_⟩
  have m1:∀z m:Int,0<m->0<=z%m/\z%m<m:=λz m h=>⟨Int.emod_nonneg z (by omega),Int.emod_lt_of_pos z h⟩
  have tail:∀cell:Int,(0:Int)<2147483629/\CMul (cell%2147483629) 48271/\CMul 40692 k/\(0:Int)<2147483629/\CPow 10 18/\CMul cell (if(10:Int)^(18:Int).toNat<=cell then 1 else 0)/\2<=sizeLine /\
    ∀p,H p=none->Q (.ref p) (upd H p (.lst [.int (cell*(if(10:Int)^(18:Int).toNat<=cell then 1 else 0)),.int ((cell%2147483629*48271+40692*k)%2147483629+1)])):=by
   intro cell
   have q1:=m1 cell 2147483629 (by decide)
   have q2:=m1 (cell%2147483629*48271+40692*k) 2147483629 (by decide)
   refine⟨by decide,.inl ⟨by omega,by omega⟩,.inl ⟨by decide,by decide⟩,by decide,⟨by decide,by decide,by decide⟩,.inr ?_,by decide,λp hp=>kk p _ hp ⟨_,_,rfl,by omega,by omega⟩⟩
   split <;> constructor <;> decide
  simp!
  refine⟨.inl ⟨by decide,by decide⟩,ns.map V.int,.inl hS,?_⟩
  rw[Ab]
  refine ite2 (λh=>?_) (λh=>?_)
  ·obtain⟨z,hz⟩:∃z,ns[k.toNat]?=some z:=⟨ns[k.toNat]'(by omega),by simp⟩
   refine⟨a,_,k,.int z,rfl,rfl,hS,jcg k0 (by rw[Ao,hz];rfl),?_⟩
   simp!
   exact tail z
  ·refine⟨ns.map V.int,.inl hS,?_⟩
   rw[Ab]
   refine ite2 (λh2=>?_) (λh2=>?_)
   ·refine⟨ns.map V.int,.inl hS,?_⟩
    rw[Ab]
    have q:=m1 k (ns.length:Int) (by omega)
    obtain⟨z,hz⟩:∃z,ns[(k%(ns.length:Int)).toNat]?=some z:=⟨ns[(k%(ns.length:Int)).toNat]'(by omega),by simp⟩
    refine⟨by omega,a,_,_,.int z,rfl,rfl,hS,jcg q.1 (by rw[Ao,hz];rfl),?_⟩
    simp!
    have q3:=m1 z 2147483629 (by decide)
    refine⟨by decide,.inl ⟨by omega,by omega⟩,?_⟩
    exact tail _
   ·exact tail _
end
structure Letters(z:Str)(m:Nat):Prop where
 lo:1<=z.length
 hi:z.length<=m
 az:∀c∈z.cps.toList,97<=c/\c<=122
 nd:z.cps.toList.Nodup
def chV(c:Nat):V:=.str ⟨#[c]⟩
def jiy:Sp:=λvs H Q _=>∃(b:Addr)(m:Nat)(o:HO),vs=[.ref b,.int (m:Int)]/\H b=some o/\BoxO o/\1<=m/\m<=4/\∀z o' H',Letters z m->BoxO o'->H' b=some o'->Kp [b] H H'->Q (.str z) H'
theorem jgs{α:Type}:∀(l:List α)(i:Nat)(x:α),l[i]?=some x->(x::l.eraseIdx i).Perm l
 |[],i,x,h=>by simp at h
 |a::l,0,x,h=>by simp at h;subst h;exact List.Perm.refl _
 |a::l,i+1,x,h=>by
  rw[List.eraseIdx_cons_succ]
  exact(List.Perm.swap _ _ _).trans ((jgs l i x (by simpa using h)).cons a)
theorem jih{α β:Type}(f:α->β):∀(l:List α)(i:Nat),(l.map f).eraseIdx i=(l.eraseIdx i).map f
 |[],_=>rfl
 |_::_,0=>rfl
 |a::l,i+1=>by rw[Ay,List.eraseIdx_cons_succ,List.eraseIdx_cons_succ,Ay,jih f l i]
theorem jp6:sgn (Str.ofString "abcdefghijklmnopqrstuvwxyz")=((List.range 26).map (97+·)).map chV:=by decide +kernel
structure TLetters(mg:Str->Option Value)(ft:Addr):Prop where
 n_len:mg "len"=none
 n_list:mg "list"=none
 n_range:mg "range"=none
 m1z:mg "_law_take"=some (.ref ft)
section
variable{P:Program}{w:World}{K:PySem.W.Frag}{mg:Str->Option Value}{base:Heap}
abbrev yg:Stmt:=top 28
theorem y0:FnScope ["_law_box_here","_law_most","_law_pool","_law_found","_law_k"] ["_law_box_here","_law_most"] (jk yg):=⟨rfl,rfl,rfl,by decide +kernel,rfl,by decide +kernel,by decide +kernel⟩
theorem ok__law_letters{f ft:Addr}{fd fdt:FuncData}(F:Fun K "_law_letters" "_law_letters" yg f fd)(T:TLetters mg ft)(F1z:Fun K "_law_take" "_law_take" kg ft fdt)(b1z:Binds K fdt ["_law_box_here","_law_wide"] [])
  (G1z:FnOk P w K mg base CX0 1 ft fdt ["_law_box_here","_law_wide"] jde):FnOk P w K mg base CX0 2 f fd ["_law_box_here","_law_most"] jiy:=by
 refine F.ok y0 (λvs H Q E h=>?_) (λcdv A outer s H vs Q E hr h=>?_)
 ·obtain⟨b,m,o,rfl,_⟩:=h
  rfl
 ·obtain⟨b,m,o,rfl,hb,ho,m1,m4,k⟩:=h
  refine⟨_,(QSs.h (jh (jp (i:=2) y0.nd rfl (by first|exact Or.inl rfl|exact Or.inr rfl) (kj (jbc rfl) (by rfl) T.n_list jbf (jc jn jd)))
  (jh (jp (i:=3) y0.nd rfl (by first|exact Or.inl rfl|exact Or.inr rfl) jn)
  (jh (zu Iq rfl (jat rfl T.n_range (jc (jq j9 jg (jm G1z (hr.mono (by decide)) rfl T.m1z F1z.kp b1z .nil jo (jc (qpv 0) (jc (qpv 1) jd)))) jd)) (kh (i:=4) y0.nd rfl (by first|exact Or.inl rfl|exact Or.inr rfl)) (ji (jp (i:=3) y0.nd rfl (by first|exact Or.inl rfl|exact Or.inr rfl) (jq j9 (qpv 3) (kf Oi Oj mt_popU (qpv 2) (jc (jm G1z (hr.mono (by decide)) rfl T.m1z F1z.kp b1z .nil jo (jc (qpv 0) (jc (jy ka (by rfl) T.n_len ky (jc (qpv 2) jd)) jd))) jd) jcl)))))
  (ji (ju (qpv 3))))))),?_⟩
  simp!
  refine⟨by decide,λp hp=>?_⟩
  have npb:b≠p:=jj hb hp
  obtain⟨c0,s0,rfl,_,_⟩:=id ho
  refine⟨b,(m:Int),_,rfl,by rw[jf npb];exact hb,ho,by omega,by omega,λd o1 d0 d1 ho1=>?_⟩
  simp!
  obtain⟨n,rfl⟩:∃n:Nat,d=(n:Int):=⟨d.toNat,by omega⟩
  have en:(1+(n:Int)).toNat=n+1:=by omega
  refine⟨by omega,by omega,?_⟩
  rw[en]
  refine jdv (λi σ H'=>∃l R o' v,σ=[some (.ref b),some (.int (m:Int)),some (.ref p),some (.str (toS l)),v]/\H' b=some o'/\BoxO o'/\H' p=some (.lst (R.map chV))/\Kp [b] H H'/\l.length=i/\R.length+i=26 /\
   (l++R).Nodup/\∀c∈l++R,97<=c/\c<=122) ?_ ?_ ?_
  ·refine⟨[],(List.range 26).map (97+·),o1,none,rfl,je,ho1,?_,?_,rfl,by simp,?_,?_⟩
   ·rw[jf npb.symm,je,jp6]
   ·exact((Kp.refl [b] H).new hp).set (by rw[jf npb];exact hb) (.inl (by simp))
   ·decide
   ·decide
  ·rintro i σ H' hi ⟨l,R,o',v,rfl,hb',ho',hp',kp,hl,hR,nd,az⟩
   simp! [hp']
   obtain⟨c1,s1,rfl,_,_⟩:=id ho'
   refine⟨b,_,_,rfl,hb',ho',by rw[Ab];omega,by rw[Ab];omega,λd o2 d0 d1 ho2=>?_⟩
   rw[Ab]at d1
   have hp2:upd H' b o2 p=some (.lst (R.map chV)):=by rw[jf npb.symm];exact hp'
   simp! [hp2]
   obtain⟨c,hc⟩:∃c,R[d.toNat]?=some c:=⟨R[d.toNat]'(by omega),by simp⟩
   have hc':(R.map chV)[d.toNat]?=some (.str ⟨#[c]⟩):=by rw[Ao,hc];rfl
   refine⟨d0,_,hc',?_⟩
   simp!
   have pm:=jgs R d.toNat c hc
   have e1:((l++[c])++R.eraseIdx d.toNat).Perm (l++R):=by
    rw[Ix]
    exact pm.append_left l
   have hlen:(R.eraseIdx d.toNat).length+1=R.length:=by
    have:=pm.length_eq
    simpa using this
   refine⟨?_,l++[c],R.eraseIdx d.toNat,o2,_,⟨jq8 l c,rfl⟩,by rw[jf npb,je],ho2,jih chV R _,?_,by simp[hl],by omega,?_,?_⟩
   ·rw[jh3]
    show l.length+1<=sizeLine
    have:sizeLine=16777216:=Ar
    omega
   ·exact(kp.set hb' (.inl (.head _))).set hp2 (.inr hp)
   ·exact e1.nodup_iff.mpr nd
   ·exact λx hx=>az x (e1.mem_iff.mp hx)
  ·rintro σ H' ⟨l,R,o',v,rfl,hb',ho',hp',kp,hl,hR,nd,az⟩
   simp! [hp']
   exact k (toS l) o' H' ⟨by rw[jh3];omega,by rw[jh3];omega,λc hc=>az c (Oa _ (by simpa[toS]using hc)),by simpa[toS]using(Ox.mp nd).1⟩ ho' hb' kp
end
theorem _root_.L2.Kp.seq{S:List Addr}{K:PySem.W.Frag}{H H':Hp}{a:Addr}{xs:List V}(e:Kp S H H')(n:a∉S)(h:SqL K H a xs):SqL K H' a xs:=by
 rcases h with(h|⟨o,h⟩)|h
 ·exact .inl (.inl (e.old _ _ h n))
 ·exact .inl (.inr ⟨o,e.old _ _ h n⟩)
 ·exact .inr h
theorem exQ{X:Cx}{ss:List Stmt}{t:TS}{R:TS->Prop}(q:QSs X ss t)(h:R t):∃t,PSs X ss t/\R t:=⟨t,q.h,h⟩
theorem _root_.L2.Kp.sqT{S:List Addr}{K:PySem.W.Frag}{H H':Hp}{a:Addr}{xs:List V}(e:Kp S H H')(n:a∉S)(h:SqT K H a xs):SqT K H' a xs:=by
 rcases h with(h|⟨o,h⟩)|h
 ·exact .inl (.inl (e.old _ _ h n))
 ·exact .inl (.inr ⟨o,e.old _ _ h n⟩)
 ·exact .inr h
def nV(n:Nat):V:=.int (n:Int)
def RowsT(H:Hp)(us:List V)(R:List Row):Prop:=Paired (λv r=>∃a,v=.ref a/\H a=some (.tup (r.map kV))) us R
theorem RowsT.kp{S:List Addr}{H H':Hp}{us:List V}{R:List Row}(k:Kp S H H')(h:RowsT H us R):RowsT H' us R:=Paired.mapP h λ_ _ ⟨a,e,h⟩=>⟨a,e,k.tup _ _ h⟩
theorem RowsT.get{H:Hp}{us:List V}{R:List Row}(h:RowsT H us R){i:Nat}(hi:i<R.length):∃a,us[i]?=some (.ref a)/\H a=some (.tup ((R.getD i []).map kV)):=by
 induction h generalizing i with
 |nil=>simp at hi
 |cons h _ ih =>
  cases i with
  |zero=>obtain⟨a,e,g⟩:=h;exact⟨a,by simp[e],by simpa using g⟩
  |succ i=>obtain⟨a,e,g⟩:=ih (by simpa using hi);exact⟨a,by simpa using e,by simpa using g⟩
def NN0(r:Row):Prop:=∀i:Int,(Sum.inl i:L2.Key)∈r->0<=i
theorem RowOk.nn{k:Nat}{r:Row}(h:RowOk k r):NN0 r:=λi hi=>(h i hi).1
def isI:V->Bool
 |.int _=>true
 |_=>false
theorem jbk:∀{r:Row},NN0 r->(r.map kV).filter isI=(ptR r).map nV
 |[],_=>rfl
 |.inl i::r,h=>by
  have ih:=jbk (r:=r) λj hj=>h j (.tail _ hj)
  have h0:=h i (.head _)
  have e:kV (.inl i)=nV i.toNat:=by show V.int i=V.int _;congr 1;omega
  simp only[Ay,ptR,List.filterMap_cons,ptK]at ih⊢
  rw[Wr,Ak (show isI (kV (.inl i))=true from rfl),ih,e]
 |.inr s::r,h=>by
  have ih:=jbk (r:=r) λj hj=>h j (.tail _ hj)
  simp only[Ay,ptR,List.filterMap_cons,ptK]at ih⊢
  rw[Wr,Ae (show ¬isI (kV (.inr s))=true from λz=>nomatch z),ih]
theorem jpy{r:Row}{x:V}(h:x∈r.map kV):(∃z,x=.str z/\(Sum.inr z:L2.Key)∈r)\/∃i,x=.int i/\(Sum.inl i:L2.Key)∈r:=by
 obtain⟨k,hk,rfl⟩:=A4.mp h
 cases k with
 |inl i=>exact .inr ⟨i,rfl,hk⟩
 |inr z=>exact .inl ⟨z,rfl,hk⟩
structure TPa(K:PySem.W.Frag)(mg:Str->Option Value):Prop where
 n_isinstance:mg "isinstance"=none
 n_int:mg "int"=none
 n_str:mg "str"=none
 n_tuple:mg "tuple"=none
 n_bool:mg "bool"=none
 ii:PySem.W.kitOne K (.type "int") (.type "int")=some true
 si:PySem.W.kitOne K (.type "str") (.type "int")=some false
 ss:PySem.W.kitOne K (.type "str") (.type "str")=some true
 is:PySem.W.kitOne K (.type "int") (.type "str")=some false
 ib:PySem.W.kitOne K (.type "int") (.type "bool")=some false
 tt:PySem.W.kitOne K (.type "tuple") (.type "tuple")=some true
def jl7:Sp:=λvs H Q _=>∃(a:Addr)(r:Row),vs=[.ref a]/\H a=some (.tup (r.map kV))/\NN0 r/\r.length<=100/\∀p,H p=none->Q (.ref p) (upd H p (.lst ((ptR r).map nV)))
def Num(H:Hp)(n:Addr)(g:Nat->Nat)(ps:List Nat):Prop:=(∃hs:List Nat,H n=some (.lst (hs.map nV))/\∀p∈ps,hs[p]?=some (g p))\/∃kvs,H n=some (.dK kvs)/\∀p∈ps,valV kvs (.inl (p:Int))=some (nV (g p))
def spWP:Sp:=λvs H Q _=>∃(a n:Addr)(r:Row)(g:Nat->Nat),vs=[.ref a,.ref n]/\H a=some (.tup (r.map kV))/\NN0 r/\r.length<=100/\Num H n g (ptR r)/\∀q H',H q=none->H' q=some (.tup ((wpR g r).map kV))->Kp [] H H'->Q (.ref q) H'
section
variable{P:Program}{w:World}{K:PySem.W.Frag}{mg:Str->Option Value}{base:Heap}
abbrev yy:Stmt:=top 5
theorem sc_parts_of:FnScope ["row"] ["row"] (jk yy):=⟨rfl,rfl,rfl,by decide +kernel,rfl,by decide +kernel,by decide +kernel⟩
theorem ok_parts_of{f:Addr}{fd:FuncData}(F:Fun K "parts_of" "parts_of" yy f fd)(T:TPa K mg):FnOk P w K mg base CX0 1 f fd ["row"] jl7:=by
 refine F.ok sc_parts_of (λvs H Q E h=>?_) (λcdv A outer s H vs Q E hr h=>?_)
 ·obtain⟨a,r,rfl,_⟩:=h
  rfl
 ·obtain⟨a,r,rfl,ha,nn,hl,k⟩:=h
  have hu:=hr.units
  have hsz:sizeLine=16777216:=Ar
  refine exQ (ji (ju (jas rfl (jda (sc:=jk yy) (N:=["row"]) (Nc:=["thing"]) (js:=[none]) (by decide +kernel)) (zt (K:=K) (qpv 0) rfl) (λ_ _ _ _=>(kh (i:=0) (show List.Nodup [("thing":Str)]from by decide +kernel) rfl (by first|exact Or.inl rfl|exact Or.inr rfl))) (λ_ _ _ _=>(za (jy (yp (K:=K) rfl) (by rfl) T.n_isinstance zf (jc (qpv 0) (jc (jaf (v:=.ty "int") rfl T.n_int jaz rfl) jd))))) (λ_ _ _ _=>(qpv 0))))) ?_
  simp! [ha]
  intro D hD
  refine jmn isI id ha hD (by rw[Ab];omega) (λx hx l Q' q=>?_) (λx hx _ l Q' q=>?_) λv=>?_
  ·simp!
   rcases jpy hx with⟨z,rfl,_⟩|⟨i,rfl,_⟩
   ·exact⟨_,.str _,_,T.si,q⟩
   ·exact⟨_,.int _,_,T.ii,q⟩
  ·simp!
   exact q
  ·rw[List.map_id,jbk nn]
   exact k D hD
abbrev ya:Stmt:=top 6
theorem sc_with_parts:FnScope ["row","numbers"] ["row","numbers"] (jk ya):=⟨rfl,rfl,rfl,by decide +kernel,rfl,by decide +kernel,by decide +kernel⟩
theorem ok_with_parts{f:Addr}{fd:FuncData}(F:Fun K "with_parts" "with_parts" ya f fd)(T:TPa K mg):FnOk P w K mg base CX0 1 f fd ["row","numbers"] spWP:=by
 refine F.ok sc_with_parts (λvs H Q E h=>?_) (λcdv A outer s H vs Q E hr h=>?_)
 ·obtain⟨a,n,r,g,rfl,_⟩:=h
  rfl
 ·obtain⟨a,n,r,g,rfl,ha,nn,hl,num,k⟩:=h
  have hu:=hr.units
  have hsz:sizeLine=16777216:=Ar
  have hu1:(A.deeper (PyProof.Rows.envOfC (Str.ofString "with_parts") (jk ya) s.heap.objs.size f cdv)).units+1<cLine:=by omega
  refine exQ (ji (ju (kj y4 (by rfl) T.n_tuple zg (jc (jba rfl (jda (sc:=jk ya) (N:=["row","numbers"]) (Nc:=["thing","numbers"]) (js:=[none,some 1]) (by decide +kernel)) (zt (K:=K) (qpv 0) rfl) (λ_ _ _ _=>(kh (i:=0) (show List.Nodup [("thing":Str),("numbers":Str)]from by decide +kernel) rfl (by first|exact Or.inl rfl|exact Or.inr rfl))) (λ_ _ _ _=>(jbs (za (jy (yp (K:=K) rfl) (by rfl) T.n_isinstance zf (jc (qpv 0) (jc (jaf (v:=.ty "int") rfl T.n_int jaz rfl) jd)))) (jr (ix_UD hu1) (qpv 1) (qpv 0) (λ_ _=>rfl)) (qpv 0)))) jd)))) ?_
  simp! [ha]
  intro D hD
  have nnD:n≠D:=by
   rcases num with⟨hs,e,_⟩|⟨kvs,e,_⟩ <;> exact jj e hD
  let gv:V->V:=λx=>match x with
   |.int i=>nV (g i.toNat)
   |x=>x
  have em:(r.map kV).map gv=(wpR g r).map kV:=by
   unfold wpR
   rw[O5,O5]
   refine Iw λx _=>?_
   cases x <;> rfl
  refine jor gv ha hD (by rw[Ab];omega) (λx hx l Q' q=>?_) λv=>?_
  ·simp!
   rcases jpy hx with⟨z,rfl,_⟩|⟨i,rfl,hi⟩
   ·exact⟨_,.str _,_,T.si,by rw[Ae (by decide)];exact q⟩
   ·have h0:=nn i hi
    have hp:=jhw hi
    refine⟨_,.int _,_,T.ii,?_⟩
    rw[Ak rfl]
    rcases num with⟨hs,e,hg⟩|⟨kvs,e,hg⟩
    ·refine .inl ?_
     rw[jd5,jf nnD,e]
     exact⟨_,rfl,nV (g i.toNat),jcg h0 (by rw[Ao,hg _ hp];rfl),q⟩
    ·refine .inr ⟨n,nV (g i.toNat),rfl,?_,q⟩
     have:=DGet.k (H:=upd H D (.lst l)) (a:=n) (kvs:=kvs) (k:=.inl i) (by rw[jf nnD];exact e)
     rw[show valV kvs (.inl i)=some (nV (g i.toNat))by rw[<-hg _ hp];congr 2;omega]at this
     exact this
  ·rw[em]
   refine jc0 je λt ht=>?_
   refine k t _ ?_ je (((Kp.refl [] H).new hD).new ht)
   have:t≠D:=λz=>by rw[z,je]at ht;cases ht
   rwa[jf this]at ht
end
def hsF(hs:List Nat):Nat->Nat:=λi=>hs.getD i 0
structure HI(R:List Row)(hs:List Nat)(kvs:List (Row×V)):Prop where
 le:∀j,j<hs.length->hsF hs j<=j
 same:∀j,j<hs.length->RwA R (hsF hs) (hsF hs j)=RwA R (hsF hs) j
 first:∀j,j<hs.length->∀j',j'<hsF hs j->RwA R (hsF hs) j'≠RwA R (hsF hs) j
 d1:∀k v,valV kvs k=some v->∃j,j<hs.length/\v=nV j/\RwA R (hsF hs) j=k/\∀j',j'<j->RwA R (hsF hs) j'≠k
 d2:∀k,valV kvs k=none->∀j,j<hs.length->RwA R (hsF hs) j≠k
 len:kvs.length<=hs.length
theorem jfp{hs:List Nat}{e j:Nat}(h:j<hs.length):hsF (hs++[e]) j=hsF hs j:=by
 unfold hsF
 rw[Ac,A1 h,<-Ac]
theorem jhr{hs:List Nat}{e:Nat}:hsF (hs++[e]) hs.length=e:=by
 unfold hsF
 rw[Ac];simp
theorem jp5{R:List Row}(ok:OkR R){hs:List Nat}{e j:Nat}(hj:j<=hs.length)(hl:j<R.length):RwA R (hsF (hs++[e])) j=RwA R (hsF hs) j :=
 jcz λp hp=>jfp (by have:=jcw (ok.d hl) hp;omega)
theorem HI.step{R:List Row}(ok:OkR R){hs:List Nat}{kvs kvs':List (Row×V)}{e:Nat}(h:HI R hs kvs)(hl:hs.length<R.length)(he:e<=hs.length)(sm:RwA R (hsF hs) e=RwA R (hsF hs) hs.length)(fi:∀j,j<e->RwA R (hsF hs) j≠RwA R (hsF hs) hs.length)
  (hk:∀k,valV kvs' k=if k=RwA R (hsF hs) hs.length then some (nV e)else valV kvs k) (ln:kvs'.length<=hs.length+1):HI R (hs++[e]) kvs':=by
 have ag:∀j,j<=hs.length->RwA R (hsF (hs++[e])) j=RwA R (hsF hs) j:=λj hj=>jp5 ok hj (by omega)
 have cs:∀j,j<(hs++[e]).length->j<hs.length\/j=hs.length:=λj hj=>by simp at hj;omega
 refine⟨λj hj=>?_,λj hj=>?_,λj hj j' hj'=>?_,λk v hv=>?_,λk hv j hj=>?_,by simpa using ln⟩
 ·rcases cs j hj with h1|rfl
  ·rw[jfp h1];exact h.le j h1
  ·rw[jhr];exact he
 ·rcases cs j hj with h1|rfl
  ·rw[jfp h1,ag _ (by have:=h.le j h1;omega),ag _ (by omega)];exact h.same j h1
  ·rw[jhr,ag _ he,ag _ (Ah _)];exact sm
 ·rcases cs j hj with h1|rfl
  ·rw[jfp h1]at hj'
   rw[ag _ (by have:=h.le j h1;omega),ag _ (by omega)];exact h.first j h1 j' hj'
  ·rw[jhr]at hj'
   rw[ag _ (by omega),ag _ (Ah _)];exact fi j' hj'
 ·rw[hk]at hv
  by_cases c:k=RwA R (hsF hs) hs.length
  ·rw[Ak c]at hv
   cases hv
   exact⟨e,by simp;omega,rfl,by rw[ag _ he,sm,c],λj' hj'=>by rw[ag _ (by omega),c];exact fi j' hj'⟩
  ·rw[Ae c]at hv
   obtain⟨j,h1,h2,h3,h4⟩:=h.d1 k v hv
   exact⟨j,by simp;omega,h2,by rw[ag _ (by omega)];exact h3,λj' hj'=>by rw[ag _ (by omega)];exact h4 j' hj'⟩
 ·rw[hk]at hv
  by_cases c:k=RwA R (hsF hs) hs.length
  ·rw[Ak c]at hv;cases hv
  ·rw[Ae c]at hv
   rcases cs j hj with h1|rfl
   ·rw[ag _ (by omega)];exact h.d2 k hv j h1
   ·rw[ag _ (Ah _)];exact λz=>c z.symm
def spHO(K:PySem.W.Frag):Sp:=λvs H Q _=>∃(a:Addr)(us:List V)(R:List Row),vs=[.ref a]/\SqT K H a us/\RowsT H us R/\OkR R/\(∀r∈R,r.length<=100)/\R.length<=20000 /\
 ∀p hs H',Hd R (hsF hs)->hs.length=R.length->H p=none->H' p=some (.lst (hs.map nV))->Kp [] H H'->Q (.ref p) H'
structure THO(mg:Str->Option Value)(fw:Addr):Prop where
 n_enumerate:mg "enumerate"=none
 m4z:mg "with_parts"=some (.ref fw)
section
variable{P:Program}{w:World}{K:PySem.W.Frag}{mg:Str->Option Value}{base:Heap}
abbrev yx:Stmt:=top 8
theorem zo:FnScope ["rows","heads","first","at","row"] ["rows"] (jk yx):=⟨rfl,rfl,rfl,by decide +kernel,rfl,by decide +kernel,by decide +kernel⟩
theorem ok_heads_of{f fw:Addr}{fd fdw:FuncData}(F:Fun K "heads_of" "heads_of" yx f fd)(T:THO mg fw)(F4z:Fun K "with_parts" "with_parts" ya fw fdw)(b4z:Binds K fdw ["row","numbers"] [])
  (G4z:FnOk P w K mg base CX0 1 fw fdw ["row","numbers"] spWP):FnOk P w K mg base CX0 2 f fd ["rows"] (spHO K):=by
 refine F.ok zo (λvs H Q E h=>?_) (λcdv A outer s H vs Q E hr h=>?_)
 ·obtain⟨a,us,R,rfl,_⟩:=h
  rfl
 ·obtain⟨a,us,R,rfl,hS,rt,ok,r3,l2,k⟩:=h
  have hu:=hr.units
  have hsz:sizeLine=16777216:=Ar
  have hu1:(A.deeper (PyProof.Rows.envOfC (Str.ofString "heads_of") (jk yx) s.heap.objs.size f cdv)).units+1<cLine:=by omega
  have ul:us.length=R.length:=Il rt
  refine exQ (jh (jp (i:=1) zo.nd rfl (by first|exact Or.inl rfl|exact Or.inr rfl) (j5 jd))
  (jh (jp (i:=2) zo.nd rfl (by first|exact Or.inl rfl|exact Or.inr rfl) qpe_dnewT)
  (jh (zu Iq rfl (qpi_enumT (K:=K) rfl rfl T.n_enumerate (jc (qpv 0) jd)) (jbl (n:=2) rfl (zr (kh (i:=3) zo.nd rfl (by first|exact Or.inl rfl|exact Or.inr rfl)) (zr (kh (i:=4) zo.nd rfl (by first|exact Or.inl rfl|exact Or.inr rfl)) jbb)) (K:=K) rfl) (ji (jz (kf Az A0 j8 (qpv 1) (jc (qpe_dsetT hu1 (qpv 2) (jm G4z (hr.mono (by decide)) rfl T.m4z F4z.kp b4z .nil jo (jc (qpv 4) (jc (qpv 1) jd))) (qpv 3) ⟨rfl,rfl,rfl,rfl⟩) jd) jcl))))
  (ji (ju (qpv 1)))))) ?_
  simp!
  refine⟨by omega,λp hp d hd=>?_⟩
  have npd:p≠d:=jj je hd
  have k0:Kp [] H (upd (upd H p (.lst [])) d (.dT [])):=((Kp.refl [] H).new hp).new hd
  have hd0:H d=none:=by rwa[jf npd.symm]at hd
  refine⟨⟨us,k0.sqT (by simp) hS⟩,?_⟩
  refine jo7 (xs:=us) (λi σ H'=>∃(hs:List Nat)(kvs:List (Row×V))(v3 v4:Option V),σ=[some (.ref a),some (.ref p),some (.ref d),v3,v4]/\hs.length=i/\HI R hs kvs/\H' p=some (.lst (hs.map nV))/\H' d=some (.dT kvs)/\Kp [] H H') ?_ ?_ ?_ ?_
  ·exact⟨[],[],none,none,rfl,rfl,⟨λj h=>by simp at h,λj h=>by simp at h,λj h=>by simp at h,λk v h=>by simp[valV]at h,λk _ j h=>by simp at h,Ah _⟩,by rw[jf npd,je];rfl,je,k0⟩
  ·rintro i σ H' _ ⟨hs,kvs,v3,v4,rfl,_,_,_,_,kp⟩
   exact kp.sqT (by simp) hS
  ·rintro i x σ H1 t hx ⟨hs,kvs,v3,v4,rfl,hl,hi,h1,h2,kp⟩ ht
   have hil:i<R.length:=by rw[<-ul];exact(Aj.mp hx).1
   obtain⟨c,hc,hcr⟩:=(rt.kp kp).get hil
   rw[hx]at hc
   cases hc
   refine⟨t,[.int (i:Int),.ref c],rfl,SqT.of je,rfl,⟨_,_,rfl,⟨_,_,rfl,rfl,?_⟩⟩⟩
   have kT:Kp [] H1 (upd H1 t (.tup [.int (i:Int),.ref c])):=(Kp.refl [] H1).new ht
   generalize upd H1 t (.tup [.int (i:Int),.ref c])=H2 at kT⊢
   have h12:=kT.old _ _ h1 Aq
   have h22:=kT.old _ _ h2 Aq
   have rl:=r3 _ (A5 (show R[i]?=some (R.getD i [])by rw[Ac,Ai hil];rfl))
   simp! [h12]
   refine⟨.inr ⟨kvs,.inl h22⟩,c,p,R.getD i [],hsF hs,rfl,kT.tup _ _ hcr,(ok.d hil).nn,rl,.inl ⟨hs,h12,λq hq=>?_⟩,λq H3 hq0 hq3 k3=>?_⟩
   ·have:=jcw (ok.d hil) hq
    unfold hsF
    rw[Ac,Ai (by omega)];rfl
   have h13:=k3.old _ _ h12 Aq
   have h23:=k3.old _ _ h22 Aq
   have kp3:Kp [] H H3:=kp.trans (kT.trans k3)
   have kl:=hi.len
   subst hl
   refine⟨kvs,h23,RwA R (hsF hs) hs.length,q,rfl,hq3,by omega,λv hv=>?_,λhv=>?_⟩
   ·obtain⟨j,j1,rfl,j3,j4⟩:=hi.d1 _ v hv
    rw[h13]
    refine⟨_,rfl,by rw[Ab];omega,hs++[j],kvs,_,_,⟨rfl,rfl⟩,by simp,hi.step ok hil (by omega) j3 j4 (λk=>?_) (by omega),by rw[Ig];rfl,by rw[jf npd.symm];exact h23,kp3.set h13 (.inr hp)⟩
    by_cases c:k=RwA R (hsF hs) hs.length
    ·rw[Ak c,c];exact hv
    ·rw[Ae c]
   ·rw[jf npd,h13]
    have kd:Kp [] H (upd H3 d (.dT (putK kvs (RwA R (hsF hs) hs.length) (V.int (hs.length:Int))))):=kp3.setD h23 (.inr hd0)
    refine⟨_,rfl,by rw[Ab];omega,hs++[hs.length],_,_,_,⟨rfl,rfl⟩,by simp,hi.step (kvs':=putK kvs (RwA R (hsF hs) hs.length) (V.int (hs.length:Int))) ok hil (Ah _) rfl (λj hj=>hi.d2 _ hv j hj) (λk=>jk3 _ _ _ _) (by have:=jdi kvs (RwA R (hsF hs) hs.length) (V.int (hs.length:Int));omega),by rw[Ig];rfl,by rw[jf npd.symm,je],kd.set (by rw[jf npd];exact h13) (.inr hp)⟩
  ·rintro σ H1 ⟨hs,kvs,v3,v4,rfl,hl,hi,h1,h2,kp⟩
   simp!
   exact k p hs H1 ⟨λi hi'=>hi.le i (by omega),λi hi'=>hi.same i (by omega),λi hi'=>hi.first i (by omega)⟩ (by omega) hp h1 kp
end
theorem je8:∀{l zs:List Nat},l.Nodup->(∀x∈l,x∈zs)->l.length<=zs.length
 |[],_,_,_=>A8 _
 |x::l,zs,nd,h=>by
  obtain⟨hx,nd'⟩:=O8.mp nd
  have hm:=h x (.head _)
  have:=je8 (l:=l) (zs:=zs.erase x) nd' λy hy=>(List.mem_erase_of_ne (λe:y=x=>hx (e▸hy))).mpr (h y (.tail _ hy))
  rw[List.length_erase_of_mem hm]at this
  have hp:0<zs.length:=List.length_pos_of_mem hm
  rw[List.length_cons]
  omega
theorem jlw{S:List Addr}{H H1:Hp}(k:Kp S H H1){b:Addr}{kvs:List (Key×V)}{o:HO}(hb:H1 b=some (.dK kvs))(h:b∈S\/H b=none):Kp S H (upd H1 b o):=by
 have ne:∀c u,H c=some u->c∉S->c≠b:=λc u e n z=>by
  subst z
  rcases h with h|h
  ·exact n h
  ·rw[h]at e;cases e
 refine⟨λc u e n=>by rw[jf (ne c u e n)];exact k.old c u e n,λc ys e=>?_,λc u e=>?_⟩
 ·have e1:=k.tup c ys e
  have:c≠b:=λz=>by rw[z,hb]at e1;cases e1
  rw[jf this];exact e1
 ·obtain⟨o',e'⟩:=k.dom c u e
  by_cases q:c=b
  ·subst q;exact⟨o,je⟩
  ·exact⟨o',by rw[jf q];exact e'⟩
theorem jo9(l:List Nat):l=[]\/∃s v,l=s++[v]:=by
 rcases List.eq_nil_or_concat l with h|⟨s,v,h⟩
 ·exact .inl h
 ·exact .inr ⟨s,v,by simpa using h⟩
def outR(R:List Row)(h:Nat->Nat)(dn:List Nat):List Row:=dn.map λv=>wpR (λx=>dn.idxOf x) (RwA R h v)
structure LI(R:List Row)(h:Nat->Nat)(st dn:List Nat)(kvs:List (L2.Key×V)):Prop where
 fin:st.foldr (λv d=>wk (chd R h) v d) dn=ordR R h
 dec:st.Pairwise (λa b=>b<a)
 nst:∀v∈st,v∉dn/\v<R.length
 nd:dn.Nodup
 lt:∀v∈dn,v<R.length
 num:∀x:Nat,valV kvs (.inl (x:Int))=if x∈dn then some (nV (dn.idxOf x))else none
 kl:kvs.length<=dn.length
 inn:∀v∈dn,∀p∈chd R h v,p∈dn
theorem LI.bound{R:List Row}{h:Nat->Nat}{st dn:List Nat}{kvs:List (L2.Key×V)}(I:LI R h st dn kvs):st.length+dn.length<=R.length:=by
 have nd:(st++dn).Nodup:=by
  rw[Ox]
  refine⟨I.dec.imp λh=>by omega,I.nd,λa ha b hb e=>(I.nst a ha).1 (e▸hb)⟩
 have:=je8 (zs:=List.range R.length) nd λx hx=>U9.mpr (by
  rcases A6.mp hx with h|h
  ·exact(I.nst x h).2
  ·exact I.lt x h)
 rw[Ax,We]at this
 exact this
theorem LI.push{R:List Row}{h:Nat->Nat}{st dn:List Nat}{v p:Nat}{rest:List Nat}{kvs:List (L2.Key×V)}(d:Dn (chd R h) R.length)(I:LI R h (st++[v]) dn kvs)(hf:(chd R h v).filter (λq=>!decide (q∈dn))=p::rest):LI R h (st++[v]++[p]) dn kvs:=by
 have hv:=(I.nst v (by simp)).2
 have hp:p∈(chd R h v).filter (λq=>!decide (q∈dn)):=by rw[hf];exact .head _
 obtain⟨hp1,hp2⟩:=Wu.mp hp
 have pv:=d v hv p hp1
 refine⟨?_,?_,?_,I.nd,I.lt,I.num,I.kl,I.inn⟩
 ·rw[<-I.fin,Wj,Wj,Wj]
  show List.foldr _ (wk _ v (wk _ p dn)) st=List.foldr _ (wk _ v dn) st
  rw[jrb d hv hf]
 ·rw[Ux]
  refine⟨I.dec,by simp,λa ha b hb=>?_⟩
  simp at hb
  subst hb
  rcases A6.mp ha with h1|h1
  ·have:=(Ux.mp I.dec).2.2 a h1 v (by simp)
   omega
  ·simp at h1;omega
 ·intro u hu
  rcases A6.mp hu with h1|h1
  ·exact I.nst u h1
  ·simp at h1;subst h1;exact⟨by simpa using hp2,by omega⟩
theorem LI.pop{R:List Row}{h:Nat->Nat}{st dn:List Nat}{v:Nat}{kvs:List (L2.Key×V)}(d:Dn (chd R h) R.length)(I:LI R h (st++[v]) dn kvs)(hf:(chd R h v).filter (λq=>!decide (q∈dn))=[]):LI R h st (dn++[v]) (putK kvs (.inl (v:Int)) (nV dn.length)):=by
 obtain⟨hv1,hv2⟩:=I.nst v (by simp)
 have all:∀p∈chd R h v,p∈dn:=λp hp=>by
  have:=Wp.mp hf p hp
  simpa using this
 have cs:∀u∈dn++[v],u∈dn\/u=v:=λu hu=>by simpa using hu
 refine⟨?_,(Ux.mp I.dec).1,λu hu=>?_,?_,λu hu=>?_,λx=>?_,?_,λu hu p hp=>?_⟩
 ·rw[<-I.fin,Wj]
  show List.foldr _ (dn++[v]) st=List.foldr _ (wk _ v dn) st
  rw[jrc d hv2 hf]
 ·obtain⟨h1,h2⟩:=I.nst u (by simp[hu])
  have:=(Ux.mp I.dec).2.2 u hu v (by simp)
  exact⟨λz=>(cs u z).elim h1 (by omega),h2⟩
 ·rw[Ox]
  exact⟨I.nd,by simp,λa ha b hb e=>hv1 ((e.trans (Ag.mp hb))▸ha)⟩
 ·rcases cs u hu with h1|rfl
  ·exact I.lt u h1
  ·exact hv2
 ·rw[jk3,I.num]
  by_cases c:x=v
  ·subst c
   rw[Ak rfl,Ak (by simp),List.idxOf_append,Ae hv1]
   simp
  ·rw[Ae (by simpa using λz:(x:Int)=v=>c (by omega))]
   by_cases hx:x∈dn
   ·rw[Ak hx,Ak (by simp[hx]),jab hx]
   ·rw[Ae hx,Ae (by simp[hx,c])]
 ·have:=jdi kvs (.inl (v:Int)) (nV dn.length)
  have:=I.kl
  rw[Ax]
  simp only[List.length_cons,List.length_nil]
  omega
 ·rcases cs u hu with h1|rfl
  ·exact Oa _ (I.inn u h1 p hp)
  ·exact Oa _ (all p hp)
theorem jqu{R:List Row}{h:Nat->Nat}{dn:List Nat}{v:Nat}(inn:∀v∈dn,∀p∈chd R h v,p∈dn)(hv:∀p∈chd R h v,p∈dn):outR R h (dn++[v])=outR R h dn++[wpR (λx=>dn.idxOf x) (RwA R h v)]:=by
 unfold outR
 rw[Ig]
 congr 1
 ·exact Iw λu hu=>jcz λp hp=>jab (inn u hu p hp)
 ·show[_]=[_]
  congr 1
  exact jcz λp hp=>jab (hv p hp)
def notI(dn:List Nat):V->Bool
 |.int i=>!decide (i.toNat∈dn)
 |_=>false
theorem jpa(dn ps:List Nat):(ps.map nV).filter (notI dn)=(ps.filter λq=>!decide (q∈dn)).map nV:=by
 rw[List.filter_map]
 congr 1
def spIO(K:PySem.W.Frag):Sp:=λvs H Q _=>∃(a:Addr)(us:List V)(R:List Row),vs=[.ref a]/\SqT K H a us/\RowsT H us R/\OkR R/\(∀r∈R,r.length<=100)/\1<=R.length/\R.length<=20000 /\
 ∀q us' F H',TidP R F->H q=none->FzT H' q us'->RowsT H' us' F->Kp [] H H'->Q (.ref q) H'
structure TIO(mg:Str->Option Value)(fh fw fp:Addr):Prop where
 n_len:mg "len"=none
 n_tuple:mg "tuple"=none
 m21z:mg "heads_of"=some (.ref fh)
 m4z:mg "with_parts"=some (.ref fw)
 m23z:mg "parts_of"=some (.ref fp)
section
variable{P:Program}{w:World}{K:PySem.W.Frag}{mg:Str->Option Value}{base:Heap}
abbrev ym:Stmt:=top 7
theorem y9:FnScope ["rows","heads","numbers","ordered","due","row","lacking"] ["rows"] (jk ym):=⟨rfl,rfl,rfl,by decide +kernel,rfl,by decide +kernel,by decide +kernel⟩
theorem ok_in_order{f fh fw fp:Addr}{fd fdh fdw fdp:FuncData}(F:Fun K "in_order" "in_order" ym f fd)(T:TIO mg fh fw fp)(F21z:Fun K "heads_of" "heads_of" yx fh fdh)(b21z:Binds K fdh ["rows"] [])
  (G21z:FnOk P w K mg base CX0 2 fh fdh ["rows"] (spHO K)) (F4z:Fun K "with_parts" "with_parts" ya fw fdw) (b4z:Binds K fdw ["row","numbers"] [])
  (G4z:FnOk P w K mg base CX0 1 fw fdw ["row","numbers"] spWP) (F23z:Fun K "parts_of" "parts_of" yy fp fdp) (b23z:Binds K fdp ["row"] [])
  (G23z:FnOk P w K mg base CX0 1 fp fdp ["row"] jl7):FnOk P w K mg base CX0 3 f fd ["rows"] (spIO K):=by
 refine F.ok y9 (λvs H Q E h=>?_) (λcdv A outer s H vs Q E hr h=>?_)
 ·obtain⟨a,us,R,rfl,_⟩:=h
  rfl
 ·obtain⟨a,us,R,rfl,hS,rt,ok,r3,l1,l2,k⟩:=h
  have hu:=hr.units
  have hsz:sizeLine=16777216:=Ar
  have hu1:(A.deeper (PyProof.Rows.envOfC (Str.ofString "in_order") (jk ym) s.heap.objs.size f cdv)).units+1<cLine:=by omega
  have ul:us.length=R.length:=Il rt
  refine exQ (jh (jp (i:=1) y9.nd rfl (by first|exact Or.inl rfl|exact Or.inr rfl) (jm G21z (hr.mono (by decide)) rfl T.m21z F21z.kp b21z .nil jo (jc (qpv 0) jd)))
  (jh (jp (i:=2) y9.nd rfl (by first|exact Or.inl rfl|exact Or.inr rfl) qpe_disp0)
  (jh (jp (i:=3) y9.nd rfl (by first|exact Or.inl rfl|exact Or.inr rfl) (j5 jd))
  (jh (jp (i:=4) y9.nd rfl (by first|exact Or.inl rfl|exact Or.inr rfl) (j5 (jc (jr ix_U (qpv 1) (ja3 jfj jg) (λ_ _=>rfl)) jd)))
  (jh (jak Iq (ja8 (qpv 4)) (jh (jp (i:=5) y9.nd rfl (by first|exact Or.inl rfl|exact Or.inr rfl) (jm G4z (hr.mono (by decide)) rfl T.m4z F4z.kp b4z .nil jo (jc (jr jb8 (qpv 0) (jr ix_U (qpv 4) (ja3 jfj jg) (λ_ _=>rfl)) (λ_ _=>rfl)) (jc (qpv 1) jd))))
  (jh (qps_setcIf (i:=6) y9.nd rfl (by first|exact Or.inl rfl|exact Or.inr rfl) rfl (jda (sc:=jk ym) (N:=["rows","heads","numbers","ordered","due","row","lacking"]) (Nc:=["part","numbers"]) (js:=[none,some 2]) (by decide +kernel)) (zt (K:=K) (jm G23z (hr.mono (by decide)) rfl T.m23z F23z.kp b23z .nil jo (jc (qpv 5) jd)) rfl) (λ_ _ _ _=>(kh (i:=0) (show List.Nodup [("part":Str),("numbers":Str)]from by decide +kernel) rfl (by first|exact Or.inl rfl|exact Or.inr rfl))) (λ_ _ _ _=>(jbm (qpc_dnotin hu1 (qpv 0) (qpv 1)) (by with_unfolding_all rfl))) (λ_ _ _ _=>(qpv 0)))
  (yr (j0 (ja8 (qpv 6)) (jh (jz (kf Az A0 j8 (qpv 4) (jc (jr ix_U (qpv 6) jg (λ_ _=>rfl)) jd) jcl))
  (ji qps_continue)) j6)
  (jh (qps_dput hu1 (qpv 2) (z6 Oi Oj z5 (qpv 4) jcl) (jy ka (by rfl) T.n_len ky (jc (qpv 3) jd)) rfl)
  (ji (jz (kf Az A0 j8 (qpv 3) (jc (jm G4z (hr.mono (by decide)) rfl T.m4z F4z.kp b4z .nil jo (jc (qpv 5) (jc (qpv 2) jd))) jd) jcl))))))))
  (ji (ju (kj call_tupleF (by rfl) T.n_tuple zg (jc (qpv 3) jd))))))))) ?_
  simp!
  refine⟨a,us,R,rfl,hS,rt,ok,r3,l2,λph hs H1 hd hl hp0 hp1 k1=>?_⟩
  have d:=jdu ok hd
  intro pn hn
  refine⟨by omega,λpo ho=>?_⟩
  have npo:pn≠po:=jj je ho
  have nhn:ph≠pn:=jj hp1 hn
  have nho:ph≠po:=jj (by rw[jf nhn];exact hp1) ho
  have e2:upd (upd H1 pn (.dK [])) po (.lst []) ph=some (.lst (hs.map nV)):=by rw[jf nho,jf nhn];exact hp1
  rw[jd5,e2]
  refine⟨_,rfl,nV (hsF hs (R.length-1)),jni ?_,by omega,λpd hpd=>?_⟩
  ·rw[Ab,Ao,hl]
   unfold hsF
   rw[Ac,Ai (by omega)];rfl
  have npd:pn≠pd:=jj (by rw[jf npo,je]) hpd
  have nod:po≠pd:=jj je hpd
  have nhd:ph≠pd:=jj e2 hpd
  have kk:Kp [] H (upd (upd (upd H1 pn (.dK [])) po (.lst [])) pd (.lst [nV (hsF hs (R.length-1))])):=((k1.new hn).new ho).new hpd
  have hn0:H pn=none:=k1.free hn
  have ho0:H po=none:=(k1.new hn).free ho
  have hd0:H pd=none:=((k1.new hn).new ho).free hpd
  refine⟨λm σ H'=>∃(st dn:List Nat)(kvs:List (L2.Key×V))(os:List V)(v5 v6:Option V),σ=[some (.ref a),some (.ref ph),some (.ref pn),some (.ref po),some (.ref pd),v5,v6]/\LI R (hsF hs) st dn kvs/\m=2*(R.length-dn.length)-st.length /\
   H' ph=some (.lst (hs.map nV))/\H' pn=some (.dK kvs)/\H' po=some (.lst os)/\RowsT H' os (outR R (hsF hs) dn)/\H' pd=some (.lst (st.map nV))/\Kp [] H H',?_,?_⟩
  ·refine⟨_,[hsF hs (R.length-1)],[],[],[],none,none,rfl,⟨rfl,by simp,λv hv=>?_,W8,by simp,λx=>by simp[valV],Ah _,by simp⟩,rfl,?_,?_,?_,.nil,je,kk⟩
   ·simp at hv
    subst hv
    have:=hd.le (R.length-1) (by omega)
    exact⟨by simp,by omega⟩
   ·rw[jf nhd];exact e2
   ·rw[jf npd,jf npo,je]
   ·rw[jf nod,je]
  rintro m σ H2 ⟨st,dn,kvs,os,v5,v6,rfl,I,rfl,g1,g2,g3,g4,g5,kp⟩
  simp! [g5]
  have hsq:∀q,q<R.length->hs[q]?=some (hsF hs q):=λq hq=>by
   unfold hsF
   rw[Ac,Ai (by omega)];rfl
  rcases jo9 st with rfl|⟨s0,v,rfl⟩
  ·rw[Ae (by simp)]
   refine⟨po,os,rfl,g3,λl H3 hl3 fz k3=>k l os _ H3 ⟨hsF hs,hd,?_⟩ (kp.free hl3) fz (g4.kp k3) (kp.trans k3)⟩
   have:dn=ordR R (hsF hs):=I.fin
   rw[this];rfl
  rw[Ak (by simp)]
  obtain⟨hv1,hv2⟩:=I.nst v (by simp)
  obtain⟨c,hc,hcr⟩:=(rt.kp kp).get hv2
  have rl:=r3 _ (A5 (show R[v]?=some (R.getD v [])by rw[Ac,Ai hv2];rfl))
  have bd:=I.bound
  rw[Ax,List.length_cons,List.length_nil]at bd
  have kl:=I.kl
  have ol:os.length=dn.length:=by rw[Il g4];simp[outR]
  refine⟨_,λ_ _ h=>h,nV v,by rw[Ig];exact jf5 _ _,⟨a,us,(v:Int),.ref c,rfl,rfl,kp.sqT (by simp) hS,jdf hc,?_⟩⟩
  refine⟨c,ph,R.getD v [],hsF hs,rfl,hcr,(ok.d hv2).nn,rl,.inl ⟨hs,g1,λq hq=>hsq q (by have:=jcw (ok.d hv2) hq;omega)⟩,λq H3 hq0 hq3 k3=>?_⟩
  have wl:(RwA R (hsF hs) v).length<=100:=by unfold RwA wpR;rw[Ab];exact rl
  refine⟨q,RwA R (hsF hs) v,rfl,hq3,jil _ _,wl,λpp hpp=>?_⟩
  have k4:Kp [] H3 (upd H3 pp (.lst ((ptR (RwA R (hsF hs) v)).map nV))):=(Kp.refl [] H3).new hpp
  have e4:upd H3 pp (.lst ((ptR (RwA R (hsF hs) v)).map nV)) pp=some (.lst ((ptR (RwA R (hsF hs) v)).map nV)):=je
  generalize upd H3 pp (.lst ((ptR (RwA R (hsF hs) v)).map nV))=H4 at k4 e4⊢
  have k24:=k3.trans k4
  have g14:=k24.old _ _ g1 Aq
  have g24:=k24.old _ _ g2 Aq
  have g34:=k24.old _ _ g3 Aq
  have g44:=g4.kp k24
  have g54:=k24.old _ _ g5 Aq
  have hq4:=k4.tup _ _ hq3
  have kp4:Kp [] H H4:=kp.trans k24
  simp! [e4]
  intro D hD
  have nnD:pn≠D:=jj g24 hD
  have pl:(ptR (RwA R (hsF hs) v)).length<=100:=Ih (List.length_filterMap_le _ _) wl
  refine jk7 (notI dn) id e4 hD (by rw[Ab];omega) (λx hx l Q' q=>?_) (λx hx _ l Q' q=>?_) λvv=>?_
  ·obtain⟨y,hy,rfl⟩:=A4.mp hx
   simp!
   refine⟨_,DGet.k (k:=.inl (y:Int)) (by rw[jf nnD];exact g24),?_⟩
   rw[I.num y]
   have:notI dn (nV y)=!(if y∈dn then some (nV (dn.idxOf y))else none).isSome:=by
    show(!decide (y∈dn))=_
    by_cases h:y∈dn <;> simp[h]
   rw[<-this]
   exact q
  ·simp!
   exact q
  rw[List.map_id,jpa]
  have kD:Kp [] H4 (upd H4 D (.lst (((ptR (RwA R (hsF hs) v)).filter λq=>!decide (q∈dn)).map nV))):=(Kp.refl [] H4).new hD
  have eD:upd H4 D (.lst (((ptR (RwA R (hsF hs) v)).filter λq=>!decide (q∈dn)).map nV)) D=some (.lst (((ptR (RwA R (hsF hs) v)).filter λq=>!decide (q∈dn)).map nV)):=je
  generalize upd H4 D (.lst (((ptR (RwA R (hsF hs) v)).filter λq=>!decide (q∈dn)).map nV))=H5 at kD eD⊢
  have g15:=kD.old _ _ g14 Aq
  have g25:=kD.old _ _ g24 Aq
  have g35:=kD.old _ _ g34 Aq
  have g45:=g44.kp kD
  have g55:=kD.old _ _ g54 Aq
  have hq5:=kD.tup _ _ hq4
  have kp5:Kp [] H H5:=kp4.trans kD
  clear g14 g24 g34 g44 g54 hq4 kp4 kD k4 k24 k3 hq3 g1 g2 g3 g4 g5 kp hD hpp
  cases hf:(ptR (RwA R (hsF hs) v)).filter λq=>!decide (q∈dn)with
  |cons p1 rest =>
   rw[hf]at eD
   refine⟨λ_ _=>False,?_,λ_ _ h=>h.elim⟩
   simp! [eD,g55]
   rw[Ak (show(!(nV p1::List.map nV rest).isEmpty)=true from rfl)]
   have I':=I.push d hf
   have bd':=I'.bound
   have ll:(s0++[v]++[p1]).length=(s0++[v]).length+1:=by simp
   have l0:(s0++[v]).length=s0.length+1:=by simp
   refine⟨by rw[Ab];omega,_,?_,s0++[v]++[p1],dn,kvs,os,_,_,⟨rfl,rfl⟩,I',rfl,?_,?_,?_,?_,?_,kp5.set g55 (.inr hd0)⟩
   ·omega
   ·rw[jf nhd];exact g15
   ·rw[jf npd];exact g25
   ·rw[jf nod];exact g35
   ·exact g45.kp ((Kp.refl [pd] H5).set g55 (.inl (.head _)))
   ·rw[Ig (l₁:=s0++[v])];rfl
  |nil =>
   rw[hf]at eD
   refine⟨λσ' H'=>σ'=[some (.ref a),some (.ref ph),some (.ref pn),some (.ref po),some (.ref pd),some (.ref q),some (.ref D)]/\H5=H',?_,?_⟩
   ·simp! [eD]
    rw[Ae (by simp)]
    trivial
   rintro _ _ ⟨rfl,rfl⟩
   have I':=I.pop d hf
   have all:∀p∈chd R (hsF hs) v,p∈dn:=λp hp=>by
    have:=Wp.mp hf p hp
    simpa using this
   have dl:(List.map nV (s0++[v])).dropLast=s0.map nV:=by simp
   simp! [g35,g55]
   rw[ol,dl]
   refine⟨nV v,by simp,upd (upd H5 pd (.lst (s0.map nV))) pn (.dK (putK kvs (.inl (v:Int)) (nV dn.length))),DPut.k (k:=.inl (v:Int)) (v:=nV dn.length) (by rw[jf npd];exact g25) (by omega),?_⟩
   have k6:Kp [pd,pn] H5 (upd (upd H5 pd (.lst (s0.map nV))) pn (.dK (putK kvs (.inl (v:Int)) (nV dn.length)))):=jlw ((Kp.refl [pd,pn] H5).set g55 (.inl (.head _))) (by rw[jf npd];exact g25) (.inl (by simp))
   have kp6:Kp [] H (upd (upd H5 pd (.lst (s0.map nV))) pn (.dK (putK kvs (.inl (v:Int)) (nV dn.length)))):=jlw (kp5.set g55 (.inr hd0)) (by rw[jf npd];exact g25) (.inr hn0)
   have e6n:upd (upd H5 pd (.lst (s0.map nV))) pn (.dK (putK kvs (.inl (v:Int)) (nV dn.length))) pn=some (.dK (putK kvs (.inl (v:Int)) (nV dn.length))):=je
   have e6d:upd (upd H5 pd (.lst (s0.map nV))) pn (.dK (putK kvs (.inl (v:Int)) (nV dn.length))) pd=some (.lst (s0.map nV)):=by rw[jf npd.symm,je]
   generalize upd (upd H5 pd (.lst (s0.map nV))) pn (.dK (putK kvs (.inl (v:Int)) (nV dn.length)))=H6 at k6 kp6 e6n e6d⊢
   have e6o:=k6.old _ _ g35 (by simp[nod,npo.symm])
   have e6h:=k6.old _ _ g15 (by simp[nhd,nhn])
   refine⟨by rw[e6o];rfl,q,pn,RwA R (hsF hs) v,λx=>dn.idxOf x,rfl,k6.tup _ _ hq5,jil _ _,wl,.inr ⟨_,e6n,λp hp=>?_⟩,λq2 H7 hq20 hq27 k7=>?_⟩
   ·rw[I'.num p,Ak (Oa _ (all p hp)),jab (all p hp)]
   have e7o:=k7.old _ _ e6o Aq
   have e7n:=k7.old _ _ e6n Aq
   have e7d:=k7.old _ _ e6d Aq
   have e7h:=k7.old _ _ e6h Aq
   have l0:(s0++[v]).length=s0.length+1:=by simp
   have l1':(dn++[v]).length=dn.length+1:=by simp
   have k8:Kp [po] H7 (upd H7 po (.lst (os++[.ref q2]))):=(Kp.refl [po] H7).set e7o (.inl (.head _))
   refine⟨os,by rw[e7o];rfl,by omega,_,?_,s0,dn++[v],_,os++[.ref q2],_,_,⟨rfl,rfl⟩,I',rfl,?_,?_,rfl,?_,?_,(kp6.trans k7).set e7o (.inr ho0)⟩
   ·omega
   ·rw[jf nho];exact e7h
   ·rw[jf npo];exact e7n
   ·rw[jqu I.inn all]
    exact Wm ((((g45.kp k6).kp k7)).kp k8) ⟨q2,rfl,k8.tup _ _ hq27⟩
   ·rw[jf nod.symm];exact e7d
end
inductive W4 where
 |par|op (w:BW)|no
def ws:W4->Str
 |.par=>"("
 |.op w=>ew w
 |.no=>"not"
def bpi:W4->Int
 |.par=>-1
 |.op .or=>0
 |.op .and=>1
 |.op .beh=>2
 |.no=>3
inductive Bd (k:Int):List W4->List Nat->List RE->List W4->List Nat->List RE->Prop
 |nil {rd:List Nat}{R:List RE}:Bd k [] rd R [] rd R
 |stop {w:W4}{wt:List W4}{rd:List Nat}{R:List RE}:bpi w<k->Bd k (w::wt) rd R (w::wt) rd R
 |no {wt:List W4}{l:Nat}{rd:List Nat}{R:List RE}{a:List W4}{b:List Nat}{c:List RE}:k<=3->Bd k wt (R.length::rd) (R++[.no l]) a b c->Bd k (.no::wt) (l::rd) R a b c
 |op {w:BW}{wt:List W4}{l f:Nat}{rd:List Nat}{R:List RE}{a:List W4}{b:List Nat}{c:List RE}:k<=bpi (.op w)->Bd k wt (R.length::rd) (R++[.bin w f l]) a b c->Bd k (.op w::wt) (l::f::rd) R a b c
theorem Bd.len{k:Int}{wt:List W4}{rd:List Nat}{R:List RE}{a:List W4}{b:List Nat}{c:List RE}(h:Bd k wt rd R a b c):R.length<=c.length/\c.length+a.length=R.length+wt.length/\b.length<=rd.length:=by
 induction h with
 |nil=>simp
 |stop=>simp
 |no _ _ ih=>simp only[Ax,List.length_cons,List.length_nil]at ih⊢;omega
 |op _ _ ih=>simp only[Ax,List.length_cons,List.length_nil]at ih⊢;omega
def RF(pr pd pw:Addr)(op:Int)(du:Bool):List (Str×V):=[("rows",.ref pr),("ready",.ref pd),("waiting",.ref pw),("opened",.int op),("due",.bl du)]
structure RC(K:PySem.W.Frag)(C:Addr):Prop where
 cls:Cls K C
 rows:NoAttr K C "rows"
 ready:NoAttr K C "ready"
 waiting:NoAttr K C "waiting"
 opened:NoAttr K C "opened"
 due:NoAttr K C "due"
def RowE(H:Hp)(us:List V)(R:List RE):Prop:=Paired (λv r=>∃a,v=.ref a/\H a=some (.tup (jcf r))) us R
theorem RowE.kp{S:List Addr}{H H':Hp}{us:List V}{R:List RE}(k:Kp S H H')(h:RowE H us R):RowE H' us R:=Paired.mapP h λ_ _ ⟨a,e,h⟩=>⟨a,e,k.tup _ _ h⟩
structure RdI(H:Hp)(x C dx pr pd pw:Addr)(wt:List W4)(rd:List Nat)(R:List RE)(op:Int)(du:Bool):Prop where
 hx:H x=some (.ins C dx (RF pr pd pw op du))
 hr:∃us,H pr=some (.lst us)/\RowE H us R
 hd:H pd=some (.lst (rd.reverse.map nV))
 hw:H pw=some (.lst (wt.reverse.map λw=>V.str (ws w)))
 n1:pr≠pd
 n2:pr≠pw
 n3:pd≠pw
section
variable{K:PySem.W.Frag}{H:Hp}{x C dx pr pd pw:Addr}{wt:List W4}{rd:List Nat}{R:List RE}{op:Int}{du:Bool}{σ:L2.St}{i:Nat}{Q:VK}
theorem fld0{fs:List (Str×V)}{f:Str}{v:V}(e:σ[i]?=some (some (.ref x)))(hx:H x=some (.ins C dx fs))(c:Cls K C)(n:NoAttr K C f)(l:fs.lookup f=some v)(q:Q v H):tFld K (tVar i) f σ H Q:=⟨.ref x,e,x,C,dx,fs,v,rfl,hx,c,n,l,q⟩
theorem RdI.rows(I:RdI H x C dx pr pd pw wt rd R op du)(c:RC K C)(e:σ[i]?=some (some (.ref x)))(q:Q (.ref pr) H):tFld K (tVar i) "rows" σ H Q:=fld0 e I.hx c.cls c.rows rfl q
theorem RdI.ready(I:RdI H x C dx pr pd pw wt rd R op du)(c:RC K C)(e:σ[i]?=some (some (.ref x)))(q:Q (.ref pd) H):tFld K (tVar i) "ready" σ H Q:=fld0 e I.hx c.cls c.ready rfl q
theorem RdI.waiting(I:RdI H x C dx pr pd pw wt rd R op du)(c:RC K C)(e:σ[i]?=some (some (.ref x)))(q:Q (.ref pw) H):tFld K (tVar i) "waiting" σ H Q:=fld0 e I.hx c.cls c.waiting rfl q
theorem RdI.opened(I:RdI H x C dx pr pd pw wt rd R op du)(c:RC K C)(e:σ[i]?=some (some (.ref x)))(q:Q (.int op) H):tFld K (tVar i) "opened" σ H Q:=fld0 e I.hx c.cls c.opened rfl q
theorem RdI.due(I:RdI H x C dx pr pd pw wt rd R op du)(c:RC K C)(e:σ[i]?=some (some (.ref x)))(q:Q (.bl du) H):tFld K (tVar i) "due" σ H Q:=fld0 e I.hx c.cls c.due rfl q
theorem RdI.setDue(I:RdI H x C dx pr pd pw wt rd R op du)(c:RC K C){D:Ends}{b:Bool}(e:σ[i]?=some (some (.ref x)))(q:D.nx σ (upd H x (.ins C dx (RF pr pd pw op b)))):sFld K (tVar i) (tC (.bl b)) "due" D σ H:=⟨.ref x,e,x,C,dx,_,rfl,I.hx,c.cls,c.due,by simp[RF],q⟩
theorem RdI.addO(I:RdI H x C dx pr pd pw wt rd R op du)(c:RC K C){D:Ends}{z:Int}(e:σ[i]?=some (some (.ref x)))(q:D.nx σ (upd H x (.ins C dx (RF pr pd pw (op+z) du)))):jft K (tVar i) (tC (.int z)) rAdd "opened" D σ H:=⟨.ref x,e,x,C,dx,_,.int op,rfl,I.hx,c.cls,c.opened,rfl,op,z,rfl,rfl,dx,_,I.hx,by simp[RF],q⟩
theorem RdI.subO(I:RdI H x C dx pr pd pw wt rd R op du)(c:RC K C){D:Ends}{z:Int}(e:σ[i]?=some (some (.ref x)))(q:D.nx σ (upd H x (.ins C dx (RF pr pd pw (op-z) du)))):jft K (tVar i) (tC (.int z)) rSub "opened" D σ H:=⟨.ref x,e,x,C,dx,_,.int op,rfl,I.hx,c.cls,c.opened,rfl,op,z,rfl,rfl,dx,_,I.hx,by simp[RF],q⟩
theorem RdI.fields(I:RdI H x C dx pr pd pw wt rd R op du)(op':Int)(du':Bool):RdI (upd H x (.ins C dx (RF pr pd pw op' du'))) x C dx pr pd pw wt rd R op' du'/\Kp [x,pr,pd,pw] H (upd H x (.ins C dx (RF pr pd pw op' du'))):=by
 have ne:∀b o,H b=some o->(∀C dx fs,o≠.ins C dx fs)->b≠x:=λb o e n z=>by
  rw[z,I.hx]at e
  exact n _ _ _ (Av e).symm
 obtain⟨us,hr,rr⟩:=I.hr
 refine⟨⟨je,⟨us,by rw[jf (ne _ _ hr λ_ _ _ z=>by cases z)];exact hr,Paired.mapP rr λ_ _ ⟨a,e,h⟩=>⟨a,e,by rw[jf (ne _ _ h λ_ _ _ z=>by cases z)];exact h⟩⟩,by rw[jf (ne _ _ I.hd λ_ _ _ z=>by cases z)];exact I.hd,by rw[jf (ne _ _ I.hw λ_ _ _ z=>by cases z)];exact I.hw,I.n1,I.n2,I.n3⟩,?_⟩
 refine⟨λb v e n=>?_,λb xs e=>?_,λb v e=>?_⟩
 ·rw[jf λz=>n (by rw[z];simp)];exact e
 ·rw[jf (ne _ _ e λ_ _ _ z=>by cases z)];exact e
 ·by_cases z:b=x
  ·rw[z,je];exact⟨_,rfl⟩
  ·rw[jf z];exact⟨v,e⟩
theorem RdI.kpL{p:Addr}{xs:List V}{y:HO}(I:RdI H x C dx pr pd pw wt rd R op du)(hp:H p=some (.lst xs))(m:p∈[x,pr,pd,pw]):Kp [x,pr,pd,pw] H (upd H p y):=(Kp.refl _ H).set hp (.inl m)
theorem RdI.nx{p:Addr}{xs:List V}(I:RdI H x C dx pr pd pw wt rd R op du)(hp:H p=some (.lst xs)):x≠p:=λz=>by rw[<-z,I.hx]at hp;cases hp
theorem RdI.putW(I:RdI H x C dx pr pd pw wt rd R op du)(wt':List W4):RdI (upd H pw (.lst (wt'.reverse.map λw=>V.str (ws w)))) x C dx pr pd pw wt' rd R op du:=by
 obtain⟨us,hr,rr⟩:=I.hr
 exact⟨by rw[jf (I.nx I.hw)];exact I.hx,⟨us,by rw[jf I.n2];exact hr,rr.kp (I.kpL I.hw (by simp))⟩,by rw[jf I.n3];exact I.hd,je,I.n1,I.n2,I.n3⟩
theorem RdI.putD(I:RdI H x C dx pr pd pw wt rd R op du)(rd':List Nat):RdI (upd H pd (.lst (rd'.reverse.map nV))) x C dx pr pd pw wt rd' R op du:=by
 obtain⟨us,hr,rr⟩:=I.hr
 exact⟨by rw[jf (I.nx I.hd)];exact I.hx,⟨us,by rw[jf I.n1];exact hr,rr.kp (I.kpL I.hd (by simp))⟩,je,by rw[jf I.n3.symm];exact I.hw,I.n1,I.n2,I.n3⟩
theorem RdI.new{p:Addr}{o:HO}(I:RdI H x C dx pr pd pw wt rd R op du)(hp:H p=none):RdI (upd H p o) x C dx pr pd pw wt rd R op du:=by
 obtain⟨us,hr,rr⟩:=I.hr
 have ne:∀b u,H b=some u->b≠p:=λb u e=>jj e hp
 exact⟨by rw[jf (ne _ _ I.hx)];exact I.hx,⟨us,by rw[jf (ne _ _ hr)];exact hr,rr.kp ((Kp.refl [] H).new hp)⟩,by rw[jf (ne _ _ I.hd)];exact I.hd,by rw[jf (ne _ _ I.hw)];exact I.hw,I.n1,I.n2,I.n3⟩
end
def spPR(C:Addr):Sp:=λvs H Q _=>∃(x dx pr pd pw a:Addr)(wt:List W4)(rd:List Nat)(R:List RE)(op:Int)(du:Bool)(r:RE),vs=[.ref x,.ref a]/\RdI H x C dx pr pd pw wt rd R op du/\H a=some (.tup (jcf r))/\R.length<=100000/\rd.length<=100000 /\
 ∀H',RdI H' x C dx pr pd pw wt (R.length::rd) (R++[r]) op du->Kp [x,pr,pd,pw] H H'->Q .non H'
structure TPR(K:PySem.W.Frag)(mg:Str->Option Value)(C:Addr):Prop where
 n_len:mg "len"=none
 rc:RC K C
section
variable{P:Program}{w:World}{K:PySem.W.Frag}{mg:Str->Option Value}{base:Heap}
abbrev zb:Stmt:=jes (top 23) 6
theorem sc_Rd_put_row:FnScope ["self","row"] ["self","row"] (jk zb):=⟨rfl,rfl,rfl,by decide +kernel,rfl,by decide +kernel,by decide +kernel⟩
theorem ok_put_row{f C:Addr}{fd:FuncData}(F:Fun K "put_row" "Reading.put_row" zb f fd)(T:TPR K mg C):FnOk P w K mg base CX0 1 f fd ["self","row"] (spPR C):=by
 refine F.ok sc_Rd_put_row (λvs H Q E h=>?_) (λcdv A outer s H vs Q E hr h=>?_)
 ·obtain⟨x,dx,pr,pd,pw,a,wt,rd,R,op,du,r,rfl,_⟩:=h
  rfl
 ·obtain⟨x,dx,pr,pd,pw,a,wt,rd,R,op,du,r,rfl,I,ha,r9,d9,k⟩:=h
  have hu:=hr.units
  have hsz:sizeLine=16777216:=Ar
  obtain⟨us,er,rr⟩:=I.hr
  have ul:us.length=R.length:=Il rr
  refine exQ (jh (jz (kf Az A0 j8 (ke (K:=K) rfl (qpv 0)) (jc (jy ka (by rfl) T.n_len ky (jc (ke (K:=K) rfl (qpv 0)) jd)) jd) (jc5 (jdm _))))
  (ji (jz (kf Az A0 j8 (ke (K:=K) rfl (qpv 0)) (jc (qpv 1) jd) (jc5 (jdm _)))))) ?_
  simp!
  refine I.ready T.rc rfl ⟨by show(jch (H pd)).isSome=true;rw[I.hd];rfl,?_⟩
  refine I.rows T.rc rfl ?_
  rw[jfd,er]
  refine⟨us,rfl,?_⟩
  rw[jc1,I.hd]
  refine⟨_,rfl,by rw[Ab,Uf];omega,?_⟩
  have e1:(.lst (rd.reverse.map nV++[V.int us.length]):HO)=.lst ((R.length::rd).reverse.map nV):=by rw[ul];simp[nV]
  rw[e1]
  have I1:=I.putD (R.length::rd)
  have k1:Kp [x,pr,pd,pw] H (upd H pd (.lst ((R.length::rd).reverse.map nV))):=I.kpL I.hd (by simp)
  have ha1:=k1.tup _ _ ha
  generalize upd H pd (.lst ((R.length::rd).reverse.map nV))=H1 at I1 k1 ha1⊢
  obtain⟨us1,er1,rr1⟩:=I1.hr
  have ul1:us1.length=R.length:=Il rr1
  refine I1.rows T.rc rfl ⟨by show(jch (H1 pr)).isSome=true;rw[er1];rfl,?_⟩
  rw[jc1,er1]
  have k2:Kp [x,pr,pd,pw] H1 (upd H1 pr (.lst (us1++[.ref a]))):=I1.kpL er1 (by simp)
  exact⟨_,rfl,by omega,k _ ⟨by rw[jf (I1.nx er1)];exact I1.hx,⟨_,je,Wm (rr1.kp k2) ⟨a,rfl,k2.tup _ _ ha1⟩⟩,by rw[jf I1.n1.symm];exact I1.hd,by rw[jf I1.n2.symm];exact I1.hw,I1.n1,I1.n2,I1.n3⟩ (k1.trans k2)⟩
end
def KB:List (Key×V):=[(.inr "(",.int (-1)),(.inr "or",.int 0),(.inr "and",.int 1),(.inr "behind",.int 2),(.inr "not",.int 3),(.inr "letter",.int 4),(.inr "blank",.int 4),(.inr "nothing",.int 4)]
theorem ji5(w:W4):valV KB (.inr (ws w))=some (.int (bpi w)):=by
 cases w with
 |par=>decide +kernel
 |op w=>cases w <;> decide +kernel
 |no=>decide +kernel
theorem jse(w:W4):(ws w=Str.ofString "not")↔w=.no:=by
 cases w with
 |par=>exact⟨λh=>absurd h (by decide +kernel),λh=>by cases h⟩
 |op w=>cases w <;> exact⟨λh=>absurd h (by decide +kernel),λh=>by cases h⟩
 |no=>exact⟨λ_=>rfl,λ_=>rfl⟩
def spBi(C:Addr):Sp:=λvs H Q _=>∃(x dx pr pd pw:Addr)(k:Int)(wt:List W4)(rd:List Nat)(R:List RE)(op:Int)(du:Bool)(wt':List W4)(rd':List Nat)(R':List RE),vs=[.ref x,.int k]/\RdI H x C dx pr pd pw wt rd R op du/\0<=k/\Bd k wt rd R wt' rd' R'/\R.length+wt.length<=90000/\rd.length<=90000 /\
 ∀H',RdI H' x C dx pr pd pw wt' rd' R' op du->Kp [x,pr,pd,pw] H H'->Q .non H'
structure TBi(P:Program)(w:World)(K:PySem.W.Frag)(mg:Str->Option Value)(C ab fp:Addr):Prop where
 rc:RC K C
 cls:Cls K C
 m_BINDS:mg "BINDS"=some (.ref ab)
 kb:KDict P w K ab KB
 d_put_row:Meth K C "put_row" fp
section
variable{P:Program}{w:World}{K:PySem.W.Frag}{mg:Str->Option Value}{base:Heap}
abbrev zv:Stmt:=jes (top 23) 5
theorem jau:FnScope ["self","binds","word","last"] ["self","binds"] (jk zv):=⟨rfl,rfl,rfl,by decide +kernel,rfl,by decide +kernel,by decide +kernel⟩
theorem ok_bind{f C ab fp:Addr}{fd fdp:FuncData}(F:Fun K "bind" "Reading.bind" zv f fd)(T:TBi P w K mg C ab fp)(b15z:Binds K fdp ["self","row"] [])(G15z:FnOk P w K mg base CX0 1 fp fdp ["self","row"] (spPR C)):FnOk P w K mg base CX0 2 f fd ["self","binds"] (spBi C):=by
 refine F.ok jau (λvs H Q E h=>?_) (λcdv A outer s H vs Q E hr h=>?_)
 ·obtain⟨x,dx,pr,pd,pw,k,wt,rd,R,op,du,wt',rd',R',rfl,_⟩:=h
  rfl
 ·obtain⟨x,dx,pr,pd,pw,k,wt,rd,R,op,du,wt',rd',R',rfl,I,k0,B,r9,d9,kk⟩:=h
  have hu:=hr.units
  have hsz:sizeLine=16777216:=Ar
  refine exQ (ji (jak Iq (QW.pt (jb7 (ja8 (ke (K:=K) rfl (qpv 0))) (jb1 (jt jcd (zc (P:=P) (w:=w) (K:=K) rfl rfl rfl (yi (v:=.ref _) rfl T.m_BINDS rfl) (jr ix_U (ke (K:=K) rfl (qpv 0)) (ja3 jfj jg) (λ_ _=>rfl)) (λ_ _=>rfl)) (qpv 1) (jx _))))) (jh (jp (i:=2) jau.nd rfl (by first|exact Or.inl rfl|exact Or.inr rfl) (z6 Oi Oj z5 (ke (K:=K) rfl (qpv 0)) (jc5 (jdm _))))
  (jh (jp (i:=3) jau.nd rfl (by first|exact Or.inl rfl|exact Or.inr rfl) (z6 Oi Oj z5 (ke (K:=K) rfl (qpv 0)) (jc5 (jdm _))))
  (ji (j0 (jt (kz hu) (qpv 2) jn (jx _)) (ji (jz (yq (qpv 0) T.cls T.d_put_row G15z (hr.mono (by decide)) b15z .nil jo (jc (j7 (jc (qpv 2) (jc (qpv 3) jd))) jd)))) (ji (jz (yq (qpv 0) T.cls T.d_put_row G15z (hr.mono (by decide)) b15z .nil jo (jc (j7 (jc (qpv 2) (jc (z6 Oi Oj z5 (ke (K:=K) rfl (qpv 0)) (jc5 (jdm _))) (jc (qpv 3) jd)))) jd)))))))))) ?_
  simp!
  obtain⟨W,hW⟩:∃W:Nat->L2.St->Hp->Prop,W=λμ σ H'=>∃(wt1:List W4)(rd1:List Nat)(R1:List RE)(v2 v3:Option V),σ=[some (.ref x),some (.int k),v2,v3]/\RdI H' x C dx pr pd pw wt1 rd1 R1 op du/\Bd k wt1 rd1 R1 wt' rd' R'/\R1.length+wt1.length<=90000/\rd1.length<=90000/\Kp [x,pr,pd,pw] H H'/\μ=wt1.length:=⟨_,rfl⟩
  refine⟨W,?_,?_⟩
  ·rw[hW]
   exact⟨_,wt,rd,R,none,none,rfl,I,B,r9,d9,Kp.refl _ _,rfl⟩
  intro μ σ H1 hw
  rw[hW]at hw
  obtain⟨wt1,rd1,R1,v2,v3,rfl,I1,B1,r91,d91,k1,rfl⟩:=hw
  simp!
  refine I1.waiting T.rc rfl ?_
  rw[jd6,I1.hw]
  refine⟨_,rfl,?_⟩
  cases wt1 with
  |nil =>
   cases B1
   exact kk _ I1 k1
  |cons w0 wt2 =>
   have e1:((w0::wt2).reverse.map λw=>V.str (ws w))=(wt2.reverse.map λw=>V.str (ws w))++[V.str (ws w0)]:=by simp
   have hwl:=I1.hw
   rw[e1]at hwl
   rw[e1,show(!((wt2.reverse.map λw=>V.str (ws w))++[V.str (ws w0)]).isEmpty)=true by simp,Ak rfl]
   refine I1.waiting T.rc rfl ?_
   rw[jd5,hwl]
   refine⟨_,rfl,_,jf5 _ _,KB,T.kb,.inr (ws w0),rfl,_,ji5 w0,_,rfl,?_⟩
   by_cases c:k<=bpi w0
   ·rw[Ak c]
    refine⟨λσ' H'=>∃m',m'<wt2.length+1/\W m' σ' H',λ_ _ h=>h,?_⟩
    refine I1.waiting T.rc rfl ⟨by show(jch (H1 pw)).isSome=true;rw[hwl];rfl,?_⟩
    rw[jc6,hwl]
    refine⟨_,rfl,V.str (ws w0),by simp,?_⟩
    rw[Uc]
    have I2:=I1.putW wt2
    have k2:Kp [x,pr,pd,pw] H1 (upd H1 pw (.lst (wt2.reverse.map λw=>V.str (ws w)))):=I1.kpL I1.hw (by simp)
    generalize upd H1 pw (.lst (wt2.reverse.map λw=>V.str (ws w)))=H2 at I2 k2⊢
    refine I2.ready T.rc rfl ⟨by show(jch (H2 pd)).isSome=true;rw[I2.hd];rfl,?_⟩
    have lkp:∀op du,List.lookup (Str.ofString "put_row") (RF pr pd pw op du)=none:=λ_ _=>rfl
    simp only[List.length_cons]at r91
    cases w0 with
    |par=>exact absurd c (by simp only[bpi];omega)
    |no =>
     cases B1 with
     |stop h=>exact absurd c (by omega)
     |no hk B2 =>
      rename_i l rd2
      have e2:((l::rd2).reverse.map nV)=rd2.reverse.map nV++[nV l]:=by simp
      have hdl:=I2.hd
      rw[e2]at hdl
      rw[jc6,hdl]
      refine⟨_,rfl,nV l,by simp,?_⟩
      rw[Uc]
      have I3:=I2.putD rd2
      have k3:Kp [x,pr,pd,pw] H2 (upd H2 pd (.lst (rd2.reverse.map nV))):=I2.kpL I2.hd (by simp)
      generalize upd H2 pd (.lst (rd2.reverse.map nV))=H3 at I3 k3⊢
      rw[jev]
      refine⟨_,rfl,?_⟩
      rw[Ak (by simp[ws])]
      refine⟨dx,_,I3.hx,lkp _ _,by omega,λp hp=>?_⟩
      simp only[List.length_cons]at d91
      refine⟨x,dx,pr,pd,pw,p,wt2,rd2,R1,op,du,.no l,rfl,I3.new hp,je,by omega,by omega,λH4 I4 k4=>?_⟩
      refine⟨wt2.length,by omega,?_⟩
      rw[hW]
      exact⟨wt2,_,_,_,_,rfl,I4,B2,by simp only[Ax,List.length_cons,List.length_nil];omega,by simp only[List.length_cons];omega,(k1.trans k2).trans ((k3.new hp).trans k4),rfl⟩
    |op w1 =>
     cases B1 with
     |stop h=>exact absurd c (by omega)
     |op hk B2 =>
      rename_i l f rd2
      have e2:((l::f::rd2).reverse.map nV)=(f::rd2).reverse.map nV++[nV l]:=by simp
      have hdl:=I2.hd
      rw[e2]at hdl
      rw[jc6,hdl]
      refine⟨_,rfl,nV l,by simp,?_⟩
      rw[Uc]
      have I3:=I2.putD (f::rd2)
      have k3:Kp [x,pr,pd,pw] H2 (upd H2 pd (.lst ((f::rd2).reverse.map nV))):=I2.kpL I2.hd (by simp)
      generalize upd H2 pd (.lst ((f::rd2).reverse.map nV))=H3 at I3 k3⊢
      rw[jev]
      refine⟨_,rfl,?_⟩
      rw[Ae (by simp only[decide_eq_true_eq];exact λz=>by cases(jse _).mp z)]
      refine⟨dx,_,I3.hx,lkp _ _,?_⟩
      refine I3.ready T.rc rfl ⟨by show(jch (H3 pd)).isSome=true;rw[I3.hd];rfl,?_⟩
      have e3:((f::rd2).reverse.map nV)=rd2.reverse.map nV++[nV f]:=by simp
      have hdl3:=I3.hd
      rw[e3]at hdl3
      rw[jc6,hdl3]
      refine⟨_,rfl,nV f,by simp,?_⟩
      rw[Uc]
      have I4:=I3.putD rd2
      have k4:Kp [x,pr,pd,pw] H3 (upd H3 pd (.lst (rd2.reverse.map nV))):=I3.kpL I3.hd (by simp)
      generalize upd H3 pd (.lst (rd2.reverse.map nV))=H4 at I4 k4⊢
      refine⟨by omega,λp hp=>?_⟩
      simp only[List.length_cons]at d91
      refine⟨x,dx,pr,pd,pw,p,wt2,rd2,R1,op,du,.bin w1 f l,rfl,I4.new hp,je,by omega,by omega,λH5 I5 k5=>?_⟩
      refine⟨wt2.length,by omega,?_⟩
      rw[hW]
      exact⟨wt2,_,_,_,_,rfl,I5,B2,by simp only[Ax,List.length_cons,List.length_nil];omega,by simp only[List.length_cons];omega,((k1.trans k2).trans k3).trans ((k4.new hp).trans k5),rfl⟩
   ·rw[Ae c]
    cases B1 with
    |stop h=>exact kk _ I1 k1
    |no hk _=>exact absurd hk c
    |op hk _=>exact absurd hk c
end
def sgn(c:Nat):Str:=⟨#[c]⟩
theorem jdd(c d:Nat):(sgn c=sgn d)↔c=d:=by simp[sgn]
def lf(c:Nat):Option RE:=if c=46 then some .blank else if c=48 then some .nothing else if 97<=c/\c<=122 then some (.letter (sgn c))else none
inductive Bg (c:Nat) (wt:List W4) (rd:List Nat) (R:List RE) (op:Nat):List W4->List Nat->List RE->Nat->Bool->Prop
 |no:c=45->Bg c wt rd R op (.no::wt) rd R op true
 |par:c=40->Bg c wt rd R op (.par::wt) rd R (op+1) true
 |leaf {r:RE}:lf c=some r->Bg c wt rd R op wt (R.length::rd) (R++[r]) op false
def wc:BW->Nat
 |.or=>124
 |.and=>38
 |.beh=>0
inductive Sg (c:Nat) (wt:List W4) (rd:List Nat) (R:List RE) (op:Nat):Bool->List W4->List Nat->List RE->Nat->Bool->Prop
 |shut {wt':List W4}{rd':List Nat}{R':List RE}{o:Nat}:c=41->op=o+1->Bd 0 wt rd R (.par::wt') rd' R'->Sg c wt rd R op false wt' rd' R' o false
 |word {w:BW}{wt':List W4}{rd':List Nat}{R':List RE}:w≠.beh->c=wc w->Bd (bpi (.op w)) wt rd R wt' rd' R'->Sg c wt rd R op false (.op w::wt') rd' R' op true
 |part {wt':List W4}{rd':List Nat}{R':List RE}{o:Nat}{d:Bool}:Bg c wt rd R op wt' rd' R' o d->Sg c wt rd R op true wt' rd' R' o d
 |more {wt1 wt':List W4}{rd1 rd':List Nat}{R1 R':List RE}{o:Nat}{d:Bool}:Bd 2 wt rd R wt1 rd1 R1->Bg c (.op .beh::wt1) rd1 R1 op wt' rd' R' o d->Sg c wt rd R op false wt' rd' R' o d
def spWS(C:Addr):Sp:=λvs H Q _=>∃(x dx pr pd pw:Addr)(w:BW)(wt:List W4)(rd:List Nat)(R:List RE)(op:Int)(du:Bool)(wt':List W4)(rd':List Nat)(R':List RE),vs=[.ref x,.str (ew w)]/\RdI H x C dx pr pd pw wt rd R op du/\Bd (bpi (.op w)) wt rd R wt' rd' R'/\R.length+wt.length<=90000/\rd.length<=90000 /\
 ∀H',RdI H' x C dx pr pd pw (.op w::wt') rd' R' op true->Kp [x,pr,pd,pw] H H'->Q .non H'
structure TWS(P:Program)(w:World)(K:PySem.W.Frag)(mg:Str->Option Value)(C ab fb:Addr):Prop where
 rc:RC K C
 cls:Cls K C
 m_BINDS:mg "BINDS"=some (.ref ab)
 kb:KDict P w K ab KB
 d_bind:Meth K C "bind" fb
def spRS:Sp:=λvs H Q _=>∃(c:Nat)(r:RE),vs=[.str (sgn c)]/\lf c=some r/\∀p,H p=none->Q (.ref p) (upd H p (.tup (jcf r)))
def spBg(C:Addr):Sp:=λvs H Q _=>∃(x dx pr pd pw:Addr)(c:Nat)(wt:List W4)(rd:List Nat)(R:List RE)(op:Nat)(wt':List W4)(rd':List Nat)(R':List RE)(o:Nat)(d:Bool),vs=[.ref x,.str (sgn c)]/\RdI H x C dx pr pd pw wt rd R (op:Int) true/\Bg c wt rd R op wt' rd' R' o d/\R.length<=90000/\wt.length<=90000/\rd.length<=90000 /\
 ∀H',RdI H' x C dx pr pd pw wt' rd' R' (o:Int) d->Kp [x,pr,pd,pw] H H'->Q .non H'
structure TBg(K:PySem.W.Frag)(mg:Str->Option Value)(C fr fp:Addr):Prop where
 rc:RC K C
 cls:Cls K C
 m25z:mg "row_of_sign"=some (.ref fr)
 d_put_row:Meth K C "put_row" fp
section
variable{P:Program}{w:World}{K:PySem.W.Frag}{mg:Str->Option Value}{base:Heap}
theorem lk_m(m:Str)(pr pd pw:Addr)(op:Int)(du:Bool)(h:(m == "rows")=false/\(m == "ready")=false/\(m == "waiting")=false/\(m == "opened")=false/\(m == "due")=false):List.lookup m (RF pr pd pw op du)=none:=by
 unfold RF
 simp only[List.lookup_cons,h.1,h.2.1,h.2.2.1,h.2.2.2.1,h.2.2.2.2,List.lookup_nil]
abbrev km:Stmt:=jes (top 23) 3
theorem sc_Rd_wait_for_second:FnScope ["self","word"] ["self","word"] (jk km):=⟨rfl,rfl,rfl,by decide +kernel,rfl,by decide +kernel,by decide +kernel⟩
theorem ok_wait_for_second{f C ab fb:Addr}{fd fdb:FuncData}(F:Fun K "wait_for_second" "Reading.wait_for_second" km f fd)(T:TWS P w K mg C ab fb)(b10z:Binds K fdb ["self","binds"] [])(G10z:FnOk P w K mg base CX0 2 fb fdb ["self","binds"] (spBi C)):FnOk P w K mg base CX0 3 f fd ["self","word"] (spWS C):=by
 refine F.ok sc_Rd_wait_for_second (λvs H Q E h=>?_) (λcdv A outer s H vs Q E hr h=>?_)
 ·obtain⟨x,dx,pr,pd,pw,w1,wt,rd,R,op,du,wt',rd',R',rfl,_⟩:=h
  rfl
 ·obtain⟨x,dx,pr,pd,pw,w1,wt,rd,R,op,du,wt',rd',R',rfl,I,B,r9,d9,k⟩:=h
  have hu:=hr.units
  have hsz:sizeLine=16777216:=Ar
  refine exQ (jh (jz (yq (qpv 0) T.cls T.d_bind G10z (hr.mono (by decide)) b10z .nil jo (jc (zc (P:=P) (w:=w) (K:=K) rfl rfl rfl (yi (v:=.ref _) rfl T.m_BINDS rfl) (qpv 1) (λ_ _=>rfl)) jd)))
  (jh (jz (kf Az A0 j8 (ke (K:=K) rfl (qpv 0)) (jc (qpv 1) jd) (jc5 (jdm _))))
  (ji (z8 (K:=K) rfl (qpv 0) z4)))) ?_
  simp!
  refine⟨dx,_,I.hx,lk_m _ _ _ _ _ _ (by decide +kernel),KB,T.kb,.inr (ew w1),rfl,_,ji5 (.op w1),?_⟩
  have k0:0<=bpi (.op w1):=by cases w1 <;> decide
  refine⟨x,dx,pr,pd,pw,_,wt,rd,R,op,du,wt',rd',R',rfl,I,k0,B,r9,d9,λH1 I1 k1=>?_⟩
  have bl:=B.len
  refine I1.waiting T.rc rfl ⟨by show(jch (H1 pw)).isSome=true;rw[I1.hw];rfl,?_⟩
  rw[jc1,I1.hw]
  refine⟨_,rfl,by rw[Ab,Uf];omega,?_⟩
  have e1:(.lst ((wt'.reverse.map λw=>V.str (ws w))++[V.str (ew w1)]):HO)=.lst ((W4.op w1::wt').reverse.map λw=>V.str (ws w)):=by simp[ws]
  rw[e1]
  have I2:=I1.putW (.op w1::wt')
  have k2:Kp [x,pr,pd,pw] H1 (upd H1 pw (.lst ((W4.op w1::wt').reverse.map λw=>V.str (ws w)))):=I1.kpL I1.hw (by simp)
  generalize upd H1 pw (.lst ((W4.op w1::wt').reverse.map λw=>V.str (ws w)))=H2 at I2 k2⊢
  obtain⟨I3,k3⟩:=I2.fields op true
  exact I2.setDue T.rc rfl (k _ I3 ((k1.trans k2).trans k3))
abbrev yk:Stmt:=top 24
theorem sc_row_of_sign:FnScope ["sign"] ["sign"] (jk yk):=⟨rfl,rfl,rfl,by decide +kernel,rfl,by decide +kernel,by decide +kernel⟩
theorem ok_row_of_sign{f:Addr}{fd:FuncData}(F:Fun K "row_of_sign" "row_of_sign" yk f fd):FnOk P w K mg base CX0 1 f fd ["sign"] spRS:=by
 refine F.ok sc_row_of_sign (λvs H Q E h=>?_) (λcdv A outer s H vs Q E hr h=>?_)
 ·obtain⟨c,r,rfl,_⟩:=h
  rfl
 ·obtain⟨c,r,rfl,l,k⟩:=h
  have hu:=hr.units
  have hsz:sizeLine=16777216:=Ar
  refine exQ (jh (j0 (jt (kz hu) (qpv 0) jn (jx _)) (ji (ju (j7 (jc jn jd)))) j6)
  (jh (j0 (jt (kz hu) (qpv 0) jn (jx _)) (ji (ju (j7 (jc jn jd)))) j6)
  (ji (ju (j7 (jc jn (jc (qpv 0) jd))))))) ?_
  simp!
  unfold lf at l
  have e1:(sgn c=Str.ofString ".")↔c=46:=jdd c 46
  have e2:(sgn c=Str.ofString "0")↔c=48:=jdd c 48
  simp only[e1,e2]
  by_cases c1:c=46
  ·rw[Ak c1]at l
   cases l
   rw[Ak c1]
   exact⟨by omega,k⟩
  rw[Ae c1]at l⊢
  by_cases c2:c=48
  ·rw[Ak c2]at l
   cases l
   rw[Ak c2]
   exact⟨by omega,k⟩
  rw[Ae c2]at l⊢
  by_cases c3:97<=c/\c<=122
  ·rw[Ak c3]at l
   cases l
   exact⟨by omega,k⟩
  ·rw[Ae c3]at l
   cases l
abbrev yh:Stmt:=jes (top 23) 4
theorem sc_Rd_begin_part:FnScope ["self","sign"] ["self","sign"] (jk yh):=⟨rfl,rfl,rfl,by decide +kernel,rfl,by decide +kernel,by decide +kernel⟩
theorem ok_begin_part{f C fr fp:Addr}{fd fdr fdp:FuncData}(F:Fun K "begin_part" "Reading.begin_part" yh f fd)(T:TBg K mg C fr fp)(F25z:Fun K "row_of_sign" "row_of_sign" yk fr fdr)(b25z:Binds K fdr ["sign"] [])(G25z:FnOk P w K mg base CX0 1 fr fdr ["sign"] spRS)
  (b15z:Binds K fdp ["self","row"] []) (G15z:FnOk P w K mg base CX0 1 fp fdp ["self","row"] (spPR C)):FnOk P w K mg base CX0 2 f fd ["self","sign"] (spBg C):=by
 refine F.ok sc_Rd_begin_part (λvs H Q E h=>?_) (λcdv A outer s H vs Q E hr h=>?_)
 ·obtain⟨x,dx,pr,pd,pw,c,wt,rd,R,op,wt',rd',R',o,d,rfl,_⟩:=h
  rfl
 ·obtain⟨x,dx,pr,pd,pw,c,wt,rd,R,op,wt',rd',R',o,d,rfl,I,B,r9,w9,d9,k⟩:=h
  have hu:=hr.units
  have hsz:sizeLine=16777216:=Ar
  have e1:(sgn c=Str.ofString "-")↔c=45:=jdd c 45
  have e2:(sgn c=Str.ofString "(")↔c=40:=jdd c 40
  have app:∀(w0:W4)(Q':VK),Q' .non (upd H pw (.lst ((w0::wt).reverse.map λw=>V.str (ws w))))->jeu (.ref pw) [V.str (ws w0)] H Q':=λw0 Q' q=>by
   rw[jc1,I.hw]
   refine⟨_,rfl,by rw[Ab,Uf];omega,?_⟩
   have:(.lst ((wt.reverse.map λw=>V.str (ws w))++[V.str (ws w0)]):HO)=.lst ((w0::wt).reverse.map λw=>V.str (ws w)):=by simp
   rw[this];exact q
  have isl:isL (.ref pw) H:=by show(jch (H pw)).isSome=true;rw[I.hw];rfl
  have kw:∀w0:W4,Kp [x,pr,pd,pw] H (upd H pw (.lst ((w0::wt).reverse.map λw=>V.str (ws w)))):=λw0=>I.kpL I.hw (by simp)
  refine exQ (ji (j0 (jt (kz hu) (qpv 1) jn (jx _)) (ji (jz (kf Az A0 j8 (ke (K:=K) rfl (qpv 0)) (jc jn jd) (jc5 (jdm _))))) (ji (j0 (jt (kz hu) (qpv 1) jn (jx _)) (jh (jz (kf Az A0 j8 (ke (K:=K) rfl (qpv 0)) (jc jn jd) (jc5 (jdm _))))
  (ji (jbe (K:=K) rfl (qpv 0) jg jrn))) (jh (jz (yq (qpv 0) T.cls T.d_put_row G15z (hr.mono (by decide)) b15z .nil jo (jc (jm G25z (hr.mono (by decide)) rfl T.m25z F25z.kp b25z .nil jo (jc (qpv 1) jd)) jd)))
  (ji (z8 (K:=K) rfl (qpv 0) z4))))))) ?_
  simp! [e1,e2]
  cases B with
  |no h =>
   rw[Ak h]
   exact I.waiting T.rc rfl ⟨isl,app .no _ (k _ (I.putW _) (kw _))⟩
  |par h =>
   rw[Ae (by omega),Ak h]
   refine I.waiting T.rc rfl ⟨isl,app .par _ ?_⟩
   have I2:=I.putW (.par::wt)
   have k2:=kw .par
   generalize upd H pw (.lst ((W4.par::wt).reverse.map λw=>V.str (ws w)))=H2 at I2 k2⊢
   obtain⟨I3,k3⟩:=I2.fields (op+1) true
   exact I2.addO T.rc rfl (k _ I3 (k2.trans k3))
  |leaf h =>
   have n1:¬c=45:=λz=>by subst z;cases h
   have n2:¬c=40:=λz=>by subst z;cases h
   rw[Ae n1,Ae n2]
   refine⟨dx,_,I.hx,lk_m _ _ _ _ _ _ (by decide +kernel),c,_,rfl,h,λp hp=>?_⟩
   refine⟨x,dx,pr,pd,pw,p,wt,rd,R,op,true,_,rfl,I.new hp,je,by omega,by omega,λH2 I2 k2=>?_⟩
   obtain⟨I3,k3⟩:=I2.fields op false
   exact I2.setDue T.rc rfl (k _ I3 ((((Kp.refl _ H).new hp).trans k2).trans k3))
end
theorem lt1(c d:Nat):([c]:List Nat)<[d]↔c<d:=by
 rw[List.cons_lt_cons_iff]
 simp
def KW:List (Key×V):=[(.inr "|",.str "or"),(.inr "&",.str "and")]
theorem jfm(c:Nat):valV KW (.inr (sgn c))=if c=124 then some (.str "or")else if c=38 then some (.str "and")else none:=by
 unfold KW
 by_cases c1:c=124
 ·subst c1;rfl
 by_cases c2:c=38
 ·subst c2;rfl
 rw[Ae c1,Ae c2,jcr,jcr,jpk]
 ·exact λz=>c2 ((jdd c 38).mp (Sum.inr.inj z).symm)
 ·exact λz=>c1 ((jdd c 124).mp (Sum.inr.inj z).symm)
theorem Bg.sign{c:Nat}{wt wt':List W4}{rd rd':List Nat}{R R':List RE}{op o:Nat}{d:Bool}(h:Bg c wt rd R op wt' rd' R' o d):c=45\/c=40\/c=46\/c=48\/(97<=c/\c<=122):=by
 cases h with
 |no h=>exact .inl h
 |par h=>exact .inr (.inl h)
 |leaf h =>
  unfold lf at h
  by_cases c1:c=46
  ·exact .inr (.inr (.inl c1))
  by_cases c2:c=48
  ·exact .inr (.inr (.inr (.inl c2)))
  by_cases c3:97<=c/\c<=122
  ·exact .inr (.inr (.inr (.inr c3)))
  rw[Ae c1,Ae c2,Ae c3]at h
  cases h
theorem Bg.len{c:Nat}{wt wt':List W4}{rd rd':List Nat}{R R':List RE}{op o:Nat}{d:Bool}(h:Bg c wt rd R op wt' rd' R' o d):R'.length<=R.length+1/\wt'.length<=wt.length+1/\rd'.length<=rd.length+1/\R'.length+wt'.length<=R.length+wt.length+1:=by
 cases h <;> simp <;> omega
theorem Sg.len{c:Nat}{wt wt':List W4}{rd rd':List Nat}{R R':List RE}{op o:Nat}{b d:Bool}(h:Sg c wt rd R op b wt' rd' R' o d):R'.length+wt'.length+rd'.length<=R.length+wt.length+rd.length+3:=by
 cases h with
 |shut _ _ B=>have:=B.len;simp only[List.length_cons]at this;omega
 |word _ _ B=>have:=B.len;simp only[List.length_cons];omega
 |part B=>have:=B.len;omega
 |more B1 B2=>have:=B1.len;have:=B2.len;simp only[List.length_cons]at this;omega
def spTk(C:Addr):Sp:=λvs H Q _=>∃(x dx pr pd pw:Addr)(c:Nat)(wt:List W4)(rd:List Nat)(R:List RE)(op:Nat)(b:Bool)(wt':List W4)(rd':List Nat)(R':List RE)(o:Nat)(d:Bool),vs=[.ref x,.str (sgn c)]/\RdI H x C dx pr pd pw wt rd R (op:Int) b/\Sg c wt rd R op b wt' rd' R' o d/\R.length+wt.length+rd.length<=80000 /\
 ∀H',RdI H' x C dx pr pd pw wt' rd' R' (o:Int) d->Kp [x,pr,pd,pw] H H'->Q .non H'
def spFi(C:Addr):Sp:=λvs H Q _=>∃(x dx pr pd pw:Addr)(c:Nat)(wt:List W4)(rd:List Nat)(R:List RE)(op:Nat)(b:Bool)(wt':List W4)(rd':List Nat)(R':List RE)(o:Nat)(d:Bool),vs=[.ref x,.str (sgn c)]/\RdI H x C dx pr pd pw wt rd R (op:Int) b/\Sg c wt rd R op b wt' rd' R' o d/\∀H',Kp [] H H'->Q (.bl true) H'
def spIn(C:Addr):Sp:=λvs H Q _=>∃(x dx:Addr),vs=[.ref x]/\H x=some (.ins C dx [])/\∀(pr pd pw:Addr)(H':Hp),RdI H' x C dx pr pd pw [] [] [] 0 true->H pr=none->H pd=none->H pw=none->Kp [x] H H'->Q .non H'
structure TTk(P:Program)(w:World)(K:PySem.W.Frag)(mg:Str->Option Value)(C ab aw fb fs fg:Addr):Prop where
 rc:RC K C
 cls:Cls K C
 m_BINDS:mg "BINDS"=some (.ref ab)
 kb:KDict P w K ab KB
 m_WORDS:mg "WORDS"=some (.ref aw)
 kw:KDict P w K aw KW
 wm:(aw == sysModules)=false
 d_bind:Meth K C "bind" fb
 d_wait_for_second:Meth K C "wait_for_second" fs
 d_begin_part:Meth K C "begin_part" fg
structure TFi(P:Program)(w:World)(K:PySem.W.Frag)(mg:Str->Option Value)(C aw:Addr):Prop where
 rc:RC K C
 m_WORDS:mg "WORDS"=some (.ref aw)
 kw:KDict P w K aw KW
 wm:(aw == sysModules)=false
section
variable{K:PySem.W.Frag}{H:Hp}{x C dx:Addr}{fs fs':List (Str×V)}{f:Str}{σ:L2.St}{i:Nat}{D:Ends}
theorem jh1(e:σ[i]?=some (some (.ref x)))(hx:H x=some (.ins C dx fs))(c:Cls K C)(n:NoAttr K C f)(l:fs.length<1000)(q:∀p,H p=none->D.nx σ (upd (upd H p (.lst [])) x (.ins C dx (putF f (.ref p) fs)))):sFld K (tVar i) (tLst tNil) f D σ H :=
 ⟨A8 _,λp hp=>⟨.ref x,e,x,C,dx,fs,rfl,by rw[jf (jj hx hp)];exact hx,c,n,l,q p hp⟩⟩
theorem jl5{v:V}(e:σ[i]?=some (some (.ref x)))(hx:H x=some (.ins C dx fs))(c:Cls K C)(n:NoAttr K C f)(l:fs.length<1000)(q:D.nx σ (upd H x (.ins C dx (putF f v fs)))):sFld K (tVar i) (tC v) f D σ H:=⟨.ref x,e,x,C,dx,fs,rfl,hx,c,n,l,q⟩
theorem jkp{S:List Addr}(e:H x=some (.ins C dx fs))(m:x∈S):Kp S H (upd H x (.ins C dx fs')):=by
 refine⟨λb v e' n=>?_,λb xs e'=>?_,λb v e'=>?_⟩
 ·rw[jf λz=>n (by rw[z];exact m)];exact e'
 ·rw[jf λz=>by rw[z,e]at e';cases e'];exact e'
 ·by_cases z:b=x
  ·rw[z,je];exact⟨_,rfl⟩
  ·rw[jf z];exact⟨v,e'⟩
theorem jff{S:List Addr}{p:Addr}(hx:H x=some (.ins C dx fs))(hp:H p=none)(m:x∈S):upd (upd H p (.lst [])) x (.ins C dx fs') x=some (.ins C dx fs')/\upd (upd H p (.lst [])) x (.ins C dx fs') p=some (.lst [])/\Kp S H (upd (upd H p (.lst [])) x (.ins C dx fs')):=by
 have ne:=jj hx hp
 have h1:upd H p (.lst []) x=some (.ins C dx fs):=by rw[jf ne];exact hx
 exact⟨je,by rw[jf ne.symm,je],((Kp.refl S H).new hp).trans (jkp h1 m)⟩
end
section
variable{P:Program}{w:World}{K:PySem.W.Frag}{mg:Str->Option Value}{base:Heap}
abbrev zy:Stmt:=jes (top 23) 2
theorem sc_Rd_take:FnScope ["self","sign"] ["self","sign"] (jk zy):=⟨rfl,rfl,rfl,by decide +kernel,rfl,by decide +kernel,by decide +kernel⟩
theorem ok_take{f C ab aw fb fs fg:Addr}{fd fdb fds fdg:FuncData}(F:Fun K "take" "Reading.take" zy f fd)(T:TTk P w K mg C ab aw fb fs fg)(b10z:Binds K fdb ["self","binds"] [])(G10z:FnOk P w K mg base CX0 2 fb fdb ["self","binds"] (spBi C))
  (b28z:Binds K fds ["self","word"] []) (G28z:FnOk P w K mg base CX0 3 fs fds ["self","word"] (spWS C)) (b29z:Binds K fdg ["self","sign"] []) (G29z:FnOk P w K mg base CX0 2 fg fdg ["self","sign"] (spBg C)):FnOk P w K mg base CX0 4 f fd ["self","sign"] (spTk C):=by
 refine F.ok sc_Rd_take (λvs H Q E h=>?_) (λcdv A outer s H vs Q E hr h=>?_)
 ·obtain⟨x,dx,pr,pd,pw,c,wt,rd,R,op,b,wt',rd',R',o,d,rfl,_⟩:=h
  rfl
 ·obtain⟨x,dx,pr,pd,pw,c,wt,rd,R,op,b,wt',rd',R',o,d,rfl,I,S,l9,k⟩:=h
  have hu:=hr.units
  have hsz:sizeLine=16777216:=Ar
  have e1:(sgn c=Str.ofString ")")↔c=41:=jdd c 41
  refine exQ (ji (j0 (jt (kz hu) (qpv 1) jn (jx _)) (jh (jz (yq (qpv 0) T.cls T.d_bind G10z (hr.mono (by decide)) b10z .nil jo (jc (zc (P:=P) (w:=w) (K:=K) rfl rfl rfl (yi (v:=.ref _) rfl T.m_BINDS rfl) jn (λ_ _=>rfl)) jd)))
  (jh (jz (z6 Oi Oj z5 (ke (K:=K) rfl (qpv 0)) (jc5 (jdm _))))
  (ji (jbe (K:=K) rfl (qpv 0) jg jro)))) (ji (j0 (jbm (jb0 (P:=P) (w:=w) (K:=K) rfl rfl rfl (qpv 1) (yi (v:=.ref _) rfl T.m_WORDS rfl)) (by with_unfolding_all rfl)) (ji (jz (yq (qpv 0) T.cls T.d_wait_for_second G28z (hr.mono (by decide)) b28z .nil jo (jc (zc (P:=P) (w:=w) (K:=K) rfl rfl rfl (yi (v:=.ref _) rfl T.m_WORDS rfl) (qpv 1) (λ_ _=>rfl)) jd)))) (jh (j0 (jae (za (ke (K:=K) rfl (qpv 0)))) (ji (jz (yq (qpv 0) T.cls T.d_wait_for_second G28z (hr.mono (by decide)) b28z .nil jo (jc jn jd)))) j6)
  (ji (jz (yq (qpv 0) T.cls T.d_begin_part G29z (hr.mono (by decide)) b29z .nil jo (jc (qpv 1) jd))))))))) ?_
  simp! [e1]
  cases S with
  |shut h ho B =>
   rw[Ak h]
   have bl:=B.len
   refine⟨dx,_,I.hx,lk_m _ _ _ _ _ _ (by decide +kernel),KB,T.kb,.inr (ew .or),rfl,_,ji5 (.op .or),?_⟩
   refine⟨x,dx,pr,pd,pw,0,wt,rd,R,op,false,_,_,_,rfl,I,by omega,B,by omega,by omega,λH1 I1 k1=>?_⟩
   refine I1.waiting T.rc rfl ⟨by show(jch (H1 pw)).isSome=true;rw[I1.hw];rfl,?_⟩
   have e2:((W4.par::wt').reverse.map λw=>V.str (ws w))=(wt'.reverse.map λw=>V.str (ws w))++[V.str (ws .par)]:=by simp
   have hwl:=I1.hw
   rw[e2]at hwl
   rw[jc6,hwl]
   refine⟨_,rfl,V.str (ws .par),by simp,?_⟩
   rw[Uc]
   have I2:=I1.putW wt'
   have k2:Kp [x,pr,pd,pw] H1 (upd H1 pw (.lst (wt'.reverse.map λw=>V.str (ws w)))):=I1.kpL I1.hw (by simp)
   generalize upd H1 pw (.lst (wt'.reverse.map λw=>V.str (ws w)))=H2 at I2 k2⊢
   obtain⟨I3,k3⟩:=I2.fields ((op:Int)-1) false
   refine I2.subO T.rc rfl ?_
   have eo:(op:Int)-1=(o:Int):=by omega
   rw[eo]at I3 k3⊢
   exact k _ I3 ((k1.trans k2).trans k3)
  |word h1 h2 B =>
   rename_i w1 wt1
   have n1:¬c=41:=by rw[h2];cases w1 <;> decide
   rw[Ae n1]
   refine⟨KW,T.kw,T.wm,.inr (sgn c),rfl,?_⟩
   have ev:valV KW (.inr (sgn c))=some (.str (ew w1)):=by
    rw[jfm,h2]
    cases w1 with
    |or=>rfl
    |and=>rfl
    |beh=>exact absurd rfl h1
   rw[ev,Ak (show(some (V.str (ew w1))).isSome=true from rfl)]
   refine⟨dx,_,I.hx,lk_m _ _ _ _ _ _ (by decide +kernel),KW,T.kw,.inr (sgn c),rfl,_,ev,?_⟩
   exact⟨x,dx,pr,pd,pw,w1,wt,rd,R,op,false,_,_,_,rfl,I,B,by omega,by omega,λH1 I1 k1=>k _ I1 k1⟩
  |part B =>
   have sn:=B.sign
   have n1:¬c=41:=by omega
   have ev:valV KW (.inr (sgn c))=none:=by rw[jfm,Ae (by omega),Ae (by omega)]
   rw[Ae n1]
   refine⟨KW,T.kw,T.wm,.inr (sgn c),rfl,?_⟩
   rw[ev,Ae (by simp)]
   refine I.due T.rc rfl ⟨_,rfl,?_⟩
   rw[Ae (by simp)]
   refine⟨dx,_,I.hx,lk_m _ _ _ _ _ _ (by decide +kernel),?_⟩
   exact⟨x,dx,pr,pd,pw,c,wt,rd,R,op,_,_,_,_,_,rfl,I,B,by omega,by omega,by omega,λH1 I1 k1=>k _ I1 k1⟩
  |more B1 B2 =>
   have sn:=B2.sign
   have bl:=B1.len
   have n1:¬c=41:=by omega
   have n2:¬c=124:=by omega
   have n3:¬c=38:=by omega
   have ev:valV KW (.inr (sgn c))=none:=by rw[jfm,Ae n2,Ae n3]
   rw[Ae n1]
   refine⟨KW,T.kw,T.wm,.inr (sgn c),rfl,?_⟩
   rw[ev,Ae (by simp)]
   refine I.due T.rc rfl ⟨_,rfl,?_⟩
   rw[Ak (by simp)]
   refine⟨dx,_,I.hx,lk_m _ _ _ _ _ _ (by decide +kernel),?_⟩
   refine⟨x,dx,pr,pd,pw,.beh,wt,rd,R,op,false,_,_,_,rfl,I,B1,by omega,by omega,λH1 I1 k1=>?_⟩
   refine⟨dx,_,I1.hx,lk_m _ _ _ _ _ _ (by decide +kernel),?_⟩
   exact⟨x,dx,pr,pd,pw,c,_,_,_,op,_,_,_,_,_,rfl,I1,B2,by omega,by simp only[List.length_cons];omega,by omega,λH2 I2 k2=>k _ I2 (k1.trans k2)⟩
abbrev zw:Stmt:=jes (top 23) 1
theorem sc_Rd_fits:FnScope ["self","sign"] ["self","sign"] (jk zw):=⟨rfl,rfl,rfl,by decide +kernel,rfl,by decide +kernel,by decide +kernel⟩
theorem ok_fits{f C aw:Addr}{fd:FuncData}(F:Fun K "fits" "Reading.fits" zw f fd)(T:TFi P w K mg C aw):FnOk P w K mg base CX0 1 f fd ["self","sign"] (spFi C):=by
 refine F.ok sc_Rd_fits (λvs H Q E h=>?_) (λcdv A outer s H vs Q E hr h=>?_)
 ·obtain⟨x,dx,pr,pd,pw,c,wt,rd,R,op,b,wt',rd',R',o,d,rfl,_⟩:=h
  rfl
 ·obtain⟨x,dx,pr,pd,pw,c,wt,rd,R,op,b,wt',rd',R',o,d,rfl,I,S,k⟩:=h
  have hu:=hr.units
  have hsz:sizeLine=16777216:=Ar
  have e1:(sgn c=Str.ofString ")")↔c=41:=jdd c 41
  refine exQ (jh (j0 (jbm (jb0 (P:=P) (w:=w) (K:=K) rfl rfl rfl (qpv 1) (yi (v:=.ref _) rfl T.m_WORDS rfl)) (by with_unfolding_all rfl)) (ji (ju (jb5 (ke (K:=K) rfl (qpv 0))))) j6)
  (jh (j0 (jt (kz hu) (qpv 1) jn (jx _)) (ji (ju (qpe_and (jb5 (ke (K:=K) rfl (qpv 0))) (jb6 (zj ja6 (ke (K:=K) rfl (qpv 0)) jg (jx _)))))) j6)
  (ji (ju (qpe_or (zj (op_inU (K:=K) rfl) (qpv 1) (j7 (jc jn (jc jn (jc jn (jc jn jd))))) (by with_unfolding_all rfl)) (jb6 (qpe_chain jbx jbx jn (qpv 1) jn))))))) ?_
  simp! [e1]
  refine⟨KW,T.kw,T.wm,.inr (sgn c),rfl,?_⟩
  have rest:∀{Y N:Prop},(c=45\/c=40\/c=46\/c=48\/(97<=c/\c<=122))->(if(valV KW (.inr (sgn c))).isSome=true then Y else if c=41 then N else 4<=sizeLine/\∀p,H p=none->rInU K false (V.str (sgn c)) (V.ref p) (upd H p (HO.tup [V.str (Str.ofString "-"),V.str (Str.ofString "("),V.str (Str.ofString "."),V.str (Str.ofString "0")])) λx H1=>∃c_1,x=V.bl c_1/\if c_1=true then Q (V.bl true) H1 else if(!decide ((sgn c).cps.toList<(Str.ofString "a").cps.toList))=true then Q (V.bl !decide ((Str.ofString "z").cps.toList<(sgn c).cps.toList)) H1 else Q (V.bl false) H1):=by
   intro Y N sn
   have n1:¬c=41:=by omega
   have n2:¬c=124:=by omega
   have n3:¬c=38:=by omega
   rw[jfm,Ae n2,Ae n3,Ae (by simp),Ae n1]
   refine⟨by omega,λp hp=>rInU.tupS (SqT.of je) rfl rfl ⟨_,rfl,?_⟩⟩
   have q:=k _ ((Kp.refl [] H).new (o:=HO.tup [V.str (Str.ofString "-"),V.str (Str.ofString "("),V.str (Str.ofString "."),V.str (Str.ofString "0")]) hp)
   simp only[Ip,Ov]
   split
   ·exact q
   ·rename_i ni
    have hc:97<=c/\c<=122:=by
     rcases sn with rfl|rfl|rfl|rfl|h
     ·exact absurd (by decide +kernel) ni
     ·exact absurd (by decide +kernel) ni
     ·exact absurd (by decide +kernel) ni
     ·exact absurd (by decide +kernel) ni
     ·exact h
    have l1:¬([c]:List Nat)<[97]:=by rw[lt1];omega
    have l2:¬([122]:List Nat)<[c]:=by rw[lt1];omega
    rw[show decide ((sgn c).cps.toList<(Str.ofString "a").cps.toList)=false from Ii l1,show decide ((Str.ofString "z").cps.toList<(sgn c).cps.toList)=false from Ii l2]
    exact q
  cases S with
  |shut h ho B =>
   have n2:¬c=124:=by omega
   have n3:¬c=38:=by omega
   rw[jfm,Ae n2,Ae n3,Ae (by simp),Ak h]
   refine I.due T.rc rfl ⟨_,rfl,?_⟩
   rw[Ak (by simp)]
   refine I.opened T.rc rfl ⟨_,rfl,?_⟩
   rw[show decide ((0:Int)<(op:Int))=true by simp;omega]
   exact k _ (Kp.refl _ _)
  |word h1 h2 B =>
   rename_i w1 wt1
   have ev:(valV KW (.inr (sgn c))).isSome=true:=by
    rw[jfm,h2]
    cases w1 with
    |or=>rfl
    |and=>rfl
    |beh=>exact absurd rfl h1
   rw[Ak ev]
   exact I.due T.rc rfl ⟨_,rfl,k _ (Kp.refl _ _)⟩
  |part B=>exact rest B.sign
  |more B1 B2=>exact rest B2.sign
abbrev zx:Stmt:=jes (top 23) 0
theorem sc_Rd_init:FnScope ["self"] ["self"] (jk zx):=⟨rfl,rfl,rfl,by decide +kernel,rfl,by decide +kernel,by decide +kernel⟩
theorem ok_init{f C:Addr}{fd:FuncData}(F:Fun K "__init__" "Reading.__init__" zx f fd)(rc:RC K C):FnOk P w K mg base CX0 1 f fd ["self"] (spIn C):=by
 refine F.ok sc_Rd_init (λvs H Q E h=>?_) (λcdv A outer s H vs Q E hr h=>?_)
 ·obtain⟨x,dx,rfl,_⟩:=h
  rfl
 ·obtain⟨x,dx,rfl,hx,k⟩:=h
  have hu:=hr.units
  have hsz:sizeLine=16777216:=Ar
  refine exQ (jh (z8 (K:=K) rfl (qpv 0) (j5 jd))
  (jh (z8 (K:=K) rfl (qpv 0) (j5 jd))
  (jh (z8 (K:=K) rfl (qpv 0) (j5 jd))
  (jh (z8 (K:=K) rfl (qpv 0) jg)
  (ji (z8 (K:=K) rfl (qpv 0) z4)))))) ?_
  simp!
  refine jh1 rfl hx rc.cls rc.rows (by simp) λpr hpr=>?_
  obtain⟨x1,p1,k1⟩:=jff (S:=[x]) hx hpr (fs':=putF "rows" (.ref pr) []) (.head _)
  generalize upd (upd H pr (.lst [])) x (.ins C dx (putF "rows" (.ref pr) []))=H1 at x1 p1 k1⊢
  simp!
  refine jh1 rfl x1 rc.cls rc.ready (by simp[putF]) λpd hpd=>?_
  obtain⟨x2,p2,k2⟩:=jff (S:=[x]) x1 hpd (fs':=putF "ready" (.ref pd) (putF "rows" (.ref pr) [])) (.head _)
  have q2:=k2.old _ _ p1 (λm=>by rw[Ag.mp m,x1]at p1;cases p1)
  have hpd0:=k1.free hpd
  have n1:pr≠pd:=jj p1 hpd
  generalize upd (upd H1 pd (.lst [])) x (.ins C dx (putF "ready" (.ref pd) (putF "rows" (.ref pr) [])))=H2 at x2 p2 q2 k2⊢
  simp!
  refine jh1 rfl x2 rc.cls rc.waiting (U5 (Wx (rfl:List.length _=2)) (by decide)) λpw hpw=>?_
  obtain⟨x3,p3,k3⟩:=jff (S:=[x]) x2 hpw (fs':=putF "waiting" (.ref pw) (putF "ready" (.ref pd) (putF "rows" (.ref pr) []))) (.head _)
  have q3:=k3.old _ _ q2 (λm=>by rw[Ag.mp m,x2]at q2;cases q2)
  have r3:=k3.old _ _ p2 (λm=>by rw[Ag.mp m,x2]at p2;cases p2)
  have hpw0:=(k1.trans k2).free hpw
  have n2:pr≠pw:=jj q2 hpw
  have n3:pd≠pw:=jj p2 hpw
  generalize upd (upd H2 pw (.lst [])) x (.ins C dx (putF "waiting" (.ref pw) (putF "ready" (.ref pd) (putF "rows" (.ref pr) []))))=H3 at x3 p3 q3 r3 k3⊢
  simp!
  refine jl5 rfl x3 rc.cls rc.opened (U5 (Wx (rfl:List.length _=3)) (by decide)) ?_
  have k4:=jkp (S:=[x]) (fs':=putF "opened" (.int 0) (putF "waiting" (.ref pw) (putF "ready" (.ref pd) (putF "rows" (.ref pr) [])))) x3 (.head _)
  have x4:upd H3 x (.ins C dx (putF "opened" (.int 0) (putF "waiting" (.ref pw) (putF "ready" (.ref pd) (putF "rows" (.ref pr) []))))) x=_:=je
  have nl:∀{b:Addr}{xs:List V},H3 b=some (.lst xs)->b∉[x]:=λe m=>by rw[Ag.mp m,x3]at e;cases e
  have p4:=k4.old _ _ p3 (nl p3)
  have q4:=k4.old _ _ q3 (nl q3)
  have r4:=k4.old _ _ r3 (nl r3)
  generalize upd H3 x (.ins C dx (putF "opened" (.int 0) (putF "waiting" (.ref pw) (putF "ready" (.ref pd) (putF "rows" (.ref pr) [])))))=H4 at x4 p4 q4 r4 k4⊢
  refine jl5 rfl x4 rc.cls rc.due (U5 (Wx (rfl:List.length _=4)) (by decide)) ?_
  have k5:=jkp (S:=[x]) (fs':=RF pr pd pw 0 true) x4 (.head _)
  have nl:∀{b:Addr}{xs:List V},H4 b=some (.lst xs)->b∉[x]:=λe m=>by rw[Ag.mp m,x4]at e;cases e
  exact k pr pd pw _ ⟨je,⟨[],k5.old _ _ q4 (nl q4),.nil⟩,k5.old _ _ r4 (nl r4),k5.old _ _ p4 (nl p4),n1,n2,n3⟩ hpr hpd0 hpw0 ((((k1.trans k2).trans k3).trans k4).trans k5)
end
def RE.mp(g:Nat->Nat):RE->RE
 |.no i=>.no (g i)
 |.bin w i j=>.bin w (g i) (g j)
 |r=>r
def bn:BW->Nat
 |.or=>0
 |.and=>1
 |.beh=>2
theorem je2(w:BW):bpi (.op w)=(bn w:Int):=by cases w <;> rfl
theorem jgo(w:BW):bn w<=2:=by cases w <;> decide
def wl:BW->List Nat
 |.or=>[124]
 |.and=>[38]
 |.beh=>[]
inductive Ren (R0:List RE):Nat->Nat->List Nat->Prop
 |leaf {i b c:Nat}{r:RE}:R0[i]?=some r->lf c=some r->Ren R0 i b [c]
 |no {i b j:Nat}{t:List Nat}:R0[i]?=some (.no j)->b<=3->Ren R0 j 3 t->Ren R0 i b (45::t)
 |op {i b j k:Nat}{w:BW}{t u:List Nat}:R0[i]?=some (.bin w j k)->b<=bn w->Ren R0 j (bn w) t->Ren R0 k (bn w+1) u->Ren R0 i b (t++(wl w++u))
 |par {i b:Nat}{t:List Nat}:Ren R0 i 0 t->Ren R0 i b (40::(t++[41]))
inductive Run:List Nat->List W4->List Nat->List RE->Nat->Bool->List W4->List Nat->List RE->Nat->Bool->Prop
 |nil {wt:List W4}{rd:List Nat}{R:List RE}{op:Nat}{b:Bool}:Run [] wt rd R op b wt rd R op b
 |cons {c:Nat}{t:List Nat}{wt wt1 wt2:List W4}{rd rd1 rd2:List Nat}{R R1 R2:List RE}{op o1 o2:Nat}{b b1 b2:Bool}:Sg c wt rd R op b wt1 rd1 R1 o1 b1->Run t wt1 rd1 R1 o1 b1 wt2 rd2 R2 o2 b2->Run (c::t) wt rd R op b wt2 rd2 R2 o2 b2
theorem Run.app{t u:List Nat}{wt wt1 wt2:List W4}{rd rd1 rd2:List Nat}{R R1 R2:List RE}{op o1 o2:Nat}{b b1 b2:Bool}(h:Run t wt rd R op b wt1 rd1 R1 o1 b1)(h':Run u wt1 rd1 R1 o1 b1 wt2 rd2 R2 o2 b2):Run (t++u) wt rd R op b wt2 rd2 R2 o2 b2:=by
 induction h with
 |nil=>exact h'
 |cons s _ ih=>exact .cons s (ih h')
theorem Ren.ne{R0:List RE}{i b:Nat}{t:List Nat}(h:Ren R0 i b t):t≠[]:=by
 induction h with
 |leaf=>simp
 |no=>simp
 |op _ _ _ _ ih _=>intro z;exact ih (List.append_eq_nil_iff.mp z).1
 |par=>simp
theorem Run.beh{u:List Nat}(ne:u≠[]){wt wt1 wt2:List W4}{rd rd1 rd2:List Nat}{R R1 R2:List RE}{op o2:Nat}{b2:Bool}(h:Run u (.op .beh::wt1) rd1 R1 op true wt2 rd2 R2 o2 b2)(B:Bd 2 wt rd R wt1 rd1 R1):Run u wt rd R op false wt2 rd2 R2 o2 b2:=by
 cases h with
 |nil=>exact absurd rfl ne
 |cons s r =>
  cases s with
  |part g=>exact .cons (.more B g) r
def je0(wt:List W4)(b:Int):Prop:=∀w∈wt.head?,bpi w<b
theorem Bd.same{k:Int}{wt:List W4}{rd:List Nat}{R:List RE}(h:je0 wt k):Bd k wt rd R wt rd R:=by
 cases wt with
 |nil=>exact .nil
 |cons w wt=>exact .stop (h w rfl)
structure Hm(R0 R:List RE)(fs:List Nat):Prop where
 ln:fs.length=R.length
 at_:∀(x:Nat)(r:RE),R[x]?=some r->r.ok x/\R0[fs.getD x 0]?=some (r.mp λy=>fs.getD y 0)
theorem jeq{fs gs:List Nat}(h:fs <+: gs){x:Nat}(hx:x<fs.length):gs.getD x 0=fs.getD x 0:=by
 obtain⟨t,rfl⟩:=h
 rw[Ac,Ac,A1 hx]
theorem RE.mp_congr{g g':Nat->Nat}{r:RE}{x:Nat}(ok:r.ok x)(h:∀y,y<x->g y=g' y):r.mp g=r.mp g':=by
 cases r with
 |no i=>exact Od RE.no (h i ok)
 |bin w i j=>show RE.bin w (g i) (g j)=RE.bin w (g' i) (g' j);rw[h i ok.1,h j ok.2]
 |_=>rfl
theorem Hm.snoc{R0 R:List RE}{fs:List Nat}(m:Hm R0 R fs){r:RE}{i:Nat}(ok:r.ok R.length)(e:R0[i]?=some (r.mp λy=>fs.getD y 0)):Hm R0 (R++[r]) (fs++[i]):=by
 have pr:fs <+: fs++[i]:=⟨[i],rfl⟩
 refine⟨by simp[m.ln],λx s hx=>?_⟩
 by_cases c:x<R.length
 ·rw[A1 c]at hx
  obtain⟨h1,h2⟩:=m.at_ x s hx
  refine⟨h1,?_⟩
  rw[jeq pr (by rw[m.ln];exact c),h2]
  exact Od some (RE.mp_congr h1 λy hy=>(jeq pr (by rw[m.ln];omega)).symm)
 ·have:x=R.length:=by
   have:=(Aj.mp hx).1
   simp only[Ax,List.length_cons,List.length_nil]at this
   omega
  subst this
  rw[A7 (Ah _)]at hx
  simp only[Nat.sub_self,List.getElem?_cons_zero,Option.some.injEq]at hx
  subst hx
  refine⟨ok,?_⟩
  have e2:(fs++[i]).getD R.length 0=i:=by rw[<-m.ln,Ac,A7 (Ah _)];simp
  rw[e2,e]
  exact Od some (RE.mp_congr ok λy hy=>(jeq pr (by rw[m.ln];exact hy)).symm)
theorem jfh{fs:List Nat}{i n:Nat}(h:fs.length=n):(fs++[i]).getD n 0=i:=by
 subst h
 rw[Ac,A7 (Ah _)];simp
theorem jqr{c:Nat}{r:RE}(h:lf c=some r):(∀k,r.ok k)/\∀g,r.mp g=r:=by
 unfold lf at h
 split at h
 ·cases h;exact⟨λ_=>trivial,λ_=>rfl⟩
 ·split at h
  ·cases h;exact⟨λ_=>trivial,λ_=>rfl⟩
  ·split at h
   ·cases h;exact⟨λ_=>rfl,λ_=>rfl⟩
   ·cases h
theorem jm1{R0:List RE}{i b:Nat}{t:List Nat}(h:Ren R0 i b t):∀(wt:List W4)(rd:List Nat)(R:List RE)(op:Nat)(fs:List Nat),Hm R0 R fs->(b<=2->je0 wt b) ->
  ∃(wt':List W4)(rd':List Nat)(R':List RE)(R1:List RE)(fs1:List Nat)(j:Nat),Run t wt rd R op true wt' rd' R' op false/\Hm R0 R1 fs1/\R <+: R1/\fs <+: fs1/\j<R1.length/\fs1.getD j 0=i/\j+1=R1.length /\
   ∀k:Int,k<=(b:Int)->∀x y z,Bd k wt (j::rd) R1 x y z->Bd k wt' rd' R' x y z:=by
 induction h with
 |@leaf i b c r e l =>
  intro wt rd R op fs m _
  obtain⟨ok,mp⟩:=jqr l
  exact⟨wt,R.length::rd,R++[r],R++[r],fs++[i],R.length,.cons (.part (.leaf l)) .nil,m.snoc (ok _) (by rw[mp];exact e),⟨_,rfl⟩,⟨_,rfl⟩,by simp,jfh m.ln,by simp,λk _ x y z B=>B⟩
 |@no i b j t e hb _ ih =>
  intro wt rd R op fs m _
  obtain⟨wt',rd',R',R1,fs1,j1,r1,m1,p1,q1,l1,g1,n1,B1⟩:=ih (.no::wt) rd R op fs m (λz=>by omega)
  refine⟨wt',rd',R',R1++[.no j1],fs1++[i],R1.length,.cons (.part (.no rfl)) r1,m1.snoc (r:=.no j1) l1 (by rw[e];exact Od (some∘RE.no) g1.symm),p1.trans ⟨_,rfl⟩,q1.trans ⟨_,rfl⟩,by simp,jfh m1.ln,by simp,λk hk x y z B=>?_⟩
  exact B1 k (by omega) x y z (.no (by omega) B)
 |@op i b j k w t u e hb _ h2 ih1 ih2 =>
  intro wt rd R op fs m tl
  have b2:=jgo w
  have ew:=je2 w
  have tw:je0 wt (bn w):=λw0 hw0=>by have:=tl (by omega) w0 hw0;omega
  obtain⟨wt1,rd1,R1s,R1,fs1,j1,r1,m1,p1,q1,l1,g1,n1,B1⟩:=ih1 wt rd R op fs m (λ_=>tw)
  obtain⟨wt2,rd2,R2s,R2,fs2,j2,r2,m2,p2,q2,l2,g2,n2,B2⟩:=ih2 (.op w::wt) (j1::rd) R1 op fs1 m1 (λ_ w0 hw0=>by cases hw0;rw[ew];omega)
  have Bs:=B1 (bn w) (by omega) wt (j1::rd) R1 (Bd.same tw)
  have l12:R1.length<=R2.length:=by obtain⟨t,rfl⟩:=p2;simp
  have gj:fs2.getD j1 0=j:=by rw[jeq q2 (by rw[m1.ln];exact l1)];exact g1
  have rr:Run (wl w++u) wt1 rd1 R1s op false wt2 rd2 R2s op false:=by
   cases w with
   |or=>exact .cons (.word (w:=.or) (by simp) rfl Bs) r2
   |and=>exact .cons (.word (w:=.and) (by simp) rfl Bs) r2
   |beh=>exact Run.beh h2.ne r2 Bs
  refine⟨wt2,rd2,R2s,R2++[.bin w j1 j2],fs2++[i],R2.length,r1.app rr,m2.snoc (r:=.bin w j1 j2) ⟨by omega,l2⟩ (by rw[e];show some (RE.bin w j k)=some (RE.bin w (fs2.getD j1 0) (fs2.getD j2 0));rw[gj,g2]),(p1.trans p2).trans ⟨_,rfl⟩,(q1.trans q2).trans ⟨_,rfl⟩,by simp,jfh m2.ln,by simp,λk' hk x y z B=>?_⟩
  exact B2 k' (by omega) x y z (.op (by rw[ew];omega) B)
 |@par i b t _ ih =>
  intro wt rd R op fs m _
  obtain⟨wt',rd',R',R1,fs1,j1,r1,m1,p1,q1,l1,g1,n1,B1⟩:=ih (.par::wt) rd R (op+1) fs m (λ_ w0 hw0=>by cases hw0;decide)
  refine⟨wt,j1::rd,R1,R1,fs1,j1,.cons (.part (.par rfl)) (r1.app (.cons (.shut rfl rfl (B1 0 (by omega) _ _ _ (Bd.same λw0 hw0=>by cases hw0;decide))) .nil)),m1,p1,q1,l1,g1,n1,λk _ x y z B=>B⟩
def jl8:Sp:=λvs H Q _=>∃(b:Addr)(m:Int)(o:HO),vs=[.ref b,.int m]/\H b=some o/\BoxO o/\1<=m/\m<=1000/\∀d o' H',0<=d->d<m->BoxO o'->H' b=some o'->Kp [b] H H'->Q (.int d) H'
theorem BoxO.lst{o:HO}(h:BoxO o):∃xs,o=.lst xs:=by obtain⟨c,s,e,_⟩:=h;exact⟨_,e⟩
section
variable{P:Program}{w:World}{K:PySem.W.Frag}{mg:Str->Option Value}{base:Heap}
structure TRow(mg:Str->Option Value)(ft:Addr):Prop where
 m1z:mg "_law_take"=some (.ref ft)
abbrev yj:Stmt:=top 29
theorem sc__law_row_at:FnScope ["_law_box_here","_law_k"] ["_law_box_here","_law_k"] (jk yj):=⟨rfl,rfl,rfl,by decide +kernel,rfl,by decide +kernel,by decide +kernel⟩
theorem ok__law_row_at{f ft:Addr}{fd fdt:FuncData}(F:Fun K "_law_row_at" "_law_row_at" yj f fd)(T:TRow mg ft)(F1z:Fun K "_law_take" "_law_take" kg ft fdt)(b1z:Binds K fdt ["_law_box_here","_law_wide"] [])
  (G1z:FnOk P w K mg base CX0 1 ft fdt ["_law_box_here","_law_wide"] jde):FnOk P w K mg base CX0 2 f fd ["_law_box_here","_law_k"] jl8:=by
 refine F.ok sc__law_row_at (λvs H Q E h=>?_) (λcdv A outer s H vs Q E hr h=>?_)
 ·obtain⟨b,m,o,rfl,_⟩:=h
  rfl
 ·obtain⟨b,m,o,rfl,hb,ho,m1,m2,k⟩:=h
  refine⟨_,(QSs.h (ji (ju (jr ix_U (j5 (jc (jq zi (qpv 1) jg) (jc (jm G1z (hr.mono (by decide)) rfl T.m1z F1z.kp b1z .nil jo (jc (qpv 0) (jc (qpv 1) jd))) jd))) (jm G1z (hr.mono (by decide)) rfl T.m1z F1z.kp b1z .nil jo (jc (qpv 0) (jc jg jd))) (λ_ _=>rfl))))),?_⟩
  have hsz:sizeLine=16777216:=Ar
  simp!
  refine⟨b,m,o,rfl,hb,ho,by omega,by omega,λd o1 d0 d1 ho1=>?_⟩
  refine⟨by omega,λp hp=>?_⟩
  have nbp:b≠p:=jj je hp
  obtain⟨xs0,rfl⟩:=ho.lst
  obtain⟨xs1,rfl⟩:=id ho1.lst
  refine⟨b,2,_,rfl,by rw[jf nbp,je],ho1,by omega,by omega,λe o2 e0 e1 ho2=>?_⟩
  have hp2:upd (upd (upd H b (.lst xs1)) p (.lst [V.int (m-1),V.int d])) b o2 p=some (.lst [V.int (m-1),V.int d]):=by rw[jf nbp.symm,je]
  simp! [hp2]
  have kp:Kp [b] H (upd (upd (upd H b (.lst xs1)) p (.lst [V.int (m-1),V.int d])) b o2):=((((Kp.refl [b] H).set hb (.inl (.head _))).new hp).set (by rw[jf nbp,je]) (.inl (by simp)))
  have:e=0\/e=1:=by omega
  rcases this with rfl|rfl
  ·exact⟨_,jmj _ _,k _ o2 _ (by omega) (by omega) ho2 je kp⟩
  ·exact⟨_,jmk _ _ _,k _ o2 _ d0 d1 ho2 je kp⟩
end
def lw(z:Str):Prop:=∀c∈z.cps.toList,97<=c/\c<=122
def RE.okz(k:Nat):RE->Prop
 |.nothing=>True
 |.blank=>True
 |.letter a=>a.length=1/\lw a
 |.no i=>i<k
 |.bin _ i j=>i<k/\j<k
def keyR:RE->Row
 |.nothing=>[.inr "nothing"]
 |.blank=>[.inr "blank"]
 |.letter a=>[.inr "letter",.inr a]
 |.no i=>[.inr "not",.inl (i:Int)]
 |.bin w i j=>[.inr (ew w),.inl (i:Int),.inl (j:Int)]
theorem jgz(r:RE):(keyR r).map kV=jcf r:=by cases r <;> rfl
theorem jlv{k:Nat}{r:RE}(h:r.okz k):RowOk k (keyR r):=λi hi=>by
 cases r with
 |nothing=>simp[keyR]at hi
 |blank=>simp[keyR]at hi
 |letter a=>simp[keyR]at hi
 |no j=>simp[keyR]at hi;have:j<k:=h;omega
 |bin w j l=>simp[keyR]at hi;have h1:j<k:=h.1;have h2:l<k:=h.2;omega
structure Exp(H:Hp)(vs:List V)(rs:List RE):Prop where
 at_:Paired (λv r=>∃a,v=.ref a/\H a=some (.tup (jcf r))) vs rs
 ok:∀(k:Nat)(r:RE),rs[k]?=some r->r.okz k
theorem ja9{α β:Type}{F:α->β->Prop}:∀{l:List α}{m:List β}{k:Nat}{v:α},Paired F l m->l[k]?=some v->∃r,m[k]?=some r/\F v r
 |_,_,k,v,.nil,e=>by simp at e
 |_,_,0,v,.cons (b:=b) h _,e=>by simp at e;subst e;exact⟨b,rfl,h⟩
 |_,_,k+1,v,.cons _ t,e=>by simp at e;obtain⟨r,h⟩:=ja9 t e;exact⟨r,by simpa using h.1,h.2⟩
theorem Exp.kp{S:List Addr}{H H':Hp}{vs:List V}{rs:List RE}(E:Exp H vs rs)(k:Kp S H H'):Exp H' vs rs:=⟨Paired.mapP E.at_ λ_ _ ⟨a,e,h⟩=>⟨a,e,k.tup _ _ h⟩,E.ok⟩
theorem Exp.len{H:Hp}{vs:List V}{rs:List RE}(E:Exp H vs rs):vs.length=rs.length:=Il E.at_
theorem Exp.get{H:Hp}{vs:List V}{rs:List RE}(E:Exp H vs rs){i:Nat}(h:i<rs.length):∃a,vs[i]?=some (.ref a)/\H a=some (.tup (jcf (rs.getD i .nothing))):=by
 have hv:i<vs.length:=by rw[E.len];exact h
 obtain⟨r,e,a,e2,g⟩:=ja9 E.at_ (Ai hv)
 refine⟨a,by rw[Ai hv,e2],?_⟩
 rw[Ac,e]
 exact g
structure Fx(H:Hp)(b q:Addr)(us:List V)(rs:List RE)(o:HO)(H1:Hp):Prop where
 hb:H1 b=some o
 ho:BoxO o
 hq:H1 q=some (.lst us)
 ex:Exp H1 us rs
 kp:Kp [b] H H1
theorem Fx.new{H H1:Hp}{b q:Addr}{us:List V}{rs:List RE}{o x:HO}{t:Addr}(F:Fx H b q us rs o H1)(ht:H1 t=none):Fx H b q us rs o (upd H1 t x) :=
 ⟨by rw[jf (jj F.hb ht)];exact F.hb,F.ho,by rw[jf (jj F.hq ht)];exact F.hq,F.ex.kp ((Kp.refl [b] H1).new ht),F.kp.new ht⟩
theorem Fx.step{H H1 H2:Hp}{b q:Addr}{us:List V}{rs:List RE}{o o':HO}(F:Fx H b q us rs o H1)(nbq:b≠q)(k:Kp [b] H1 H2)(ho:BoxO o')(hb:H2 b=some o'):Fx H b q us rs o' H2 :=
 ⟨hb,ho,k.old _ _ F.hq (by simpa using nbq.symm),F.ex.kp k,F.kp.trans k⟩
theorem Fx.box{H H1:Hp}{b q:Addr}{us:List V}{rs:List RE}{o o':HO}(F:Fx H b q us rs o H1)(nbq:b≠q)(ho:BoxO o'):Fx H b q us rs o' (upd H1 b o'):=by
 obtain⟨xs,rfl⟩:=F.ho.lst
 exact F.step nbq ((Kp.refl [b] H1).set F.hb (.inl (by simp))) ho je
theorem jlq{rs:List RE}{r:RE}(h:∀(k:Nat) (x:RE),rs[k]?=some x->x.okz k)(hr:r.okz rs.length):∀(k:Nat)(x:RE),(rs++[r])[k]?=some x->x.okz k:=λk x e=>by
 by_cases hk:k<rs.length
 ·rw[A1 hk]at e;exact h k x e
 ·have hk':k=rs.length:=by
   have:=(Aj.mp e).1
   simp at this
   omega
  subst hk'
  simp at e
  subst e
  exact hr
theorem Fx.put{H H9:Hp}{b q t:Addr}{us:List V}{rs:List RE}{o:HO}(F:Fx H b q us rs o H9)(r:RE)(hr:r.okz rs.length)(ht:H9 t=some (.tup (jcf r)))(hq0:H q=none)(nbq:b≠q):Fx H b q (us++[.ref t]) (rs++[r]) o (upd H9 q (.lst (us++[.ref t]))):=by
 have kq:Kp [q] H9 (upd H9 q (.lst (us++[.ref t]))):=(Kp.refl [q] H9).set F.hq (.inl (by simp))
 exact⟨by rw[jf nbq];exact F.hb,F.ho,je,⟨Wm (F.ex.kp kq).at_ ⟨t,rfl,kq.tup _ _ ht⟩,jlq F.ex.ok hr⟩,F.kp.set F.hq (.inr hq0)⟩
theorem je6{z:Str}{d:Int}(h0:0<=d)(h:d<(z.length:Int)):∃c,c∈sg z/\atI z.cps.toList d=some c:=by
 have hzl:z.cps.toList.length=z.length:=by simp[Str.length]
 exact⟨z.cps.toList[d.toNat]'(by omega),Iu _,jcg h0 (by simp)⟩
def IE(H:Hp)(b q:Addr)(z:Str)(m:Int)(i:Nat):L2.St->Hp->Prop:=λσ H'=>∃(us:List V)(rs:List RE)(o:HO)(v4 v5 v6 v7:Option V),σ=[some (.ref b),some (.str z),some (.int m),some (.ref q),v4,v5,v6,v7]/\rs.length=i/\Fx H b q us rs o H'
def jp3:Sp:=λvs H Q _=>∃(b:Addr)(z:Str)(m:Nat)(o:HO),vs=[.ref b,.str z,.int (m:Int)]/\H b=some o/\BoxO o/\1<=z.length/\z.length<=1000/\lw z/\1<=m/\m<=900 /\
 ∀(t:Addr)(us:List V)(rs:List RE)(o':HO)(H':Hp),H' t=some (.tup us)->Exp H' us rs->1<=rs.length->rs.length<=m->BoxO o'->H' b=some o'->Kp [b] H H'->Q (.ref t) H'
structure TEx(mg:Str->Option Value)(ft fr:Addr):Prop where
 n_range:mg "range"=none
 n_len:mg "len"=none
 n_tuple:mg "tuple"=none
 m1z:mg "_law_take"=some (.ref ft)
 m14z:mg "_law_row_at"=some (.ref fr)
theorem jqh{c1 c2 A B:Prop}[Decidable c1][Decidable c2](h1:c1\/c2->A)(h2:¬c1->¬c2->B):if c1 then A else if c2 then A else B:=by
 by_cases a:c1
 ·rw[Ak a];exact h1 (.inl a)
 ·rw[Ae a]
  by_cases b:c2
  ·rw[Ak b];exact h1 (.inr b)
  ·rw[Ae b];exact h2 a b
section
variable{P:Program}{w:World}{K:PySem.W.Frag}{mg:Str->Option Value}{base:Heap}
abbrev ko:Stmt:=top 30
theorem yc:FnScope ["_law_box_here","_law_letters_here","_law_most","_law_rows","_law_k","_law_kind","_law_base","_law_word"] ["_law_box_here","_law_letters_here","_law_most"] (jk ko):=⟨rfl,rfl,rfl,by decide +kernel,rfl,by decide +kernel,by decide +kernel⟩
theorem ok__law_expression{f ft fr:Addr}{fd fdt fdr:FuncData}(F:Fun K "_law_expression" "_law_expression" ko f fd)(T:TEx mg ft fr)(F1z:Fun K "_law_take" "_law_take" kg ft fdt)(b1z:Binds K fdt ["_law_box_here","_law_wide"] [])
  (G1z:FnOk P w K mg base CX0 1 ft fdt ["_law_box_here","_law_wide"] jde) (F14z:Fun K "_law_row_at" "_law_row_at" yj fr fdr) (b14z:Binds K fdr ["_law_box_here","_law_k"] [])
  (G14z:FnOk P w K mg base CX0 2 fr fdr ["_law_box_here","_law_k"] jl8):FnOk P w K mg base CX0 3 f fd ["_law_box_here","_law_letters_here","_law_most"] jp3:=by
 refine F.ok yc (λvs H Q E h=>?_) (λcdv A outer s H vs Q E hr h=>?_)
 ·obtain⟨b,z,m,o,rfl,_⟩:=h
  rfl
 ·obtain⟨b,z,m,o,rfl,hb,ho,z1,z2,zl,m1,m2,k⟩:=h
  have hu:=hr.units
  refine⟨_,(QSs.h (jh (jp (i:=3) yc.nd rfl (by first|exact Or.inl rfl|exact Or.inr rfl) (j5 jd))
  (jh (zu Iq rfl (jat rfl T.n_range (jc (jq j9 jg (jm G1z (hr.mono (by decide)) rfl T.m1z F1z.kp b1z .nil jo (jc (qpv 0) (jc (qpv 2) jd)))) jd)) (kh (i:=4) yc.nd rfl (by first|exact Or.inl rfl|exact Or.inr rfl)) (jh (jp (i:=5) yc.nd rfl (by first|exact Or.inl rfl|exact Or.inr rfl) (jm G1z (hr.mono (by decide)) rfl T.m1z F1z.kp b1z .nil jo (jc (qpv 0) (jc jg jd))))
  (ji (j0 (QW.pt (jaq (jt (kz hu) (qpv 4) jg (jx _)) (jar (jt jan (qpv 5) jg (jx _))))) (jh (jp (i:=6) yc.nd rfl (by first|exact Or.inl rfl|exact Or.inr rfl) (j5 (jc (j7 (jc jn (jc (jr ix_U (qpv 1) (jm G1z (hr.mono (by decide)) rfl T.m1z F1z.kp b1z .nil jo (jc (qpv 0) (jc (jy ka (by rfl) T.n_len ky (jc (qpv 1) jd)) jd))) (λ_ _=>rfl)) jd))) (jc (j7 (jc jn jd)) (jc (j7 (jc jn jd)) jd)))))
  (ji (jz (kf Az A0 j8 (qpv 3) (jc (jr ix_U (qpv 6) (jr ix_U (j5 (jc jg (jc jg (jc jg (jc jg (jc jg (jc jg jd))))))) (jm G1z (hr.mono (by decide)) rfl T.m1z F1z.kp b1z .nil jo (jc (qpv 0) (jc jg jd))) (λ_ _=>rfl)) (λ_ _=>rfl)) jd) jcl)))) (ji (j0 (jt jan (qpv 5) jg (jx _)) (ji (jz (kf Az A0 j8 (qpv 3) (jc (j7 (jc jn (jc (jm G14z (hr.mono (by decide)) rfl T.m14z F14z.kp b14z .nil jo (jc (qpv 0) (jc (qpv 4) jd))) jd))) jd) jcl))) (jh (jp (i:=7) yc.nd rfl (by first|exact Or.inl rfl|exact Or.inr rfl) (jr ix_U (j5 (jc jn (jc jn (jc jn (jc jn (jc jn (jc jn jd))))))) (jq zi (qpv 5) jg) (λ_ _=>rfl)))
  (ji (jz (kf Az A0 j8 (qpv 3) (jc (j7 (jc (qpv 7) (jc (jm G14z (hr.mono (by decide)) rfl T.m14z F14z.kp b14z .nil jo (jc (qpv 0) (jc (qpv 4) jd))) (jc (jm G1z (hr.mono (by decide)) rfl T.m1z F1z.kp b1z .nil jo (jc (qpv 0) (jc (qpv 4) jd))) jd)))) jd) jcl))))))))))
  (ji (ju (kj y4 (by rfl) T.n_tuple zg (jc (qpv 3) jd))))))),?_⟩
  have hsz:sizeLine=16777216:=Ar
  simp!
  refine⟨by omega,λq hq=>?_⟩
  have nbq:b≠q:=jj hb hq
  refine⟨b,_,o,rfl,by rw[jf nbq];exact hb,ho,by omega,by omega,λd o1 d0 d1 ho1=>?_⟩
  obtain⟨n,rfl⟩:∃n:Nat,d=(n:Int):=⟨d.toNat,by omega⟩
  have en:(1+(n:Int)).toNat=n+1:=by omega
  obtain⟨xs0,rfl⟩:=ho.lst
  simp!
  refine⟨by omega,by omega,?_⟩
  rw[en]
  refine jdv (IE H b q z (m:Int)) ?_ ?_ ?_
  ·exact⟨[],[],_,none,none,none,none,rfl,rfl,je,ho1,by rw[jf nbq.symm,je],⟨.nil,λk r e=>by simp at e⟩,((Kp.refl [b] H).new hq).set (by rw[jf nbq];exact hb) (.inl (by simp))⟩
  ·rintro i σ H1 hi ⟨us,rs,o2,v4,v5,v6,v7,rfl,hl,F1⟩
   have lu:us.length=rs.length:=Il F1.ex.at_
   simp!
   refine⟨b,12,_,rfl,F1.hb,F1.ho,by omega,by omega,λkd o3 kd0 kd1 ho3=>?_⟩
   have F2:=F1.box nbq ho3
   simp!
   refine jqh (λh1=>?_) (λh1 h2=>ite2 (λh3=>?_) (λh3=>?_))
   ·refine⟨by omega,b,z.length,_,rfl,F2.hb,F2.ho,by omega,by omega,λe o4 e0 e1 ho4=>?_⟩
    have F3:=F2.box nbq ho4
    obtain⟨ch,hch,ach⟩:=je6 e0 e1
    simp! [ach]
    refine⟨by omega,by omega,λt1 ht1=>⟨by omega,λt2 ht2=>⟨by omega,λt3 ht3=>⟨by omega,λt4 ht4=>?_⟩⟩⟩⟩
    have F3':=F1.box nbq ho4
    have F4:=(((F3'.new (x:=.tup [V.str (Str.ofString "letter"),V.str ⟨#[ch]⟩]) ht1).new (x:=.tup [V.str (Str.ofString "blank")]) ht2).new (x:=.tup [V.str (Str.ofString "nothing")]) ht3).new (x:=.lst [V.ref t1,V.ref t2,V.ref t3]) ht4
    have n12:t1≠t2:=jj je ht2
    have n23:t2≠t3:=jj je ht3
    have n34:t3≠t4:=jj je ht4
    have n13:t1≠t3:=jj (by rw[jf n12,je]) ht3
    have n24:t2≠t4:=jj (by rw[jf n23,je]) ht4
    have n14:t1≠t4:=jj (by rw[jf n13,jf n12,je]) ht4
    have g1:upd (upd (upd (upd (upd H1 b o4) t1 (.tup [V.str (Str.ofString "letter"),V.str ⟨#[ch]⟩])) t2 (.tup [V.str (Str.ofString "blank")])) t3 (.tup [V.str (Str.ofString "nothing")])) t4 (.lst [V.ref t1,V.ref t2,V.ref t3]) t1=some (.tup (jcf (.letter ⟨#[ch]⟩))):=by rw[jf n14,jf n13,jf n12,je];rfl
    have g2:upd (upd (upd (upd (upd H1 b o4) t1 (.tup [V.str (Str.ofString "letter"),V.str ⟨#[ch]⟩])) t2 (.tup [V.str (Str.ofString "blank")])) t3 (.tup [V.str (Str.ofString "nothing")])) t4 (.lst [V.ref t1,V.ref t2,V.ref t3]) t2=some (.tup (jcf .blank)):=by rw[jf n24,jf n23,je];rfl
    have g3:upd (upd (upd (upd (upd H1 b o4) t1 (.tup [V.str (Str.ofString "letter"),V.str ⟨#[ch]⟩])) t2 (.tup [V.str (Str.ofString "blank")])) t3 (.tup [V.str (Str.ofString "nothing")])) t4 (.lst [V.ref t1,V.ref t2,V.ref t3]) t3=some (.tup (jcf .nothing)):=by rw[jf n34,je];rfl
    have g4:upd (upd (upd (upd (upd H1 b o4) t1 (.tup [V.str (Str.ofString "letter"),V.str ⟨#[ch]⟩])) t2 (.tup [V.str (Str.ofString "blank")])) t3 (.tup [V.str (Str.ofString "nothing")])) t4 (.lst [V.ref t1,V.ref t2,V.ref t3]) t4=some (.lst [V.ref t1,V.ref t2,V.ref t3]):=je
    revert F4 g1 g2 g3 g4
    generalize upd (upd (upd (upd (upd H1 b o4) t1 (.tup [V.str (Str.ofString "letter"),V.str ⟨#[ch]⟩])) t2 (.tup [V.str (Str.ofString "blank")])) t3 (.tup [V.str (Str.ofString "nothing")])) t4 (.lst [V.ref t1,V.ref t2,V.ref t3])=H5
    intro F4 g1 g2 g3 g4
    refine⟨by rw[F4.hq];rfl,by omega,λt5 ht5=>?_⟩
    have F5:=F4.new (x:=.lst [V.int 0,V.int 0,V.int 0,V.int 0,V.int 1,V.int 2]) ht5
    refine⟨b,_,_,rfl,F5.hb,F5.ho,by omega,by omega,λe o7 e0 e1 ho7=>?_⟩
    have F6:=F5.box nbq ho7
    have nb5:b≠t5:=jj F4.hb ht5
    have nb4:b≠t4:=λz=>by subst z;have:=F4.hb;rw[g4]at this;obtain⟨c,sd,q1,_⟩:=F4.ho;rw[q1]at this;cases this
    have n45:t4≠t5:=jj g4 ht5
    have i5:∀o,upd (upd H5 t5 o) b o7 t5=some o:=λo=>by rw[jf nb5.symm,je]
    have i4:∀o,upd (upd H5 t5 o) b o7 t4=some (.lst [V.ref t1,V.ref t2,V.ref t3]):=λo=>by rw[jf nb4.symm,jf n45];exact g4
    simp! [i5,i4]
    have k6:Kp [b] H5 (upd (upd H5 t5 (.lst [V.int 0,V.int 0,V.int 0,V.int 0,V.int 1,V.int 2])) b o7):=by
     obtain⟨xs9,e9⟩:=F4.ho.lst
     have hb5:=F5.hb
     rw[e9]at hb5
     exact((Kp.refl [b] H5).new ht5).set hb5 (.inl (.head _))
    have pick:∀(r:RE)(t:Addr),r.okz rs.length->H5 t=some (.tup (jcf r))->∃xs_1,jch (upd (upd H5 t5 (.lst [V.int 0,V.int 0,V.int 0,V.int 0,V.int 1,V.int 2])) b o7 q)=some xs_1/\xs_1.length<sizeLine /\
      IE H b q z (m:Int) (i+1) [some (V.ref b),some (V.str z),some (V.int (m:Int)),some (V.ref q),some (V.int (0+(i:Int))),some (V.int kd),some (V.ref t4),v7] (upd (upd (upd H5 t5 (.lst [V.int 0,V.int 0,V.int 0,V.int 0,V.int 1,V.int 2])) b o7) q (.lst (xs_1++[V.ref t]))) :=
     λr t hr ht=>⟨us,by rw[F6.hq];rfl,by omega,us++[.ref t],rs++[r],o7,_,_,_,_,rfl,by simp[hl],F6.put r hr (k6.tup _ _ ht) hq nbq⟩
    have:e=0\/e=1\/e=2\/e=3\/e=4\/e=5:=by omega
    rcases this with rfl|rfl|rfl|rfl|rfl|rfl
    ·exact⟨_,jcg (by decide) rfl,_,by rw[i4];rfl,_,jcg (by decide) rfl,pick (.letter ⟨#[ch]⟩) t1 ⟨rfl,λc hc=>by simp at hc;subst hc;exact zl _ hch⟩ g1⟩
    ·exact⟨_,jcg (by decide) rfl,_,by rw[i4];rfl,_,jcg (by decide) rfl,pick (.letter ⟨#[ch]⟩) t1 ⟨rfl,λc hc=>by simp at hc;subst hc;exact zl _ hch⟩ g1⟩
    ·exact⟨_,jcg (by decide) rfl,_,by rw[i4];rfl,_,jcg (by decide) rfl,pick (.letter ⟨#[ch]⟩) t1 ⟨rfl,λc hc=>by simp at hc;subst hc;exact zl _ hch⟩ g1⟩
    ·exact⟨_,jcg (by decide) rfl,_,by rw[i4];rfl,_,jcg (by decide) rfl,pick (.letter ⟨#[ch]⟩) t1 ⟨rfl,λc hc=>by simp at hc;subst hc;exact zl _ hch⟩ g1⟩
    ·exact⟨_,jcg (by decide) rfl,_,by rw[i4];rfl,_,jcg (by decide) rfl,pick .blank t2 trivial g2⟩
    ·exact⟨_,jcg (by decide) rfl,_,by rw[i4];rfl,_,jcg (by decide) rfl,pick .nothing t3 trivial g3⟩
   ·refine⟨by rw[F2.hq];rfl,b,_,_,rfl,F2.hb,F2.ho,by omega,by omega,λe o7 H5 e0 e1 ho7 hb7 k7=>⟨by omega,λt ht=>?_⟩⟩
    obtain⟨j,rfl⟩:∃j:Nat,e=(j:Int):=⟨e.toNat,by omega⟩
    have F6:=(F2.step nbq k7 ho7 hb7).new (x:=.tup [V.str (Str.ofString "not"),V.int (j:Int)]) ht
    exact⟨us,by rw[F6.hq];rfl,by omega,us++[.ref t],rs++[.no j],o7,_,_,_,_,rfl,by simp[hl],F6.put (.no j) (show j<rs.length by omega) je hq nbq⟩
   ·obtain⟨bb,hbb⟩:∃bb:BW,atI [V.str (Str.ofString "behind"),V.str (Str.ofString "behind"),V.str (Str.ofString "behind"),V.str (Str.ofString "or"),V.str (Str.ofString "or"),V.str (Str.ofString "and")] (kd-6)=some (.str (ew bb)):=by
     have:kd=6\/kd=7\/kd=8\/kd=9\/kd=10\/kd=11:=by omega
     rcases this with rfl|rfl|rfl|rfl|rfl|rfl
     ·exact⟨.beh,jcg (by decide) rfl⟩
     ·exact⟨.beh,jcg (by decide) rfl⟩
     ·exact⟨.beh,jcg (by decide) rfl⟩
     ·exact⟨.or,jcg (by decide) rfl⟩
     ·exact⟨.or,jcg (by decide) rfl⟩
     ·exact⟨.and,jcg (by decide) rfl⟩
    refine⟨by omega,λt0 ht0=>?_⟩
    have Fa:=F2.new (x:=.lst [V.str (Str.ofString "behind"),V.str (Str.ofString "behind"),V.str (Str.ofString "behind"),V.str (Str.ofString "or"),V.str (Str.ofString "or"),V.str (Str.ofString "and")]) ht0
    refine⟨_,hbb,by rw[Fa.hq];rfl,?_⟩
    refine⟨b,_,_,rfl,Fa.hb,Fa.ho,by omega,by omega,λe o7 H5 e0 e1 ho7 hb7 k7=>?_⟩
    have Fb:=Fa.step nbq k7 ho7 hb7
    refine⟨b,_,_,rfl,hb7,ho7,by omega,by omega,λe2 o8 e20 e21 ho8=>⟨by omega,λt ht=>?_⟩⟩
    obtain⟨j,rfl⟩:∃j:Nat,e=(j:Int):=⟨e.toNat,by omega⟩
    obtain⟨l,rfl⟩:∃l:Nat,e2=(l:Int):=⟨e2.toNat,by omega⟩
    have F6:=(Fb.box nbq ho8).new (x:=.tup [V.str (ew bb),V.int (j:Int),V.int (l:Int)]) ht
    exact⟨us,by rw[F6.hq];rfl,by omega,us++[.ref t],rs++[.bin bb j l],o8,_,_,_,_,rfl,by simp[hl],F6.put (.bin bb j l) (show j<rs.length/\l<rs.length by omega) je hq nbq⟩
  ·rintro σ H1 ⟨us,rs,o2,v4,v5,v6,v7,rfl,hl,F1⟩
   simp!
   refine jc0 F1.hq λt ht=>?_
   have kt:=(Kp.refl [b] H1).new (o:=.tup us) ht
   exact k t us rs o2 _ je (F1.ex.kp kt) (by omega) (by omega) F1.ho (by rw[jf (jj F1.hb ht)];exact F1.hb) (F1.kp.trans kt)
end
theorem jo5{P:Nat->Prop}:∀n,P n->∃j,j<=n/\P j/\∀k,k<j->¬P k:=by
 intro n
 induction n using Nat.strongRecOn with
 |_ n ih =>
  intro h
  by_cases c:∃k,k<n/\P k
  ·obtain⟨k,kn,pk⟩:=c
   obtain⟨j,h1,h2,h3⟩:=ih k kn pk
   exact⟨j,by omega,h2,h3⟩
  ·exact⟨n,Ah _,h,λk hk pk=>c ⟨k,hk,pk⟩⟩
theorem joa{R:List Row}(ok:OkR R){h g:Nat->Nat}{i:Nat}(hi:i<R.length)(e:∀x,x<i->h x=g x):RwA R h i=RwA R g i:=jcz λp hp=>e p (jcw (ok.d hi) hp)
theorem jsi{R:List Row}(ok:OkR R):∀n,n<=R.length->∃h:Nat->Nat,(∀i,i<n->h i<=i)/\(∀i,i<n->RwA R h (h i)=RwA R h i)/\∀i,i<n->∀j,j<h i->RwA R h j≠RwA R h i:=by
 intro n
 induction n with
 |zero=>exact λ_=>⟨id,by omega,by omega,by omega⟩
 |succ n ih =>
  intro hn
  obtain⟨h,h1,h2,h3⟩:=ih (by omega)
  obtain⟨j,j1,j2,j3⟩:=jo5 (P:=λj=>RwA R h j=RwA R h n) n rfl
  have eq:∀x,x<n->(if x=n then j else h x)=h x:=λx hx=>Ae (by omega)
  have er:∀x,x<=n->RwA R (λx=>if x=n then j else h x) x=RwA R h x:=λx hx=>joa ok (by omega) λy hy=>eq y (by omega)
  refine⟨λx=>if x=n then j else h x,λi hi=>?_,λi hi=>?_,λi hi k hk=>?_⟩
  ·by_cases c:i=n
   ·subst c;simp only[Ak];exact j1
   ·simp only[Ae c];exact h1 i (by omega)
  ·by_cases c:i=n
   ·subst c;simp only[Ak];rw[er _ j1,er _ (Ah _)];exact j2
   ·simp only[Ae c]
    have:=h1 i (by omega)
    rw[er _ (by omega),er _ (by omega)];exact h2 i (by omega)
  ·by_cases c:i=n
   ·subst c;simp only[Ak]at hk;rw[er _ (by omega),er _ (Ah _)];exact j3 k hk
   ·simp only[Ae c]at hk
    have:=h1 i (by omega)
    rw[er _ (by omega),er _ (by omega)];exact h3 i (by omega) k hk
theorem Hd.ex{R:List Row}(ok:OkR R):∃h,Hd R h:=let⟨h,h1,h2,h3⟩:=jsi ok R.length (Ah _);⟨h,h1,h2,h3⟩
theorem jeg(g:Nat->Nat)(r:RE):wpR g (keyR r)=keyR (r.mp g):=by cases r <;> simp[keyR,wpR,RE.mp,mapR]
theorem jo2{k:Nat}{r:RE}(h:r.ok k):RowOk k (keyR r):=λi hi=>by
 cases r with
 |nothing=>simp[keyR]at hi
 |blank=>simp[keyR]at hi
 |letter a=>simp[keyR]at hi
 |no j=>simp[keyR]at hi;have:j<k:=h;omega
 |bin w j l=>simp[keyR]at hi;have h1:j<k:=h.1;have h2:l<k:=h.2;omega
theorem jg2{R:List RE}(h:∀(k:Nat) (r:RE),R[k]?=some r->r.ok k):OkR (R.map keyR):=λk r e=>by
 rw[Ao]at e
 obtain⟨s,es,rfl⟩:=Is.mp e
 exact jo2 (h k s es)
theorem Hm.tid{R0 R:List RE}{fs:List Nat}(m:Hm R0 R fs)(ok0:OkR (R0.map keyR))(n1:1<=R.length)(la:fs.getD (R.length-1) 0+1=R0.length){F:List Row}(t:TidP (R.map keyR) F):TidP (R0.map keyR) F:=by
 obtain⟨h',H',rfl⟩:=t
 obtain⟨h,H⟩:=Hd.ex ok0
 refine⟨h,H,?_⟩
 have ok':OkR (R.map keyR):=jg2 λk r e=>(m.at_ k r e).1
 have hm:Hom (R.map keyR) (R0.map keyR) (λx=>fs.getD x 0):=by
  refine⟨λx hx=>?_,λx hx=>?_⟩
  ·rw[Ab]at hx⊢
   exact(Aj.mp (m.at_ x R[x] (Ai hx)).2).1
  ·rw[Ab]at hx
   have e:=(m.at_ x R[x] (Ai hx)).2
   rw[Ac,Ac,Ao,Ao,Ai hx,e]
   exact jeg _ _
 refine hm.tid ok' ok0 H' H (by simpa using n1) (by rw[Ab];omega) ?_
 simp only[Ab]
 omega
theorem Kp.fresh{S:List Addr}{H H1 H2:Hp}(k0:Kp [] H H1)(k:Kp S H1 H2)(h:∀s∈S,H s=none):Kp [] H H2 :=
 ⟨λb v e _=>k.old b v (k0.old b v e (by simp)) (λm=>by rw[h b m]at e;cases e),λb xs e=>k.tup _ _ (k0.tup _ _ e),λb v e=>let⟨u,e'⟩:=k0.dom b v e;k.dom b u e'⟩
theorem RdI.kp0{H H':Hp}{x C dx pr pd pw:Addr}{wt:List W4}{rd:List Nat}{R:List RE}{op:Int}{du:Bool}(I:RdI H x C dx pr pd pw wt rd R op du)(k:Kp [] H H'):RdI H' x C dx pr pd pw wt rd R op du :=
 let⟨us,hr,rr⟩:=I.hr
 ⟨k.old _ _ I.hx (by simp),⟨us,k.old _ _ hr Aq,rr.kp k⟩,k.old _ _ I.hd (by simp),k.old _ _ I.hw (by simp),I.n1,I.n2,I.n3⟩
theorem RowE.rowsT{H:Hp}{us:List V}{R:List RE}(h:RowE H us R):RowsT H us (R.map keyR):=by
 induction h with
 |nil=>exact .nil
 |cons h _ ih =>
  obtain⟨a,e,h⟩:=h
  exact .cons ⟨a,e,by rw[jgz];exact h⟩ ih
def spRx:Sp:=λvs H Q _=>∃(T:Str)(R0:List RE),vs=[.str T]/\Ren R0 (R0.length-1) 0 T.cps.toList/\T.length<=5000/\1<=R0.length/\OkR (R0.map keyR) /\
 ∀q us' F H',TidP (R0.map keyR) F->H q=none->FzT H' q us'->RowsT H' us' F->Kp [] H H'->Q (.ref q) H'
structure TRx(P:Program)(w:World)(K:PySem.W.Frag)(mg:Str->Option Value)(C ab fi fF ft fb ftd:Addr):Prop where
 rc:RC K C
 cls:Cls K C
 mkR:Mk K C fi
 m_Reading:mg "Reading"=some (.ref C)
 n_enumerate:mg "enumerate"=none
 n_tuple:mg "tuple"=none
 m_BINDS:mg "BINDS"=some (.ref ab)
 kb:KDict P w K ab KB
 m5z:mg "tidied"=some (.ref ftd)
 d_fits:Meth K C "fits" fF
 d_take:Meth K C "take" ft
 d_bind:Meth K C "bind" fb
section
variable{P:Program}{w:World}{K:PySem.W.Frag}{mg:Str->Option Value}{base:Heap}
abbrev zk:Stmt:=top 10
theorem sc_tidied:FnScope ["expression"] ["expression"] (jk zk):=⟨rfl,rfl,rfl,by decide +kernel,rfl,by decide +kernel,by decide +kernel⟩
structure TTi(mg:Str->Option Value)(fi:Addr):Prop where
 m22z:mg "in_order"=some (.ref fi)
theorem ok_tidied{f fi:Addr}{fd fdi:FuncData}(F:Fun K "tidied" "tidied" zk f fd)(T:TTi mg fi)(F22z:Fun K "in_order" "in_order" ym fi fdi)(b22z:Binds K fdi ["rows"] [])
  (G22z:FnOk P w K mg base CX0 3 fi fdi ["rows"] (spIO K)):FnOk P w K mg base CX0 4 f fd ["expression"] (spIO K):=by
 refine F.ok sc_tidied (λvs H Q E h=>?_) (λcdv A outer s H vs Q E hr h=>?_)
 ·obtain⟨a,us,R,rfl,_⟩:=h
  rfl
 ·obtain⟨a,us,R,rfl,hh⟩:=h
  have hu:=hr.units
  refine exQ (ji (ju (jm G22z (hr.mono (by decide)) rfl T.m22z F22z.kp b22z .nil jo (jc (qpv 0) jd)))) ?_
  simp!
  exact⟨a,us,R,rfl,hh⟩
abbrev ku:Stmt:=top 22
theorem y3:FnScope ["text","reading","place","sign"] ["text"] (jk ku):=⟨rfl,rfl,rfl,by decide +kernel,rfl,by decide +kernel,by decide +kernel⟩
theorem ok_read_expression{f C ab fi fF ft fb ftd:Addr}{fd fdi fdF fdt fdb fdd:FuncData}(F:Fun K "read_expression" "read_expression" ku f fd)(T:TRx P w K mg C ab fi fF ft fb ftd)
  (b31z:Binds K fdi ["self"] []) (G31z:FnOk P w K mg base CX0 1 fi fdi ["self"] (spIn C)) (b30z:Binds K fdF ["self","sign"] []) (G30z:FnOk P w K mg base CX0 1 fF fdF ["self","sign"] (spFi C))
  (b0z:Binds K fdt ["self","sign"] []) (G0z:FnOk P w K mg base CX0 4 ft fdt ["self","sign"] (spTk C)) (b10z:Binds K fdb ["self","binds"] []) (G10z:FnOk P w K mg base CX0 2 fb fdb ["self","binds"] (spBi C))
  (F5z:Fun K "tidied" "tidied" zk ftd fdd) (b5z:Binds K fdd ["expression"] []) (G5z:FnOk P w K mg base CX0 4 ftd fdd ["expression"] (spIO K)):FnOk P w K mg base CX0 5 f fd ["text"] spRx:=by
 refine F.ok y3 (λvs H Q E h=>?_) (λcdv A outer s H vs Q E hr h=>?_)
 ·obtain⟨T,R0,rfl,_⟩:=h
  rfl
 ·obtain⟨Tx,R0,rfl,ren,t9,n1,ok0,k⟩:=h
  have hu:=hr.units
  have hsz:sizeLine=16777216:=Ar
  obtain⟨wt',rd',R',R1,fs1,j,run,m1,p1,q1,l1,g1,nn1,B1⟩:=jm1 ren [] [] [] 0 [] ⟨rfl,λx r e=>by simp at e⟩ (λ_ w0 hw0=>nomatch hw0)
  have B:=B1 0 (by omega) [] [j] R1 .nil
  refine exQ (jh (jp (i:=1) y3.nd rfl (by first|exact Or.inl rfl|exact Or.inr rfl) (qpe_make0 T.mkR G31z (hr.mono (by decide)) rfl T.m_Reading b31z .nil jo))
  (jh (zu Iq rfl (jaw rfl T.n_enumerate (jc (qpv 0) jd)) (jbl (n:=2) rfl (zr (kh (i:=2) y3.nd rfl (by first|exact Or.inl rfl|exact Or.inr rfl)) (zr (kh (i:=3) y3.nd rfl (by first|exact Or.inl rfl|exact Or.inr rfl)) jbb)) (K:=K) rfl) (jh (j0 (jae (za (yq (qpv 1) T.cls T.d_fits G30z (hr.mono (by decide)) b30z .nil jo (jc (qpv 3) jd)))) (ji ja4) j6)
  (ji (jz (yq (qpv 1) T.cls T.d_take G0z (hr.mono (by decide)) b0z .nil jo (jc (qpv 3) jd))))))
  (jh (j0 (QW.pt (jaq (za (ke (K:=K) rfl (qpv 1))) (jar (jt ja6 (ke (K:=K) rfl (qpv 1)) jg (jx _))))) (ji ja4) j6)
  (jh (jz (yq (qpv 1) T.cls T.d_bind G10z (hr.mono (by decide)) b10z .nil jo (jc (zc (P:=P) (w:=w) (K:=K) rfl rfl rfl (yi (v:=.ref _) rfl T.m_BINDS rfl) jn (λ_ _=>rfl)) jd)))
  (ji (ju (jm G5z (hr.mono (by decide)) rfl T.m5z F5z.kp b5z .nil jo (jc (kj y4 (by rfl) T.n_tuple zg (jc (ke (K:=K) rfl (qpv 1)) jd)) jd)))))))) ?_
  simp!
  intro x dx hx hdx nxd
  have nd:x≠dx:=nxd.symm
  have hx1:upd H dx (HO.own x) x=none:=by rw[jf nd];exact hx
  have k0:Kp [] H (upd (upd H dx (HO.own x)) x (HO.ins C dx [])):=((Kp.refl [] H).new hdx).new hx1
  refine⟨x,dx,rfl,je,λpr pd pw H2 I hpr hpd hpw k2=>⟨rfl,?_⟩⟩
  have fr:∀b∈[x,pr,pd,pw],H b=none:=λb hb=>by
   simp only[Aw,Aq,or_false]at hb
   rcases hb with rfl|rfl|rfl|rfl
   ·exact hx
   ·exact k0.free hpr
   ·exact k0.free hpd
   ·exact k0.free hpw
  have k02:Kp [] H H2:=Kp.fresh k0 k2 λb hb=>by rw[Ag.mp hb];exact hx
  refine jn3 (λi σ H'=>∃(wt:List W4)(rd:List Nat)(R:List RE)(op:Nat)(b:Bool)(v2 v3:Option V),σ=[some (.str Tx),some (.ref x),v2,v3]/\RdI H' x C dx pr pd pw wt rd R (op:Int) b/\Run (Tx.cps.toList.drop i) wt rd R op b wt' rd' R' 0 false/\R.length+wt.length+rd.length<=3*i/\Kp [] H H') ⟨[],[],[],0,true,none,none,rfl,I,run,by simp,k02⟩ ?_ ?_
  ·rintro i σ H3 Tt hi ⟨wt,rd,R,op,b,v2,v3,rfl,I3,rn,l3,k3⟩ hTt
   refine⟨Tt,jdr Tx i,rfl,SqT.of je,rfl,⟨_,_,rfl,⟨_,_,rfl,rfl,?_⟩⟩⟩
   have I4:=I3.new (o:=.tup (jdr Tx i)) hTt
   have k4:=k3.new (o:=.tup (jdr Tx i)) hTt
   generalize upd H3 Tt (.tup (jdr Tx i))=H4 at I4 k4⊢
   have hil:i<Tx.cps.toList.length:=by simpa[Str.length]using hi
   have dr:Tx.cps.toList.drop i=Tx.cps.toList.getD i 0::Tx.cps.toList.drop (i+1):=by
    rw[List.drop_eq_getElem_cons hil,Ac,Ai hil];rfl
   rw[dr]at rn
   generalize Tx.cps.toList.getD i 0=c at rn⊢
   cases rn with
   |cons sg rn =>
    have sl:=sg.len
    have tl:Tx.cps.toList.length=Tx.length:=by simp[Str.length]
    simp!
    refine⟨dx,_,I4.hx,lk_m _ _ _ _ _ _ (by decide +kernel),?_⟩
    refine⟨x,dx,pr,pd,pw,c,wt,rd,R,op,b,_,_,_,_,_,rfl,I4,sg,λH5 k5=>⟨_,rfl,?_⟩⟩
    have I5:=I4.kp0 k5
    rw[Ae (by simp)]
    refine⟨dx,_,I5.hx,lk_m _ _ _ _ _ _ (by decide +kernel),?_⟩
    refine⟨x,dx,pr,pd,pw,c,wt,rd,R,op,b,_,_,_,_,_,rfl,I5,sg,by omega,λH6 I6 k6=>?_⟩
    exact⟨_,_,_,_,_,_,_,⟨rfl,rfl⟩,I6,rn,by omega,Kp.fresh (k4.trans k5) k6 fr⟩
  ·rintro σ H3 ⟨wt,rd,R,op,b,v2,v3,rfl,I3,rn,l3,k3⟩
   have e0:Tx.cps.toList.drop Tx.length=[]:=List.drop_eq_nil_of_le (by simp[Str.length])
   rw[e0]at rn
   cases rn
   have bl:=B.len
   simp!
   refine I3.due T.rc rfl ⟨_,rfl,?_⟩
   rw[Ae (by simp)]
   refine I3.opened T.rc rfl ⟨_,rfl,?_⟩
   rw[Ae (by simp)]
   refine⟨dx,_,I3.hx,lk_m _ _ _ _ _ _ (by decide +kernel),KB,T.kb,.inr (ew .or),rfl,_,ji5 (.op .or),?_⟩
   refine⟨x,dx,pr,pd,pw,0,_,_,_,_,_,_,_,_,rfl,I3,by omega,B,by omega,by omega,λH4 I4 k4=>?_⟩
   have k4':=Kp.fresh k3 k4 fr
   refine I4.rows T.rc rfl ?_
   obtain⟨us,hr4,rr4⟩:=I4.hr
   refine jc0 hr4 λl hl=>?_
   have k5:Kp [] H4 (upd H4 l (.tup us)):=(Kp.refl [] H4).new hl
   have rt:RowsT (upd H4 l (.tup us)) us (R1.map keyR):=(rr4.kp k5).rowsT
   have okr:=jg2 λk r e=>(m1.at_ k r e).1
   refine⟨l,us,R1.map keyR,rfl,SqT.of je,rt,okr,λr hr=>?_,by rw[Ab];omega,by rw[Ab];omega,λq us' F H5 tp hq fz rts k6=>?_⟩
   ·obtain⟨e,_,rfl⟩:=A4.mp hr
    cases e <;> simp[keyR]
   ·refine k q us' F H5 (m1.tid ok0 (by omega) ?_ tp) (k4'.free (k5.free hq)) fz rts (((k4'.trans k5).trans k6))
    have:R1.length-1=j:=by omega
    rw[this,g1];omega
end
def eh:RE->Str
 |.nothing=>"nothing"
 |.blank=>"blank"
 |.letter _=>"letter"
 |.no _=>"not"
 |.bin w _ _=>ew w
def bwd:BW->Int
 |.or=>0
 |.and=>1
 |.beh=>2
def bnd:RE->Int
 |.no _=>3
 |.bin w _ _=>bwd w
 |_=>4
def swd:BW->Str
 |.or=>"|"
 |.and=>"&"
 |.beh=>""
theorem jfn(r:RE):atI (jcf r) 0=some (.str (eh r)):=by
 cases r <;> exact jcg (by decide) rfl
def ow:RE->Nat
 |.no _=>3
 |.bin w _ _=>bn w
 |_=>4
theorem jre(r:RE):bnd r=(ow r:Int):=by
 cases r with
 |bin w i j=>cases w <;> rfl
 |_=>rfl
structure LB(rs:List RE)(L:Nat->Nat):Prop where
 at_:∀(k:Nat)(r:RE),rs[k]?=some r->match r with
  |.no j=>L j+7<=L k
  |.bin _ i j=>L i+L j+7<=L k
  |_=>7<=L k
 le:∀k,L k<=5000
theorem jlk(a b:Str):(a++b).cps.toList=a.cps.toList++b.cps.toList:=by simp[Str.cps_append]
theorem jqp(a b:Str):(a++b).length=a.length+b.length:=by simp[Str.length,Str.cps_append]
theorem jpt(x:V)(l:List V):cutV (x::l) (some 1) none=l:=by
 unfold cutV
 rw[show(1:Int)=((1:Nat):Int)from rfl,HT.sIx_nat,HT.sIx_none]
 simp
structure Shp(r:Row):Prop where
 hd:∃(w:Str)(rest:Row),r=.inr w::rest/\rest.length<=2/\(w="letter"->∃a:Str,rest=[.inr a])/\(w≠"letter"->∀x∈rest,∃i:Int,x=.inl i)
 st:∀z:Str,(Sum.inr z:L2.Key)∈r->lw z
theorem Shp.wp{r:Row}(h:Shp r)(g:Nat->Nat):Shp (wpR g r):=by
 obtain⟨⟨w,rest,rfl,l,h1,h2⟩,st⟩:=h
 refine⟨⟨w,wpR g rest,rfl,by unfold wpR;rw[Ab];exact l,λe=>?_,λe x hx=>?_⟩,λz hz=>?_⟩
 ·obtain⟨a,rfl⟩:=h1 e
  exact⟨a,rfl⟩
 ·obtain⟨y,hy,rfl⟩:=A4.mp hx
  obtain⟨i,rfl⟩:=h2 e y hy
  exact⟨_,rfl⟩
 ·obtain⟨y,hy,e⟩:=A4.mp hz
  cases y with
  |inl i=>simp[mapR]at e
  |inr s=>simp[mapR]at e;subst e;exact st s hy
def keyD:L2.Key->PyData
 |.inl i=>.int i
 |.inr z=>.str z
def rowD(r:Row):PyData:=.tuple (r.map keyD)
theorem jiv(H:Hp):∀r:Row,Reps H (r.map kV) (r.map keyD)
 |[]=>by simp[Reps]
 |k::r=>by
  refine⟨?_,jiv H r⟩
  cases k <;> rfl
theorem jhz{H:Hp}{a:Addr}{r:Row}(h:H a=some (.tup (r.map kV))):Rep H (.ref a) (rowD r):=by
 unfold rowD
 simp only[Rep]
 exact⟨a,_,rfl,h,jiv H r⟩
theorem jc2{H:Hp}{us:List V}{R:List Row}(h:RowsT H us R):Reps H us (R.map rowD):=by
 induction h with
 |nil=>simp[Reps]
 |cons h _ ih=>obtain⟨a,rfl,g⟩:=h;exact⟨jhz g,ih⟩
theorem jsm{z:Str}(h:lw z):PyData.strOk z=true:=by
 unfold PyData.strOk
 rw[Array.all_eq_true_iff_forall_mem]
 intro c hc
 have:=h c (by simpa using hc)
 simp;omega
theorem jgb:∀{r:Row},(∀z:Str,(Sum.inr z:L2.Key)∈r->lw z)->PyData.canLayAll0 (r.map keyD)=true/\PyData.depthAll (r.map keyD)<=1
 |[],_=>by simp[PyData.canLayAll0,PyData.depthAll]
 |.inl i::r,h=>by
  have ih:=jgb (r:=r) λz hz=>h z (.tail _ hz)
  simp[keyD,PyData.canLayAll0,PyData.canLay0,PyData.depthAll,PyData.depth,ih.1]
  exact ih.2
 |.inr z::r,h=>by
  have ih:=jgb (r:=r) λz hz=>h z (.tail _ hz)
  simp[keyD,PyData.canLayAll0,PyData.canLay0,PyData.depthAll,PyData.depth,ih.1,jsm (h z (.head _))]
  exact ih.2
theorem jgc{r:Row}(h:Shp r):(rowD r).canLay0=true/\(rowD r).depth<=2:=by
 have:=jgb h.st
 simp[rowD,PyData.canLay0,PyData.depth,this.1]
 omega
theorem jer:∀{R:List Row},(∀r∈R,Shp r)->PyData.canLayAll0 (R.map rowD)=true/\PyData.depthAll (R.map rowD)<=2
 |[],_=>by simp[PyData.canLayAll0,PyData.depthAll]
 |r::R,h=>by
  have ih:=jer (R:=R) λx hx=>h x (.tail _ hx)
  have:=jgc (h r (.head _))
  simp[PyData.canLayAll0,PyData.depthAll,this.1,ih.1]
  omega
theorem jjx:∀r r':Row,PyData.eqvAll (r.map keyD) (r'.map keyD)=decide (r=r')
 |[],[]=>by simp[PyData.eqvAll]
 |[],_::_=>by simp[PyData.eqvAll]
 |_::_,[]=>by simp[PyData.eqvAll]
 |k::r,k'::r'=>by
  have ih:=jjx r r'
  simp only[Ay,PyData.eqvAll,ih]
  cases k with
  |inl i =>
   cases k' with
   |inl j=>by_cases h:i=j <;> simp[keyD,PyData.eqv,h]
   |inr j=>simp[keyD,PyData.eqv]
  |inr i =>
   cases k' with
   |inl j=>simp[keyD,PyData.eqv]
   |inr j=>by_cases h:i=j <;> simp[keyD,PyData.eqv,h]
theorem jfo(r r':Row):PyData.eqv (rowD r) (rowD r')=decide (r=r'):=by
 unfold rowD
 rw[<-jjx]
 simp[PyData.eqv]
theorem jeo:∀R R':List Row,PyData.eqvAll (R.map rowD) (R'.map rowD)=decide (R=R')
 |[],[]=>by simp[PyData.eqvAll]
 |[],_::_=>by simp[PyData.eqvAll]
 |_::_,[]=>by simp[PyData.eqvAll]
 |r::R,r'::R'=>by
  have ih:=jeo R R'
  simp only[Ay,PyData.eqvAll,ih,jfo]
  simp
theorem jp9(R:List Row)(r:Row):((R.map rowD).any λe=>PyData.eqv e (rowD r))=R.any λx=>decide (x=r):=by
 induction R with
 |nil=>rfl
 |cons x R ih=>rw[Ay,List.any_cons,ih,jfo];rfl
theorem jea(s:String)(h:(Str.ofString s).cps.toList.all (λc=>decide (97<=c/\c<=122))=true):lw (Str.ofString s):=λc hc=>of_decide_eq_true (List.all_eq_true.mp h c hc)
theorem jht{k:Nat}{r:RE}(h:r.okz k):Shp (keyR r):=by
 have n1:(Str.ofString "nothing")≠Str.ofString "letter":=by decide +kernel
 have n2:(Str.ofString "blank")≠Str.ofString "letter":=by decide +kernel
 have n3:(Str.ofString "not")≠Str.ofString "letter":=by decide +kernel
 have n4:∀w,ew w≠Str.ofString "letter":=λw=>by cases w <;> decide +kernel
 have w1:=jea "nothing" (by decide +kernel)
 have w2:=jea "blank" (by decide +kernel)
 have w3:=jea "not" (by decide +kernel)
 have w5:=jea "letter" (by decide +kernel)
 have w4:∀w,lw (ew w):=λw=>by
  cases w
  ·exact jea "or" (by decide +kernel)
  ·exact jea "and" (by decide +kernel)
  ·exact jea "behind" (by decide +kernel)
 cases r with
 |nothing=>exact⟨⟨_,[],rfl,by simp,λe=>absurd e n1,by simp⟩,λz hz=>by simp[keyR]at hz;subst hz;exact w1⟩
 |blank=>exact⟨⟨_,[],rfl,by simp,λe=>absurd e n2,by simp⟩,λz hz=>by simp[keyR]at hz;subst hz;exact w2⟩
 |letter a=>exact⟨⟨_,[.inr a],rfl,by simp,λ_=>⟨a,rfl⟩,λe=>absurd rfl e⟩,λz hz=>by
   simp[keyR]at hz
   rcases hz with rfl|rfl
   ·exact w5
   ·exact h.2⟩
 |no j=>exact⟨⟨_,[.inl (j:Int)],rfl,by simp,λe=>absurd e n3,λ_ x hx=>⟨_,by simpa using hx⟩⟩,λz hz=>by simp[keyR]at hz;subst hz;exact w3⟩
 |bin w j l=>exact⟨⟨_,[.inl (j:Int),.inl (l:Int)],rfl,by simp,λe=>absurd e (n4 w),λ_ x hx=>by simp at hx;rcases hx with rfl|rfl <;> exact⟨_,rfl⟩⟩,λz hz=>by simp[keyR]at hz;subst hz;exact w4 w⟩
theorem jl9{R:List Row}{h:Nat->Nat}(ok:OkR R)(H:Hd R h){v:Nat}(vl:v<R.length)(cm:List Nat):(∃t,stp (chd R h) cm v=cm++t)/\v∈stp (chd R h) cm v:=by
 unfold stp
 split
 ·exact⟨⟨[],by simp⟩,by assumption⟩
 ·obtain⟨t,e⟩:=jhk (jdu ok H) v vl cm
  exact⟨⟨t++[v],by rw[e,Ix]⟩,jh6 (jdu ok H) vl cm⟩
def cmj(R:List Row)(h:Nat->Nat)(cm ps:List Nat):List Nat:=(ps.map h).foldl (stp (chd R h)) cm
theorem joq(R:List Row)(h:Nat->Nat)(cm ps:List Nat)(p:Nat):cmj R h cm (ps++[p])=stp (chd R h) (cmj R h cm ps) (h p):=by
 unfold cmj
 rw[Ig,List.foldl_append];rfl
theorem RE.mpR{rs:List RE}{h g:Nat->Nat}{i:Nat}{r:RE}(e:rs[i]?=some r):wpR g (RwA (rs.map keyR) h i)=keyR (r.mp λy=>g (h y)):=by
 unfold RwA
 rw[jdq,Ac,Ao,e]
 exact jeg _ _
theorem jr1{rs:List RE}{i:Nat}{r:RE}(e:rs[i]?=some r):own (rs.map keyR) i=ptR (keyR r):=by
 unfold own
 rw[Ac,Ao,e];rfl
theorem jlz{n:Nat}{S:List Nat}(nd:S.Nodup)(h:∀r∈S,r<n):S.length<=n:=by
 have q:=je8 (zs:=List.range n) nd λx hx=>U9.mpr (h x hx)
 simpa using q
theorem jn6(r:RE):(ptR (keyR r)).length<=2:=by
 cases r with
 |no j=>show(1:Nat)<=2;decide
 |bin w j l=>show(2:Nat)<=2;decide
 |_=>exact A8 _
structure LdI(H:Hp)(l:Addr)(R:List Row)(h:Nat->Nat)(cm:List Nat):Prop where
 vs:∃vs,H l=some (.lst vs)/\RowsT H vs (layL R h cm)
 lay:Lay R h cm
theorem LdI.kp{H H':Hp}{l:Addr}{R:List Row}{h:Nat->Nat}{cm:List Nat}(I:LdI H l R h cm){S:List Addr}(k:Kp S H H')(n:l∉S):LdI H' l R h cm :=
 let⟨vs,e,r⟩:=I.vs
 ⟨⟨vs,k.old _ _ e n,r.kp k⟩,I.lay⟩
theorem Exp.okR{H:Hp}{us:List V}{rs:List RE}(E:Exp H us rs):OkR (rs.map keyR):=λk r e=>by
 rw[Ao]at e
 obtain⟨s,es,rfl⟩:=Is.mp e
 exact jlv (E.ok k s es)
theorem jhv{rs:List RE}(ok:∀(k:Nat) (r:RE),rs[k]?=some r->r.okz k){h:Nat->Nat}{cm:List Nat}(L:Lay (rs.map keyR) h cm):∀r∈layL (rs.map keyR) h cm,Shp r:=λr hr=>by
 obtain⟨v,hv,rfl⟩:=A4.mp hr
 have vl:=L.lt v hv
 rw[Ab]at vl
 have e:rs[v]?=some rs[v]:=Ai vl
 have:RwA (rs.map keyR) h v=wpR h (keyR rs[v]):=by
  unfold RwA
  rw[Ac,Ao,e];rfl
 rw[this]
 exact((jht (ok v _ e)).wp h).wp _
def spLa(n:Nat):Sp:=λvs H Q _=>∃(a l:Addr)(us:List V)(rs:List RE)(i:Nat)(h:Nat->Nat)(cm:List Nat),vs=[.ref a,.int (i:Int),.ref l]/\H a=some (.tup us)/\Exp H us rs/\rs.length<=1000/\Hd (rs.map keyR) h/\LdI H l (rs.map keyR) h cm/\i<rs.length/\i<=n /\
 ∀H',LdI H' l (rs.map keyR) h (stp (chd (rs.map keyR) h) cm (h i))->Kp [l] H H'->Q (nV ((stp (chd (rs.map keyR) h) cm (h i)).idxOf (h i))) H'
structure TLa(mg:Str->Option Value)(f:Addr):Prop where
 m7z:mg "_law_laid"=some (.ref f)
 n_tuple:mg "tuple"=none
section
variable{P:Program}{w:World}{K:PySem.W.Frag}{mg:Str->Option Value}{base:Heap}
abbrev yn:Stmt:=top 32
theorem jag:FnScope ["_law_rows","_law_at","_law_laid_here","_law_row"] ["_law_rows","_law_at","_law_laid_here"] (jk yn):=⟨rfl,rfl,rfl,by decide +kernel,rfl,by decide +kernel,by decide +kernel⟩
theorem ok__law_laid{f:Addr}{fd:FuncData}(F:Fun K "_law_laid" "_law_laid" yn f fd)(T:TLa mg f)(b7z:Binds K fd ["_law_rows","_law_at","_law_laid_here"] []):∀n,FnOk P w K mg base CX0 (n+1) f fd ["_law_rows","_law_at","_law_laid_here"] (spLa n):=by
 intro n
 induction n using Nat.strongRecOn with
 |ind n ih =>
 refine F.ok jag (λvs H Q E h=>?_) (λcdv A outer s H vs Q E hr h=>?_)
 ·obtain⟨a,l,us,rs,i,h,cm,rfl,_⟩:=h
  rfl
 ·obtain⟨a,l,us,rs,i,h,cm,rfl,ha,ex,r9,hh,I,hi,hin,k⟩:=h
  have hu:=hr.units
  have hu1:=jms hr
  have hsz:sizeLine=16777216:=Ar
  have F7z:=F
  have G7z:FnOk P w K mg base CX0 n f fd ["_law_rows","_law_at","_law_laid_here"] (λvs H Q E=>∃m,m<n/\spLa m vs H Q E):=⟨λvs H Q E ⟨m,hm,h⟩=>(ih m hm).len _ _ _ _ h,λA outer s H args us vs Q E hr he hb hv ⟨m,hm,h⟩=>((ih m hm).mono (by omega:m+1<=n)).run A outer s H args us vs Q E hr he hb hv h⟩
  refine exQ (jh (jp (i:=3) jag.nd rfl (by first|exact Or.inl rfl|exact Or.inr rfl) (jr ix_U (qpv 0) (qpv 1) (λ_ _=>rfl)))
  (yr (j0 (jt (jbd hu) (jr ix_U (qpv 3) jg (λ_ _=>rfl)) jn (jx _)) (ji (jp (i:=3) jag.nd rfl (by first|exact Or.inl rfl|exact Or.inr rfl) (jq op_addX (j7 (jc (jr ix_U (qpv 3) jg (λ_ _=>rfl)) jd)) (kj y4 (by rfl) T.n_tuple zg (jc (jba rfl (jda (sc:=jk yn) (N:=["_law_rows","_law_at","_law_laid_here","_law_row"]) (Nc:=["_law_part","_law_rows","_law_laid_here"]) (js:=[none,some 0,some 2]) (by decide +kernel)) (zt (K:=K) (zd (jal (K:=K) rfl) (qpv 3) (y6 jg) z7) rfl) (λ_ _ _ _=>(kh (i:=0) (show List.Nodup [("_law_part":Str),("_law_rows":Str),("_law_laid_here":Str)]from by decide +kernel) rfl (by first|exact Or.inl rfl|exact Or.inr rfl))) (λ_ _ _ _=>(jm G7z hr rfl T.m7z F7z.kp b7z .nil jo (jc (qpv 1) (jc (qpv 0) (jc (qpv 2) jd)))))) jd))))) j6)
  (yr (j0 (jt (op_notinL hu) (qpv 3) (qpv 2) (by with_unfolding_all rfl)) (ji (jz (kf Az A0 j8 (qpv 2) (jc (qpv 3) jd) jcl))) j6)
  (ji (ju (kf PySem.F.slot_list_index PySem.F.type_list_index (mt_indexD hu) (qpv 2) (jc (qpv 3) jd) jcl)))))) ?_
  obtain⟨c,hc1,hc2⟩:=ex.get hi
  have er:rs[i]?=some (rs.getD i .nothing):=by rw[Ac,Ai hi];rfl
  have okr:=ex.ok i _ er
  generalize rs.getD i .nothing=r at hc2 okr er
  have okR:=ex.okR
  have il:i<(rs.map keyR).length:=by rw[Ab];exact hi
  have ch:=jjt hh il
  have ow':=jr1 er
  obtain⟨L1,L2',cin,es⟩:=jqm okR hh il I.lay
  rw[ch]at L2' cin es
  simp!
  refine⟨us,by rw[ha];rfl,_,jdf hc1,?_⟩
  obtain⟨J1,hJ1⟩:∃J:L2.St->Hp->Prop,J=λσ H'=>∃c':Addr,σ=[some (.ref a),some (.int (i:Int)),some (.ref l),some (.ref c')]/\H' c'=some (.tup ((wpR (λx=>(cmj (rs.map keyR) h cm (own (rs.map keyR) i)).idxOf x) (RwA (rs.map keyR) h i)).map kV))/\LdI H' l (rs.map keyR) h (cmj (rs.map keyR) h cm (own (rs.map keyR) i))/\Kp [l] H H':=⟨_,rfl⟩
  refine⟨J1,?_,?_⟩
  ·simp! [hc2]
   refine⟨_,jfn r,?_⟩
   rw[jgi]
   refine⟨_,rfl,?_⟩
   have rowE:∀g:Nat->Nat,wpR (λx=>g x) (RwA (rs.map keyR) h i)=keyR (r.mp λy=>g (h y)):=λg=>RE.mpR er
   by_cases cl:∃z,r=.letter z
   ·obtain⟨z,rfl⟩:=cl
    rw[Ae (by simp[eh]),hJ1]
    have o0:own (rs.map keyR) i=[]:=by rw[ow'];rfl
    rw[rowE,o0]
    exact⟨c,rfl,by rw[jgz];exact hc2,I,Kp.refl _ _⟩
   ·have nl:eh r≠Str.ofString "letter":=by
     cases r with
     |letter z=>exact absurd ⟨z,rfl⟩ cl
     |nothing=>decide +kernel
     |blank=>decide +kernel
     |no j=>show Str.ofString "not"≠_;decide +kernel
     |bin w j l=>cases w <;> (show Str.ofString _≠_;decide +kernel)
    rw[Ak (by simp[nl])]
    refine⟨_,by rw[hc2];rfl,_,jfn r,by omega,λp hp=>?_⟩
    have npl:l≠p:=by obtain⟨vs,e,_⟩:=I.vs;exact jj e hp
    obtain⟨rest,ee⟩:∃rest:List V,jcf r=.str (eh r)::rest:=by cases r <;> exact⟨_,rfl⟩
    have er2:rest=(ptR (keyR r)).map nV:=by
     cases r with
     |letter z=>exact absurd ⟨z,rfl⟩ cl
     |nothing=>cases ee;rfl
     |blank=>cases ee;rfl
     |no j=>cases ee;rfl
     |bin w j l=>cases ee;rfl
    have kp:Kp [] H (upd H p (.tup [V.str (eh r)])):=(Kp.refl [] H).new hp
    have hcp:=kp.tup _ _ hc2
    have epp:upd H p (.tup [V.str (eh r)]) p=some (.tup [V.str (eh r)]):=je
    generalize upd H p (.tup [V.str (eh r)])=H1 at kp hcp epp⊢
    rw[ee]at hcp
    refine .inr ⟨_,SqT.of hcp,λz=>?_,λp2 hp2=>?_⟩
    ·have:=z.1
     rw[show(1:Int)=((1:Nat):Int)from rfl,HT.sIx_nat]at this
     simp at this
    rw[jpt]
    have k2:Kp [] H (upd H1 p2 (.tup rest)):=kp.new hp2
    have ep2:upd H1 p2 (.tup rest) p2=some (.tup rest):=je
    have epp2:upd H1 p2 (.tup rest) p=some (.tup [V.str (eh r)]):=((Kp.refl [] H1).new hp2).tup _ _ epp
    generalize upd H1 p2 (.tup rest)=H2 at k2 ep2 epp2⊢
    simp! [ep2]
    intro D hD
    rw[er2,<-ow']at ep2
    have pm:∀p∈own (rs.map keyR) i,p<i:=λp hp=>jcw (okR.d il) hp
    have I20:LdI H2 l (rs.map keyR) h cm:=I.kp k2 (by simp)
    have nDl:D∉[l]:=λm=>by
     obtain⟨vs,e,_⟩:=I20.vs
     rw[<-Ag.mp m,hD]at e;cases e
    have hD0:H D=none:=k2.free hD
    have mem:∀ps:List Nat,(∀p∈ps,p<i)->∀q∈ps,h q∈cmj (rs.map keyR) h cm ps:=λps hps q hq=>jep (jdu okR hh) cm (λx hx=>by
     obtain⟨y,hy,rfl⟩:=A4.mp hx
     have y1:=hps y hy
     have:=hh.le y (by omega)
     omega) _ (.inr (A4.mpr ⟨q,hq,rfl⟩))
    refine jd4 (xs:=(own (rs.map keyR) i).map nV) (λj σ H'=>∃v:Option V,σ=[v,some (.ref a),some (.ref l)]/\H' D=some (.lst (((own (rs.map keyR) i).take j).map λp=>nV ((cmj (rs.map keyR) h cm ((own (rs.map keyR) i).take j)).idxOf (h p))))/\LdI H' l (rs.map keyR) h (cmj (rs.map keyR) h cm ((own (rs.map keyR) i).take j))/\Kp [l] H2 H') ?_ ?_ ?_ ?_
    ·exact⟨none,rfl,je,I20.kp ((Kp.refl [] H2).new hD) (by simp),(Kp.refl _ H2).new hD⟩
    ·rintro j σ H' _ ⟨v,rfl,_,_,k3⟩
     exact k3.tup _ _ ep2
    ·rintro j x σ H3 hx ⟨v,rfl,eD,I3,k3⟩
     rw[Ao]at hx
     obtain⟨q,hq,rfl⟩:=Is.mp hx
     have qi:=pm q (A5 hq)
     have tk:(own (rs.map keyR) i).take (j+1)=(own (rs.map keyR) i).take j++[q]:=by rw[List.take_add_one,hq];rfl
     have k23:Kp [l] H H3:=(k2.mono (by simp)).trans k3
     simp! [jec]
     refine⟨q,by omega,a,l,us,rs,q,h,_,rfl,k23.tup _ _ ha,ex.kp k23,r9,hh,I3,by omega,Ah _,λH4 I4 k4=>?_⟩
     have eD4:=k4.old _ _ eD nDl
     have ol:(own (rs.map keyR) i).length<=2:=by rw[ow'];exact jn6 r
     have tl:((own (rs.map keyR) i).take j).length<=2:=by rw[Om];omega
     have ql:h q<(rs.map keyR).length:=by have:=hh.le q (by omega);omega
     obtain⟨⟨t4,et4⟩,hm4⟩:=jl9 okR hh ql (cmj (rs.map keyR) h cm ((own (rs.map keyR) i).take j))
     dsimp only
     rw[tk,joq,eD4]
     refine⟨_,rfl,by rw[Ab];omega,?_,?_,(k3.trans k4).set eD4 (.inr hD)⟩
     ·rw[Ig]
      congr 1
      refine Iw λx hx=>?_
      rw[et4,jab (mem _ (λy hy=>pm y (W1 hy)) x hx)]
     ·obtain⟨vs4,e4,rt4⟩:=I4.vs
      have nl:l≠D:=λz=>nDl (by rw[z];exact .head _)
      exact⟨⟨vs4,by rw[jf nl];exact e4,rt4.kp ((Kp.refl [D] H4).set eD4 (.inl (.head _)))⟩,I4.lay⟩
    ·rintro σ H3 ⟨v,rfl,eD,I3,k3⟩
     rw[Ab,List.take_length]at eD I3
     dsimp only
     refine jc0 eD λt ht=>?_
     have k4:Kp [] H3 (upd H3 t (.tup ((own (rs.map keyR) i).map λp=>nV ((cmj (rs.map keyR) h cm (own (rs.map keyR) i)).idxOf (h p))))):=(Kp.refl [] H3).new ht
     have e4:upd H3 t (.tup ((own (rs.map keyR) i).map λp=>nV ((cmj (rs.map keyR) h cm (own (rs.map keyR) i)).idxOf (h p)))) t=some (.tup ((own (rs.map keyR) i).map λp=>nV ((cmj (rs.map keyR) h cm (own (rs.map keyR) i)).idxOf (h p)))):=je
     generalize upd H3 t (.tup ((own (rs.map keyR) i).map λp=>nV ((cmj (rs.map keyR) h cm (own (rs.map keyR) i)).idxOf (h p))))=H4 at k4 e4⊢
     have ol:(own (rs.map keyR) i).length<=2:=by rw[ow'];exact jn6 r
     refine⟨p,t,_,_,rfl,rfl,k4.tup _ _ (k3.tup _ _ epp2),e4,by simp only[Ab,List.length_cons,List.length_nil];omega,λc' H5 k5 hc'=>?_⟩
     rw[hJ1]
     refine⟨c',rfl,?_,(I3.kp k4 (by simp)).kp k5 (by simp),(((k2.mono (by simp)).trans k3).trans (k4.mono (by simp))).trans (k5.mono (by simp))⟩
     rw[hc',rowE,jgz,ow']
     cases r with
     |letter z=>exact absurd ⟨z,rfl⟩ cl
     |_=>rfl
  intro σ H1 hj
  rw[hJ1]at hj
  obtain⟨c',rfl,hc',I1,k1⟩:=hj
  obtain⟨vs1,e1,rt1⟩:=I1.vs
  obtain⟨J2,hJ2⟩:∃J:L2.St->Hp->Prop,J=λσ H'=>σ=[some (.ref a),some (.int (i:Int)),some (.ref l),some (.ref c')]/\H' c'=some (.tup ((wpR (λx=>(cmj (rs.map keyR) h cm (own (rs.map keyR) i)).idxOf x) (RwA (rs.map keyR) h i)).map kV))/\LdI H' l (rs.map keyR) h (stp (chd (rs.map keyR) h) cm (h i))/\Kp [l] H H':=⟨_,rfl⟩
  refine⟨J2,?_,?_⟩
  ·simp!
   have shp:=jhv ex.ok I1.lay
   have rsh:Shp (wpR (λx=>(cmj (rs.map keyR) h cm (own (rs.map keyR) i)).idxOf x) (RwA (rs.map keyR) h i)):=by
    unfold RwA
    rw[Ac,Ao,er]
    exact((jht okr).wp h).wp _
   have lr:=jer shp
   have l1:=jgc rsh
   refine⟨l,vs1,_,_,rfl,e1,jc2 rt1,jhz hc',lr.1,l1.1,by omega,_,rfl,?_⟩
   rw[jp9]
   have row_h:wpR (λx=>(cmj (rs.map keyR) h cm (own (rs.map keyR) i)).idxOf x) (RwA (rs.map keyR) h i)=wpR (λx=>(cmj (rs.map keyR) h cm (own (rs.map keyR) i)).idxOf x) (RwA (rs.map keyR) h (h i)):=by rw[hh.same i il]
   have vl:h i<(rs.map keyR).length:=by have:=hh.le i il;omega
   have mm:=jo3 I1.lay hh vl (hh.idem il) (by rw[ch];exact cin)
   rw[<-row_h]at mm
   have es':stp (chd (rs.map keyR) h) cm (h i)=if h i∈cmj (rs.map keyR) h cm (own (rs.map keyR) i)then cmj (rs.map keyR) h cm (own (rs.map keyR) i)else cmj (rs.map keyR) h cm (own (rs.map keyR) i)++[h i]:=es
   by_cases c0:h i∈cmj (rs.map keyR) h cm (own (rs.map keyR) i)
   ·rw[Ak c0]at es'
    have:((layL (rs.map keyR) h (cmj (rs.map keyR) h cm (own (rs.map keyR) i))).any λx=>decide (x=wpR (λx=>(cmj (rs.map keyR) h cm (own (rs.map keyR) i)).idxOf x) (RwA (rs.map keyR) h i)))=true:=Uw.mpr ⟨_,mm.mpr c0,by simp⟩
    rw[this,Ae (by simp),hJ2,es']
    exact⟨rfl,hc',I1,k1⟩
   ·rw[Ae c0]at es'
    have:((layL (rs.map keyR) h (cmj (rs.map keyR) h cm (own (rs.map keyR) i))).any λx=>decide (x=wpR (λx=>(cmj (rs.map keyR) h cm (own (rs.map keyR) i)).idxOf x) (RwA (rs.map keyR) h i)))=false:=by
     rw[List.any_eq_false]
     intro x hx z
     exact c0 (mm.mp (by rw[<-of_decide_eq_true z];exact hx))
    rw[this,Ak (by simp),e1]
    have cl:(cmj (rs.map keyR) h cm (own (rs.map keyR) i)).length<=rs.length:=by
     have:=jlz I1.lay.nd I1.lay.lt
     rwa[Ab]at this
    have vl1:vs1.length=(cmj (rs.map keyR) h cm (own (rs.map keyR) i)).length:=by have:=Il rt1;rwa[layL,Ab]at this
    have ks:Kp [l] H1 (upd H1 l (.lst (vs1++[V.ref c']))):=(Kp.refl _ H1).set e1 (.inl (.head _))
    refine⟨rfl,vs1,rfl,by omega,?_⟩
    rw[hJ2,es']
    refine⟨rfl,ks.tup _ _ hc',⟨⟨_,je,?_⟩,by rw[<-es'];exact L1⟩,k1.trans ks⟩
    rw[jnz I1.lay (by rw[ch];exact cin),<-row_h]
    exact Wm (rt1.kp ks) ⟨c',rfl,ks.tup _ _ hc'⟩
  intro σ H2 hj
  rw[hJ2]at hj
  obtain⟨rfl,hc2',I2,k2⟩:=hj
  obtain⟨vs2,e2,rt2⟩:=I2.vs
  simp!
  refine⟨by rw[e2];rfl,?_⟩
  have shp:=jhv ex.ok I2.lay
  have lr:=jer shp
  have vl:h i<(rs.map keyR).length:=by have:=hh.le i il;omega
  have es':stp (chd (rs.map keyR) h) cm (h i)=if h i∈cmj (rs.map keyR) h cm (own (rs.map keyR) i)then cmj (rs.map keyR) h cm (own (rs.map keyR) i)else cmj (rs.map keyR) h cm (own (rs.map keyR) i)++[h i]:=es
  obtain⟨t2,et2⟩:∃t,stp (chd (rs.map keyR) h) cm (h i)=cmj (rs.map keyR) h cm (own (rs.map keyR) i)++t:=by
   rw[es']
   split
   ·exact⟨[],by simp⟩
   ·exact⟨_,rfl⟩
  have hm:=(jl9 okR hh vl cm).2
  have rowq:wpR (λx=>(cmj (rs.map keyR) h cm (own (rs.map keyR) i)).idxOf x) (RwA (rs.map keyR) h i)=wpR (λx=>(stp (chd (rs.map keyR) h) cm (h i)).idxOf x) (RwA (rs.map keyR) h (h i)):=by
   rw[hh.same i il,et2]
   refine jcz λp hp=>(jab (cin p ?_)).symm
   rw[<-ch]
   unfold chd
   rw[hh.same i il];exact hp
  rw[rowq]at hc2'
  have at2:=jqk (R:=rs.map keyR) (h:=h) hm
  have rsh:=shp _ (A5 at2)
  have l1:=jgc rsh
  refine⟨vs2,_,_,_,e2,jc2 rt2,jhz hc2',lr.1,l1.1,by omega,⟨_,by rw[Ao,at2];rfl,by rw[jfo];simp⟩,λm d hm' hd=>?_,k _ I2 k2⟩
  rw[Ao]at hd
  obtain⟨x,hx,rfl⟩:=Is.mp hd
  rw[jfo]
  refine Ii λz=>?_
  subst z
  have:=jpz (jql I2.lay hh) hx at2
  omega
end
def spTd:Sp:=λvs H Q _=>∃(a:Addr)(us:List V)(rs:List RE),vs=[.ref a]/\H a=some (.tup us)/\Exp H us rs/\1<=rs.length/\rs.length<=60/\∀(q:Addr)(us':List V)(F:List Row)(H':Hp),TidP (rs.map keyR) F->(∀r∈F,Shp r)->H' q=some (.tup us')->RowsT H' us' F->Kp [] H H'->Q (.ref q) H'
structure TTd(mg:Str->Option Value)(fl:Addr):Prop where
 n_len:mg "len"=none
 n_tuple:mg "tuple"=none
 m7z:mg "_law_laid"=some (.ref fl)
section
variable{P:Program}{w:World}{K:PySem.W.Frag}{mg:Str->Option Value}{base:Heap}
abbrev yo:Stmt:=top 33
theorem ja5:FnScope ["_law_rows","_law_laid_here"] ["_law_rows"] (jk yo):=⟨rfl,rfl,rfl,by decide +kernel,rfl,by decide +kernel,by decide +kernel⟩
theorem ok__law_tidy{f fl:Addr}{fd fdl:FuncData}(F:Fun K "_law_tidy" "_law_tidy" yo f fd)(T:TTd mg fl)(F7z:Fun K "_law_laid" "_law_laid" yn fl fdl)(b7z:Binds K fdl ["_law_rows","_law_at","_law_laid_here"] [])(G0:∀n,FnOk P w K mg base CX0 (n+1) fl fdl ["_law_rows","_law_at","_law_laid_here"] (spLa n)):FnOk P w K mg base CX0 62 f fd ["_law_rows"] spTd:=by
 have G7z:=G0 60
 refine F.ok ja5 (λvs H Q E h=>?_) (λcdv A outer s H vs Q E hr h=>?_)
 ·obtain⟨a,us,rs,rfl,_⟩:=h
  rfl
 ·obtain⟨a,us,rs,rfl,ha,ex,n1,n9,k⟩:=h
  have hu:=hr.units
  have hsz:sizeLine=16777216:=Ar
  have ul:=ex.len
  obtain⟨h,hh⟩:=Hd.ex ex.okR
  refine exQ (jh (jp (i:=1) ja5.nd rfl (by first|exact Or.inl rfl|exact Or.inr rfl) (j5 jd))
  (jh (jz (jm G7z (hr.mono (by decide)) rfl T.m7z F7z.kp b7z .nil jo (jc (qpv 0) (jc (jq zi (jy ka (by rfl) T.n_len ky (jc (qpv 0) jd)) jg) (jc (qpv 1) jd)))))
  (ji (ju (kj y4 (by rfl) T.n_tuple zg (jc (qpv 1) jd)))))) ?_
  simp!
  refine⟨by omega,λl hl=>?_⟩
  have k0:Kp [] H (upd H l (.lst [])):=(Kp.refl [] H).new hl
  have e0:upd H l (.lst []) l=some (.lst []):=je
  generalize upd H l (.lst [])=H0 at k0 e0⊢
  have ha0:=k0.tup _ _ ha
  rw[ha0]
  refine⟨us,rfl,?_⟩
  refine⟨a,l,us,rs,rs.length-1,h,[],by rw[ul];simp;omega,ha0,ex.kp k0,by omega,hh,⟨⟨[],e0,.nil⟩,Lay.nil⟩,by omega,by omega,λH1 I1 k1=>?_⟩
  obtain⟨vs1,e1,rt1⟩:=I1.vs
  have tp:layL (rs.map keyR) h (stp (chd (rs.map keyR) h) [] (h (rs.length-1)))=tidR (rs.map keyR) h:=by
   have:=jqn ex.okR hh (by rw[Ab];exact n1)
   rw[Ab]at this
   exact this
  have shp:=jhv ex.ok I1.lay
  rw[tp]at rt1 shp
  refine jc0 e1 λq hq=>?_
  have k2:Kp [] H1 (upd H1 q (.tup vs1)):=(Kp.refl [] H1).new hq
  exact k q vs1 _ _ ⟨h,hh,rfl⟩ shp je (rt1.kp k2) ((Kp.fresh k0 k1 λs hs=>by rw[Ag.mp hs];exact hl).trans k2)
end
def jck:RE->Prop
 |.nothing=>True
 |.blank=>True
 |.letter _=>True
 |_=>False
def CH(rs:List RE):Prop:=∀(k:Nat)(r:RE),rs[k]?=some r->jck r\/(1<=k/\r=.no (k-1))\/(2<=k/\jck (rs.getD (k-1) (.no 0))/\∃w,r=.bin w (k-2) (k-1)\/r=.bin w (k-1) (k-2))
theorem CH.no{rs:List RE}(h:CH rs)(h1:1<=rs.length):CH (rs++[.no (rs.length-1)]):=λk r e=>by
 by_cases hk:k<rs.length
 ·rw[A1 hk]at e
  rcases h k r e with q|q|⟨q1,q2,q3⟩
  ·exact .inl q
  ·exact .inr (.inl q)
  ·refine .inr (.inr ⟨q1,?_,q3⟩)
   rw[Ac,A1 (by omega),<-Ac];exact q2
 ·have hk':k=rs.length:=by
   have:=(Aj.mp e).1
   simp at this
   omega
  subst hk'
  rw[A7 (Ah _)]at e
  simp at e
  subst e
  exact .inr (.inl ⟨h1,rfl⟩)
theorem CH.two{rs:List RE}(h:CH rs)(h1:1<=rs.length){lf:RE}(hl:jck lf)(w:BW)(c:Bool):CH (rs++[lf]++[if c then .bin w (rs.length-1) rs.length else .bin w rs.length (rs.length-1)]):=λk r e=>by
 by_cases hk:k<rs.length
 ·rw[Ix,A1 hk]at e
  rcases h k r e with q|q|⟨q1,q2,q3⟩
  ·exact .inl q
  ·exact .inr (.inl q)
  ·refine .inr (.inr ⟨q1,?_,q3⟩)
   rw[Ac,Ix,A1 (by omega),<-Ac];exact q2
 ·by_cases hk2:k=rs.length
  ·subst hk2
   rw[A1 (by simp),A7 (Ah _)]at e
   simp at e
   subst e
   exact .inl hl
  ·have hk':k=rs.length+1:=by
    have:=(Aj.mp e).1
    simp at this
    omega
   subst hk'
   rw[A7 (by simp)]at e
   simp at e
   refine .inr (.inr ⟨by omega,?_,w,?_⟩)
   ·rw[Ac,A1 (by simp),Nat.add_sub_cancel,A7 (Ah _)]
    simpa using hl
   ·subst e
    cases c
    ·exact .inr (by simp)
    ·exact .inl (by simp)
theorem CH.one(a:Str):CH [.letter a]:=λk r e=>by
 cases k with
 |zero=>cases e;exact .inl trivial
 |succ k=>simp at e
def spCh:Sp:=λvs H Q _=>∃(b:Addr)(z:Str)(o:HO),vs=[.ref b,.str z,.int 24]/\H b=some o/\BoxO o/\1<=z.length/\z.length<=1000/\lw z /\
 ∀(t:Addr)(us:List V)(rs:List RE)(o':HO)(H':Hp),H' t=some (.tup us)->Exp H' us rs->1<=rs.length->rs.length<=50->CH rs->BoxO o'->H' b=some o'->Kp [b] H H'->Q (.ref t) H'
structure TCh(mg:Str->Option Value)(ft:Addr):Prop where
 n_range:mg "range"=none
 n_len:mg "len"=none
 n_tuple:mg "tuple"=none
 m1z:mg "_law_take"=some (.ref ft)
section
variable{P:Program}{w:World}{K:PySem.W.Frag}{mg:Str->Option Value}{base:Heap}
abbrev yt:Stmt:=top 31
theorem yf:FnScope ["_law_box_here","_law_letters_here","_law_most","_law_rows","_law_k","_law_kind","_law_base","_law_leaf","_law_word","_law_last"] ["_law_box_here","_law_letters_here","_law_most"] (jk yt):=⟨rfl,rfl,rfl,by decide +kernel,rfl,by decide +kernel,by decide +kernel⟩
theorem ok__law_chain{f ft:Addr}{fd fdt:FuncData}(F:Fun K "_law_chain" "_law_chain" yt f fd)(T:TCh mg ft)(F1z:Fun K "_law_take" "_law_take" kg ft fdt)(b1z:Binds K fdt ["_law_box_here","_law_wide"] [])
  (G1z:FnOk P w K mg base CX0 1 ft fdt ["_law_box_here","_law_wide"] jde):FnOk P w K mg base CX0 2 f fd ["_law_box_here","_law_letters_here","_law_most"] spCh:=by
 refine F.ok yf (λvs H Q E h=>?_) (λcdv A outer s H vs Q E hr h=>?_)
 ·obtain⟨b,z,o,rfl,_⟩:=h
  rfl
 ·obtain⟨b,z,o,rfl,hb,ho,z1,z2,zl,k⟩:=h
  have hu:=hr.units
  have hsz:sizeLine=16777216:=Ar
  refine⟨_,(QSs.h (jh (jp (i:=3) yf.nd rfl (by first|exact Or.inl rfl|exact Or.inr rfl) (j5 (jc (j7 (jc jn (jc (jr ix_U (qpv 1) (jm G1z (hr.mono (by decide)) rfl T.m1z F1z.kp b1z .nil jo (jc (qpv 0) (jc (jy ka (by rfl) T.n_len ky (jc (qpv 1) jd)) jd))) (λ_ _=>rfl)) jd))) jd)))
  (jh (zu Iq rfl (jat rfl T.n_range (jc (jm G1z (hr.mono (by decide)) rfl T.m1z F1z.kp b1z .nil jo (jc (qpv 0) (jc (qpv 2) jd))) jd)) (kh (i:=4) yf.nd rfl (by first|exact Or.inl rfl|exact Or.inr rfl)) (jh (jp (i:=5) yf.nd rfl (by first|exact Or.inl rfl|exact Or.inr rfl) (jm G1z (hr.mono (by decide)) rfl T.m1z F1z.kp b1z .nil jo (jc (qpv 0) (jc jg jd))))
  (ji (j0 (jt jan (qpv 5) jg (jx _)) (ji (jz (kf Az A0 j8 (qpv 3) (jc (j7 (jc jn (jc (jq zi (jy ka (by rfl) T.n_len ky (jc (qpv 3) jd)) jg) jd))) jd) jcl))) (jh (jp (i:=6) yf.nd rfl (by first|exact Or.inl rfl|exact Or.inr rfl) (j5 (jc (j7 (jc jn (jc (jr ix_U (qpv 1) (jm G1z (hr.mono (by decide)) rfl T.m1z F1z.kp b1z .nil jo (jc (qpv 0) (jc (jy ka (by rfl) T.n_len ky (jc (qpv 1) jd)) jd))) (λ_ _=>rfl)) jd))) (jc (j7 (jc jn jd)) (jc (j7 (jc jn jd)) jd)))))
  (jh (jp (i:=7) yf.nd rfl (by first|exact Or.inl rfl|exact Or.inr rfl) (jr ix_U (qpv 6) (jr ix_U (j5 (jc jg (jc jg (jc jg (jc jg (jc jg (jc jg jd))))))) (jq z0 (qpv 5) jg) (λ_ _=>rfl)) (λ_ _=>rfl)))
  (jh (jp (i:=8) yf.nd rfl (by first|exact Or.inl rfl|exact Or.inr rfl) (jr ix_U (j5 (jc jn (jc jn (jc jn jd)))) (jm G1z (hr.mono (by decide)) rfl T.m1z F1z.kp b1z .nil jo (jc (qpv 0) (jc jg jd))) (λ_ _=>rfl)))
  (jh (jz (kf Az A0 j8 (qpv 3) (jc (qpv 7) jd) jcl))
  (jh (jp (i:=9) yf.nd rfl (by first|exact Or.inl rfl|exact Or.inr rfl) (jq zi (jy ka (by rfl) T.n_len ky (jc (qpv 3) jd)) jg))
  (ji (jz (kf Az A0 j8 (qpv 3) (jc (jr ix_U (j5 (jc (j7 (jc (qpv 8) (jc (jq zi (qpv 9) jg) (jc (qpv 9) jd)))) (jc (j7 (jc (qpv 8) (jc (qpv 9) (jc (jq zi (qpv 9) jg) jd)))) jd))) (jm G1z (hr.mono (by decide)) rfl T.m1z F1z.kp b1z .nil jo (jc (qpv 0) (jc jg jd))) (λ_ _=>rfl)) jd) jcl))))))))))))
  (ji (ju (kj y4 (by rfl) T.n_tuple zg (jc (qpv 3) jd))))))),?_⟩
  simp!
  refine⟨by omega,b,z.length,o,rfl,hb,ho,by omega,by omega,λe o1 e0 e1 ho1=>?_⟩
  obtain⟨ch,hch,ach⟩:=je6 e0 e1
  simp! [ach]
  refine⟨by omega,by omega,λt1 ht1=>⟨by omega,λq hq=>?_⟩⟩
  obtain⟨xs0,rfl⟩:=id ho.lst
  obtain⟨xs1,rfl⟩:=id ho1.lst
  have nb1:b≠t1:=jj je ht1
  have nbq:b≠q:=jj (by rw[jf nb1,je]) hq
  have n1q:t1≠q:=jj je hq
  refine⟨b,24,_,rfl,by rw[jf nbq,jf nb1,je],ho1,by omega,by omega,λd o2 d0 d1 ho2=>⟨d,rfl,by omega,by omega,?_⟩⟩
  obtain⟨n,rfl⟩:∃n:Nat,d=(n:Int):=⟨d.toNat,by omega⟩
  rw[Int.toNat_natCast]
  have hq0:H q=none:=by rw[jf n1q.symm,jf nbq.symm]at hq;exact hq
  have kb0:Kp [b] H (upd (upd (upd H b (.lst xs1)) t1 (.tup [V.str (Str.ofString "letter"),V.str ⟨#[ch]⟩])) q (.lst [V.ref t1])):=(((Kp.refl [b] H).set hb (.inl (.head _))).new ht1).new hq
  have F0:Fx H b q [.ref t1] [.letter ⟨#[ch]⟩] (.lst xs1) (upd (upd (upd H b (.lst xs1)) t1 (.tup [V.str (Str.ofString "letter"),V.str ⟨#[ch]⟩])) q (.lst [V.ref t1])) :=
   ⟨by rw[jf nbq,jf nb1,je],ho1,je,⟨.cons ⟨t1,rfl,by rw[jf n1q,je];rfl⟩ .nil,λk r e=>by
    cases k with
    |zero=>cases e;exact⟨rfl,λc hc=>by simp at hc;subst hc;exact zl _ hch⟩
    |succ k=>simp at e⟩,kb0⟩
  have F0':=F0.box nbq ho2
  refine jdv (λi σ H'=>∃(us:List V)(rs:List RE)(o:HO)(v4 v5 v6 v7 v8 v9:Option V),σ=[some (.ref b),some (.str z),some (.int 24),some (.ref q),v4,v5,v6,v7,v8,v9]/\rs.length<=2*i+1/\1<=rs.length/\CH rs/\Fx H b q us rs o H') ?_ ?_ ?_
  ·exact⟨_,_,_,none,none,none,none,none,none,rfl,by simp,by simp,CH.one _,F0'⟩
  ·rintro i σ H1 hi ⟨us,rs,o3,v4,v5,v6,v7,v8,v9,rfl,hl,h1,hch1,F1⟩
   have lu:us.length=rs.length:=Il F1.ex.at_
   simp!
   refine⟨b,9,_,rfl,F1.hb,F1.ho,by omega,by omega,λkd o3 kd0 kd1 ho3=>?_⟩
   have F2:=F1.box nbq ho3
   have eq2:=F2.hq
   simp! [eq2]
   refine ite2 (λh3=>?_) (λh3=>?_)
   ·refine⟨by omega,λt ht=>?_⟩
    have er:[V.str (Str.ofString "not"),V.int ((us.length:Int)-1)]=jcf (.no (rs.length-1)):=by rw[lu,show((rs.length:Int)-1)=((rs.length-1:Nat):Int)by omega];rfl
    rw[er]
    have F6:=F2.new (x:=.tup (jcf (.no (rs.length-1)))) ht
    exact⟨us,by rw[F6.hq];rfl,by omega,us++[.ref t],rs++[.no (rs.length-1)],o3,_,_,_,_,_,_,⟨rfl,rfl,rfl,rfl,rfl,rfl⟩,by simp;omega,by simp,hch1.no h1,F6.put (.no (rs.length-1)) (show rs.length-1<rs.length by omega) je hq0 nbq⟩
   ·refine⟨by omega,b,z.length,_,rfl,F2.hb,F2.ho,by omega,by omega,λe o4 e0 e1 ho4=>?_⟩
    obtain⟨ch,hch,ach⟩:=je6 e0 e1
    simp! [ach]
    refine⟨by omega,by omega,λt1 ht1=>⟨by omega,λt2 ht2=>⟨by omega,λt3 ht3=>⟨by omega,λt4 ht4=>⟨by omega,λt5 ht5=>?_⟩⟩⟩⟩⟩
    have F3':=F1.box nbq ho4
    have F4:=(((F3'.new (x:=.tup [V.str (Str.ofString "letter"),V.str ⟨#[ch]⟩]) ht1).new (x:=.tup [V.str (Str.ofString "blank")]) ht2).new (x:=.tup [V.str (Str.ofString "nothing")]) ht3).new (x:=.lst [V.ref t1,V.ref t2,V.ref t3]) ht4
    have n12:t1≠t2:=jj je ht2
    have n23:t2≠t3:=jj je ht3
    have n34:t3≠t4:=jj je ht4
    have n13:t1≠t3:=jj (by rw[jf n12,je]) ht3
    have n24:t2≠t4:=jj (by rw[jf n23,je]) ht4
    have n14:t1≠t4:=jj (by rw[jf n13,jf n12,je]) ht4
    have g1:upd (upd (upd (upd (upd H1 b o4) t1 (.tup [V.str (Str.ofString "letter"),V.str ⟨#[ch]⟩])) t2 (.tup [V.str (Str.ofString "blank")])) t3 (.tup [V.str (Str.ofString "nothing")])) t4 (.lst [V.ref t1,V.ref t2,V.ref t3]) t1=some (.tup (jcf (.letter ⟨#[ch]⟩))):=by rw[jf n14,jf n13,jf n12,je];rfl
    have g2:upd (upd (upd (upd (upd H1 b o4) t1 (.tup [V.str (Str.ofString "letter"),V.str ⟨#[ch]⟩])) t2 (.tup [V.str (Str.ofString "blank")])) t3 (.tup [V.str (Str.ofString "nothing")])) t4 (.lst [V.ref t1,V.ref t2,V.ref t3]) t2=some (.tup (jcf .blank)):=by rw[jf n24,jf n23,je];rfl
    have g3:upd (upd (upd (upd (upd H1 b o4) t1 (.tup [V.str (Str.ofString "letter"),V.str ⟨#[ch]⟩])) t2 (.tup [V.str (Str.ofString "blank")])) t3 (.tup [V.str (Str.ofString "nothing")])) t4 (.lst [V.ref t1,V.ref t2,V.ref t3]) t3=some (.tup (jcf .nothing)):=by rw[jf n34,je];rfl
    have g4:upd (upd (upd (upd (upd H1 b o4) t1 (.tup [V.str (Str.ofString "letter"),V.str ⟨#[ch]⟩])) t2 (.tup [V.str (Str.ofString "blank")])) t3 (.tup [V.str (Str.ofString "nothing")])) t4 (.lst [V.ref t1,V.ref t2,V.ref t3]) t4=some (.lst [V.ref t1,V.ref t2,V.ref t3]):=je
    revert F4 g1 g2 g3 g4 ht5
    generalize upd (upd (upd (upd (upd H1 b o4) t1 (.tup [V.str (Str.ofString "letter"),V.str ⟨#[ch]⟩])) t2 (.tup [V.str (Str.ofString "blank")])) t3 (.tup [V.str (Str.ofString "nothing")])) t4 (.lst [V.ref t1,V.ref t2,V.ref t3])=H5
    intro ht5 F4 g1 g2 g3 g4
    obtain⟨j,lf,tl,hj1,hj2,hlf,okl,htl⟩:∃(j:Int)(lf:RE)(tl:Addr),atI [V.int 0,V.int 0,V.int 0,V.int 0,V.int 1,V.int 2] (kd%6)=some (.int j)/\atI [V.ref t1,V.ref t2,V.ref t3] j=some (.ref tl)/\jck lf/\(∀k,lf.okz k)/\H5 tl=some (.tup (jcf lf)):=by
     have:kd%6=0\/kd%6=1\/kd%6=2\/kd%6=3\/kd%6=4\/kd%6=5:=by omega
     rcases this with e|e|e|e|e|e <;> rw[e]
     ·exact⟨0,.letter ⟨#[ch]⟩,t1,rfl,rfl,trivial,λ_=>⟨rfl,λc hc=>by simp at hc;subst hc;exact zl _ hch⟩,g1⟩
     ·exact⟨0,.letter ⟨#[ch]⟩,t1,rfl,rfl,trivial,λ_=>⟨rfl,λc hc=>by simp at hc;subst hc;exact zl _ hch⟩,g1⟩
     ·exact⟨0,.letter ⟨#[ch]⟩,t1,rfl,rfl,trivial,λ_=>⟨rfl,λc hc=>by simp at hc;subst hc;exact zl _ hch⟩,g1⟩
     ·exact⟨0,.letter ⟨#[ch]⟩,t1,rfl,rfl,trivial,λ_=>⟨rfl,λc hc=>by simp at hc;subst hc;exact zl _ hch⟩,g1⟩
     ·exact⟨1,.blank,t2,rfl,rfl,trivial,λ_=>trivial,g2⟩
     ·exact⟨2,.nothing,t3,rfl,rfl,trivial,λ_=>trivial,g3⟩
    have F5:=F4.new (x:=.lst [V.int 0,V.int 0,V.int 0,V.int 0,V.int 1,V.int 2]) ht5
    have g45:upd H5 t5 (.lst [V.int 0,V.int 0,V.int 0,V.int 0,V.int 1,V.int 2]) t4=some (.lst [V.ref t1,V.ref t2,V.ref t3]):=by rw[jf (jj g4 ht5)];exact g4
    have htl5:upd H5 t5 (.lst [V.int 0,V.int 0,V.int 0,V.int 0,V.int 1,V.int 2]) tl=some (.tup (jcf lf)):=by rw[jf (jj htl ht5)];exact htl
    generalize upd H5 t5 (.lst [V.int 0,V.int 0,V.int 0,V.int 0,V.int 1,V.int 2])=H6 at F5 g45 htl5⊢
    refine⟨by decide,_,hj1,?_⟩
    simp! [g45]
    refine⟨_,hj2,by omega,λt6 ht6=>?_⟩
    have F7:=F5.new (x:=.lst [V.str (Str.ofString "behind"),V.str (Str.ofString "or"),V.str (Str.ofString "and")]) ht6
    have nb6:b≠t6:=jj F5.hb ht6
    have htl7:upd H6 t6 (.lst [V.str (Str.ofString "behind"),V.str (Str.ofString "or"),V.str (Str.ofString "and")]) tl=some (.tup (jcf lf)):=by rw[jf (jj htl5 ht6)];exact htl5
    refine⟨b,3,_,rfl,F7.hb,F7.ho,by omega,by omega,λe2 o8 e20 e21 ho8=>?_⟩
    have F8:=F7.box nbq ho8
    have htl8:=(show Kp [b] (upd H6 t6 (.lst [V.str (Str.ofString "behind"),V.str (Str.ofString "or"),V.str (Str.ofString "and")])) (upd (upd H6 t6 (.lst [V.str (Str.ofString "behind"),V.str (Str.ofString "or"),V.str (Str.ofString "and")])) b o8)by
     obtain⟨x9,e9⟩:=F7.ho.lst
     have h9:=F7.hb
     rw[e9]at h9
     exact(Kp.refl [b] _).set h9 (.inl (.head _))).tup _ _ htl7
    have g68:upd (upd H6 t6 (.lst [V.str (Str.ofString "behind"),V.str (Str.ofString "or"),V.str (Str.ofString "and")])) b o8 t6=some (.lst [V.str (Str.ofString "behind"),V.str (Str.ofString "or"),V.str (Str.ofString "and")]):=by rw[jf nb6.symm,je]
    generalize upd (upd H6 t6 (.lst [V.str (Str.ofString "behind"),V.str (Str.ofString "or"),V.str (Str.ofString "and")])) b o8=H8 at F8 htl8 g68⊢
    obtain⟨ww,hww⟩:∃ww:BW,atI [V.str (Str.ofString "behind"),V.str (Str.ofString "or"),V.str (Str.ofString "and")] e2=some (.str (ew ww)):=by
     have:e2=0\/e2=1\/e2=2:=by omega
     rcases this with rfl|rfl|rfl
     ·exact⟨.beh,rfl⟩
     ·exact⟨.or,rfl⟩
     ·exact⟨.and,rfl⟩
    have eq8:=F8.hq
    simp! [g68,eq8]
    refine⟨_,hww,by omega,by omega,?_⟩
    have ll:((us++[V.ref tl]).length:Int)-1=(rs.length:Int):=by rw[Ax,lu];simp
    have ll2:(rs.length:Int)-1=((rs.length-1:Nat):Int):=by omega
    rw[ll,ll2]
    have F9:=F8.put lf (okl _) htl8 hq0 nbq
    generalize upd H8 q (.lst (us++[.ref tl]))=H9 at F9⊢
    intro p hp
    refine⟨by omega,λp1 hp1=>⟨by omega,λp2 hp2=>?_⟩⟩
    have F12:=((F9.new (x:=.tup (jcf (.bin ww (rs.length-1) rs.length))) hp).new (x:=.tup (jcf (.bin ww rs.length (rs.length-1)))) hp1).new (x:=.lst [.ref p,.ref p1]) hp2
    have np1:p≠p1:=jj je hp1
    have n12':p1≠p2:=jj je hp2
    have np2:p≠p2:=jj (by rw[jf np1,je]) hp2
    have c1:upd (upd (upd H9 p (.tup (jcf (.bin ww (rs.length-1) rs.length)))) p1 (.tup (jcf (.bin ww rs.length (rs.length-1))))) p2 (.lst [.ref p,.ref p1]) p=some (.tup (jcf (.bin ww (rs.length-1) rs.length))):=by rw[jf np2,jf np1,je]
    have c2:upd (upd (upd H9 p (.tup (jcf (.bin ww (rs.length-1) rs.length)))) p1 (.tup (jcf (.bin ww rs.length (rs.length-1))))) p2 (.lst [.ref p,.ref p1]) p1=some (.tup (jcf (.bin ww rs.length (rs.length-1)))):=by rw[jf n12',je]
    have c3:upd (upd (upd H9 p (.tup (jcf (.bin ww (rs.length-1) rs.length)))) p1 (.tup (jcf (.bin ww rs.length (rs.length-1))))) p2 (.lst [.ref p,.ref p1]) p2=some (.lst [.ref p,.ref p1]):=je
    have nb2:b≠p2:=jj ((F9.new (x:=.tup (jcf (.bin ww (rs.length-1) rs.length))) hp).new (x:=.tup (jcf (.bin ww rs.length (rs.length-1)))) hp1).hb hp2
    show jde _ (upd (upd (upd H9 p (.tup (jcf (.bin ww (rs.length-1) rs.length)))) p1 (.tup (jcf (.bin ww rs.length (rs.length-1))))) p2 (.lst [.ref p,.ref p1])) _ _
    generalize upd (upd (upd H9 p (.tup (jcf (.bin ww (rs.length-1) rs.length)))) p1 (.tup (jcf (.bin ww rs.length (rs.length-1))))) p2 (.lst [.ref p,.ref p1])=H12 at F12 c1 c2 c3⊢
    refine⟨b,2,_,rfl,F12.hb,F12.ho,by omega,by omega,λe3 o10 e30 e31 ho10=>?_⟩
    have F13:=F12.box nbq ho10
    have k13:Kp [b] H12 (upd H12 b o10):=by
     obtain⟨x9,e9⟩:=F12.ho.lst
     have h9:=F12.hb
     rw[e9]at h9
     exact(Kp.refl [b] _).set h9 (.inl (.head _))
    have d1:=k13.tup _ _ c1
    have d2:=k13.tup _ _ c2
    have d3:=k13.old _ _ c3 (by simpa using nb2.symm)
    generalize upd H12 b o10=H13 at F13 d1 d2 d3⊢
    simp! [d3]
    have h2:=hch1.two h1 hlf ww
    have:e3=0\/e3=1:=by omega
    rcases this with rfl|rfl
    ·exact⟨_,rfl,us++[.ref tl],by rw[F13.hq];rfl,by simp;omega,us++[.ref tl]++[.ref p],rs++[lf]++[.bin ww (rs.length-1) rs.length],o10,_,_,_,_,_,_,⟨rfl,rfl,rfl,rfl,rfl,rfl⟩,by simp;omega,by simp,h2 true,F13.put (.bin ww (rs.length-1) rs.length) (by rw[Ax];exact⟨by simp;omega,by simp⟩) d1 hq0 nbq⟩
    ·exact⟨_,rfl,us++[.ref tl],by rw[F13.hq];rfl,by simp;omega,us++[.ref tl]++[.ref p1],rs++[lf]++[.bin ww rs.length (rs.length-1)],o10,_,_,_,_,_,_,⟨rfl,rfl,rfl,rfl,rfl,rfl⟩,by simp;omega,by simp,h2 false,F13.put (.bin ww rs.length (rs.length-1)) (by rw[Ax];exact⟨by simp,by simp;omega⟩) d2 hq0 nbq⟩
  ·rintro σ H1 ⟨us,rs,o3,v4,v5,v6,v7,v8,v9,rfl,hl,h1,hch1,F1⟩
   have eq1:=F1.hq
   simp!
   refine jc0 eq1 λt ht=>?_
   have F2:=F1.new (x:=.tup us) ht
   exact k t us rs _ _ je F2.ex h1 (by omega) hch1 F2.ho F2.hb F2.kp
end
def LX(k:Nat):Nat:=if k<9 then 14*2^k-7 else 0
theorem jsf(k:Nat):LX k<=5000:=by
 unfold LX
 split
 ·rename_i h
  have:=Nat.pow_le_pow_right (n:=2) (by omega) (show k<=8 by omega)
  omega
 ·omega
theorem jn1{H:Hp}{us:List V}{rs:List RE}(E:Exp H us rs)(h:rs.length<=8):LB rs LX:=by
 refine⟨λk r e=>?_,jsf⟩
 have kl:=(Aj.mp e).1
 have ok:=E.ok k r e
 have ek:LX k=14*2^k-7:=Ak (by omega)
 have p1:1<=2^k:=Nat.one_le_two_pow
 have lt:∀j,j<k->LX j=14*2^j-7/\2*2^j<=2^k/\1<=2^j:=λj hj=>by
  refine⟨Ak (by omega),?_,Nat.one_le_two_pow⟩
  have:=Nat.pow_le_pow_right (n:=2) (by omega) (show j+1<=k by omega)
  rw[Nat.pow_succ]at this
  omega
 cases r with
 |no j=>have h1:=lt j ok;show LX j+7<=LX k;omega
 |bin w i j=>have h1:=lt i ok.1;have h2:=lt j ok.2;show LX i+LX j+7<=LX k;omega
 |nothing=>show 7<=LX k;omega
 |blank=>show 7<=LX k;omega
 |letter a=>show 7<=LX k;omega
instance (r:RE):Decidable (jck r):=by
 cases r <;> unfold jck <;> infer_instance
def LC(rs:List RE)(k:Nat):Nat:=if 100<=k then 0 else if jck (rs.getD k (.no 0))then 7 else 14*k+7
theorem jmg(rs:List RE)(k:Nat):LC rs k<=14*k+7/\LC rs k<=5000:=by
 unfold LC
 split
 ·omega
 ·split <;> omega
theorem jo4{rs:List RE}(ch:CH rs)(h:rs.length<=50):LB rs (LC rs):=by
 refine⟨λk r e=>?_,λk=>(jmg rs k).2⟩
 have kl:=(Aj.mp e).1
 have ed:rs.getD k (.no 0)=r:=by rw[Ac,e];rfl
 have n1:¬100<=k:=by omega
 rcases ch k r e with q|⟨q1,rfl⟩|⟨q1,q2,w,q3⟩
 ·have ek:LC rs k=7:=by unfold LC;rw[Ae n1,ed,Ak q]
  cases r with
  |no j=>exact absurd q id
  |bin w i j=>exact absurd q id
  |nothing=>show 7<=LC rs k;omega
  |blank=>show 7<=LC rs k;omega
  |letter a=>show 7<=LC rs k;omega
 ·have ek:LC rs k=14*k+7:=by unfold LC;rw[Ae n1,ed,Ae (show ¬jck (RE.no (k-1))from id)]
  have:=(jmg rs (k-1)).1
  show LC rs (k-1)+7<=LC rs k
  omega
 ·have e1:LC rs (k-1)=7:=by unfold LC;rw[Ae (by omega),Ak q2]
  have:=(jmg rs (k-2)).1
  rcases q3 with rfl|rfl
  ·have ek:LC rs k=14*k+7:=by unfold LC;rw[Ae n1,ed,Ae (show ¬jck (RE.bin w (k-2) (k-1))from id)]
   show LC rs (k-2)+LC rs (k-1)+7<=LC rs k
   omega
  ·have ek:LC rs k=14*k+7:=by unfold LC;rw[Ae n1,ed,Ae (show ¬jck (RE.bin w (k-1) (k-2))from id)]
   show LC rs (k-1)+LC rs (k-2)+7<=LC rs k
   omega
theorem jpo{r:Row}{k:Nat}(h:RowOk k r):wpR (λx=>x) r=r:=by
 unfold wpR
 refine(Iw λx hx=>?_).trans (List.map_id _)
 cases x with
 |inl i=>have:=h i hx;show(Sum.inl ((i.toNat:Nat):Int):L2.Key)=.inl i;rw[Int.toNat_of_nonneg this.1]
 |inr s=>rfl
theorem TidP.one{R F G:List Row}(ok:OkR R)(n1:1<=R.length)(a:TidP R F)(b:TidP R G):F=G:=by
 obtain⟨h1,H1,rfl⟩:=a
 obtain⟨h2,H2,rfl⟩:=b
 exact Hom.tid (φ:=λx=>x) ⟨λx hx=>hx,λx hx=>jpo (ok.d hx)⟩ ok ok H1 H2 n1 n1 rfl
theorem TidP.shp{rs:List RE}(okz:∀(k:Nat) (r:RE),rs[k]?=some r->r.okz k)(n1:1<=rs.length){F:List Row}(t:TidP (rs.map keyR) F):(∀r∈F,Shp r)/\F.length<=rs.length:=by
 obtain⟨h,H,rfl⟩:=t
 have ok:OkR (rs.map keyR):=λk r e=>by
  rw[Ao]at e
  obtain⟨s,es,rfl⟩:=Is.mp e
  exact jlv (okz k s es)
 have O:=jeh ok H (by rw[Ab];exact n1)
 refine⟨λr hr=>?_,?_⟩
 ·obtain⟨v,hv,rfl⟩:=A4.mp hr
  have vl:=O.lt v hv
  rw[Ab]at vl
  have e:rs[v]?=some rs[v]:=Ai vl
  have:RwA (rs.map keyR) h v=wpR h (keyR rs[v]):=by
   unfold RwA
   rw[Ac,Ao,e];rfl
  rw[this]
  exact((jht (okz v _ e)).wp h).wp _
 ·rw[jh2]
  have:=jlz O.nd O.lt
  rwa[Ab]at this
theorem jdt{F:List Row}(h:∀r∈F,Shp r):SeqAt.shaped (.tuple (F.map rowD))=true:=by
 have y:=jer h
 simp[SeqAt.shaped,PyData.canLay0,PyData.depth,y.1]
 omega
def spG(D:Hp->V->List V->Prop)(R:Hp->Prop):Sp:=λvs H Q _=>∃v l,vs=[v]/\R H/\D H v l/\∀p H',H' p=some (.lst l)->H p=none->Kp [] H H'->Q (.ref p) H'
structure Lm(P:Program)(w:World)(K:PySem.W.Frag)(mg:Str->Option Value)(base:Heap)(fp:Addr)(o:Obj)(fd:FuncData)(psp:List Str)(D:Hp->V->List V->Prop)(R:Hp->Prop):Prop where
 dat:o.data=.func fd
 fn:FnOk P w K mg base CX0 3 fp fd psp (spG D R)
 bi:Binds K fd psp []
 at_:∀H,R H->H fp=some (FZ o)
 kr:∀H H',Kp [] H H'->R H->R H'
 kd:∀H H' v l,Kp [] H H'->D H v l->D H' v l
def spSg(P:Program)(w:World)(K:PySem.W.Frag)(mg:Str->Option Value)(base:Heap):Sp:=λvs H Q _=>∃a rows pc T fp o fd psp D R,Lm P w K mg base fp o fd psp D R/\R H/\vs=[.ref a,.ref fp]/\H a=some (.tup rows)/\(∀k v,rows[k]?=some v->D H v (pc k))/\Wr4 rows.length pc T/\∀H',Kp [] H H'->Q (.int (tx T (rows.length-1)).length) H'
def spWn(P:Program)(w:World)(K:PySem.W.Frag)(mg:Str->Option Value)(base:Heap):Sp:=λvs H Q _=>∃a rows pc T fp o fd psp D R,Lm P w K mg base fp o fd psp D R/\R H/\vs=[.ref a,.ref fp]/\H a=some (.tup rows)/\(∀k v,rows[k]?=some v->D H v (pc k))/\Wr4 rows.length pc T/\∀H',Kp [] H H'->Q (.str (tx T (rows.length-1))) H'
structure TSg(K:PySem.W.Frag)(mg:Str->Option Value)(tk:Tok):Prop where
 n_isinstance:mg "isinstance"=none
 n_min:mg "min"=none
 n_len:mg "len"=none
 n_sum:mg "sum"=none
 n_str:mg "str"=none
 m_MOST_SIGNS:mg "MOST_SIGNS"=some (.int 100000 tk)
 iss:PySem.W.kitOne K (.type "str") (.type "str")=some true
 isi:PySem.W.kitOne K (.type "int") (.type "str")=some false
def lnI(T:List Str)(x:V):V:=.int ((pcL T x).length:Int)
section
variable{P:Program}{w:World}{K:PySem.W.Frag}{mg:Str->Option Value}{base:Heap}
abbrev yz:Stmt:=top 14
theorem jaa:FnScope ["rows","pieces","counts","row","count"] ["rows","pieces"] (jk yz):=⟨rfl,rfl,rfl,by decide +kernel,rfl,by decide +kernel,by decide +kernel⟩
theorem ok_signs_of{f:Addr}{fd:FuncData}{tk:Tok}(F:Fun K "signs_of" "signs_of" yz f fd)(T:TSg K mg tk):FnOk P w K mg base CX0 4 f fd ["rows","pieces"] (spSg P w K mg base):=by
 refine F.ok jaa (λvs H Q E h=>?_) (λcdv A outer s H vs Q E hr h=>?_)
 ·obtain⟨a,rows,pc,T,fp,o,fd',psp,D,R,L,hR,rfl,_⟩:=h
  rfl
 ·obtain⟨a,rows,pc,TT,fp,o,fd',psp,D,R,L,hR,rfl,ha,hrows,W,k⟩:=h
  refine⟨_,(QSs.h (jh (jp (i:=2) jaa.nd rfl (by first|exact Or.inl rfl|exact Or.inr rfl) (j5 jd))
  (jh (zu Iq rfl (zt (K:=K) (qpv 0) rfl) (kh (i:=3) jaa.nd rfl (by first|exact Or.inl rfl|exact Or.inr rfl)) (jh (jp (i:=4) jaa.nd rfl (by first|exact Or.inl rfl|exact Or.inr rfl) (jy (call_sumU rfl) (by rfl) T.n_sum bt_sum (jc (jba rfl (jda (sc:=jk yz) (N:=["rows","pieces","counts","row","count"]) (Nc:=["piece","counts"]) (js:=[none,some 2]) (by decide +kernel)) (zt (K:=K) (jbr (P:=P) (w:=w) (K:=K) (mg:=mg) (base:=base) (k:=3) rfl rfl rfl rfl rfl 1 (hr.mono (by decide)) (jc (qpv 3) jd)) rfl) (λ_ _ _ _=>(kh (i:=0) (show List.Nodup [("piece":Str),("counts":Str)]from by decide +kernel) rfl (by first|exact Or.inl rfl|exact Or.inr rfl))) (λ_ _ _ _=>(jbs (za (jy (yp (K:=K) rfl) (by rfl) T.n_isinstance zf (jc (qpv 0) (jc (jaf (v:=.ty "str") rfl T.n_str jbv rfl) jd)))) (jy ka (by rfl) T.n_len ky (jc (qpv 0) jd)) (jr ix_U (qpv 1) (qpv 0) (λ_ _=>rfl))))) jd)))
  (ji (jz (kf Az A0 j8 (qpv 2) (jc (jy (call_minU rfl) (by rfl) T.n_min bt_min (jc (qpv 4) (jc (jq j9 (yi (v:=.int 100000) rfl T.m_MOST_SIGNS ⟨_,rfl⟩) jg) jd))) jd) jcl)))))
  (ji (ju (jr ix_U (qpv 2) (ja3 jfj jg) (λ_ _=>rfl))))))),?_⟩
  have hsz:sizeLine=16777216:=Ar
  simp!
  refine⟨by omega,λc hc=>?_⟩
  have hac:a≠c:=jj ha hc
  have ha2:∀o,upd H c o a=some (.tup rows):=λo=>by rw[jf hac];exact ha
  simp! [ha2]
  refine jd4 (xs:=rows) (λi σ H'=>∃v1 v2,σ=[some (.ref a),some (.ref fp),some (.ref c),v1,v2]/\Kp [] H H'/\H' c=some (.lst ((List.range i).map λj=>.int ((tx TT j).length:Int)))) ?_ ?_ ?_ ?_
  ·exact⟨none,none,rfl,(Kp.refl [] H).new hc,je⟩
  ·rintro i σ H' _ ⟨v1,v2,rfl,kp,_⟩
   exact kp.tup _ _ ha
  ·rintro i x σ H' hx ⟨v1,v2,rfl,kp,hc'⟩
   have hi:i<rows.length:=(Aj.mp hx).1
   simp!
   refine⟨o,fd',L.dat,psp,spG D R,L.fn,L.bi,L.at_ _ (L.kr _ _ kp hR),x,pc i,rfl,L.kr _ _ kp hR,L.kd _ _ _ _ kp (hrows i x hx),λp H1 hp1 hp0 kp1=>?_⟩
   simp! [hp1]
   intro D2 hD2
   have hc1:H1 c=some (.lst ((List.range i).map λj=>.int ((tx TT j).length:Int))):=kp1.old _ _ hc' Aq
   have ncD:c≠D2:=jj hc1 hD2
   have hz:(pc i).length<=sizeLine:=by have:=W.sz i hi;omega
   refine jnk (lnI TT) hp1 hD2 hz (λy hy l Q' hq=>?_) λv=>?_
   ·rcases W.ok i hi y hy with⟨s,rfl⟩|⟨j,rfl,hj⟩
    ·simp!
     refine⟨_,TyOf.str _,true,T.iss,?_⟩
     simp!
     refine⟨?_,?_⟩
     ·have:=W.pc_le hi hy
      simp only[pcL,jcq]at this
      omega
     ·exact(Od (λn:Nat=>Q' (.int (n:Int)) _) (jcq s)).mp hq
    ·simp!
     refine⟨_,TyOf.int _,false,T.isi,?_⟩
     simp!
     refine⟨_,by rw[jf ncD,hc1];rfl,.int ((tx TT j).length:Int),jcg (by omega) (by simp[hj]),?_⟩
     have:lnI TT (.int (j:Int))=.int ((tx TT j).length:Int):=by simp[lnI,pcL,jcq]
     rw[this]at hq
     exact hq
   ·refine⟨(pc i).map λx=>((pcL TT x).length:Int),by rw[je,O5];rfl,?_⟩
    have e1:((pc i).map λx=>((pcL TT x).length:Int)).sum=(((tx TT i).length:Nat):Int):=by
     rw[<-W.sum hi,<-jma,O5];rfl
    have b1:=W.bd i
    rw[e1]
    refine⟨λn hn=>?_,by omega,?_⟩
    ·obtain⟨x,_,rfl⟩:=A4.mp hn
     omega
    have hc3:upd H1 D2 (.lst ((pc i).map (lnI TT))) c=some (.lst ((List.range i).map λj=>.int ((tx TT j).length:Int))):=by rw[jf ncD];exact hc1
    simp! [hc3]
    rw[Ae (by omega)]
    have few:=W.few
    refine⟨by simp;omega,_,_,⟨rfl,rfl⟩,?_,?_⟩
    ·refine((kp.trans kp1).new hD2).set hc3 (.inr hc)
    ·rw[List.range_succ,Ig];rfl
  ·rintro σ H' ⟨v1,v2,rfl,kp,hc'⟩
   simp! [hc']
   have:=W.pos
   exact⟨_,jni (by rw[Ab,We,Ao,List.getElem?_range (by omega)];rfl),k H' kp⟩
structure TWn(mg:Str->Option Value)(fs:Addr)(tk:Tok):Prop where
 n_isinstance:mg "isinstance"=none
 n_list:mg "list"=none
 n_reversed:mg "reversed"=none
 n_len:mg "len"=none
 n_str:mg "str"=none
 m_MOST_SIGNS:mg "MOST_SIGNS"=some (.int 100000 tk)
 m26z:mg "signs_of"=some (.ref fs)
abbrev zm:Stmt:=top 13
theorem jad:FnScope ["rows","pieces","texts","due","piece"] ["rows","pieces"] (jk zm):=⟨rfl,rfl,rfl,by decide +kernel,rfl,by decide +kernel,by decide +kernel⟩
def jd9(H:Hp)(a:Addr):List V:=(jch (H a)).getD []
theorem ok_written{f fs:Addr}{fd fds:FuncData}{tk:Tok}(F:Fun K "written" "written" zm f fd)(T:TWn mg fs tk)
  (iss:PySem.W.kitOne K (.type "str") (.type "str")=some true) (isi:PySem.W.kitOne K (.type "int") (.type "str")=some false)
  (F26z:Fun K "signs_of" "signs_of" yz fs fds) (b26z:Binds K fds ["rows","pieces"] []) (G26z:FnOk P w K mg base CX0 4 fs fds ["rows","pieces"] (spSg P w K mg base)):FnOk P w K mg base CX0 5 f fd ["rows","pieces"] (spWn P w K mg base):=by
 refine F.ok jad (λvs H Q E h=>?_) (λcdv A outer s H vs Q E hr h=>?_)
 ·obtain⟨a,rows,pc,T,fp,o,fd',psp,D,R,L,hR,rfl,_⟩:=h
  rfl
 ·obtain⟨a,rows,pc,TT,fp,o,fd',psp,D,R,L,hR,rfl,ha,hrows,W,k⟩:=h
  refine⟨_,(QSs.h (jh (j0 (jt ja6 (jm G26z (hr.mono (by decide)) rfl T.m26z F26z.kp b26z .nil jo (jc (qpv 0) (jc (qpv 1) jd))) (yi (v:=.int 100000) rfl T.m_MOST_SIGNS ⟨_,rfl⟩) (jx _)) (ji ja4) j6)
  (jh (jp (i:=2) jad.nd rfl (by first|exact Or.inl rfl|exact Or.inr rfl) (j5 jd))
  (jh (jp (i:=3) jad.nd rfl (by first|exact Or.inl rfl|exact Or.inr rfl) (j5 (jc (jq zi (jy ka (by rfl) T.n_len ky (jc (qpv 0) jd)) jg) jd)))
  (jh (jak Iq (ja8 (qpv 3)) (jh (jp (i:=4) jad.nd rfl (by first|exact Or.inl rfl|exact Or.inr rfl) (z6 Oi Oj z5 (qpv 3) jcl))
  (ji (j0 (za (jy (yp (K:=K) rfl) (by rfl) T.n_isinstance zf (jc (qpv 4) (jc (jaf (v:=.ty "str") rfl T.n_str jbv rfl) jd)))) (ji (jz (kf Az A0 j8 (qpv 2) (jc (qpv 4) jd) jcl))) (ji (jz (kf PySem.F.slot_list_extend PySem.F.type_list_extend mt_extendU (qpv 3) (jc (qpe_listRev rfl rfl T.n_list rfl T.n_reversed (jbr (P:=P) (w:=w) (K:=K) (mg:=mg) (base:=base) (k:=3) rfl rfl rfl rfl rfl 1 (hr.mono (by decide)) (jc (jr ix_U (qpv 0) (qpv 4) (λ_ _=>rfl)) jd))) jd) jcl)))))))
  (ji (ju (ja7 PySem.F.slot_str_join PySem.F.type_str_join mt_joinU jn (jc (qpv 2) jd) jry)))))))),?_⟩
  have hsz:sizeLine=16777216:=Ar
  have hpos:=W.pos
  have few:=W.few
  simp!
  refine⟨a,rows,pc,TT,fp,o,fd',psp,D,R,L,hR,rfl,ha,hrows,W,λH1 kp1=>?_⟩
  have bd:=W.bd (rows.length-1)
  refine⟨_,rfl,?_⟩
  rw[Ae (by omega)]
  have ha1:=kp1.tup _ _ ha
  refine⟨by omega,λt ht=>?_⟩
  have hat:a≠t:=jj ha1 ht
  have ha2:∀o,upd H1 t o a=some (.tup rows):=λo=>by rw[jf hat];exact ha1
  simp! [ha2]
  refine⟨by omega,λd hd=>?_⟩
  have htd:t≠d:=jj je hd
  have hd0:H1 d=none:=by rw[jf htd.symm]at hd;exact hd
  refine jpm (λσ H'=>∃(v1:Option V)(ys:List Str)(xs:List V),σ=[some (.ref a),some (.ref fp),some (.ref t),some (.ref d),v1]/\Kp [] H1 H'/\H' t=some (.lst (ys.map V.str))/\H' d=some (.lst xs)/\(∀x∈xs,isPc rows.length x) /\
   (ys.map sg).flatten++cat TT xs.reverse=sg (tx TT (rows.length-1))/\ys.length+jcn TT xs<=200000) (λ_ H'=>jcn TT (jd9 H' d)) ?_ ?_ ?_
  ·refine⟨none,[],[.int ((rows.length:Int)-1)],rfl,((Kp.refl [] H1).new ht).new hd,by rw[jf htd,je];rfl,je,?_,?_,?_⟩
   ·intro x hx
    simp at hx
    subst hx
    exact .inr ⟨rows.length-1,by congr 1;omega,by omega⟩
   ·have e:((rows.length:Int)-1).toNat=rows.length-1:=by omega
    simp[cat,pcL,e]
   ·have e:((rows.length:Int)-1).toNat=rows.length-1:=by omega
    simp[jcn,pw4,e]
    omega
  ·rintro σ H' ⟨v1,ys,xs,rfl,kp,hT,hd',hok,heq,hw⟩
   simp! [hd']
   have hge:=jgl TT W.one xs hok
   cases hxs:xs.isEmpty with
   |true =>
    have:xs=[]:=List.isEmpty_iff.mp hxs
    subst this
    simp! [hT]
    have e:(ys.map sg).flatten=sg (tx TT (rows.length-1)):=by simpa[cat]using heq
    have e2:Txt.join (Str.ofString "") ys=tx TT (rows.length-1):=jr6 (by rw[jsj,e])
    have e3:(ys.map (·.length)).sum=(tx TT (rows.length-1)).length:=by
     rw[<-jcq,<-e,List.length_flatten,O5]
     have:∀l:List Str,(l.map (·.length)).sum=(l.map (List.length∘sg)).sum:=by
      intro l
      induction l with
      |nil=>rfl
      |cons z l ih=>simp only[Ay,List.sum_cons,ih,Function.comp,jcq]
     exact this ys
    refine⟨ys,hT,?_,?_⟩
    ·rw[e3]
     show _+ys.length*0<=_
     omega
    ·rw[e2]
     exact k H' (kp1.trans kp)
   |false =>
    have hne:xs≠[]:=by intro z;subst z;simp at hxs
    obtain⟨y,hy⟩:∃y,xs[xs.length-1]?=some y:=by
     have:0<xs.length:=List.length_pos_iff.mpr hne
     exact⟨xs[xs.length-1]'(by omega),by simp⟩
    have exs:=jlx hy
    have hym:y∈xs:=A5 hy
    have hl0:jcn TT (jd9 H' d)=jcn TT xs.dropLast+pw4 TT y:=by
     have:jd9 H' d=xs:=by simp[jd9,hd',jch]
     rw[this]
     conv=>lhs;rw[exs]
     rw[jc3]
     simp[jcn]
    have hw2:jcn TT xs=jcn TT xs.dropLast+pw4 TT y:=by
     conv=>lhs;rw[exs]
     rw[jc3]
     simp[jcn]
    have hcat:cat TT xs.reverse=pcL TT y++cat TT xs.dropLast.reverse:=by
     conv=>lhs;rw[exs]
     rw[List.reverse_append,jdy]
     simp[cat]
    have hokd:∀x∈xs.dropLast,isPc rows.length x:=λx hx=>hok x (List.dropLast_subset _ hx)
    simp!
    refine⟨y,hy,?_⟩
    have kp2:Kp [] H1 (upd H' d (.lst xs.dropLast)):=kp.set hd' (.inr hd0)
    have ht2:∀o,upd H' d o t=some (.lst (ys.map V.str)):=λo=>by rw[jf htd];exact hT
    rcases hok y hym with⟨z,rfl⟩|⟨i,rfl,hi⟩
    ·simp!
     refine⟨_,TyOf.str _,iss,by rw[ht2];rfl,ys.map V.str,by rw[ht2];rfl,by rw[Ab];omega,⟨kp2.set (ht2 _) (.inr ht),ys++[z],by simp,xs.dropLast,by rw[jf htd.symm,je],hokd,?_,?_⟩,?_⟩
     ·rw[<-heq,hcat,Ig,List.flatten_append,Ix]
      simp[pcL]
     ·rw[hw2]at hw
      simp[pw4]at hw
      rw[Ax]
      simp
      omega
     ·rw[hl0]
      have:jd9 (upd (upd H' d (.lst xs.dropLast)) t (.lst (ys.map V.str++[.str z]))) d=xs.dropLast:=by simp[jd9,jf htd.symm,je,jch]
      rw[this]
      simp[pw4]
    ·simp!
     refine⟨_,TyOf.int _,false,isi,?_⟩
     have ha3:=kp2.tup _ _ ha1
     simp! [ha3]
     obtain⟨v,hv⟩:∃v,rows[i]?=some v:=⟨rows[i]'hi,by simp⟩
     refine⟨o,fd',L.dat,psp,spG D R,L.fn,L.bi,?_⟩
     refine⟨_,jcg (by omega) (by simpa using hv),L.at_ _ (L.kr _ _ (kp1.trans kp2) hR),v,pc i,rfl,L.kr _ _ (kp1.trans kp2) hR,L.kd _ _ _ _ (kp1.trans kp2) (hrows i v hv),λp H2 hp hp0 kp3=>?_⟩
     simp! [hp]
     intro l hl
     have hd2:H2 d=some (.lst xs.dropLast):=kp3.old _ _ je Aq
     have hdl:d≠l:=jj hd2 hl
     have hd3:∀o,upd H2 l o d=some (.lst xs.dropLast):=λo=>by rw[jf hdl];exact hd2
     simp! [hd3]
     have hwt:=W.wt i hi
     have e4:pw4 TT (.int (i:Int))=4*(tx TT i).length-2:=by simp[pw4]
     rw[e4]at hw2 hl0
     have hge2:=jgl TT W.one _ hokd
     have hsz2:=W.sz i hi
     refine⟨by rw[Uf];omega,?_⟩
     have hT2:H2 t=some (.lst (ys.map V.str)):=kp3.old _ _ (ht2 _) Aq
     have htl:t≠l:=jj hT2 hl
     refine⟨⟨((kp2.trans kp3).new hl).set (hd3 _) (.inr hd0),ys,by rw[jf htd,jf htl];exact hT2,?_,?_,?_⟩,?_⟩
     ·intro x hx
      rcases A6.mp hx with h|h
      ·exact hokd x h
      ·exact(W.ok i hi x (List.mem_reverse.mp h)).mono (by omega)
     ·rw[<-heq,hcat,List.reverse_append,List.reverse_reverse,jdy,<-W.eq i hi]
      simp[pcL]
     ·rw[jc3,jfl]
      omega
     ·rw[hl0]
      have:jd9 (upd (upd H2 l (.lst (pc i).reverse)) d (.lst (xs.dropLast++(pc i).reverse))) d=xs.dropLast++(pc i).reverse:=by simp[jd9,je,jch]
      rw[this,jc3,jfl]
      omega
  ·intro σ H' Q1 Q2 hq h
   obtain⟨v,e,h⟩:=h
   refine⟨v,e,?_⟩
   replace h:rTru v H' Q1:=h
   show rTru v H' Q2
   unfold rTru at h⊢
   split at h
   ·exact hq _ _ h
   ·exact hq _ _ h
   ·exact hq _ _ h
   ·exact⟨h.1,hq _ _ h.2⟩
   ·obtain⟨xs,e,h⟩:=h
    exact⟨xs,e,hq _ _ h⟩
   ·exact h.elim
end
def KS:List (Key×V):=[(.inr "or",.str "|"),(.inr "and",.str "&"),(.inr "behind",.str "")]
theorem jmu(r:RE):valV KB (.inr (eh r))=some (.int (bnd r)):=by
 cases r with
 |bin w i j=>cases w <;> rfl
 |_=>rfl
theorem jsk(w:BW):valV KS (.inr (ew w))=some (.str (swd w)):=by
 cases w <;> rfl
def bp(rs:List RE)(i:Nat)(b:Int):List V:=if bnd (rs.getD i .nothing)<b then[.str "(",.int (i:Int),.str ")"]else[.int (i:Int)]
def pcs(rs:List RE):RE->List V
 |.nothing=>[.str "0"]
 |.blank=>[.str "."]
 |.letter a=>[.str a]
 |.no i=>[.str "-"]++bp rs i 3
 |.bin w i j=>bp rs i (bwd w)++[.str (swd w)]++bp rs j (bwd w+1)
theorem jef(rs:List RE)(i:Nat)(b:Int):(bp rs i b).length<=3:=by unfold bp;split <;> simp
structure TBP(P:Program)(w:World)(K:PySem.W.Frag)(mg:Str->Option Value)(ab:Addr):Prop where
 m_BINDS:mg "BINDS"=some (.ref ab)
 kb:KDict P w K ab KB
def spBP:Sp:=λvs H Q _=>∃(a:Addr)(us:List V)(rs:List RE)(i:Nat)(b:Int),vs=[.ref a,.int (i:Int),.int b]/\H a=some (.tup us)/\Exp H us rs/\i<rs.length/\∀p,H p=none->Q (.ref p) (upd H p (.lst (bp rs i b)))
structure TPO(P:Program)(w:World)(K:PySem.W.Frag)(mg:Str->Option Value)(ab as fb:Addr):Prop where
 m_BINDS:mg "BINDS"=some (.ref ab)
 m_SIGNS:mg "SIGNS"=some (.ref as)
 m11z:mg "bound_part"=some (.ref fb)
 kb:KDict P w K ab KB
 ks:KDict P w K as KS
theorem w1:¬eh (.no i)=Str.ofString "letter":=(by decide +kernel:¬Str.ofString "not"=Str.ofString "letter")
theorem w2:¬eh (.no i)=Str.ofString "blank":=(by decide +kernel:¬Str.ofString "not"=Str.ofString "blank")
theorem w3:¬eh (.no i)=Str.ofString "nothing":=(by decide +kernel:¬Str.ofString "not"=Str.ofString "nothing")
theorem w4(w:BW)(i j:Nat):¬eh (.bin w i j)=Str.ofString "letter"/\¬eh (.bin w i j)=Str.ofString "blank"/\¬eh (.bin w i j)=Str.ofString "nothing"/\¬eh (.bin w i j)=Str.ofString "not" :=
 (show ¬ew w=Str.ofString "letter"/\¬ew w=Str.ofString "blank"/\¬ew w=Str.ofString "nothing"/\¬ew w=Str.ofString "not"by cases w <;> decide +kernel)
def spPO:Sp:=λvs H Q _=>∃(a c:Addr)(us:List V)(rs:List RE)(r:RE),vs=[.ref a,.ref c]/\H a=some (.tup us)/\Exp H us rs/\r.ok rs.length/\H c=some (.tup (jcf r))/\∀p H',H p=none->H' p=some (.lst (pcs rs r))->Kp [] H H'->Q (.ref p) H'
section
variable{P:Program}{w:World}{K:PySem.W.Frag}{mg:Str->Option Value}{base:Heap}
abbrev yw:Stmt:=top 21
theorem sc_bound_part:FnScope ["expression","number","binds"] ["expression","number","binds"] (jk yw):=⟨rfl,rfl,rfl,by decide +kernel,rfl,by decide +kernel,by decide +kernel⟩
theorem ok_bound_part{f ab:Addr}{fd:FuncData}(F:Fun K "bound_part" "bound_part" yw f fd)(T:TBP P w K mg ab):FnOk P w K mg base CX0 1 f fd ["expression","number","binds"] spBP:=by
 refine F.ok sc_bound_part (λvs H Q E h=>?_) (λcdv A outer s H vs Q E hr h=>?_)
 ·obtain⟨a,us,rs,i,b,rfl,_⟩:=h
  rfl
 ·obtain⟨a,us,rs,i,b,rfl,ha,ex,hi,k⟩:=h
  have hu:=hr.units
  have hu1:=jms hr
  have hsz:sizeLine=16777216:=Ar
  obtain⟨c,hc1,hc2⟩:=ex.get hi
  refine⟨_,(QSs.h (jh (j0 (jt jan (zc (P:=P) (w:=w) (K:=K) rfl rfl rfl (yi (v:=.ref _) rfl T.m_BINDS rfl) (jr ix_U (jr ix_U (qpv 0) (qpv 1) (λ_ _=>rfl)) jg (λ_ _=>rfl)) (λ_ _=>rfl)) (qpv 2) (jx _)) (ji (ju (j5 (jc jn (jc (qpv 1) (jc jn jd)))))) j6)
  (ji (ju (j5 (jc (qpv 1) jd)))))),?_⟩
  simp! [ha]
  refine⟨_,jdf hc1,?_⟩
  simp! [hc2]
  refine⟨_,jfn _,?_⟩
  refine⟨KB,T.kb,.inr (eh _),rfl,_,jmu _,?_⟩
  simp!
  refine ite2 (λh=>⟨by omega,λp hp=>?_⟩) (λh=>⟨by omega,λp hp=>?_⟩)
  ·have:=k p hp
   unfold bp at this
   rw[Ak h]at this
   exact this
  ·have:=k p hp
   unfold bp at this
   rw[Ae h]at this
   exact this
abbrev y8:Stmt:=top 20
theorem jaj:FnScope ["expression","row","word","binds"] ["expression","row"] (jk y8):=⟨rfl,rfl,rfl,by decide +kernel,rfl,by decide +kernel,by decide +kernel⟩
theorem ok_pieces_of{f ab as fb:Addr}{fd fdb:FuncData}(F:Fun K "pieces_of" "pieces_of" y8 f fd)(T:TPO P w K mg ab as fb)(F11z:Fun K "bound_part" "bound_part" yw fb fdb)(b11z:Binds K fdb ["expression","number","binds"] [])
  (G11z:FnOk P w K mg base CX0 1 fb fdb ["expression","number","binds"] spBP):FnOk P w K mg base CX0 2 f fd ["expression","row"] spPO:=by
 refine F.ok jaj (λvs H Q E h=>?_) (λcdv A outer s H vs Q E hr h=>?_)
 ·obtain⟨a,c,us,rs,r,rfl,_⟩:=h
  rfl
 ·obtain⟨a,c,us,rs,r,rfl,ha,ex,ok,hc,k⟩:=h
  have hu:=hr.units
  have hu1:=jms hr
  have hsz:sizeLine=16777216:=Ar
  refine⟨_,(QSs.h (jh (jp (i:=2) jaj.nd rfl (by first|exact Or.inl rfl|exact Or.inr rfl) (jr ix_U (qpv 1) jg (λ_ _=>rfl)))
  (jh (j0 (jt (kz hu) (qpv 2) jn (jx _)) (ji (ju (j5 (jc (jr ix_U (qpv 1) jg (λ_ _=>rfl)) jd)))) j6)
  (jh (j0 (jt (kz hu) (qpv 2) jn (jx _)) (ji (ju (j5 (jc jn jd)))) j6)
  (jh (j0 (jt (kz hu) (qpv 2) jn (jx _)) (ji (ju (j5 (jc jn jd)))) j6)
  (jh (jp (i:=3) jaj.nd rfl (by first|exact Or.inl rfl|exact Or.inr rfl) (zc (P:=P) (w:=w) (K:=K) rfl rfl rfl (yi (v:=.ref _) rfl T.m_BINDS rfl) (qpv 2) (λ_ _=>rfl)))
  (jh (j0 (jt (kz hu) (qpv 2) jn (jx _)) (ji (ju (jq j9 (j5 (jc jn jd)) (jm G11z (hr.mono (by decide)) rfl T.m11z F11z.kp b11z .nil jo (jc (qpv 0) (jc (jr ix_U (qpv 1) jg (λ_ _=>rfl)) (jc (qpv 3) jd))))))) j6)
  (ji (ju (jq j9 (jq j9 (jm G11z (hr.mono (by decide)) rfl T.m11z F11z.kp b11z .nil jo (jc (qpv 0) (jc (jr ix_U (qpv 1) jg (λ_ _=>rfl)) (jc (qpv 3) jd)))) (j5 (jc (zc (P:=P) (w:=w) (K:=K) rfl rfl rfl (yi (v:=.ref _) rfl T.m_SIGNS rfl) (qpv 2) (λ_ _=>rfl)) jd))) (jm G11z (hr.mono (by decide)) rfl T.m11z F11z.kp b11z .nil jo (jc (qpv 0) (jc (jr ix_U (qpv 1) jg (λ_ _=>rfl)) (jc (jq j9 (qpv 3) jg) jd)))))))))))))),?_⟩
  simp! [hc]
  refine⟨_,jfn _,?_⟩
  cases r with
  |letter z =>
   simp! [hc]
   rw[Ak (show eh (.letter z)=Str.ofString "letter"from rfl)]
   exact⟨_,jcg (by decide) rfl,by omega,λp hp=>k p _ hp je ((Kp.refl [] H).new hp)⟩
  |blank =>
   simp! [hc]
   rw[Ae (by decide +kernel),Ak (show eh .blank=Str.ofString "blank"from rfl)]
   exact⟨by omega,λp hp=>k p _ hp je ((Kp.refl [] H).new hp)⟩
  |nothing =>
   simp! [hc]
   rw[Ae (by decide +kernel),Ae (by decide +kernel),Ak (show eh .nothing=Str.ofString "nothing"from rfl)]
   exact⟨by omega,λp hp=>k p _ hp je ((Kp.refl [] H).new hp)⟩
  |no i =>
   have hi:i<rs.length:=ok
   simp! [hc]
   rw[Ae w1,Ae w2,Ae w3]
   refine⟨KB,T.kb,.inr (eh (.no i)),rfl,_,jmu _,?_⟩
   rw[Ak (show eh (.no i)=Str.ofString "not"from rfl)]
   refine⟨by omega,λp hp=>?_⟩
   have k1:Kp [] H (upd H p (.lst [.str (Str.ofString "-")])):=(Kp.refl [] H).new hp
   refine⟨_,by rw[k1.tup _ _ hc];rfl,_,jcg (by decide) rfl,a,us,rs,i,3,rfl,k1.tup _ _ ha,ex.kp k1,hi,λq hq=>?_⟩
   have bl:=jef rs i 3
   have npq:p≠q:=jj je hq
   refine rAddW.lst (by rw[jf npq,je]) je (by simp;omega) λt ht=>k t _ ?_ je ((k1.new hq).new ht)
   exact(k1.new hq).free ht
  |bin ww i j =>
   have hi:i<rs.length:=ok.1
   have hj:j<rs.length:=ok.2
   simp! [hc]
   rw[Ae (w4 ww i j).1,Ae (w4 ww i j).2.1,Ae (w4 ww i j).2.2.1]
   refine⟨KB,T.kb,.inr (ew ww),rfl,_,jmu (.bin ww i j),?_⟩
   rw[Ae (w4 ww i j).2.2.2]
   refine⟨_,jcg (by decide) rfl,a,us,rs,i,bwd ww,rfl,ha,ex,hi,λq hq=>?_⟩
   have bl:=jef rs i (bwd ww)
   have bl2:=jef rs j (bwd ww+1)
   refine⟨KS,T.ks,.inr (ew ww),rfl,_,jsk ww,by omega,λq2 hq2=>?_⟩
   have nq:q≠q2:=jj je hq2
   have k2:=((Kp.refl [] H).new (o:=.lst (bp rs i (bwd ww))) hq).new (o:=.lst [.str (swd ww)]) hq2
   refine rAddW.lst (by rw[jf nq,je]) je (by simp;omega) λq3 hq3=>?_
   have k3:=k2.new (o:=.lst (bp rs i (bwd ww)++[.str (swd ww)])) hq3
   have e3:upd (upd (upd H q (.lst (bp rs i (bwd ww)))) q2 (.lst [.str (swd ww)])) q3 (.lst (bp rs i (bwd ww)++[.str (swd ww)])) q3=some (.lst (bp rs i (bwd ww)++[.str (swd ww)])):=je
   generalize upd (upd (upd H q (.lst (bp rs i (bwd ww)))) q2 (.lst [.str (swd ww)])) q3 (.lst (bp rs i (bwd ww)++[.str (swd ww)]))=H3 at k3 e3⊢
   refine⟨_,by rw[k3.tup _ _ hc];rfl,_,jcg (by decide) rfl,?_⟩
   simp! [jfb,bnd]
   refine⟨a,us,rs,j,bwd ww+1,rfl,k3.tup _ _ ha,ex.kp k3,hj,λq4 hq4=>?_⟩
   have n4:q3≠q4:=jj e3 hq4
   exact rAddW.lst (by rw[jf n4];exact e3) je (by simp;omega) λt ht=>k t _ ((k3.new hq4).free ht) je ((k3.new hq4).new ht)
end
abbrev LQ:Str:="show_expression"++".<locals>."++"<lambda>"
structure TSE(P:Program)(w:World)(K:PySem.W.Frag)(mg:Str->Option Value)(base:Heap)(fw fpo c Pt:Addr)(pm:Value):Prop where
 m27z:mg "written"=some (.ref fw)
 m24z:mg "pieces_of"=some (.ref fpo)
 pm:(mg "__name__").getD .none=pm
 hd:PySem.W.CodeHd base c Pt
 bl:base.BuiltinsAt mg Pt
def spSE(Pt:Addr):Sp:=λvs H Q _=>∃(a:Addr)(us:List V)(rs:List RE)(T:List Str),vs=[.ref a]/\H a=some (.tup us)/\Exp H us rs/\TabOk H Pt LQ/\Wr4 rs.length (λk=>pcs rs (rs.getD k .nothing)) T/\∀H',Kp [Pt] H H'->TabOk H' Pt LQ->Q (.str (tx T (rs.length-1))) H'
def DE(rs:List RE)(H:Hp)(v:V)(l:List V):Prop:=∃c r,v=.ref c/\H c=some (.tup (jcf r))/\r.ok rs.length/\l=pcs rs r
section
variable{P:Program}{w:World}{K:PySem.W.Frag}{mg:Str->Option Value}{base:Heap}
abbrev kc:Stmt:=top 19
theorem sc_show_expression:FnScope ["expression"] ["expression"] (jk kc):=⟨rfl,rfl,rfl,by decide +kernel,rfl,by decide +kernel,by decide +kernel⟩
def lamE:Expr:=match jv kc with
 |[.Return (some (.Call _ [_,l] _ _)) _]=>l
 |_=>.Name "" ⟨0,0,0,0⟩
def lamA:Arguments:=match lamE with
 |.Lambda a _ _ _=>a
 |_=>jw (.Pass ⟨0,0,0,0⟩)
def lamB:Expr:=match lamE with
 |.Lambda _ b _ _=>b
 |_=>.Name "" ⟨0,0,0,0⟩
def lamS:Scope:=match lamE with
 |.Lambda _ _ c _=>c
 |_=>jk (.Pass ⟨0,0,0,0⟩)
theorem jsl:LamScope ["row"] ["expression"] lamS:=⟨rfl,rfl,rfl,by decide +kernel,by decide +kernel,by decide +kernel,by decide +kernel,λx h=>by
 have hn:lamS.names=[(Str.ofString "row",.local),(Str.ofString "expression",.free),(Str.ofString "pieces_of",.globalImplicit)]:=rfl
 rw[hn,List.lookup_cons]at h
 split at h
 ·cases h
 ·rw[List.lookup_cons]at h
  split at h
  ·rename_i e
   rw[eq_of_beq e]
   exact Ag.mpr rfl
  ·rw[List.lookup_cons]at h
   split at h
   ·cases h
   ·cases h⟩
theorem RE.ok.up{r:RE}{k n:Nat}(h:r.ok k)(l:k<=n):r.ok n:=by
 cases r with
 |no i=>exact Au h l
 |bin w i j=>exact⟨Au h.1 l,Au h.2 l⟩
 |letter a=>exact h
 |_=>trivial
theorem jj6{r:RE}{k:Nat}(h:r.okz k):r.ok k:=by
 cases r with
 |letter a=>exact h.1
 |_=>exact h
theorem us1{C:List Value->Prop}(h:∀v0:Value,C [v0])(us:List Value)(e:us.length=1):C us:=by
 cases us with
 |nil=>exact absurd e.symm (Oo _)
 |cons v0 us =>
  cases us with
  |nil=>exact h v0
  |cons _ _=>exact absurd (Ow (e)) (Oo _)
theorem ok_show_expression{f fw fpo c Pt:Addr}{fd fdw fdp:FuncData}{pm:Value}(F:Fun K "show_expression" "show_expression" kc f fd)(T:TSE P w K mg base fw fpo c Pt pm)(hcd:fd.code=.ref c)
  (F27z:Fun K "written" "written" zm fw fdw) (b27z:Binds K fdw ["rows","pieces"] []) (G27z:FnOk P w K mg base CX0 5 fw fdw ["rows","pieces"] (spWn P w K mg base))
  (F24z:Fun K "pieces_of" "pieces_of" y8 fpo fdp) (b24z:Binds K fdp ["expression","row"] []) (G24z:FnOk P w K mg base CX0 2 fpo fdp ["expression","row"] spPO):FnOk P w K mg base CX0 6 f fd ["expression"] (spSE Pt):=by
 refine F.okC sc_show_expression (λvs H Q E h=>?_) (λA outer s H vs Q E hr h=>?_)
 ·obtain⟨a,us,rs,T,rfl,_⟩:=h
  rfl
 ·obtain⟨a,us,rs,TT,rfl,ha,ex,tb,W,k⟩:=h
  have hu:=hr.units
  refine⟨_,(QSs.h (ji (ju (qpe_callC [(0,s.heap.objs.size+1)] (by intro j hj;simp only[Aw,Aq,or_false]at hj;rcases hj with rfl <;> exact⟨_,rfl,rfl,rfl,rfl⟩) G27z (hr.mono (by decide)) rfl T.m27z F27z.kp b27z (jc (qpv 0) (jc (qpe_lambda (Pt:=Pt) rfl T.pm hcd T.hd T.bl) jd)))))),?_⟩
  simp!
  refine⟨tb,λfl c' ct H1 hfl k1 e1 cz tb1=>?_⟩
  refine⟨λj hj=>by cases Ag.mp hj;exact⟨_,rfl⟩,λcs hcs=>?_⟩
  obtain⟨o,rfl,hn,u,ho,ru⟩:∃o,cs=[(s.heap.objs.size+1,o)]/\H1 (s.heap.objs.size+1)=none/\∃u,o.data=.cell (some u)/\RelV (.ref a) u:=by
   cases hcs with
   |cons h t =>
    cases t
    rename_i p
    obtain⟨c1,o1⟩:=p
    obtain⟨e1,e2,v,u,e3,e4,e5⟩:=h
    cases(Av (Av e3))
    cases(show c1=s.heap.objs.size+1 from e1)
    exact⟨o1,rfl,e2,u,e4,e5⟩
  generalize s.heap.objs.size+1=n1 at e1 hn
  have lk:∀b,b≠n1->([(n1,o)]:List (Addr×Obj)).lookup b=none:=λb h=>by
   rw[List.lookup_cons]
   have:(b == n1)=false:=by simpa using h
   rw[this];rfl
  have sh:∀b v,H1 b=some v->jc7 H1 [(n1,o)] b=some v:=λb v e=>by rw[jcu (lk b (jj e hn))];exact e
  have kS:Kp [] H1 (jc7 H1 [(n1,o)]):=⟨λb v e _=>sh b v e,λb xs e=>sh b _ e,λb v e=>⟨v,sh b v e⟩⟩
  have e1':H1 fl=some (FZ (PySem.W.kla_obj "<lambda>" LQ lamA lamB lamS [("expression",n1)] pm c' ct)):=e1
  have cap:Caps (jc7 H1 [(n1,o)]) [("expression",n1)] ["expression"] [.ref a]:=by
   have en:jc7 H1 [(n1,o)] n1=some (FZ o):=jew (by simp[List.lookup])
   refine⟨rfl,λi x v q1 q2=>?_,λx hx=>?_,λp hp=>?_,λx y c q1 q2=>?_⟩
   ·cases i with
    |zero=>cases q1;cases q2;exact⟨n1,o,u,rfl,en,ho,ru⟩
    |succ i=>simp at q1
   ·cases Ag.mp hx;exact⟨n1,rfl⟩
   ·cases Ag.mp hp;exact⟨o,some u,en,ho⟩
   ·rw[List.lookup_cons]at q1 q2
    split at q1
    ·split at q2
     ·rename_i z1 _ z2;rw[eq_of_beq z1,eq_of_beq z2]
     ·cases q2
    ·cases q1
  let R:Hp->Prop:=λH=>H fl=some (FZ (PySem.W.kla_obj "<lambda>" LQ lamA lamB lamS [("expression",n1)] pm c' ct))/\CodeZ H c' LQ/\Caps H [("expression",n1)] ["expression"] [.ref a]/\H a=some (.tup us)/\Exp H us rs
  have L:Lm P w K mg base fl (PySem.W.kla_obj "<lambda>" LQ lamA lamB lamS [("expression",n1)] pm c' ct) (PySem.W.kla_fn "<lambda>" LQ lamA lamB lamS [("expression",n1)] pm (.ref c') ct) ["row"] (DE rs) R:=by
   refine⟨rfl,jrm (fs:=["expression"]) jsl (λvs H Q E h=>?_) (λvs H Q E h=>?_),.all (us1 λ_=>rfl),λH h=>h.1,λH H' k h=>⟨k.old _ _ h.1 (by simp),h.2.1.kp k (by simp),h.2.2.1.kp k (by simp),k.tup _ _ h.2.2.2.1,h.2.2.2.2.kp k⟩,λH H' v l k h=>?_⟩
   ·obtain⟨v,l,rfl,_⟩:=h
    rfl
   ·obtain⟨v,l,rfl,hR,⟨cc,r,rfl,hcc,okr,rfl⟩,q⟩:=h
    refine⟨hR.1,hR.2.1,[.ref a],hR.2.2.1,λA outer s hr=>⟨_,QE.h (jm G24z (hr.mono (by decide)) rfl T.m24z F24z.kp b24z .nil jo (jc (qpv 1) (jc (qpv 0) jd))),?_⟩⟩
    simp!
    have ne:∀b v,H b=some v->(∀o,v≠FZ o)->b∉[n1]:=λb v e n m=>by
     obtain⟨o2,u2,e2,_⟩:=hR.2.2.1.fz _ (.head _)
     rw[Ag.mp m]at e
     rw[show H n1=some (FZ o2)from e2]at e
     exact n o2 (Av e).symm
    have tk:∀b xs,H b=some (.tup xs)->hideC H ([n1]) b=some (.tup xs):=λb xs e=>by rw[jcm (ne b _ e (λ_ z=>by cases z))];exact e
    refine⟨a,cc,us,rs,r,rfl,tk _ _ hR.2.2.2.1,⟨Paired.mapP hR.2.2.2.2.at_ λ_ _ ⟨b,z1,z2⟩=>⟨b,z1,tk _ _ z2⟩,hR.2.2.2.2.ok⟩,okr,tk _ _ hcc,λp H' hp e kk no=>?_⟩
    have np:p∉[n1]:=λm=>by rw[no p m]at e;cases e
    exact q p _ ((jct np).trans e) ((jcm np).symm.trans hp) kk.backC
   ·obtain⟨cc,r,rfl,hcc,r2⟩:=h
    exact⟨cc,r,rfl,k.tup _ _ hcc,r2⟩
  have hR:R (jc7 H1 [(n1,o)]):=⟨sh _ _ e1',cz.kp kS (by simp),cap,sh _ _ (k1.tup _ _ ha),(ex.kp k1).kp kS⟩
  refine⟨a,us,λk=>pcs rs (rs.getD k .nothing),TT,fl,_,_,_,DE rs,R,L,hR,rfl,hR.2.2.2.1,λkk v e=>?_,by rw[ex.len];exact W,λH2 k2=>?_⟩
  ·obtain⟨r,e2,cc,e3,e4⟩:=ja9 hR.2.2.2.2.at_ e
   have hk:kk<rs.length:=(Aj.mp e2).1
   refine⟨cc,r,e3,e4,(jj6 (ex.ok kk r e2)).up (Uo hk),?_⟩
   show pcs rs (rs.getD kk .nothing)=_
   rw[Ac,e2];rfl
  ·rw[ex.len]
   have k3:Kp [] H1 (hideC H2 [n1]):=by
    have kk:=kS.trans k2
    have ne:∀b v,H1 b=some v->b∉[n1]:=λb v e m=>by rw[Ag.mp m,hn]at e;cases e
    exact⟨λb v e m=>by rw[jcm (ne b _ e)];exact kk.old b v e m,λb xs e=>by rw[jcm (ne b _ e)];exact kk.tup b xs e,λb v e=>by rw[jcm (ne b _ e)];exact kk.dom b v e⟩
   exact k _ (k1.trans (k3.mono (by simp))) (tb1.kp k3 (by simp) (by simp))
end
def ets(rs:List RE):List RE->List Str->List Str
 |[],T=>T
 |r::l,T=>ets rs l (T++[⟨(cat T (pcs rs r)).toArray⟩])
def TX(rs:List RE):List Str:=ets rs rs []
theorem jjy(rs:List RE):∀(l:List RE)(r:RE)(T:List Str),ets rs (l++[r]) T=ets rs l T++[⟨(cat (ets rs l T) (pcs rs r)).toArray⟩]
 |[],r,T=>rfl
 |x::l,r,T=>jjy rs l r _
theorem jhq(rs:List RE):∀(l:List RE)(T:List Str),(ets rs l T).length=T.length+l.length
 |[],T=>rfl
 |x::l,T=>by
  show(ets rs l _).length=_
  rw[jhq rs l]
  simp
  omega
theorem jlp(rs:List RE):∀(l:List RE)(T:List Str),∃u,ets rs l T=T++u
 |[],T=>⟨[],by simp[ets]⟩
 |x::l,T=>by
  obtain⟨u,hu⟩:=jlp rs l (T++[⟨(cat T (pcs rs x)).toArray⟩])
  exact⟨_::u,by rw[show ets rs (x::l) T=ets rs l (T++[⟨(cat T (pcs rs x)).toArray⟩])from rfl,hu,Ix];rfl⟩
theorem jgm(rs:List RE):(TX rs).length=rs.length:=by unfold TX;rw[jhq];simp
theorem jlo(rs:List RE):∀(l m:List RE)(T:List Str),ets rs (l++m) T=ets rs m (ets rs l T)
 |[],m,T=>rfl
 |x::l,m,T=>jlo rs l m _
theorem jqv{T u:List Str}{k:Nat}(h:k<=T.length){x:V}(hx:isPc k x):pcL (T++u) x=pcL T x:=by
 rcases hx with⟨s,rfl⟩|⟨i,rfl,hi⟩
 ·rfl
 ·simp only[pcL,tx,Int.toNat_natCast]
  rw[A1 (by omega)]
theorem jlh{T u:List Str}{k:Nat}(h:k<=T.length):∀{l:List V},(∀x∈l,isPc k x)->cat (T++u) l=cat T l
 |[],_=>rfl
 |x::l,hx=>by
  have e:∀T,cat T (x::l)=pcL T x++cat T l:=λT=>by simp[cat]
  rw[e,e,jqv h (hx x (.head _)),jlh h λy hy=>hx y (.tail _ hy)]
theorem jml{rs:List RE}{i k:Nat}{b:Int}(h:i<k):∀x∈bp rs i b,isPc k x:=by
 intro x hx
 unfold bp at hx
 split at hx
 ·simp at hx
  rcases hx with rfl|rfl|rfl
  ·exact .inl ⟨_,rfl⟩
  ·exact .inr ⟨i,rfl,h⟩
  ·exact .inl ⟨_,rfl⟩
 ·simp at hx
  subst hx
  exact .inr ⟨i,rfl,h⟩
theorem jca{rs:List RE}{k:Nat}:∀{r:RE},r.ok k->∀x∈pcs rs r,isPc k x
 |.nothing,_,x,hx=>by simp[pcs]at hx;exact .inl ⟨_,hx⟩
 |.blank,_,x,hx=>by simp[pcs]at hx;exact .inl ⟨_,hx⟩
 |.letter a,_,x,hx=>by simp[pcs]at hx;exact .inl ⟨_,hx⟩
 |.no i,ok,x,hx=>by
  rcases A6.mp hx with hx|hx
  ·exact .inl ⟨_,Ag.mp hx⟩
  ·exact jml ok x hx
 |.bin w i j,ok,x,hx=>by
  rcases A6.mp hx with hx|hx
  ·rcases A6.mp hx with hx|hx
   ·exact jml ok.1 x hx
   ·exact .inl ⟨_,Ag.mp hx⟩
  ·exact jml ok.2 x hx
theorem pcs_len(rs:List RE)(r:RE):(pcs rs r).length<=100:=by
 cases r with
 |no i=>have:=jef rs i 3;simp[pcs];omega
 |bin w i j=>have:=jef rs i (bwd w);have:=jef rs j (bwd w+1);simp[pcs];omega
 |_=>simp[pcs]
def okE(rs:List RE):Prop:=∀(k:Nat)(r:RE),rs[k]?=some r->r.ok k
theorem jek{rs:List RE}(ok:okE rs){k:Nat}(hk:k<rs.length):sg (tx (TX rs) k)=cat (TX rs) (pcs rs (rs.getD k .nothing)):=by
 have er:rs[k]?=some (rs.getD k .nothing):=by rw[Ac,Ai hk];rfl
 have hr:=ok k _ er
 have e1:rs=(rs.take k++[rs.getD k .nothing])++rs.drop (k+1):=by
  have:rs.take (k+1)=rs.take k++[rs.getD k .nothing]:=by rw[Wb,er];rfl
  rw[<-this,Uq]
 have e2:TX rs=ets rs (rs.drop (k+1)) (ets rs (rs.take k) []++[⟨(cat (ets rs (rs.take k) []) (pcs rs (rs.getD k .nothing))).toArray⟩]):=by
  unfold TX
  conv=>lhs;arg 2;rw[e1]
  rw[jlo,jjy]
 obtain⟨u,hu⟩:=jlp rs (rs.drop (k+1)) (ets rs (rs.take k) []++[⟨(cat (ets rs (rs.take k) []) (pcs rs (rs.getD k .nothing))).toArray⟩])
 rw[hu]at e2
 have hl:(ets rs (rs.take k) []).length=k:=by rw[jhq,Om];simp;omega
 have e3:tx (TX rs) k=⟨(cat (ets rs (rs.take k) []) (pcs rs (rs.getD k .nothing))).toArray⟩:=by
  rw[e2]
  unfold tx
  rw[A1 (by simp[hl]),A7 (by omega),hl]
  simp
 rw[e3,e2,Ix,jlh (k:=k) (by omega) (jca hr)]
 simp[sg]
theorem jf6(T:List Str)(a b:List V):(cat T (a++b)).length=(cat T a).length+(cat T b).length:=by rw[jdy,Ax]
theorem bp_w{rs:List RE}{T:List Str}{i:Nat}{b:Int}(h:1<=(tx T i).length):jcn T (bp rs i b)<=4*(cat T (bp rs i b)).length-2/\1<=(cat T (bp rs i b)).length:=by
 unfold bp
 split
 ·simp[jcn,pw4,cat,pcL,jcq]
  have:(Str.ofString "(").length=1:=by decide +kernel
  have:(Str.ofString ")").length=1:=by decide +kernel
  omega
 ·simp[jcn,pw4,cat,pcL,jcq]
  omega
theorem jnh{rs:List RE}(ok:okE rs):∀k,k<rs.length->1<=(tx (TX rs) k).length/\jcn (TX rs) (pcs rs (rs.getD k .nothing))<4*(tx (TX rs) k).length-2:=by
 intro k
 induction k using Nat.strongRecOn with
 |ind k ih =>
  intro hk
  have e:=jek ok hk
  have er:rs[k]?=some (rs.getD k .nothing):=by rw[Ac,Ai hk];rfl
  have hr:=ok k _ er
  have el:(tx (TX rs) k).length=(cat (TX rs) (pcs rs (rs.getD k .nothing))).length:=by rw[<-e,jcq]
  rw[el]
  generalize rs.getD k .nothing=r at hr
  cases r with
  |nothing=>simp[pcs,jcn,pw4,cat,pcL,jcq];decide +kernel
  |blank=>simp[pcs,jcn,pw4,cat,pcL,jcq];decide +kernel
  |letter a =>
   have ha:a.length=1:=hr
   simp[pcs,jcn,pw4,cat,pcL,jcq]
   omega
  |no i =>
   have hi:i<k:=hr
   have:=bp_w (rs:=rs) (T:=TX rs) (b:=3) (ih i hi (by omega)).1
   have h1:(Str.ofString "-").length=1:=by decide +kernel
   have h2:(cat (TX rs) [V.str (Str.ofString "-")]).length=1:=by simp[cat,pcL,jcq];exact h1
   have h3:jcn (TX rs) [V.str (Str.ofString "-")]=1:=rfl
   unfold pcs
   rw[jf6,jc3,h2,h3]
   omega
  |bin ww i j =>
   have hi:i<k:=hr.1
   have hj:j<k:=hr.2
   have b1:=bp_w (rs:=rs) (T:=TX rs) (b:=bwd ww) (ih i hi (by omega)).1
   have b2:=bp_w (rs:=rs) (T:=TX rs) (b:=bwd ww+1) (ih j hj (by omega)).1
   have h3:jcn (TX rs) [V.str (swd ww)]=1:=rfl
   unfold pcs
   rw[jf6,jc3,jf6,jc3,h3]
   omega
theorem jpq{rs:List RE}(ok:okE rs)(h1:1<=rs.length)(h2:rs.length<=1000)(bd:∀k,(tx (TX rs) k).length<=50000):Wr4 rs.length (λk=>pcs rs (rs.getD k .nothing)) (TX rs):=by
 refine⟨h1,h2,jgm rs,λk hk=>?_,λk _=>pcs_len rs _,λk hk=>jek ok hk,bd,λk hk=>(jnh ok k hk).1,λk hk=>(jnh ok k hk).2⟩
 have er:rs[k]?=some (rs.getD k .nothing):=by rw[Ac,Ai hk];rfl
 exact jca (ok k _ er)
def wE(rs:List RE)(i b:Nat):List Nat:=if ow (rs.getD i .nothing)<b then 40::(sg (tx (TX rs) i)++[41])else sg (tx (TX rs) i)
theorem jhn(rs:List RE)(i b:Nat):cat (TX rs) (bp rs i (b:Int))=wE rs i b:=by
 unfold bp wE
 rw[jre]
 have e1:sg (Str.ofString "(")=[40]:=by decide +kernel
 have e2:sg (Str.ofString ")")=[41]:=by decide +kernel
 by_cases c:ow (rs.getD i .nothing)<b
 ·rw[Ak (by omega),Ak c]
  simp[cat,pcL,e1,e2]
 ·rw[Ae (by omega),Ae c]
  simp[cat,pcL]
theorem jrf(w:BW):bwd w=(bn w:Int):=by cases w <;> rfl
def okZ(rs:List RE):Prop:=∀(k:Nat)(r:RE),rs[k]?=some r->r.okz k
theorem okZ.ok{rs:List RE}(h:okZ rs):okE rs:=λk r e=>jj6 (h k r e)
theorem okZ.r{rs:List RE}(h:okZ rs):OkR (rs.map keyR):=jg2 λk r e=>jj6 (h k r e)
theorem jd2{rs:List RE}{k:Nat}(hk:k<rs.length):rs[k]?=some (rs.getD k .nothing):=by rw[Ac,Ai hk];rfl
theorem jds{rs:List RE}{k:Nat}{r:RE}(e:rs[k]?=some r):k<rs.length/\rs.getD k .nothing=r:=⟨(Aj.mp e).1,by rw[Ac,e];rfl⟩
theorem jqo{r:RE}{k:Nat}(h:r.okz k)(h4:ow r=4)(rs:List RE):∃c,lf c=some r/\cat (TX rs) (pcs rs r)=[c]:=by
 cases r with
 |nothing=>exact⟨48,rfl,by simp[pcs,cat,pcL];decide +kernel⟩
 |blank=>exact⟨46,rfl,by simp[pcs,cat,pcL];decide +kernel⟩
 |letter z =>
  have hl:z.cps.toList.length=1:=by have:z.length=1:=h.1;simpa[Str.length]using this
  obtain⟨c,hc⟩:=List.length_eq_one_iff.mp hl
  have cz:97<=c/\c<=122:=h.2 c (by rw[hc];exact .head _)
  have ez:z=sgn c:=by
   have:z.cps=#[c]:=by rw[<-Array.toList_inj];simpa using hc
   show z=⟨#[c]⟩
   rw[<-this]
  refine⟨c,?_,by simp[pcs,cat,pcL,sg,hc]⟩
  unfold lf
  rw[Ae (by omega),Ae (by omega),Ak cz,ez]
 |no j=>exact absurd h4 (by simp[ow])
 |bin w j l=>exact absurd h4 (by cases w <;> simp[ow,bn])
theorem jhi{rs:List RE}(ok:okZ rs){k j:Nat}(e:rs[k]?=some (.no j)):sg (tx (TX rs) k)=45::wE rs j 3:=by
 obtain⟨hk,eg⟩:=jds e
 rw[jek ok.ok hk,eg,<-jhn]
 have e1:sg (Str.ofString "-")=[45]:=by decide +kernel
 unfold pcs
 rw[jdy]
 show cat (TX rs) [V.str (Str.ofString "-")]++_=_
 simp[cat,pcL,e1]
theorem jfi{rs:List RE}(ok:okZ rs){k i j:Nat}{w:BW}(e:rs[k]?=some (.bin w i j)):sg (tx (TX rs) k)=wE rs i (bn w)++(wl w++wE rs j (bn w+1)):=by
 obtain⟨hk,eg⟩:=jds e
 rw[jek ok.ok hk,eg,<-jhn,<-jhn]
 unfold pcs
 rw[jdy,jdy,Ix,jrf,show((bn w:Int)+1)=((bn w+1:Nat):Int)by omega]
 have e1:cat (TX rs) [V.str (swd w)]=wl w:=by cases w <;> (simp[cat,pcL,swd,wl];decide +kernel)
 rw[e1]
theorem jh4{rs:List RE}(ok:okZ rs){k:Nat}{r:RE}(e:rs[k]?=some r)(h4:ow r=4):∃c,lf c=some r/\sg (tx (TX rs) k)=[c]:=by
 obtain⟨hk,eg⟩:=jds e
 obtain⟨c,h1,h2⟩:=jqo (ok k r e) h4 rs
 exact⟨c,h1,by rw[jek ok.ok hk,eg,h2]⟩
theorem jk4{rs:List RE}{k b:Nat}(h:∀b,b<=ow (rs.getD k .nothing)->Ren rs k b (sg (tx (TX rs) k))):Ren rs k b (wE rs k b):=by
 unfold wE
 split
 ·exact .par (h 0 (A8 _))
 ·exact h b (by omega)
theorem jk1{rs:List RE}(ok:okZ rs):∀k,k<rs.length->∀b,b<=ow (rs.getD k .nothing)->Ren rs k b (sg (tx (TX rs) k)):=by
 intro k
 induction k using Nat.strongRecOn with
 |ind k ih =>
  intro hk b hb
  have er:=jd2 hk
  have hr:=ok k _ er
  generalize rs.getD k .nothing=r at er hr hb
  have leaf:ow r=4->Ren rs k b (sg (tx (TX rs) k)):=λh4=>by
   obtain⟨c,h1,h2⟩:=jh4 ok er h4
   rw[h2];exact .leaf er h1
  cases r with
  |no j =>
   have hj:j<k:=hr
   rw[jhi ok er]
   exact .no er hb (jk4 (ih j hj (by omega)))
  |bin w i j =>
   have hi:i<k:=hr.1
   have hj:j<k:=hr.2
   rw[jfi ok er]
   exact .op er hb (jk4 (ih i hi (by omega))) (jk4 (ih j hj (by omega)))
  |_=>exact leaf rfl
theorem jfx(rs:List RE)(k b:Nat):(sg (tx (TX rs) k)).length<=(wE rs k b).length/\(wE rs k b).length<=(sg (tx (TX rs) k)).length+2:=by
 unfold wE
 split
 ·simp only[List.length_cons,Ax,List.length_nil];omega
 ·omega
theorem Ren.min{rs:List RE}(ok:okZ rs){i b:Nat}{t:List Nat}(h:Ren rs i b t):b<=4->(wE rs i b).length<=t.length:=by
 induction h with
 |@leaf i b c r e l =>
  intro hb
  have h4:ow r=4:=by
   unfold lf at l
   split at l
   ·cases l;rfl
   ·split at l
    ·cases l;rfl
    ·split at l
     ·cases l;rfl
     ·cases l
  obtain⟨c',h1,h2⟩:=jh4 ok e h4
  obtain⟨hk,eg⟩:=jds e
  unfold wE
  rw[eg,Ae (by omega),h2];simp
 |@no i b j t e hb _ ih =>
  intro _
  obtain⟨hk,eg⟩:=jds e
  have:=ih (by omega)
  unfold wE
  rw[eg,Ae (by simp only[ow];omega),jhi ok e]
  simp;omega
 |@op i b j k w t u e hb _ _ ih1 ih2 =>
  intro _
  obtain⟨hk,eg⟩:=jds e
  have hw:=jgo w
  have:=ih1 (by omega)
  have:=ih2 (by omega)
  unfold wE
  rw[eg,Ae (by simp only[ow];omega),jfi ok e]
  simp;omega
 |@par i b t _ ih =>
  intro _
  have h1:=ih (by omega)
  have h2:=(jfx rs i 0).1
  have h3:=(jfx rs i b).2
  simp;omega
theorem LB.txl{rs:List RE}{L:Nat->Nat}(lb:LB rs L)(ok:okZ rs):∀k,k<rs.length->(sg (tx (TX rs) k)).length+2<=L k:=by
 intro k
 induction k using Nat.strongRecOn with
 |ind k ih =>
  intro hk
  have er:=jd2 hk
  have hr:=ok k _ er
  have hb:=lb.at_ k _ er
  generalize rs.getD k .nothing=r at er hr hb
  have leaf:ow r=4->7<=L k->(sg (tx (TX rs) k)).length+2<=L k:=λh4 h7=>by
   obtain⟨c,h1,h2⟩:=jh4 ok er h4
   rw[h2];simp;omega
  cases r with
  |no j =>
   have hj:j<k:=hr
   have h1:=ih j hj (by omega)
   have h2:=(jfx rs j 3).2
   have hb:L j+7<=L k:=hb
   rw[jhi ok er]
   simp;omega
  |bin w i j =>
   have hi:i<k:=hr.1
   have hj:j<k:=hr.2
   have h1:=ih i hi (by omega)
   have h2:=ih j hj (by omega)
   have h3:=(jfx rs i (bn w)).2
   have h4:=(jfx rs j (bn w+1)).2
   have hb:L i+L j+7<=L k:=hb
   have h5:(wl w).length<=1:=by cases w <;> simp[wl]
   rw[jfi ok er]
   simp;omega
  |_=>exact leaf rfl hb
theorem LB.wr{rs:List RE}{L:Nat->Nat}(lb:LB rs L)(ok:okZ rs)(h1:1<=rs.length)(h2:rs.length<=1000):Wr4 rs.length (λk=>pcs rs (rs.getD k .nothing)) (TX rs) :=
 jpq ok.ok h1 h2 λk=>by
  by_cases c:k<rs.length
  ·have:=lb.txl ok k c
   have:=lb.le k
   rw[jcq]at *
   omega
  ·unfold tx
   rw[Oh (by rw[jgm];omega)]
   exact A8 _
theorem jo1{r s:RE}(h:keyR r=keyR s):r=s:=by
 have w0:∀w w':BW,ew w=ew w'->w=w':=λw w'=>by cases w <;> cases w' <;> first|(intro _;rfl)|(intro h;exact absurd h (by decide +kernel))
 have w1:∀w,ew w≠Str.ofString "not"/\ew w≠Str.ofString "letter":=λw=>by cases w <;> decide +kernel
 cases r <;> cases s <;> simp[keyR]at h⊢
 all_goals first
  |exact h
  |exact(absurd h (by decide +kernel))
  |exact(absurd h.1 (by decide +kernel))
  |(obtain⟨h1,h2,h3⟩:=h;exact⟨w0 _ _ h1,by omega,by omega⟩)
  |omega
theorem jsn(g:Nat->Nat)(r:RE):ow (r.mp g)=ow r:=by cases r <;> rfl
theorem jsa{rs rs':List RE}(ok:okZ rs)(ok':okZ rs'){g:Nat->Nat}{S:Nat->Prop}(hS:∀x,S x->∃r,rs[x]?=some r/\rs'[g x]?=some (r.mp g)/\∀p∈ptR (keyR r),S p):∀x,S x->sg (tx (TX rs) x)=sg (tx (TX rs') (g x)):=by
 intro x
 induction x using Nat.strongRecOn with
 |ind x ih =>
  intro sx
  obtain⟨r,e,e',hp⟩:=hS x sx
  have hr:=ok x r e
  have we:∀p b,p<x->S p->wE rs p b=wE rs' (g p) b:=λp b hpx sp=>by
   obtain⟨q,q1,q2,_⟩:=hS p sp
   unfold wE
   rw[ih p hpx sp,(jds q1).2,(jds q2).2,jsn]
  have leaf:ow r=4->r.mp g=r->sg (tx (TX rs) x)=sg (tx (TX rs') (g x)):=λh4 hm=>by
   obtain⟨hk,eg⟩:=jds e
   obtain⟨hk',eg'⟩:=jds e'
   rw[jek ok.ok hk,jek ok'.ok hk',eg,eg',hm]
   cases r with
   |no j=>exact absurd h4 (by simp[ow])
   |bin w j l=>exact absurd h4 (by cases w <;> simp[ow,bn])
   |_=>rfl
  cases r with
  |no j=>rw[jhi ok e,jhi (j:=g j) ok' e',we j 3 hr (hp j (by simp[keyR,ptR,ptK]))]
  |bin w i j=>rw[jfi ok e,jfi (i:=g i) (j:=g j) ok' e',we i _ hr.1 (hp i (by simp[keyR,ptR,ptK])),we j _ hr.2 (hp j (by simp[keyR,ptR,ptK]))]
  |_=>exact leaf rfl rfl
theorem jmc{rs rs':List RE}(ok:okZ rs)(ok':okZ rs')(n1:1<=rs.length)(t:TidP (rs.map keyR) (rs'.map keyR)):sg (tx (TX rs) (rs.length-1))=sg (tx (TX rs') (rs'.length-1))/\∀k,k<rs'.length->∃v,v<rs.length/\sg (tx (TX rs) v)=sg (tx (TX rs') k):=by
 obtain⟨h,H,e⟩:=t
 have n1':1<=(rs.map keyR).length:=by rw[Ab];exact n1
 have la:=jj7 ok.r H n1'
 have O:=jeh ok.r H n1'
 have ll:rs'.length=(ordR (rs.map keyR) h).length:=by rw[<-jh2,<-e,Ab]
 have key:=jsa (rs:=rs) (rs':=rs') ok ok' (g:=λx=>(ordR (rs.map keyR) h).idxOf (h x)) (S:=λx=>h x∈ordR (rs.map keyR) h/\x<(rs.map keyR).length) (λx ⟨h1,h2⟩=>by
  have rw:=jpc H h2 h1
  have h2':x<rs.length:=by rwa[Ab]at h2
  have ex:=jd2 h2'
  have eg:(rs.map keyR).getD x []=keyR (rs.getD x .nothing):=by rw[Ac,Ao,ex];rfl
  rw[eg,<-e,jeg,Ao]at rw
  obtain⟨s,es,eq⟩:=Is.mp rw
  refine⟨_,ex,by rw[es,jo1 eq],λp hp=>?_⟩
  have hp':p∈own (rs.map keyR) x:=by unfold own;rw[eg];exact hp
  have pl:=jr0 ok.r x h2 p hp'
  refine⟨jrz ok.r H n1' h1 _ ?_,by omega⟩
  rw[jjt H h2]
  exact A4.mpr ⟨p,hp',rfl⟩)
 have sl:h ((rs.map keyR).length-1)∈ordR (rs.map keyR) h:=by
  obtain⟨t,e⟩:=O.la
  rw[e];simp
 refine⟨?_,λk hk=>?_⟩
 ·have:=key (rs.length-1) ⟨by rw[Ab]at sl;exact sl,by rw[Ab];omega⟩
  rw[this,ll,<-la.1,Ab]
 ·rw[ll]at hk
  have ek:(ordR (rs.map keyR) h)[k]?=some (ordR (rs.map keyR) h)[k]:=Ai hk
  have vm:=Iu hk
  have vl:=O.lt _ vm
  have hv:h (ordR (rs.map keyR) h)[k]=(ordR (rs.map keyR) h)[k]:=O.hd _ vm
  have:=key (ordR (rs.map keyR) h)[k] ⟨by rw[hv];exact vm,vl⟩
  refine⟨_,by rw[Ab]at vl;exact vl,?_⟩
  rw[this,hv,jcc O.nd ek]
theorem jkz{rs rs':List RE}(ok:okZ rs)(ok':okZ rs')(n1:1<=rs.length)(t:TidP (rs.map keyR) (rs'.map keyR)):sg (tx (TX rs) (rs.length-1))=sg (tx (TX rs') (rs'.length-1)):=(jmc ok ok' n1 t).1
theorem joh{rs:List RE}(ok:okZ rs)(n1:1<=rs.length){F:List Row}(t:TidP (rs.map keyR) F):∃rs',F=rs'.map keyR/\okZ rs'/\1<=rs'.length:=by
 obtain⟨h,H,rfl⟩:=t
 have n1':1<=(rs.map keyR).length:=by rw[Ab];exact n1
 have O:=jeh ok.r H n1'
 have ef:tidR (rs.map keyR) h=((ordR (rs.map keyR) h).map λv=>((rs.getD v .nothing).mp h).mp λx=>(ordR (rs.map keyR) h).idxOf x).map keyR:=by
  rw[O5]
  refine Iw λv hv=>?_
  have vl:=O.lt v hv
  rw[Ab]at vl
  show wpR _ (RwA (rs.map keyR) h v)=keyR _
  unfold RwA
  rw[Ac,Ao,jd2 vl]
  show wpR _ (wpR h (keyR _))=_
  rw[jeg,jeg]
 refine⟨_,ef,λk r e=>?_,by rw[Ab];exact(jj7 ok.r H n1').2⟩
 have rk:=jr7 ok.r H n1'
 have rk2:=rk k (keyR r) (by rw[ef,Ao,e];rfl)
 rw[Ao]at e
 obtain⟨v,ev,rfl⟩:=Is.mp e
 have vl:=O.lt v (A5 ev)
 rw[Ab]at vl
 have hv:=ok v _ (jd2 vl)
 generalize rs.getD v .nothing=r at hv rk2
 cases r with
 |letter a=>exact hv
 |no i =>
  have:=rk2 ((ordR (rs.map keyR) h).idxOf (h i):Int) (by simp[keyR,RE.mp])
  show(ordR (rs.map keyR) h).idxOf (h i)<k
  omega
 |bin w i j =>
  have h1:=rk2 ((ordR (rs.map keyR) h).idxOf (h i):Int) (by simp[keyR,RE.mp])
  have h2:=rk2 ((ordR (rs.map keyR) h).idxOf (h j):Int) (by simp[keyR,RE.mp])
  show(ordR (rs.map keyR) h).idxOf (h i)<k/\(ordR (rs.map keyR) h).idxOf (h j)<k
  omega
 |_=>trivial
def stA(o:Nat)(d:Bool)(c:Nat):Option (Nat×Bool) :=
 if c=40 then some (o+1,true)else if c=45 then some (o,true)else if(lf c).isSome then some (o,false)else if d then none else
 if c=41 then(if o=0 then none else some (o-1,false))else if c=124\/c=38 then some (o,true)else none
def acc:List Nat->Nat->Bool->Option (Nat×Bool)
 |[],o,d=>some (o,d)
 |c::t,o,d=>match stA o d c with
  |some (o',d')=>acc t o' d'
  |none=>none
theorem jlf{t u:List Nat}:∀{o:Nat}{d:Bool},acc (t++u) o d=match acc t o d with
  |some (o',d')=>acc u o' d'
  |none=>none:=by
 induction t with
 |nil=>intro o d;rfl
 |cons c t ih =>
  intro o d
  show(match stA o d c with|some (o',d')=>acc (t++u) o' d'|none=>none)=match(match stA o d c with|some (o',d')=>acc t o' d'|none=>none)with|some (o',d')=>acc u o' d'|none=>none
  cases stA o d c with
  |none=>rfl
  |some x=>exact ih
theorem jel{t u:List Nat}{o o':Nat}{d d':Bool}(h:acc t o d=some (o',d')):acc (t++u) o d=acc u o' d':=by rw[jlf,h]
theorem jrd{t u:List Nat}{o:Nat}{d:Bool}{r:Nat×Bool}(h:acc (t++u) o d=some r):∃o' d',acc t o d=some (o',d')/\acc u o' d'=some r:=by
 rw[jlf]at h
 cases e:acc t o d with
 |none=>rw[e]at h;cases h
 |some x=>rw[e]at h;exact⟨x.1,x.2,rfl,h⟩
theorem jf4{c:Nat}{t:List Nat}{o:Nat}{d:Bool}{r:Nat×Bool}(h:acc (c::t) o d=some r):∃o' d',stA o d c=some (o',d')/\acc t o' d'=some r:=by
 cases e:stA o d c with
 |none=>simp[acc,e]at h
 |some x=>exact⟨x.1,x.2,rfl,by simpa[acc,e]using h⟩
def cx:List W4->Nat
 |.op w::_=>bn w+1
 |.no::_=>3
 |_=>0
def np:List W4->Nat
 |[]=>0
 |.par::wt=>np wt+1
 |_::wt=>np wt
inductive Sk (R:List RE):List W4->List Nat->Prop
 |nil:Sk R [] []
 |par {wt:List W4}{t:List Nat}:Sk R wt t->Sk R (.par::wt) (t++[40])
 |no {wt:List W4}{t:List Nat}:Sk R wt t->Sk R (.no::wt) (t++[45])
 |op {wt:List W4}{t u:List Nat}{w:BW}{j:Nat}:Sk R wt t->Ren R j (bn w) u->je0 wt (bn w)->j<R.length->Sk R (.op w::wt) (t++(u++wl w))
theorem Ren.pre{R R':List RE}(p:R <+: R'){i b:Nat}{t:List Nat}(h:Ren R i b t):Ren R' i b t:=by
 obtain⟨x,rfl⟩:=p
 have g:∀{i:Nat}{r:RE},R[i]?=some r->(R++x)[i]?=some r:=fun{i r} e=>by rw[A1 (Aj.mp e).1];exact e
 induction h with
 |leaf e l=>exact .leaf (g e) l
 |no e b _ ih=>exact .no (g e) b ih
 |op e b _ _ ih1 ih2=>exact .op (g e) b ih1 ih2
 |par _ ih=>exact .par ih
theorem Sk.pre{R R':List RE}(p:R <+: R'){wt:List W4}{t:List Nat}(h:Sk R wt t):Sk R' wt t:=by
 induction h with
 |nil=>exact .nil
 |par _ ih=>exact .par ih
 |no _ ih=>exact .no ih
 |op _ r l j ih=>exact .op ih (r.pre p) l (Au j p.length_le)
theorem jsg(wt:List W4):cx wt<=3:=by
 cases wt with
 |nil=>exact A8 _
 |cons w wt =>
  cases w with
  |par=>exact A8 _
  |op w=>have:=jgo w;show bn w+1<=3;omega
  |no=>exact Ah _
theorem jri{wt:List W4}{b:Nat}(hb:b<=2)(h:je0 wt b):cx wt<=b:=by
 cases wt with
 |nil=>exact A8 _
 |cons w wt =>
  have:=h w rfl
  cases w with
  |par=>exact A8 _
  |op w=>rw[je2]at this;show bn w+1<=b;omega
  |no=>have:(3:Int)<b:=this;omega
theorem jbh{R:List RE}(ok:okZ R){r:RE}(h:r.okz R.length):okZ (R++[r]):=jlq ok h
theorem jhu(R:List RE)(r:RE):(R++[r])[R.length]?=some r:=by rw[A7 (Ah _)];simp
theorem ji6(k:Nat)(hk:k<=2):∀(wt:List W4)(R:List RE)(t u:List Nat)(j:Nat),okZ R->Sk R wt t->(∀b,b<=max k (cx wt)->Ren R j b u)->j+1=R.length ->
  ∃(R':List RE)(wt':List W4)(t' u':List Nat)(j':Nat),okZ R'/\Sk R' wt' t'/\Ren R' j' k u'/\je0 wt' k/\np wt'=np wt/\t'++u'=t++u/\j'+1=R'.length:=by
 intro wt
 induction wt with
 |nil=>intro R t u j ok s r hj;exact⟨R,[],t,u,j,ok,s,r k (by omega),(λw hw=>nomatch hw),rfl,rfl,hj⟩
 |cons w wt ih =>
  intro R t u j ok s r hj
  have stop:bpi w<k->∃(R':List RE)(wt':List W4)(t' u':List Nat)(j':Nat),okZ R'/\Sk R' wt' t'/\Ren R' j' k u'/\je0 wt' k/\np wt'=np (w::wt)/\t'++u'=t++u/\j'+1=R'.length:=λh=>⟨R,w::wt,t,u,j,ok,s,r k (by omega),(λv hv=>by cases hv;exact h),rfl,rfl,hj⟩
  cases s with
  |par s=>exact stop (by show(-1:Int)<k;omega)
  |@no _ t s =>
   have e:=jhu R (.no j)
   have p:R <+: R++[RE.no j]:=⟨_,rfl⟩
   have r3:Ren R j 3 u:=r 3 (by show 3<=max k 3;omega)
   have c3:=jsg wt
   obtain⟨R',wt',t',u',j',h1,h2,h3,h4,h5,h6,h7⟩:=ih (R++[.no j]) t (45::u) R.length (jbh ok (r:=.no j) (show j<R.length by omega)) (s.pre p) (λb hb=>.no e (by omega) (r3.pre p)) (by simp)
   exact⟨R',wt',t',u',j',h1,h2,h3,h4,h5,by rw[h6];simp,h7⟩
  |@op _ t u1 w f s r1 tl fl =>
   by_cases c:bn w<k
   ·exact stop (by rw[je2];omega)
   ·have e:=jhu R (.bin w f j)
    have p:R <+: R++[RE.bin w f j]:=⟨_,rfl⟩
    have r3:Ren R j (bn w+1) u:=r _ (by show bn w+1<=max k (bn w+1);omega)
    have hw:=jgo w
    have cc:=jri hw tl
    obtain⟨R',wt',t',u',j',h1,h2,h3,h4,h5,h6,h7⟩:=ih (R++[.bin w f j]) t (u1++(wl w++u)) R.length (jbh ok (r:=.bin w f j) (show f<R.length/\j<R.length by omega)) (s.pre p) (λb hb=>.op e (by omega) (r1.pre p) (r3.pre p)) (by simp)
    exact⟨R',wt',t',u',j',h1,h2,h3,h4,h5,by rw[h6];simp,h7⟩
def At(t:List Nat)(o:Nat)(d:Bool):Prop:=∃(R:List RE)(wt:List W4),okZ R/\np wt=o /\
 if d then Sk R wt t else ∃(t1 u:List Nat)(j:Nat),Sk R wt t1/\t=t1++u/\(∀b,Ren R j b u)/\j+1=R.length
theorem jrx{c:Nat}{r:RE}(h:lf c=some r)(k:Nat):r.okz k:=by
 unfold lf at h
 split at h
 ·cases h;trivial
 ·split at h
  ·cases h;trivial
  ·split at h
   ·rename_i h1
    cases h
    exact⟨rfl,λd hd=>by simp[sgn]at hd;subst hd;exact h1⟩
   ·cases h
theorem At.beh{t:List Nat}{o:Nat}{d:Bool}(h:At t o d):At t o true:=by
 cases d with
 |true=>exact h
 |false =>
  obtain⟨R,wt,ok,n,t1,u,j,s,rfl,r,hj⟩:=h
  obtain⟨R',wt',t',u',j',h1,h2,h3,h4,h5,h6,h7⟩:=ji6 2 (by omega) wt R t1 u j ok s (λb _=>r b) hj
  exact⟨R',.op .beh::wt',h1,by rw[<-n,<-h5];rfl,by
   have:=Sk.op (w:=.beh) h2 h3 h4 (by omega)
   rw[<-h6];simpa[wl]using this⟩
theorem At.step{t:List Nat}{o o':Nat}{d d':Bool}{c:Nat}(h:At t o d)(e:stA o d c=some (o',d')):At (t++[c]) o' d':=by
 unfold stA at e
 split at e
 ·rename_i c1
  subst c1
  cases e
  obtain⟨R,wt,ok,n,s⟩:=h.beh
  exact⟨R,.par::wt,ok,by rw[<-n];rfl,Sk.par s⟩
 split at e
 ·rename_i c1
  subst c1
  cases e
  obtain⟨R,wt,ok,n,s⟩:=h.beh
  exact⟨R,.no::wt,ok,by rw[<-n];rfl,Sk.no s⟩
 split at e
 ·rename_i c1
  cases e
  obtain⟨r,l⟩:=U3.mp c1
  obtain⟨R,wt,ok,n,s⟩:=h.beh
  exact⟨R++[r],wt,jbh ok (jrx l _),n,t,[c],R.length,Sk.pre ⟨_,rfl⟩ s,rfl,λb=>.leaf (jhu R r) l,by simp⟩
 split at e
 ·cases e
 rename_i c0
 have d0:d=false:=by
  cases d with
  |true=>exact absurd rfl c0
  |false=>rfl
 subst d0
 obtain⟨R,wt,ok,n,t1,u,j,s,rfl,r,hj⟩:=h
 split at e
 ·rename_i c1
  subst c1
  split at e
  ·cases e
  ·rename_i o0
   cases e
   obtain⟨R',wt',t',u',j',h1,h2,h3,h4,h5,h6,h7⟩:=ji6 0 (by omega) wt R t1 u j ok s (λb _=>r b) hj
   cases h2 with
   |nil=>exact absurd (h5.trans n) (λz=>o0 z.symm)
   |@par wt2 t2 s2 =>
    refine⟨R',wt2,h1,by have:np wt2+1=np wt:=h5;omega,t2,40::(u'++[41]),j',s2,?_,λb=>.par h3,h7⟩
    rw[<-h6];simp
   |no s2=>exact absurd (h4 _ rfl) (by decide)
   |op s2=>exact absurd (h4 _ rfl) (by rw[je2];omega)
 split at e
 ·rename_i c1
  cases e
  have wd:∀w:BW,wl w=[c]->At (t1++u++[c]) o true:=λw hw=>by
   obtain⟨R',wt',t',u',j',h1,h2,h3,h4,h5,h6,h7⟩:=ji6 (bn w) (jgo w) wt R t1 u j ok s (λb _=>r b) hj
   exact⟨R',.op w::wt',h1,by rw[<-n,<-h5];rfl,by
    have:=Sk.op (w:=w) h2 h3 h4 (by omega)
    rw[<-h6,<-hw];simpa using this⟩
  rcases c1 with rfl|rfl
  ·exact wd .or rfl
  ·exact wd .and rfl
 ·cases e
theorem At.walk:∀{u t:List Nat}{o o':Nat}{d d':Bool},At t o d->acc u o d=some (o',d')->At (t++u) o' d'
 |[],t,o,o',d,d',h,e=>by cases e;simpa using h
 |c::u,t,o,o',d,d',h,e=>by
  obtain⟨o1,d1,e1,e2⟩:=jf4 e
  have:=At.walk (h.step e1) e2
  simpa using this
theorem jp8{t:List Nat}(h:acc t 0 true=some (0,false)):∃R:List RE,okZ R/\1<=R.length/\Ren R (R.length-1) 0 t:=by
 have a:At t 0 false:=by
  have:=At.walk (t:=[]) (u:=t) (o:=0) (d:=true) ⟨[],[],λk r e=>(by simp at e),rfl,.nil⟩ h
  simpa using this
 obtain⟨R,wt,ok,n,t1,u,j,s,rfl,r,hj⟩:=a
 obtain⟨R',wt',t',u',j',h1,h2,h3,h4,h5,h6,h7⟩:=ji6 0 (by omega) wt R t1 u j ok s (λb _=>r b) hj
 cases h2 with
 |nil=>exact⟨R',h1,by omega,by rw[<-h6,show R'.length-1=j' by omega];simpa using h3⟩
 |par s2=>exact absurd (h5.trans n) (by simp[np])
 |no s2=>exact absurd (h4 _ rfl) (by decide)
 |op s2=>exact absurd (h4 _ rfl) (by rw[je2];omega)
theorem jrw{c:Nat}{r:RE}(h:lf c=some r)(o:Nat)(d:Bool):stA o d c=some (o,false):=by
 have hc:c=46\/c=48\/(97<=c/\c<=122):=by
  unfold lf at h
  split at h
  ·exact .inl ‹_›
  ·split at h
   ·exact .inr (.inl ‹_›)
   ·split at h
    ·exact .inr (.inr ‹_›)
    ·cases h
 unfold stA
 rw[Ae (by omega),Ae (by omega),h];rfl
theorem Ren.first{R:List RE}{i b:Nat}{t:List Nat}(h:Ren R i b t)(o:Nat)(d:Bool):acc t o d=some (o,false):=by
 induction h generalizing o d with
 |leaf e l=>simp[acc,jrw l]
 |@no i b j t e _ _ ih=>exact ih o true
 |@op i b j k w t u e _ _ _ ih1 ih2 =>
  rw[jel (ih1 o d)]
  cases w with
  |or=>exact ih2 o true
  |and=>exact ih2 o true
  |beh=>exact ih2 o false
 |@par i b t _ ih =>
  show acc (t++[41]) (o+1) true=_
  rw[jel (ih (o+1) true)]
  simp[acc,stA,lf]
inductive Lev:List Nat->Nat->Prop
 |nil:Lev [] 0
 |opn {r:List Nat}{n:Nat}:Lev r (n+1)->Lev (40::r) n
 |shut {r:List Nat}{n:Nat}:Lev r n->Lev (41::r) (n+1)
 |sign {c:Nat}{r:List Nat}{n:Nat}:c≠40->c≠41->Lev r n->Lev (c::r) n
theorem jrv{o:Nat}{e:Bool}:∀(s:List Nat)(n:Nat)(d:Bool),acc s (o+n+1) d=some (0,e)->∃y z,s=y++41::z/\acc z o false=some (0,e)/\Lev y n/\(∀o',acc y (o'+n) d=some (o',false)\/(y=[]/\d=false/\n=0)):=by
 intro s
 induction s with
 |nil=>intro n d h;simp[acc]at h
 |cons c s ih =>
  intro n d h
  obtain⟨o1,d1,h1,h2⟩:=jf4 h
  by_cases c0:c=40
  ·subst c0
   have:o1=o+n+1+1/\d1=true:=by simp[stA]at h1;exact⟨h1.1.symm,h1.2⟩
   obtain⟨rfl,rfl⟩:=this
   obtain⟨y,z,rfl,hz,hl,hy⟩:=ih (n+1) true (by rw[<-Nat.add_assoc];exact h2)
   refine⟨40::y,z,rfl,hz,.opn hl,λo'=>.inl ?_⟩
   rcases hy o' with h|⟨_,h,_⟩
   ·show acc y (o'+n+1) true=_
    rw[Nat.add_assoc];exact h
   ·cases h
  ·by_cases c1:c=41
   ·subst c1
    have hd:d=false:=by cases d <;> simp[stA,lf]at h1⊢
    subst hd
    have:o1=o+n/\d1=false:=by simp[stA,lf]at h1;exact⟨by omega,h1.2⟩
    obtain⟨rfl,rfl⟩:=this
    cases n with
    |zero=>exact⟨[],s,rfl,h2,.nil,λo'=>.inr ⟨rfl,rfl,rfl⟩⟩
    |succ n =>
     obtain⟨y,z,rfl,hz,hl,hy⟩:=ih n false (by rw[Nat.add_assoc];exact h2)
     refine⟨41::y,z,rfl,hz,.shut hl,λo'=>.inl ?_⟩
     have e1:stA (o'+(n+1)) false 41=some (o'+n,false):=by simp[stA,lf]
     show(match stA (o'+(n+1)) false 41 with|some (a,b)=>acc y a b|none=>none)=_
     rw[e1]
     rcases hy o' with h|⟨h,_,h0⟩
     ·exact h
     ·subst h;subst h0;rfl
   ·have gen:∃d',(∀o',stA o' d c=some (o',d')):=by
     unfold stA at h1
     rw[Ae c0]at h1
     split at h1
     ·rename_i c4
      exact⟨true,λo'=>by unfold stA;rw[Ae c0,Ak c4]⟩
     split at h1
     ·exact⟨false,λo'=>by unfold stA;rw[Ae c0,Ae ‹_›,Ak ‹_›]⟩
     split at h1
     ·cases h1
     split at h1
     ·exact⟨true,λo'=>by unfold stA;rw[Ae c0,Ae ‹_›,Ae ‹_›,Ae ‹_›,Ae c1,Ak ‹_›]⟩
     ·cases h1
    obtain⟨d',hd'⟩:=gen
    rw[hd']at h1
    cases h1
    obtain⟨y,z,rfl,hz,hl,hy⟩:=ih n _ h2
    refine⟨c::y,z,rfl,hz,.sign c0 c1 hl,λo'=>.inl ?_⟩
    show(match stA (o'+n) d c with|some (a,b)=>acc y a b|none=>none)=_
    rw[hd']
    rcases hy o' with h|⟨h,h',h0⟩
    ·exact h
    ·subst h;subst h';subst h0;rfl
theorem jp7{y:List Nat}{o:Nat}{r:Nat×Bool}(h:acc y o true=some r)(ne:y≠[])(d:Bool):acc y o d=some r:=by
 cases y with
 |nil=>exact absurd rfl ne
 |cons c y =>
  obtain⟨o1,d1,h1,h2⟩:=jf4 h
  have:stA o d c=some (o1,d1):=by
   unfold stA at h1⊢
   split at h1
   ·rw[Ak ‹_›];exact h1
   ·split at h1
    ·rw[Ae ‹_›,Ak ‹_›];exact h1
    ·split at h1
     ·rw[Ae ‹_›,Ae ‹_›,Ak ‹_›];exact h1
     ·simp at h1
  simp[acc,this,h2]
theorem joo{x s:List Nat}(h:acc (x++40::s) 0 true=some (0,false)):∃y z,s=y++41::z/\Lev y 0/\acc (x++(y++z)) 0 true=some (0,false):=by
 obtain⟨o,d,h1,h2⟩:=jrd h
 have h3:acc s (o+0+1) true=some (0,false):=h2
 obtain⟨y,z,rfl,hz,hl,hy⟩:=jrv s 0 true h3
 refine⟨y,z,rfl,hl,?_⟩
 rw[jel h1]
 have hy0:acc y o true=some (o,false):=by
  rcases hy o with h|⟨_,h,_⟩
  ·exact h
  ·cases h
 have ne:y≠[]:=λe=>by subst e;simp[acc]at hy0
 rw[jel (jp7 hy0 ne d)]
 exact hz
theorem Bd.det{k:Int}{wt:List W4}{rd:List Nat}{R:List RE}{a a':List W4}{b b':List Nat}{c c':List RE}(h:Bd k wt rd R a b c)(h':Bd k wt rd R a' b' c'):a=a'/\b=b'/\c=c':=by
 induction h with
 |nil=>cases h';exact⟨rfl,rfl,rfl⟩
 |@stop w wt rd R l =>
  cases h' with
  |stop=>exact⟨rfl,rfl,rfl⟩
  |no l'=>have:(3:Int)<k:=l;omega
  |op l'=>omega
 |no l _ ih =>
  cases h' with
  |stop l'=>have:(3:Int)<k:=l';omega
  |no _ h'=>exact ih h'
 |op l _ ih =>
  cases h' with
  |stop l'=>omega
  |op _ h'=>exact ih h'
theorem Bg.det{c:Nat}{wt:List W4}{rd:List Nat}{R:List RE}{op:Nat}{a a':List W4}{b b':List Nat}{e e':List RE}{o o':Nat}{d d':Bool}(h:Bg c wt rd R op a b e o d)(h':Bg c wt rd R op a' b' e' o' d'):a=a'/\b=b'/\e=e'/\o=o'/\d=d':=by
 cases h with
 |no h =>
  subst h
  cases h' with
  |no=>simp
  |par h=>cases h
  |leaf l=>simp[lf]at l
 |par h =>
  subst h
  cases h' with
  |no h=>cases h
  |par=>simp
  |leaf l=>simp[lf]at l
 |leaf l =>
  cases h' with
  |no h=>subst h;simp[lf]at l
  |par h=>subst h;simp[lf]at l
  |leaf l'=>rw[l]at l';cases l';simp
theorem Bg.nw{c:Nat}{wt:List W4}{rd:List Nat}{R:List RE}{op:Nat}{a:List W4}{b:List Nat}{e:List RE}{o:Nat}{d:Bool}(h:Bg c wt rd R op a b e o d):c≠41/\c≠124/\c≠38:=by
 cases h with
 |no h=>omega
 |par h=>omega
 |leaf l=>refine⟨?_,?_,?_⟩ <;> (intro z;subst z;simp[lf]at l)
theorem jjq{w:BW}(h:w≠.beh):wc w=124\/wc w=38:=by cases w <;> first|exact .inl rfl|exact .inr rfl|exact absurd rfl h
theorem Sg.det{c:Nat}{wt:List W4}{rd:List Nat}{R:List RE}{op:Nat}{s:Bool}{a a':List W4}{b b':List Nat}{e e':List RE}{o o':Nat}{d d':Bool}(h:Sg c wt rd R op s a b e o d)(h':Sg c wt rd R op s a' b' e' o' d'):a=a'/\b=b'/\e=e'/\o=o'/\d=d':=by
 cases h with
 |shut h1 h2 B =>
  cases h' with
  |shut _ h3 B' =>
   obtain⟨x,y,z⟩:=B.det B'
   cases x
   exact⟨rfl,y,z,by omega,rfl⟩
  |word n1 n2 _=>have:=jjq n1;omega
  |more _ g=>exact absurd h1 g.nw.1
 |word n1 n2 B =>
  cases h' with
  |shut h1 _ _=>have:=jjq n1;omega
  |word n3 n4 B' =>
   rename_i w _ w' _
   have:w=w':=by cases w <;> cases w' <;> first|rfl|exact absurd rfl n1|exact absurd rfl n3|(have:wc _=wc _:=n2.symm.trans n4;simp[wc]at this)
   subst this
   obtain⟨x,y,z⟩:=B.det B'
   exact⟨by rw[x],y,z,rfl,rfl⟩
  |more _ g=>have:=jjq n1;have:=g.nw;omega
 |part g =>
  cases h' with
  |part g'=>exact g.det g'
 |more B g =>
  cases h' with
  |shut h1 _ _=>exact absurd h1 g.nw.1
  |word n1 n2 _=>have:=jjq n1;have:=g.nw;omega
  |more B' g' =>
   obtain⟨x,y,z⟩:=B.det B'
   subst x y z
   exact g.det g'
theorem Run.det{t:List Nat}{wt:List W4}{rd:List Nat}{R:List RE}{op:Nat}{s:Bool}{a a':List W4}{b b':List Nat}{e e':List RE}{o o':Nat}{d d':Bool}(h:Run t wt rd R op s a b e o d)(h':Run t wt rd R op s a' b' e' o' d'):a=a'/\b=b'/\e=e':=by
 induction h with
 |nil=>cases h';exact⟨rfl,rfl,rfl⟩
 |cons g _ ih =>
  cases h' with
  |cons g' h' =>
   obtain⟨x,y,z,u,v⟩:=g.det g'
   subst x y z u v
   exact ih h'
theorem Ren.tid{R0 R1:List RE}{t:List Nat}(n0:1<=R0.length)(n1:1<=R1.length)(ok0:okZ R0)(ok1:okZ R1)(h0:Ren R0 (R0.length-1) 0 t)(h1:Ren R1 (R1.length-1) 0 t){F G:List Row}(a:TidP (R0.map keyR) F)(b:TidP (R1.map keyR) G):F=G:=by
 obtain⟨wa,ra,Ra,Ma,fa,ja,runa,ma,_,_,la,ga,na,Ba⟩:=jm1 h0 [] [] [] 0 [] ⟨rfl,λx r e=>by simp at e⟩ (λ_ w0 hw0=>nomatch hw0)
 obtain⟨wb,rb,Rb,Mb,fb,jb,runb,mb,_,_,lb,gb,nb,Bb⟩:=jm1 h1 [] [] [] 0 [] ⟨rfl,λx r e=>by simp at e⟩ (λ_ w0 hw0=>nomatch hw0)
 have b1:=Ba 0 (by omega) [] [ja] Ma .nil
 have b2:=Bb 0 (by omega) [] [jb] Mb .nil
 obtain⟨x,y,z⟩:=runa.det runb
 subst x y z
 obtain⟨_,_,z⟩:=b1.det b2
 subst z
 obtain⟨hm,Hm⟩:=Hd.ex (jg2 λk r e=>(ma.at_ k r e).1)
 have t1:=ma.tid ok0.r (by omega) (by rw[show Ma.length-1=ja by omega,ga];omega) ⟨hm,Hm,rfl⟩
 have t2:=mb.tid ok1.r (by omega) (by rw[show Ma.length-1=jb by omega,gb];omega) ⟨hm,Hm,rfl⟩
 rw[TidP.one ok0.r (by rw[Ab];exact n0) a t1,TidP.one ok1.r (by rw[Ab];exact n1) b t2]
theorem jpr{R0 R1:List RE}(n0:1<=R0.length)(n1:1<=R1.length)(ok0:okZ R0)(ok1:okZ R1){F G:List Row}(a:TidP (R0.map keyR) F)(b:TidP (R1.map keyR) G):tx (TX R0) (R0.length-1)=tx (TX R1) (R1.length-1)↔F=G:=by
 constructor
 ·intro e
  have h0:=jk1 ok0 _ (show R0.length-1<R0.length by omega) 0 (A8 _)
  have h1:=jk1 ok1 _ (show R1.length-1<R1.length by omega) 0 (A8 _)
  rw[<-e]at h1
  exact Ren.tid n0 n1 ok0 ok1 h0 h1 a b
 ·rintro rfl
  obtain⟨rs,rfl,okr,nr⟩:=joh ok0 n0 a
  have:=(jkz ok0 okr n0 a).trans (jkz ok1 okr n1 b).symm
  unfold sg at this
  generalize tx (TX R0) (R0.length-1)=x at this
  generalize tx (TX R1) (R1.length-1)=y at this
  cases x;cases y
  simpa using this
theorem jq5{R0 R1:List RE}(n0:1<=R0.length)(n1:1<=R1.length)(ok0:okZ R0)(ok1:okZ R1){t:List Nat}(h:Ren R1 (R1.length-1) 0 t)(l:t.length<(tx (TX R0) (R0.length-1)).length){F G:List Row}(a:TidP (R0.map keyR) F)(b:TidP (R1.map keyR) G):F≠G:=λe=>by
 have:=(jpr n0 n1 ok0 ok1 a b).mpr e
 have h2:=h.min ok1 (by omega)
 have h3:=(jfx R1 (R1.length-1) 0).1
 rw[jcq,<-this]at h3
 omega
def spBe:Sp:=λvs H Q _=>∃(z:Str),vs=[.str z]/\z.length<=5000/\∀(p:Addr)(is:List Nat)(H':Hp),H' p=some (.lst (is.map fun(i:Nat)=>V.int (i:Int)))->(∀i∈is,z.cps.toList[i]?=some 40)->is.length<=3->H p=none->Kp [] H H'->Q (.ref p) H'
structure TBe(mg:Str->Option Value):Prop where
 n_enumerate:mg "enumerate"=none
theorem jrh(xs:List V):cutV xs (some (-3)) none=xs.drop (xs.length-3):=by
 unfold cutV
 have:HT.sIx xs.length 0 (some (-3))=xs.length-3:=by
  show(if(-3:Int)<0 then((-3:Int)+(xs.length:Int)).toNat else min (-3:Int).toNat xs.length)=_
  rw[Ak (by decide)]
  omega
 rw[this,HT.sIx_none]
 exact Oc (by rw[Wq];omega)
section
variable{P:Program}{w:World}{K:PySem.W.Frag}{mg:Str->Option Value}{base:Heap}
abbrev ye:Stmt:=top 37
theorem sc__law_begins:FnScope ["_law_text"] ["_law_text"] (jk ye):=⟨rfl,rfl,rfl,by decide +kernel,rfl,by decide +kernel,by decide +kernel⟩
theorem ok__law_begins{f:Addr}{fd:FuncData}(F:Fun K "_law_begins" "_law_begins" ye f fd)(T:TBe mg):FnOk P w K mg base CX0 1 f fd ["_law_text"] spBe:=by
 refine F.ok sc__law_begins (λvs H Q E h=>?_) (λcdv A outer s H vs Q E hr h=>?_)
 ·obtain⟨z,rfl,_⟩:=h
  rfl
 ·obtain⟨z,rfl,z9,k⟩:=h
  have hu:=hr.units
  have hsz:sizeLine=16777216:=Ar
  refine exQ (ji (ju (zd (jal (K:=K) rfl) (jas rfl (jda (sc:=jk ye) (N:=["_law_text"]) (Nc:=["_law_at","_law_sign"]) (js:=[none,none]) (by decide +kernel)) (jaw rfl T.n_enumerate (jc (qpv 0) jd)) (λ_ _ _ _=>(jbl (n:=2) rfl (zr (kh (i:=0) (show List.Nodup [("_law_at":Str),("_law_sign":Str)]from by decide +kernel) rfl (by first|exact Or.inl rfl|exact Or.inr rfl)) (zr (kh (i:=1) (show List.Nodup [("_law_at":Str),("_law_sign":Str)]from by decide +kernel) rfl (by first|exact Or.inl rfl|exact Or.inr rfl)) jbb)) (K:=K) rfl)) (λ_ _ _ _=>(jt (kz hu) (qpv 1) jn (jx _))) (λ_ _ _ _=>(qpv 0))) (y6 (ja3 jfj jg)) z7))) ?_
  simp!
  intro D hD
  have k0:Kp [] H (upd H D (.lst [])):=(Kp.refl [] H).new hD
  refine jn3 (λi σ H'=>∃(is:List Nat)(v0 v1:Option V),σ=[v0,v1]/\H' D=some (.lst (is.map fun(i:Nat)=>V.int (i:Int)))/\(∀j∈is,z.cps.toList[j]?=some 40)/\is.length<=i/\Kp [] H H') ⟨[],none,none,rfl,je,by simp,by simp,k0⟩ ?_ ?_
  ·rintro i σ H3 Tt hi ⟨is,v0,v1,rfl,h3,g3,l3,k3⟩ hTt
   refine⟨Tt,jdr z i,rfl,SqT.of je,rfl,⟨_,_,rfl,⟨_,_,rfl,rfl,?_⟩⟩⟩
   have k4:=k3.new (o:=.tup (jdr z i)) hTt
   have h4:upd H3 Tt (.tup (jdr z i)) D=some (.lst (is.map fun(i:Nat)=>V.int (i:Int))):=by rw[jf (jj h3 hTt)];exact h3
   generalize upd H3 Tt (.tup (jdr z i))=H4 at k4 h4⊢
   simp! [jd0,jec,h4]
   have hil:i<z.cps.toList.length:=by simpa[Str.length]using hi
   refine ite2 (λc=>?_) (λ_=>⟨is,_,_,⟨rfl,rfl⟩,rfl,g3,by omega,k4⟩)
   have hi9:i<5000:=by have:i<z.length:=hi;omega
   refine⟨by rw[Ab];omega,is++[i],_,_,⟨rfl,rfl⟩,by simp,λj hj=>?_,by simp;omega,k4.set h4 (.inr hD)⟩
   rcases A6.mp hj with hj|hj
   ·exact g3 j hj
   ·cases Ag.mp hj
    have c2:(sgn (z.cps.toList.getD i 0))=sgn 40:=c
    rw[jdd]at c2
    rw[Ai hil,<-c2,Ac,Ai hil];rfl
  ·rintro σ H3 ⟨is,v0,v1,rfl,h3,g3,l3,k3⟩
   refine rSlU.lst h3 λp hp=>?_
   rw[jrh,<-List.map_drop]
   exact k p (is.drop ((is.map fun(i:Nat)=>V.int (i:Int)).length-3)) _ je (λi hi=>g3 i (List.mem_of_mem_drop hi)) (by rw[Wq,Ab];omega) (k3.free hp) (k3.new hp)
def spPw:Sp:=λvs H Q _=>∃(z:Str)(x y u:List Nat),vs=[.str z,.int (x.length:Int)]/\z.cps.toList=x++40::(y++41::u)/\Lev y 0/\z.length<=5000/\∀(t:Str),t.cps.toList=x++(y++u)->Q (.str t) H
structure TPw(mg:Str->Option Value):Prop where
 n_int:mg "int"=none
abbrev ki:Stmt:=top 36
theorem yd:FnScope ["_law_text","_law_at","_law_waiting","_law_end"] ["_law_text","_law_at"] (jk ki):=⟨rfl,rfl,rfl,by decide +kernel,rfl,by decide +kernel,by decide +kernel⟩
theorem ok__law_without_pair{f:Addr}{fd:FuncData}(F:Fun K "_law_without_pair" "_law_without_pair" ki f fd)(T:TPw mg):FnOk P w K mg base CX0 1 f fd ["_law_text","_law_at"] spPw:=by
 refine F.ok yd (λvs H Q E h=>?_) (λcdv A outer s H vs Q E hr h=>?_)
 ·obtain⟨z,x,y,u,rfl,_⟩:=h
  rfl
 ·obtain⟨z,x,y,u,rfl,ez,lev,z9,k⟩:=h
  have hu:=hr.units
  have hsz:sizeLine=16777216:=Ar
  refine exQ (jh (jp (i:=2) yd.nd rfl (by first|exact Or.inl rfl|exact Or.inr rfl) jg)
  (jh (jp (i:=3) yd.nd rfl (by first|exact Or.inl rfl|exact Or.inr rfl) (qpv 1))
  (jh (jak Iq (jt ja6 (qpv 2) jg (jx _)) (jh (jp (i:=3) yd.nd rfl (by first|exact Or.inl rfl|exact Or.inr rfl) (jq j9 (qpv 3) jg))
  (ji (jp (i:=2) yd.nd rfl (by first|exact Or.inl rfl|exact Or.inr rfl) (jq zi (jq j9 (qpv 2) (kj ja0 (by rfl) T.n_int jaz (jc (zj (kz hu) (jr ix_U (qpv 0) (qpv 3) (λ_ _=>rfl)) jn (jx _)) jd))) (kj ja0 (by rfl) T.n_int jaz (jc (zj (kz hu) (jr ix_U (qpv 0) (qpv 3) (λ_ _=>rfl)) jn (jx _)) jd)))))))
  (ji (ju (jq j9 (jq j9 (zd (jal (K:=K) rfl) (qpv 0) z7 (y6 (qpv 1))) (zd (jal (K:=K) rfl) (qpv 0) (y6 (jq j9 (qpv 1) jg)) (y6 (qpv 3)))) (zd (jal (K:=K) rfl) (qpv 0) (y6 (jq j9 (qpv 3) jg)) z7))))))) ?_
  simp!
  have zl:z.cps.toList.length=z.length:=by simp[Str.length]
  have ll:z.length=x.length+y.length+u.length+2:=by rw[<-zl,ez];simp;omega
  refine⟨λm σ H'=>H=H'/\∃(wt e:Nat),σ=[some (.str z),some (.int (x.length:Int)),some (.int (wt:Int)),some (.int (e:Int))] /\
   ((wt=0/\e=x.length+y.length+1)\/∃(n:Nat)(r:List Nat),wt=n+1/\Lev r n/\e+r.length=x.length+y.length/\m=r.length+1/\z.cps.toList.drop (e+1)=r++41::u),⟨y.length+1,rfl,1,x.length,rfl,.inr ⟨0,y,rfl,lev,rfl,rfl,?_⟩⟩,?_⟩
  ·rw[ez,show x++40::(y++41::u)=(x++[40])++(y++41::u)by simp,show x.length+1=(x++[40]).length by simp,List.drop_left]
  ·rintro m _ _ ⟨rfl,wt,e,rfl,hw⟩
   simp!
   refine ite2 (λc=>?_) (λc=>?_)
   ·have c:0<wt:=by simpa using c
    rcases hw with⟨rfl,_⟩|⟨n,r,rfl,lv,le,rfl,dr⟩
    ·omega
    have hc:∀(c:Nat)(t:List Nat),r++41::u=c::t->atI z.cps.toList ((e:Int)+1)=some c/\z.cps.toList.drop (e+1+1)=t:=λc t ht=>by
     rw[ht]at dr
     have h0:z.cps.toList[e+1]?=some c:=by
      have:(z.cps.toList.drop (e+1))[0]?=some c:=by rw[dr];rfl
      rwa[List.getElem?_drop]at this
     exact⟨jdf (j:=e+1) h0,by rw[<-List.drop_drop,dr];rfl⟩
    have s1:∀c,(if(⟨#[c]⟩:Str)=Str.ofString "("then(1:Int)else 0)=if c=40 then 1 else 0:=λc=>by
     have:((⟨#[c]⟩:Str)=Str.ofString "(")↔c=40:=jdd c 40
     simp only[this]
    have s2:∀c,(if(⟨#[c]⟩:Str)=Str.ofString ")"then(1:Int)else 0)=if c=41 then 1 else 0:=λc=>by
     have:((⟨#[c]⟩:Str)=Str.ofString ")")↔c=41:=jdd c 41
     simp only[this]
    refine⟨_,λσ' H' h=>h,by omega,?_⟩
    simp only[s1,s2]
    cases lv with
    |nil =>
     obtain⟨h1,h2⟩:=hc 41 u rfl
     refine⟨41,h1,by omega,41,h1,0,by simp,trivial,0,e+1,by simp,.inl ⟨rfl,?_⟩⟩
     simp at le;omega
    |@opn r _ lv =>
     obtain⟨h1,h2⟩:=hc 40 (r++41::u) rfl
     refine⟨40,h1,by omega,40,h1,r.length+1,by simp,trivial,n+1+1,e+1,by simp,.inr ⟨n+1,rfl,r,lv,?_,rfl,h2⟩⟩
     simp at le;omega
    |@shut r n lv =>
     obtain⟨h1,h2⟩:=hc 41 (r++41::u) rfl
     refine⟨41,h1,by omega,41,h1,r.length+1,by simp,trivial,n+1,e+1,by simp,.inr ⟨n,rfl,r,lv,?_,rfl,h2⟩⟩
     simp at le;omega
    |@sign c r _ c0 c1 lv =>
     obtain⟨h1,h2⟩:=hc c (r++41::u) rfl
     refine⟨c,h1,by omega,c,h1,r.length+1,by simp,trivial,n+1,e+1,by simp[c0,c1],.inr ⟨n,rfl,r,lv,?_,rfl,h2⟩⟩
     simp at le;omega
   ·have c:wt=0:=by simpa using c
    subst c
    rcases hw with⟨_,rfl⟩|⟨n,r,z,_⟩
    ·have i1:HT.sIx z.length z.length (some (x.length:Int))=x.length:=by rw[HT.sIx_nat];omega
     have i2:HT.sIx z.length 0 (some ((x.length:Int)+1))=x.length+1:=by rw[show((x.length:Int)+1)=((x.length+1:Nat):Int)by omega,HT.sIx_nat];omega
     have i3:HT.sIx z.length z.length (some ((x.length+y.length+1:Nat):Int))=x.length+y.length+1:=by rw[HT.sIx_nat];omega
     have i4:HT.sIx z.length 0 (some (((x.length+y.length+1:Nat):Int)+1))=x.length+y.length+2:=by rw[show(((x.length+y.length+1:Nat):Int)+1)=((x.length+y.length+2:Nat):Int)by omega,HT.sIx_nat];omega
     have c1:(cutS z none (some (x.length:Int))).cps.toList=x:=by
      unfold cutS
      rw[i1,HT.sIx_none,ez]
      simp
     have c2:(cutS z (some ((x.length:Int)+1)) (some ((x.length+y.length+1:Nat):Int))).cps.toList=y:=by
      unfold cutS
      rw[i2,i3,ez,show x++40::(y++41::u)=(x++[40])++(y++41::u)by simp,show x.length+1=(x++[40]).length by simp,List.drop_left]
      show(List.take _ (y++41::u))=y
      have e9:x.length+y.length+1-(x++[40]).length=y.length:=by simp
      rw[e9,List.take_left]
     have c3:(cutS z (some (((x.length+y.length+1:Nat):Int)+1)) none).cps.toList=u:=by
      unfold cutS
      rw[i4,HT.sIx_none,ez,show x++40::(y++41::u)=(x++40::(y++[41]))++u by simp,show x.length+y.length+2=(x++40::(y++[41])).length by simp;omega,List.drop_left]
      show List.take _ u=u
      exact Oc (by simp;omega)
     have lc:∀t:Str,t.length=t.cps.toList.length:=λt=>by simp[Str.length]
     refine⟨by omega,by omega,by rw[lc,lc,c1,c2];omega,by omega,by rw[jqp,lc,lc,lc,c1,c2,c3];omega,k _ ?_⟩
     rw[jlk,jlk,c1,c2,c3];simp
    ·omega
end
theorem LB.bd{rs:List RE}{L:Nat->Nat}(lb:LB rs L)(ok:okZ rs)(k:Nat):(tx (TX rs) k).length<=5000:=by
 by_cases c:k<rs.length
 ·have:=lb.txl ok k c
  have:=lb.le k
  rw[jcq]at *
  omega
 ·unfold tx
  rw[Oh (by rw[jgm];omega)]
  exact A8 _
theorem jr8{rs rs':List RE}{L:Nat->Nat}(lb:LB rs L)(ok:okZ rs)(ok':okZ rs')(n1:1<=rs.length)(n2:1<=rs'.length)(n9:rs'.length<=1000)(t:TidP (rs.map keyR) (rs'.map keyR)):Wr4 rs'.length (λk=>pcs rs' (rs'.getD k .nothing)) (TX rs'):=by
 refine jpq ok'.ok n2 n9 λk=>?_
 by_cases c:k<rs'.length
 ·obtain⟨v,_,e⟩:=(jmc ok ok' n1 t).2 k c
  have:=lb.bd ok v
  rw[<-jcq,<-e,jcq]
  omega
 ·unfold tx
  rw[Oh (by rw[jgm];omega)]
  exact A8 _
theorem jpd{H:Hp}{us:List V}{rs:List RE}(h:RowsT H us (rs.map keyR))(ok:okZ rs):Exp H us rs:=by
 refine⟨?_,ok⟩
 clear ok
 generalize e:rs.map keyR=R at h
 induction h generalizing rs with
 |nil=>cases rs with
  |nil=>exact .nil
  |cons _ _=>cases e
 |cons h _ ih =>
  cases rs with
  |nil=>cases e
  |cons r rs =>
   simp only[Ay,W5]at e
   obtain⟨a,e1,h⟩:=h
   exact .cons ⟨a,e1,by rw[<-jgz,e.1];exact h⟩ (ih e.2)
theorem Exp.rows{H:Hp}{us:List V}{rs:List RE}(E:Exp H us rs):RowsT H us (rs.map keyR):=RowE.rowsT E.at_
theorem Ren.cnt{R:List RE}{i b:Nat}{t:List Nat}(h:Ren R i b t):PyProof.Rows.cnt 40 t=PyProof.Rows.cnt 41 t:=by
 induction h with
 |@leaf i b c r e l =>
  have hc:c≠40/\c≠41:=by
   refine⟨?_,?_⟩ <;> (intro z;subst z;simp[lf]at l)
  rw[Iy,Iy,Ae hc.1,Ae hc.2];rfl
 |no _ _ _ ih=>rw[Iy,Iy,Ae (by omega),Ae (by omega),ih]
 |@op i b j k w t u _ _ _ _ ih1 ih2 =>
  rw[Oq,Oq,Oq,Oq,ih1,ih2]
  cases w <;> rfl
 |par _ ih =>
  rw[Iy,Iy,Oq,Oq,ih,Iy,Iy]
  simp[PyProof.Rows.cnt_nil]
  omega
theorem jrg{z:Str}{hi:Option Int}{i c:Nat}(h:(cutS z none hi).cps.toList[i]?=some c):z.cps.toList[i]?=some c:=by
 unfold cutS at h
 rw[HT.sIx_none]at h
 simp only[List.drop_zero,Nat.sub_zero]at h
 rw[List.getElem?_take]at h
 split at h
 ·exact h
 ·cases h
theorem jos(z:Str)(lo hi:Option Int):(cutS z lo hi).length<=z.length:=by
 rw[<-jho];exact Txt.slice_le _ _ _
def spR3(Pt:Addr):Sp:=λvs H Q _=>∃(a:Addr)(us:List V)(rs:List RE)(L:Nat->Nat),vs=[.ref a]/\H a=some (.tup us)/\Exp H us rs/\LB rs L/\1<=rs.length/\rs.length<=60/\TabOk H Pt LQ/\∀H',Kp [Pt] H H'->TabOk H' Pt LQ->Q (.bl true) H'
structure TR3(K:PySem.W.Frag)(mg:Str->Option Value)(fy fs fr ft fb fw:Addr):Prop where
 n_len:mg "len"=none
 n_isinstance:mg "isinstance"=none
 n_str:mg "str"=none
 ss:PySem.W.kitOne K (.type "str") (.type "str")=some true
 m3z:mg "_law_tidy"=some (.ref fy)
 m2z:mg "show_expression"=some (.ref fs)
 m12z:mg "read_expression"=some (.ref fr)
 m5z:mg "tidied"=some (.ref ft)
 m13z:mg "_law_begins"=some (.ref fb)
 m20z:mg "_law_without_pair"=some (.ref fw)
section
variable{P:Program}{w:World}{K:PySem.W.Frag}{mg:Str->Option Value}{base:Heap}
abbrev yv:Stmt:=top 38
theorem zp:FnScope ["_law_rows","_law_due","_law_text","_law_at"] ["_law_rows"] (jk yv):=⟨rfl,rfl,rfl,by decide +kernel,rfl,by decide +kernel,by decide +kernel⟩
theorem ok__law_right{f fy fs fr ft fb fw Pt:Addr}{fd fdy fds fdr fdt fdb fdw:FuncData}(F:Fun K "_law_right" "_law_right" yv f fd)(T:TR3 K mg fy fs fr ft fb fw)
  (F3z:Fun K "_law_tidy" "_law_tidy" yo fy fdy) (b3z:Binds K fdy ["_law_rows"] []) (G3z:FnOk P w K mg base CX0 62 fy fdy ["_law_rows"] spTd)
  (F2z:Fun K "show_expression" "show_expression" kc fs fds) (b2z:Binds K fds ["expression"] []) (G2z:FnOk P w K mg base CX0 6 fs fds ["expression"] (spSE Pt))
  (F12z:Fun K "read_expression" "read_expression" ku fr fdr) (b12z:Binds K fdr ["text"] []) (G12z:FnOk P w K mg base CX0 5 fr fdr ["text"] spRx)
  (F5z:Fun K "tidied" "tidied" zk ft fdt) (b5z:Binds K fdt ["expression"] []) (G5z:FnOk P w K mg base CX0 4 ft fdt ["expression"] (spIO K))
  (F13z:Fun K "_law_begins" "_law_begins" ye fb fdb) (b13z:Binds K fdb ["_law_text"] []) (G13z:FnOk P w K mg base CX0 1 fb fdb ["_law_text"] spBe)
  (F20z:Fun K "_law_without_pair" "_law_without_pair" ki fw fdw) (b20z:Binds K fdw ["_law_text","_law_at"] []) (G20z:FnOk P w K mg base CX0 1 fw fdw ["_law_text","_law_at"] spPw):FnOk P w K mg base CX0 63 f fd ["_law_rows"] (spR3 Pt):=by
 refine F.ok zp (λvs H Q E h=>?_) (λcdv A outer s H vs Q E hr h=>?_)
 ·obtain⟨a,us,rs,L,rfl,_⟩:=h
  rfl
 ·obtain⟨a,us,rs,L,rfl,ha,ex,lb,n1,n9,tb,k⟩:=h
  have hu:=hr.units
  have hsz:sizeLine=16777216:=Ar
  have ok:okZ rs:=ex.ok
  have ul:=ex.len
  have rn:Ren rs (rs.length-1) 0 (tx (TX rs) (rs.length-1)).cps.toList:=jk1 ok _ (by omega) 0 (A8 _)
  have tl:=lb.bd ok (rs.length-1)
  have wr:=lb.wr ok n1 (by omega)
  refine exQ (jh (jp (i:=1) zp.nd rfl (by first|exact Or.inl rfl|exact Or.inr rfl) (jm G3z (hr.mono (by decide)) rfl T.m3z F3z.kp b3z .nil jo (jc (qpv 0) jd)))
  (jh (jp (i:=2) zp.nd rfl (by first|exact Or.inl rfl|exact Or.inr rfl) (jm G2z (hr.mono (by decide)) rfl T.m2z F2z.kp b2z .nil jo (jc (qpv 0) jd)))
  (yr (j0 (QW.pt (jaq (jae (za (jy (yp (K:=K) rfl) (by rfl) T.n_isinstance zf (jc (qpv 2) (jc (jaf (v:=.ty "str") rfl T.n_str jbv rfl) jd))))) (jaq (jt (jb9 (K:=K) rfl hu) (jm G12z (hr.mono (by decide)) rfl T.m12z F12z.kp b12z .nil jo (jc (qpv 2) jd)) (qpv 1) (jx _)) (jar (jt (jb9 (K:=K) rfl hu) (jm G5z (hr.mono (by decide)) rfl T.m5z F5z.kp b5z .nil jo (jc (qpv 0) jd)) (qpv 1) (jx _)))))) (ji (ju z4)) j6)
  (yr (j0 (QW.pt (jaq (jt (jbd hu) (jm G2z (hr.mono (by decide)) rfl T.m2z F2z.kp b2z .nil jo (jc (qpv 1) jd)) (qpv 2) (jx _)) (jar (jt (jbd hu) (ja7 Wo PySem.F.type_str_count jbp (qpv 2) (jc jn jd) jcl) (ja7 Wo PySem.F.type_str_count jbp (qpv 2) (jc jn jd) jcl) (jx _))))) (ji (ju z4)) j6)
  (jh (zu Iq rfl (zt (K:=K) (jq j9 (jm G13z (hr.mono (by decide)) rfl T.m13z F13z.kp b13z .nil jo (jc (qpv 2) jd)) (jm G13z (hr.mono (by decide)) rfl T.m13z F13z.kp b13z .nil jo (jc (zd (jal (K:=K) rfl) (qpv 2) z7 (y6 (jq j9 (ja7 PySem.F.slot_str_find PySem.F.type_str_find mt_findU (qpv 2) (jc jn jd) jcl) jg))) jd))) rfl) (kh (i:=3) zp.nd rfl (by first|exact Or.inl rfl|exact Or.inr rfl)) (ji (j0 (QW.pt (jb7 (jt jbx (jy ka (by rfl) T.n_len ky (jc (qpv 2) jd)) jg (jx _)) (jb1 (jt (jbw (K:=K) rfl hu) (jm G12z (hr.mono (by decide)) rfl T.m12z F12z.kp b12z .nil jo (jc (jm G20z (hr.mono (by decide)) rfl T.m20z F20z.kp b20z .nil jo (jc (qpv 2) (jc (qpv 3) jd))) jd)) (qpv 1) (jx _))))) (ji (ju z4)) j6)))
  (ji (ju (zj (jbw (K:=K) rfl hu) (jm G12z (hr.mono (by decide)) rfl T.m12z F12z.kp b12z .nil jo (jc (qpv 2) jd)) (qpv 1) (jx _))))))))) ?_
  simp!
  refine⟨a,us,rs,rfl,ha,ex,n1,n9,λq us' F1 H1 tp sh hq rt k1=>?_⟩
  obtain⟨rs',ef,ok',n1'⟩:=joh ok n1 tp
  subst ef
  refine⟨a,us,rs,TX rs,rfl,k1.tup _ _ ha,ex.kp k1,tb.kp k1 (by simp) (by simp),wr,λH2 k2 tb2=>?_⟩
  obtain⟨Z,hZ⟩:∃Z,Z=tx (TX rs) (rs.length-1):=⟨_,rfl⟩
  rw[<-hZ]at rn tl⊢
  obtain⟨J1,hJ1⟩:∃J:L2.St->Hp->Prop,J=λσ H'=>σ=[some (.ref a),some (.ref q),some (.str Z),none]/\Kp [] H2 H':=⟨_,rfl⟩
  have okr:=ok.r
  have ln':rs'.length<=rs.length:=by have:=(tp.shp ok n1).2;rwa[Ab]at this
  have rd:∀(H':Hp),Kp [Pt] H1 H'->∀(Q':V->Hp->Prop),(∀q1 us3 H3,SqT K H3 q1 us3->Reps H3 us3 ((rs'.map keyR).map rowD)->Kp [] H' H3->Q' (.ref q1) H3)->spRx [.str Z] H' Q' E0:=λH' kk Q' hq'=>by
   refine⟨Z,rs,rfl,rn,by omega,n1,okr,λq1 us3 F3 H3 tp3 hq3 fz3 rt3 k3=>?_⟩
   have e3:=TidP.one okr (by rw[Ab];exact n1) tp3 tp
   subst e3
   exact hq' q1 us3 H3 fz3.sq (jc2 rt3) k3
  have dq:∀{H':Hp},Kp [Pt] H1 H'->SqT K H' q us'/\Reps H' us' ((rs'.map keyR).map rowD):=λkk=>⟨SqT.of (kk.tup _ _ hq),jc2 (rt.kp kk)⟩
  have sr:=jdt sh
  have eqr:PyData.eqvAll ((rs'.map keyR).map rowD) ((rs'.map keyR).map rowD)=true:=by rw[jeo];exact decide_eq_true rfl
  refine⟨J1,?_,?_⟩
  ·simp!
   refine⟨_,.str _,_,T.ss,?_⟩
   rw[Ae (by simp)]
   refine rd H2 k2 _ λq1 us3 H3 s3 r3 k3=>?_
   have kk3:Kp [Pt] H1 H3:=k2.trans (k3.mono (by simp))
   refine⟨q1,q,us3,us',_,_,rfl,rfl,s3,(dq kk3).1,r3,(dq kk3).2,sr,sr,_,rfl,?_⟩
   rw[eqr,Ae (by simp)]
   have kk:Kp [Pt] H H3:=(k1.mono (by simp)).trans kk3
   have exr:=(ex.kp kk).rows
   refine⟨a,us,rs.map keyR,rfl,SqT.of (kk.tup _ _ ha),exr,okr,λr hr=>?_,by rw[Ab];exact n1,by rw[Ab];omega,λq2 us4 F4 H4 tp4 hq4 fz4 rt4 k4=>?_⟩
   ·obtain⟨e,_,rfl⟩:=A4.mp hr
    cases e <;> simp[keyR]
   have e4:=TidP.one okr (by rw[Ab];exact n1) tp4 tp
   subst e4
   have kk4:Kp [Pt] H1 H4:=kk3.trans (k4.mono (by simp))
   refine⟨q2,q,us4,us',_,_,rfl,rfl,fz4.sq,(dq kk4).1,jc2 rt4,(dq kk4).2,sr,sr,_,rfl,?_⟩
   rw[eqr,Ae (by simp),hJ1]
   exact⟨rfl,k3.trans k4⟩
  intro σ H3 hj
  rw[hJ1]at hj
  obtain⟨rfl,k3⟩:=hj
  have tb3:=tb2.kp k3 (by simp) (by simp)
  have kk3:Kp [Pt] H1 H3:=k2.trans (k3.mono (by simp))
  obtain⟨J2,hJ2⟩:∃J:L2.St->Hp->Prop,J=λσ H'=>σ=[some (.ref a),some (.ref q),some (.str Z),none]/\Kp [Pt] H3 H'/\TabOk H' Pt LQ:=⟨_,rfl⟩
  refine⟨J2,?_,?_⟩
  ·simp!
   refine⟨q,us',rs',TX rs',rfl,kk3.tup _ _ hq,jpd (rt.kp kk3) ok',tb3,jr8 lb ok ok' n1 n1' (by omega) tp,λH4 k4 tb4=>?_⟩
   have e4:tx (TX rs') (rs'.length-1)=Z:=by
    have:=jkz ok ok' n1 tp
    rw[hZ]
    unfold sg at this
    generalize tx (TX rs) (rs.length-1)=x at this
    generalize tx (TX rs') (rs'.length-1)=y at this
    cases x;cases y
    simpa using this.symm
   rw[e4]
   simp!
   rw[Ae (by simp)]
   refine⟨40,rfl,41,rfl,?_⟩
   rw[PyProof.Rows.count_cnt,PyProof.Rows.count_cnt,rn.cnt,Ae (by simp),hJ2]
   exact⟨rfl,k4,tb4⟩
  intro σ H4 hj
  rw[hJ2]at hj
  obtain⟨rfl,k4,tb4⟩:=hj
  have kk4:Kp [Pt] H1 H4:=kk3.trans k4
  simp!
  refine⟨Z,rfl,tl,λp1 is1 H5 hp1 g1 l1 hn1 k5=>?_⟩
  refine⟨40,rfl,by omega,_,rfl,?_,λp2 is2 H6 hp2 g2 l2 hn2 k6=>?_⟩
  ·have:=jos Z none (some (plc Z.cps.toList 40+1))
   omega
  refine rAddW.lst (k6.old _ _ hp1 Aq) hp2 (by rw[Ab,Ab];omega) λp3 hp3=>?_
  have k7:Kp [Pt] H4 (upd H6 p3 (.lst ((is1.map fun(i:Nat)=>V.int (i:Int))++is2.map fun(i:Nat)=>V.int (i:Int)))):=((k5.trans k6).new hp3).mono (by simp)
  have tb7:=tb4.kp ((k5.trans k6).new (o:=.lst ((is1.map fun(i:Nat)=>V.int (i:Int))++is2.map fun(i:Nat)=>V.int (i:Int))) hp3) (by simp) (by simp)
  have e7:upd H6 p3 (.lst ((is1.map fun(i:Nat)=>V.int (i:Int))++is2.map fun(i:Nat)=>V.int (i:Int))) p3=some (.lst ((is1.map fun(i:Nat)=>V.int (i:Int))++is2.map fun(i:Nat)=>V.int (i:Int))):=je
  generalize upd H6 p3 (.lst ((is1.map fun(i:Nat)=>V.int (i:Int))++is2.map fun(i:Nat)=>V.int (i:Int)))=H7 at k7 tb7 e7⊢
  dsimp only
  rw[e7]
  refine je7 (xs:=(is1.map fun(i:Nat)=>V.int (i:Int))++is2.map fun(i:Nat)=>V.int (i:Int)) (λi σ H'=>∃v3,σ=[some (.ref a),some (.ref q),some (.str Z),v3]/\Kp [] H7 H') ⟨none,rfl,Kp.refl _ _⟩ ?_ ?_ ?_
  ·rintro i σ H' _ ⟨v3,rfl,k8⟩
   exact k8.old _ _ e7 Aq
  ·rintro i x σ H8 hx ⟨v3,rfl,k8⟩
   obtain⟨j,rfl,hj⟩:∃j:Nat,x=V.int (j:Int)/\Z.cps.toList[j]?=some 40:=by
    rcases A6.mp (A5 hx)with h|h
    ·obtain⟨j,hj,rfl⟩:=A4.mp h
     exact⟨j,rfl,g1 j hj⟩
    ·obtain⟨j,hj,rfl⟩:=A4.mp h
     exact⟨j,rfl,jrg (g2 j hj)⟩
   obtain⟨jl,ej⟩:=Aj.mp hj
   have eZ:Z.cps.toList=Z.cps.toList.take j++40::Z.cps.toList.drop (j+1):=by
    rw[<-ej,<-List.drop_eq_getElem_cons jl,Uq]
   have lj:(Z.cps.toList.take j).length=j:=by rw[Om];omega
   have ac:=rn.first 0 true
   rw[eZ]at ac
   obtain⟨y,u,ey,lv,ac2⟩:=joo ac
   rw[ey]at eZ
   obtain⟨R1,okR1,nR1,rnR1⟩:=jp8 ac2
   simp!
   refine⟨by omega,ite2 (λ_=>?_) (λ_=>k8)⟩
   refine⟨Z,Z.cps.toList.take j,y,u,by rw[lj],eZ,lv,tl,λt et=>?_⟩
   rw[<-et]at rnR1
   have lt:t.length+2=Z.length:=by
    have l1:t.length=t.cps.toList.length:=by simp[Str.length]
    have l2:Z.length=Z.cps.toList.length:=by simp[Str.length]
    rw[l1,l2,eZ,et]
    simp
    omega
   refine⟨t,R1,rfl,rnR1,by omega,nR1,okR1.r,λq1 us3 F3 H9 tp3 hq3 fz3 rt3 k9=>?_⟩
   have kk9:Kp [Pt] H1 H9:=((kk4.trans k7).trans (k8.mono (by simp))).trans (k9.mono (by simp))
   have ne:=jq5 n1 nR1 ok okR1 (t:=t.cps.toList) rnR1 (by rw[<-hZ];have:t.cps.toList.length=t.length:=(by simp[Str.length]);omega) tp tp3
   have sh3:=(tp3.shp okR1 nR1).1
   refine⟨q1,q,us3,us',_,_,rfl,rfl,fz3.sq,(dq kk9).1,jc2 rt3,(dq kk9).2,jdt sh3,sr,_,rfl,?_⟩
   rw[jeo,Ii (λe=>ne e.symm),Ae (by simp)]
   exact k8.trans k9
  ·rintro σ H8 ⟨v3,rfl,k8⟩
   simp!
   have kk8:Kp [Pt] H1 H8:=(kk4.trans k7).trans (k8.mono (by simp))
   refine rd H8 kk8 _ λq1 us3 H9 s9 r9 k9=>?_
   have kk9:Kp [Pt] H1 H9:=kk8.trans (k9.mono (by simp))
   refine⟨q1,q,us3,us',_,_,rfl,rfl,s9,(dq kk9).1,r9,(dq kk9).2,sr,sr,?_⟩
   rw[eqr]
   exact k _ ((k1.mono (by simp)).trans kk9) (tb7.kp (k8.trans k9) (by simp) (by simp))
end
structure SB(H:Hp)(b:Addr)(H':Hp):Prop where
 kp:Kp [b] H H'
 bx:∃o,H' b=some o/\BoxO o
theorem SB.take{H H':Hp}{b:Addr}{o1:HO}(h:SB H b H')(ho1:BoxO o1):SB H b (upd H' b o1):=by
 obtain⟨kp,o,hb,ho⟩:=h
 obtain⟨xs,rfl⟩:=ho.lst
 exact⟨kp.set hb (.inl (.head _)),o1,je,ho1⟩
theorem SB.new{H H':Hp}{b p:Addr}{x:HO}(h:SB H b H')(hp:H' p=none):SB H b (upd H' p x):=by
 obtain⟨kp,o,hb,ho⟩:=h
 exact⟨kp.new hp,o,by rw[jf (jj hb hp)];exact hb,ho⟩
theorem SB.trans{H H' H2:Hp}{b:Addr}(h:SB H b H')(k:SB H' b H2):SB H b H2:=⟨h.kp.trans k.kp,k.bx⟩
theorem SB.tq{H H':Hp}{b:Addr}(h:SB H b H'){w:Int}(w0:0<w)(w1:w<1073741824){Q:VK}{E:XK}(q:∀d H2,0<=d->d<w->SB H b H2->Kp [b] H' H2->Q (.int d) H2):jde [.ref b,.int w] H' Q E:=by
 obtain⟨o,hb,ho⟩:=h.bx
 refine⟨b,w,o,rfl,hb,ho,w0,w1,λd o' d0 d1 ho'=>q d _ d0 d1 (h.take ho') ?_⟩
 obtain⟨xs,rfl⟩:=ho.lst
 exact(Kp.refl [b] H').set hb (.inl (.head _))
theorem SB.ne{H H':Hp}{b p:Addr}(h:SB H b H')(hp:H' p=none):p≠b:=by
 obtain⟨o,hb,_⟩:=h.bx
 exact(jj hb hp).symm
theorem jgn{l:List V}{M:V->Prop}(h:∀v∈l,M v){d:Int}(d0:0<=d)(d1:d<(l.length:Int)):∃v,atI l d=some v/\M v:=by
 have hd:d.toNat<l.length:=by omega
 exact⟨l[d.toNat],jcg d0 (Ai hd),h _ (Iu hd)⟩
def DR(rs:List RE):Prop:=rs.length<=8\/(CH rs/\rs.length<=50)
def LG(rs:List RE)(i k:Nat):Nat:=if 100<=k then 0 else if jck (rs.getD k (.no 0))then 7 else if k<i then 14*k+7 else 14*k+14*i+21
theorem jpp(rs:List RE){i:Nat}(hi:i<60)(k:Nat):LG rs i k<=14*k+14*i+21/\LG rs i k<=5000/\(k<i->LG rs i k<=14*k+7):=by
 unfold LG
 split
 ·omega
 ·split
  ·omega
  ·split <;> omega
theorem jmw{rs:List RE}(ch:CH rs)(h:rs.length<=50){i:Nat}(hi:i<rs.length){r':RE}(ok:r'.okz i)(lf:jck (rs.getD i (.no 0))->jck r')(nl:¬jck (rs.getD i (.no 0))->¬jck r'):LB (rs.set i r') (LG (rs.set i r') i):=by
 have i6:i<60:=by omega
 refine⟨λk r e=>?_,λk=>(jpp _ i6 k).2.1⟩
 have kl:=(Aj.mp e).1
 rw[U1]at kl
 have ed:(rs.set i r').getD k (.no 0)=r:=by rw[Ac,e];rfl
 have n1:¬100<=k:=by omega
 have le:=jpp (rs.set i r') i6
 have leaf:jck r->LG (rs.set i r') i k=7:=λq=>by unfold LG;rw[Ae n1,ed,Ak q]
 have inner:¬jck r->LG (rs.set i r') i k=if k<i then 14*k+7 else 14*k+14*i+21:=λq=>by unfold LG;rw[Ae n1,ed,Ae q]
 by_cases c:k=i
 ·subst c
  have er:r=r':=by rw[Um hi]at e;cases e;rfl
  subst er
  cases r with
  |no j =>
   have hj:j<k:=ok
   have:=inner id
   rw[Ae (by omega)]at this
   have:=(le j).2.2 hj
   show LG _ k j+7<=LG _ k k
   omega
  |bin w a b =>
   have:=inner id
   rw[Ae (by omega)]at this
   have h1:a<k:=ok.1
   have h2:b<k:=ok.2
   have:=(le a).2.2 h1
   have:=(le b).2.2 h2
   show LG _ k a+LG _ k b+7<=LG _ k k
   omega
  |nothing=>show 7<=LG _ k k;have:=leaf trivial;omega
  |blank=>show 7<=LG _ k k;have:=leaf trivial;omega
  |letter a=>show 7<=LG _ k k;have:=leaf trivial;omega
 ·have er:rs[k]?=some r:=by rw[Uu (λz=>c z.symm)]at e;exact e
  have lv:∀j,jck (rs.getD j (.no 0))->jck ((rs.set i r').getD j (.no 0)):=λj q=>by
   by_cases cj:j=i
   ·subst cj
    rw[Ac,Um hi]
    exact lf q
   ·rw[Ac,Uu (λz=>cj z.symm),<-Ac]
    exact q
  rcases ch k r er with q|⟨q1,rfl⟩|⟨q1,q2,w,q3⟩
  ·have:=leaf q
   cases r with
   |no j=>exact absurd q id
   |bin w a b=>exact absurd q id
   |nothing=>show 7<=LG _ i k;omega
   |blank=>show 7<=LG _ i k;omega
   |letter a=>show 7<=LG _ i k;omega
  ·have h1:=inner id
   have h2:=le (k-1)
   show LG _ i (k-1)+7<=LG _ i k
   by_cases ck:k<i
   ·rw[Ak ck]at h1
    have:=h2.2.2 (by omega)
    omega
   ·rw[Ae ck]at h1
    omega
  ·have e1:LG (rs.set i r') i (k-1)=7:=by unfold LG;rw[Ae (by omega),Ak (lv _ q2)]
   have h2:=le (k-2)
   have fin:LG (rs.set i r') i (k-2)+14<=LG (rs.set i r') i k:=by
    have h1:=inner (by rcases q3 with rfl|rfl <;> exact id)
    by_cases ck:k<i
    ·rw[Ak ck]at h1
     have:=h2.2.2 (by omega)
     omega
    ·rw[Ae ck]at h1
     omega
   rcases q3 with rfl|rfl
   ·show LG _ i (k-2)+LG _ i (k-1)+7<=LG _ i k
    omega
   ·show LG _ i (k-1)+LG _ i (k-2)+7<=LG _ i k
    omega
theorem ok_set{rs:List RE}(ok:okZ rs){i:Nat}{r':RE}(h:r'.okz i):okZ (rs.set i r'):=λk r e=>by
 rw[List.getElem?_set]at e
 split at e
 ·rename_i c
  subst c
  split at e
  ·cases e;exact h
  ·cases e
 ·exact ok k r e
theorem Exp.set{H:Hp}{us:List V}{rs:List RE}(E:Exp H us rs){i:Nat}{r':RE}{t:Addr}(h:r'.okz i)(ht:H t=some (.tup (jcf r'))):Exp H (us.set i (.ref t)) (rs.set i r'):=by
 refine⟨?_,ok_set E.ok h⟩
 have:=E.at_
 clear E h
 induction this generalizing i with
 |nil=>simp;exact .nil
 |cons h1 h2 ih =>
  cases i with
  |zero=>exact .cons ⟨t,rfl,ht⟩ h2
  |succ i=>exact .cons h1 ih
theorem jik{α:Type}[DecidableEq α]:∀{l m:List α},l.Nodup->(∀x∈l,x∈m)->l.length<=m.length
 |[],_,_,_=>A8 _
 |a::l,m,nd,h=>by
  have nd:=O8.mp nd
  have hm:=h a (.head _)
  have:=jik (m:=m.erase a) nd.2 λx hx=>(List.mem_erase_of_ne (fun(e:x=a)=>nd.1 (e▸hx))).mpr (h x (.tail _ hx))
  rw[List.length_erase_of_mem hm]at this
  have:=List.length_pos_of_mem hm
  simp;omega
theorem jqi{n x:Nat}(hx:x<n):ixN n (x:Int)=some x:=by
 unfold ixN
 rw[Ak (by omega),Ak (by omega)]
 rfl
structure Cw(H:Hp)(b l c:Addr)(us row:List V)(ts:List (Addr×RE))(H':Hp):Prop where
 sb:SB H b H'
 nb:l≠b
 el:H' l=some (.lst us)
 hc:H' c=some (.tup row)
 ts:∀x∈ts,H' x.1=some (.tup (jcf x.2))
theorem Cw.kp{H H' H2:Hp}{b l c:Addr}{us row:List V}{ts:List (Addr×RE)}(C:Cw H b l c us row ts H')(k:Kp [b] H' H2)(sb:SB H b H2):Cw H b l c us row ts H2 :=
 ⟨sb,C.nb,k.old _ _ C.el (by simp[C.nb]),k.tup _ _ C.hc,λx hx=>k.tup _ _ (C.ts x hx)⟩
theorem Cw.new{H H':Hp}{b l c p:Addr}{us row:List V}{ts:List (Addr×RE)}{o:HO}(C:Cw H b l c us row ts H')(hp:H' p=none):Cw H b l c us row ts (upd H' p o) :=
 C.kp ((Kp.refl _ _).new hp) (C.sb.new hp)
theorem Cw.put{H H':Hp}{b l c p:Addr}{us row:List V}{ts:List (Addr×RE)}(C:Cw H b l c us row ts H')(r:RE)(hp:H' p=none):Cw H b l c us row ((p,r)::ts) (upd H' p (.tup (jcf r))) :=
 let D:=C.new (o:=.tup (jcf r)) hp
 ⟨D.sb,D.nb,D.el,D.hc,λx hx=>by
  cases hx with
  |head=>exact je
  |tail _ hx=>exact D.ts x hx⟩
theorem Cw.tk{H H':Hp}{b l c:Addr}{us row:List V}{ts:List (Addr×RE)}(C:Cw H b l c us row ts H'){w:Int}(w0:0<w)(w1:w<1073741824){Q:VK}{E:XK}(q:∀d H2,0<=d->d<w->Cw H b l c us row ts H2->Kp [b] H' H2->Q (.int d) H2):jde [.ref b,.int w] H' Q E :=
 C.sb.tq w0 w1 λd H2 d0 d1 sb2 k2=>q d H2 d0 d1 (C.kp k2 sb2) k2
theorem Cw.own{H H':Hp}{b l c D:Addr}{us row xs ys:List V}{ts:List (Addr×RE)}(C:Cw H b l c us row ts H')(hD:H' D=some (.lst xs))(h0:H D=none)(nD:D≠b)(nl:D≠l):Cw H b l c us row ts (upd H' D (.lst ys)):=by
 have nt:∀{e:Addr}{zs:List V},H' e=some (.tup zs)->e≠D:=λh z=>by rw[z,hD]at h;cases h
 obtain⟨o,hb,ho⟩:=C.sb.bx
 exact⟨⟨C.sb.kp.set hD (.inr h0),o,by rw[jf nD.symm];exact hb,ho⟩,C.nb,by rw[jf nl.symm];exact C.el,by rw[jf (nt C.hc)];exact C.hc,λx hx=>by rw[jf (nt (C.ts x hx))];exact C.ts x hx⟩
def spCg:Sp:=λvs H Q _=>∃(b a:Addr)(us:List V)(rs:List RE),vs=[.ref b,.ref a]/\SB H b H/\H a=some (.tup us)/\Exp H us rs/\1<=rs.length/\DR rs /\
 ∀(t:Addr)(us':List V)(rs':List RE)(L:Nat->Nat)(H':Hp),H' t=some (.tup us')->Exp H' us' rs'->LB rs' L->1<=rs'.length->rs'.length<=60->SB H b H'->Q (.ref t) H'
structure TCg(mg:Str->Option Value)(ft:Addr):Prop where
 n_len:mg "len"=none
 n_list:mg "list"=none
 n_tuple:mg "tuple"=none
 n_sorted:mg "sorted"=none
 n_set:mg "set"=none
 m1z:mg "_law_take"=some (.ref ft)
section
variable{P:Program}{w:World}{K:PySem.W.Frag}{mg:Str->Option Value}{base:Heap}
abbrev yb:Stmt:=top 35
theorem kx:FnScope ["_law_box_here","_law_rows","_law_found","_law_at","_law_row","_law_words","_law_other","_law_some","_law_pool"] ["_law_box_here","_law_rows"] (jk yb):=⟨rfl,rfl,rfl,by decide +kernel,rfl,by decide +kernel,by decide +kernel⟩
theorem ok__law_changed{f ft:Addr}{fd fdt:FuncData}(F:Fun K "_law_changed" "_law_changed" yb f fd)(T:TCg mg ft)(F1z:Fun K "_law_take" "_law_take" kg ft fdt)(b1z:Binds K fdt ["_law_box_here","_law_wide"] [])
  (G1z:FnOk P w K mg base CX0 1 ft fdt ["_law_box_here","_law_wide"] jde):FnOk P w K mg base CX0 2 f fd ["_law_box_here","_law_rows"] spCg:=by
 refine F.ok kx (λvs H Q E h=>?_) (λcdv A outer s H vs Q E hr h=>?_)
 ·obtain⟨b,a,us,rs,rfl,_⟩:=h
  rfl
 ·obtain⟨b,a,us,rs,rfl,sb,ha,ex,n1,dr,k⟩:=h
  have hu:=hr.units
  have hsz:sizeLine=16777216:=Ar
  have ul:=ex.len
  have n9:rs.length<=50:=by rcases dr with h|h <;> omega
  refine exQ (jh (jp (i:=2) kx.nd rfl (by first|exact Or.inl rfl|exact Or.inr rfl) (kj (jbc rfl) (by rfl) T.n_list jbf (jc (qpv 1) jd)))
  (jh (jp (i:=3) kx.nd rfl (by first|exact Or.inl rfl|exact Or.inr rfl) (jq zi (jq zi (jy ka (by rfl) T.n_len ky (jc (qpv 1) jd)) jg) (jq jbi (jm G1z (hr.mono (by decide)) rfl T.m1z F1z.kp b1z .nil jo (jc (qpv 0) (jc (jy ka (by rfl) T.n_len ky (jc (qpv 1) jd)) jd))) jg)))
  (jh (jp (i:=4) kx.nd rfl (by first|exact Or.inl rfl|exact Or.inr rfl) (jr ix_U (qpv 1) (qpv 3) (λ_ _=>rfl)))
  (yr (j0 (jt (kz hu) (jy ka (by rfl) T.n_len ky (jc (qpv 4) jd)) jg (jx _)) (jh (jp (i:=5) kx.nd rfl (by first|exact Or.inl rfl|exact Or.inr rfl) (j5 (jc jn (jc jn (jc jn jd)))))
  (jh (jp (i:=6) kx.nd rfl (by first|exact Or.inl rfl|exact Or.inr rfl) (jm G1z (hr.mono (by decide)) rfl T.m1z F1z.kp b1z .nil jo (jc (qpv 0) (jc (qpv 3) jd))))
  (jh (jp (i:=7) kx.nd rfl (by first|exact Or.inl rfl|exact Or.inr rfl) (j5 (jc (j7 (jc (jr ix_U (qpv 4) jg (λ_ _=>rfl)) (jc (jr ix_U (qpv 4) jg (λ_ _=>rfl)) (jc (jr ix_U (qpv 4) jg (λ_ _=>rfl)) jd)))) (jc (jq j9 (j7 (jc (jr ix_U (qpv 5) (jm G1z (hr.mono (by decide)) rfl T.m1z F1z.kp b1z .nil jo (jc (qpv 0) (jc jg jd))) (λ_ _=>rfl)) jd)) (zd (jal (K:=K) rfl) (qpv 4) (y6 jg) z7)) (jc (j7 (jc (jr ix_U (qpv 4) jg (λ_ _=>rfl)) (jc (qpv 6) (jc (jr ix_U (qpv 4) jg (λ_ _=>rfl)) jd)))) jd)))))
  (ji (jap (jr ix_U (jq j9 (qpv 7) (j5 (jc (j7 (jc (jr ix_U (qpv 4) jg (λ_ _=>rfl)) (jc (jr ix_U (qpv 4) jg (λ_ _=>rfl)) (jc (qpv 6) jd)))) (jc (j7 (jc jn (jc (jr ix_U (qpv 4) jg (λ_ _=>rfl)) jd))) jd)))) (jm G1z (hr.mono (by decide)) rfl T.m1z F1z.kp b1z .nil jo (jc (qpv 0) (jc jg jd))) (λ_ _=>rfl)) (jao (qpv 2) (qpv 3) jg7)))))) (ji (j0 (jt (kz hu) (jr ix_U (qpv 4) jg (λ_ _=>rfl)) jn (jx _)) (ji (jap (jr ix_U (j5 (jc (j7 (jc jn (jc (jm G1z (hr.mono (by decide)) rfl T.m1z F1z.kp b1z .nil jo (jc (qpv 0) (jc (qpv 3) jd))) jd))) (jc (j7 (jc jn (jc (jr ix_U (qpv 4) jg (λ_ _=>rfl)) (jc (jr ix_U (qpv 4) jg (λ_ _=>rfl)) jd)))) jd))) (jm G1z (hr.mono (by decide)) rfl T.m1z F1z.kp b1z .nil jo (jc (qpv 0) (jc jg jd))) (λ_ _=>rfl)) (jao (qpv 2) (qpv 3) jg7))) (jh (jp (i:=8) kx.nd rfl (by first|exact Or.inl rfl|exact Or.inr rfl) (qpe_sortedSet rfl rfl T.n_sorted rfl T.n_set (jas rfl (jda (sc:=jk yb) (N:=["_law_box_here","_law_rows","_law_found","_law_at","_law_row","_law_words","_law_other","_law_some","_law_pool"]) (Nc:=["_law_one"]) (js:=[none]) (by decide +kernel)) (zt (K:=K) (qpv 1) rfl) (λ_ _ _ _=>(kh (i:=0) (show List.Nodup [("_law_one":Str)]from by decide +kernel) rfl (by first|exact Or.inl rfl|exact Or.inr rfl))) (λ_ _ _ _=>(jt (kz hu) (jr ix_U (qpv 0) jg (λ_ _=>rfl)) jn (jx _))) (λ_ _ _ _=>(jr ix_U (qpv 0) jg (λ_ _=>rfl))))))
  (yr (j0 (jt jan (jy ka (by rfl) T.n_len ky (jc (qpv 8) jd)) jg (jx _)) (ji (jz (kf Az A0 j8 (qpv 8) (jc (jr ix_U jn (jm G1z (hr.mono (by decide)) rfl T.m1z F1z.kp b1z .nil jo (jc (qpv 0) (jc jg jd))) (λ_ _=>rfl)) jd) jcl))) j6)
  (ji (jap (j7 (jc jn (jc (jr ix_U (qpv 8) (jm G1z (hr.mono (by decide)) rfl T.m1z F1z.kp b1z .nil jo (jc (qpv 0) (jc (jy ka (by rfl) T.n_len ky (jc (qpv 8) jd)) jd))) (λ_ _=>rfl)) jd))) (jao (qpv 2) (qpv 3) jg7))))))))
  (ji (ju (kj y4 (by rfl) T.n_tuple zg (jc (qpv 2) jd)))))))) ?_
  simp! [ha]
  intro l hl
  have sb0:SB H b (upd H l (.lst us)):=sb.new hl
  have nb:l≠b:=sb.ne hl
  have el0:upd H l (.lst us) l=some (.lst us):=je
  have ha0:=((Kp.refl [] H).new (o:=.lst us) hl).tup _ _ ha
  generalize upd H l (.lst us)=H0 at sb0 el0 ha0⊢
  rw[ha0]
  refine⟨us,rfl,us,rfl,sb0.tq (by omega) (by omega) λd H1 d0 d1 sb1 k1=>⟨d,rfl,⟨by omega,by omega⟩,?_⟩⟩
  have ha1:=k1.tup _ _ ha0
  have el1:H1 l=some (.lst us):=k1.old _ _ el0 (by simp[nb])
  rw[ha1]
  obtain⟨i,ei,hi⟩:∃i:Nat,((us.length:Int)-1-d / 2)=(i:Int)/\i<rs.length:=⟨((us.length:Int)-1-d / 2).toNat,by omega,by omega⟩
  rw[ei]
  obtain⟨c,hc1,hc2⟩:=(ex.kp sb1.kp).get hi
  refine⟨us,rfl,_,jdf hc1,?_⟩
  have er:=jd2 hi
  have okr:=ex.ok i _ er
  have lfe:∀r',(jck (rs.getD i .nothing)->jck r')->(¬jck (rs.getD i .nothing)->¬jck r')->(jck (rs.getD i (.no 0))->jck r')/\(¬jck (rs.getD i (.no 0))->¬jck r'):=λr' h1 h2=>by
   have:rs.getD i (.no 0)=rs.getD i .nothing:=by rw[Ac,er];rfl
   rw[this];exact⟨h1,h2⟩
  generalize rs.getD i .nothing=r at hc2 okr er lfe
  obtain⟨J,hJ⟩:∃J:L2.St->Hp->Prop,J=λσ H'=>∃(v3 v4 v5 v6 v7 v8:Option V)(t:Addr)(r':RE),σ=[some (.ref b),some (.ref a),some (.ref l),v3,v4,v5,v6,v7,v8]/\SB H b H'/\H' l=some (.lst (us.set i (.ref t)))/\H' t=some (.tup (jcf r'))/\r'.okz i/\(jck r->jck r')/\(¬jck r->¬jck r'):=⟨_,rfl⟩
  refine⟨J,?_,?_⟩
  ·have fin:∀(H':Hp)(t:Addr)(r':RE)(v5 v6 v7 v8:Option V),SB H b H'->H' l=some (.lst us)->H' t=some (.tup (jcf r'))->r'.okz i->(jck r->jck r')->(¬jck r->¬jck r') ->
     ∃xs,jch (H' l)=some xs/\∃j,ixN xs.length (i:Int)=some j/\J [some (.ref b),some (.ref a),some (.ref l),some (.int (i:Int)),some (.ref c),v5,v6,v7,v8] (upd H' l (.lst (xs.set j (.ref t)))):=λH' t r' v5 v6 v7 v8 sb' el' et' ok' lf' nl'=>by
    refine⟨us,by rw[el'];rfl,i,jqi (by omega),?_⟩
    rw[hJ]
    obtain⟨o,hbo,ho⟩:=sb'.bx
    refine⟨_,_,v5,v6,v7,v8,t,r',rfl,⟨sb'.kp.set el' (.inr hl),o,by rw[jf nb.symm];exact hbo,ho⟩,je,?_,ok',lf',nl'⟩
    rw[jf (λz=>by rw[z,el']at et';cases et')]
    exact et'
   simp! [hc2]
   refine ite2 (λh3=>?_) (λh3=>?_)
   ·cases r with
    |bin w x y =>
     have hx:x<i:=okr.1
     have hy:y<i:=okr.2
     have C1:Cw H b l c us (jcf (.bin w x y)) [] H1:=⟨sb1,nb,el1,hc2,nofun⟩
     refine⟨by omega,λp hp=>(C1.new hp).tk (by omega) (by omega) λo H2 o0 o1 C2 k2=>?_⟩
     have pb:=sb1.ne hp
     have ep2:=k2.old _ _ (je (a:=p)) (by simp[pb])
     obtain⟨o,rfl⟩:=Int.eq_ofNat_of_zero_le o0
     have ho:o<i:=by omega
     refine⟨_,by rw[C2.hc];rfl,_,jcg (by decide) rfl,_,by rw[C2.hc];rfl,_,jcg (by decide) rfl,_,by rw[C2.hc];rfl,_,jcg (by decide) rfl,by omega,λp1 hp1=>?_⟩
     have C3:=C2.put (.bin w y x) hp1
     refine C3.tk (by omega) (by omega) λe H3 e0 e1 C4 k3=>?_
     have ep3:=k3.old _ _ (((Kp.refl [] H2).new (o:=.tup (jcf (.bin w y x))) hp1).old _ _ ep2 Aq) (by simp[pb])
     obtain⟨v,ev,w',rfl⟩:=jgn (M:=λv=>∃w',v=.str (ew w')) (l:=[V.str (Str.ofString "or"),V.str (Str.ofString "and"),V.str (Str.ofString "behind")]) (λv hv=>by
      simp only[Aw,Aq,or_false]at hv
      rcases hv with rfl|rfl|rfl
      ·exact⟨.or,rfl⟩
      ·exact⟨.and,rfl⟩
      ·exact⟨.beh,rfl⟩) e0 e1
     show rIxU (V.ref p) (V.int e) H3 _
     simp! [ep3]
     refine⟨_,ev,by omega,λp2 hp2=>?_⟩
     have C5:=C4.new (o:=.tup [V.str (ew w')]) hp2
     have ep5:upd H3 p2 (.tup [V.str (ew w')]) p2=some (.tup [V.str (ew w')]):=je
     generalize upd H3 p2 (.tup [V.str (ew w')])=H5 at C5 ep5⊢
     refine rSlU.tup C5.hc (by simp[jcf,HT.sIx]) λp3 hp3=>?_
     have C6:=C5.new (o:=.tup (cutV (jcf (.bin w x y)) (some 1) none)) hp3
     have ep6:upd H5 p3 (.tup (cutV (jcf (.bin w x y)) (some 1) none)) p2=some (.tup [V.str (ew w')]):=((Kp.refl [] H5).new hp3).tup _ _ ep5
     have eq6:upd H5 p3 (.tup (cutV (jcf (.bin w x y)) (some 1) none)) p3=some (.tup [V.int x,V.int y]):=by rw[je];rw[show jcf (.bin w x y)=V.str (ew w)::[V.int x,V.int y]from rfl,jpt]
     generalize upd H5 p3 (.tup (cutV (jcf (.bin w x y)) (some 1) none))=H6 at C6 ep6 eq6⊢
     refine rAddW.tup ep6 eq6 (by simp) (by simp) (by simp;omega) λp4 hp4=>?_
     have C7:Cw H b l c us (jcf (.bin w x y)) ((p4,.bin w' x y)::[(p1,.bin w y x)]) (upd H6 p4 (.tup ([V.str (ew w')]++[V.int x,V.int y]))):=C6.put (.bin w' x y) hp4
     generalize upd H6 p4 (.tup ([V.str (ew w')]++[V.int x,V.int y]))=H7 at C7⊢
     refine⟨_,by rw[C7.hc];rfl,_,jcg (by decide) rfl,_,by rw[C7.hc];rfl,_,jcg (by decide) rfl,by omega,λp5 hp5=>?_⟩
     have C8:Cw H b l c us (jcf (.bin w x y)) _ (upd H7 p5 (.tup [V.str (ew w),V.int (o:Int),V.int (y:Int)])):=C7.put (.bin w o y) hp5
     generalize upd H7 p5 (.tup [V.str (ew w),V.int (o:Int),V.int (y:Int)])=H8 at C8⊢
     refine⟨by omega,λp6 hp6=>?_⟩
     have C9:=C8.new (o:=.lst [V.ref p1,V.ref p4,V.ref p5]) hp6
     have e9:upd H8 p6 (.lst [V.ref p1,V.ref p4,V.ref p5]) p6=some (.lst [V.ref p1,V.ref p4,V.ref p5]):=je
     generalize upd H8 p6 (.lst [V.ref p1,V.ref p4,V.ref p5])=H9 at C9 e9⊢
     refine⟨_,by rw[C9.hc];rfl,_,jcg (by decide) rfl,_,by rw[C9.hc];rfl,_,jcg (by decide) rfl,by omega,λp7 hp7=>?_⟩
     have C10:Cw H b l c us (jcf (.bin w x y)) _ (upd H9 p7 (.tup [V.str (ew w),V.int (x:Int),V.int (o:Int)])):=C9.put (.bin w x o) hp7
     have e10:=((Kp.refl [] H9).new (o:=.tup [V.str (ew w),V.int (x:Int),V.int (o:Int)]) hp7).old _ _ e9 Aq
     generalize upd H9 p7 (.tup [V.str (ew w),V.int (x:Int),V.int (o:Int)])=H10 at C10 e10⊢
     refine⟨_,by rw[C10.hc];rfl,_,jcg (by decide) rfl,by omega,λp8 hp8=>?_⟩
     have C11:Cw H b l c us (jcf (.bin w x y)) _ (upd H10 p8 (.tup [V.str (Str.ofString "not"),V.int (x:Int)])):=C10.put (.no x) hp8
     have e11:=((Kp.refl [] H10).new (o:=.tup [V.str (Str.ofString "not"),V.int (x:Int)]) hp8).old _ _ e10 Aq
     generalize upd H10 p8 (.tup [V.str (Str.ofString "not"),V.int (x:Int)])=H11 at C11 e11⊢
     refine⟨by omega,λp9 hp9=>?_⟩
     have C12:=C11.new (o:=.lst [V.ref p7,V.ref p8]) hp9
     have e12:=((Kp.refl [] H11).new (o:=.lst [V.ref p7,V.ref p8]) hp9).old _ _ e11 Aq
     have f12:upd H11 p9 (.lst [V.ref p7,V.ref p8]) p9=some (.lst [V.ref p7,V.ref p8]):=je
     generalize upd H11 p9 (.lst [V.ref p7,V.ref p8])=H12 at C12 e12 f12⊢
     refine rAddW.lst e12 f12 (by simp;omega) λp10 hp10=>?_
     have C13:=C12.new (o:=.lst ([V.ref p1,V.ref p4,V.ref p5]++[V.ref p7,V.ref p8])) hp10
     have e13:upd H12 p10 (.lst ([V.ref p1,V.ref p4,V.ref p5]++[V.ref p7,V.ref p8])) p10=some (.lst ([V.ref p1,V.ref p4,V.ref p5]++[V.ref p7,V.ref p8])):=je
     have n13:=C12.sb.ne hp10
     generalize upd H12 p10 (.lst ([V.ref p1,V.ref p4,V.ref p5]++[V.ref p7,V.ref p8]))=H13 at C13 e13⊢
     refine C13.tk (by omega) (by omega) λg H14 g0 g1 C14 k14=>?_
     have e14:=k14.old _ _ e13 (by simp[n13])
     show rIxU (V.ref p10) (V.int g) H14 _
     simp! [e14]
     obtain⟨v,ev,t,r',rfl,ht,ok',nl'⟩:=jgn (M:=λv=>∃t r',v=.ref t/\H14 t=some (.tup (jcf r'))/\r'.okz i/\¬jck r') (l:=[V.ref p1,V.ref p4,V.ref p5]++[V.ref p7,V.ref p8]) (λv hv=>by
      simp only[List.cons_append,List.nil_append,Aw,Aq,or_false]at hv
      rcases hv with rfl|rfl|rfl|rfl|rfl
      ·exact⟨p1,.bin w y x,rfl,C14.ts (p1,.bin w y x) (by simp),⟨hy,hx⟩,id⟩
      ·exact⟨p4,.bin w' x y,rfl,C14.ts (p4,.bin w' x y) (by simp),⟨hx,hy⟩,id⟩
      ·exact⟨p5,.bin w o y,rfl,C14.ts (p5,.bin w o y) (by simp),⟨ho,hy⟩,id⟩
      ·exact⟨p7,.bin w x o,rfl,C14.ts (p7,.bin w x o) (by simp),⟨hx,ho⟩,id⟩
      ·exact⟨p8,.no x,rfl,C14.ts (p8,.no x) (by simp),hx,id⟩) g0 g1
     exact⟨_,ev,fin H14 t r' _ _ _ _ C14.sb C14.el ht ok' (λz=>absurd z id) (λ_=>nl')⟩
    |no x=>exact absurd h3 (by simp[jcf])
    |letter z=>exact absurd h3 (by simp[jcf])
    |nothing=>exact absurd h3 (by simp[jcf])
    |blank=>exact absurd h3 (by simp[jcf])
   ·have C1:Cw H b l c us (jcf r) [] H1:=⟨sb1,nb,el1,hc2,nofun⟩
    have hh:=jfn r
    refine⟨_,hh,?_⟩
    simp!
    refine ite2 (λhn=>?_) (λhn=>?_)
    ·cases r with
     |no x =>
      have hx:x<i:=okr
      refine C1.tk (by omega) (by omega) λo H2 o0 o1 C2 k2=>⟨by omega,λp1 hp1=>?_⟩
      obtain⟨o,rfl⟩:=Int.eq_ofNat_of_zero_le o0
      have ho:o<i:=by omega
      have C3:Cw H b l c us (jcf (.no x)) _ (upd H2 p1 (.tup [V.str (Str.ofString "not"),V.int (o:Int)])):=C2.put (.no o) hp1
      generalize upd H2 p1 (.tup [V.str (Str.ofString "not"),V.int (o:Int)])=H3 at C3⊢
      refine⟨_,by rw[C3.hc];rfl,_,jcg (by decide) rfl,_,by rw[C3.hc];rfl,_,jcg (by decide) rfl,by omega,λp2 hp2=>?_⟩
      have C4:Cw H b l c us (jcf (.no x)) _ (upd H3 p2 (.tup [V.str (Str.ofString "or"),V.int (x:Int),V.int (x:Int)])):=C3.put (.bin .or x x) hp2
      generalize upd H3 p2 (.tup [V.str (Str.ofString "or"),V.int (x:Int),V.int (x:Int)])=H4 at C4⊢
      refine⟨by omega,λp3 hp3=>?_⟩
      have C5:=C4.new (o:=.lst [V.ref p1,V.ref p2]) hp3
      have e5:upd H4 p3 (.lst [V.ref p1,V.ref p2]) p3=some (.lst [V.ref p1,V.ref p2]):=je
      have n5:=C4.sb.ne hp3
      generalize upd H4 p3 (.lst [V.ref p1,V.ref p2])=H5 at C5 e5⊢
      refine C5.tk (by omega) (by omega) λg H6 g0 g1 C6 k6=>?_
      have e6:=k6.old _ _ e5 (by simp[n5])
      show rIxU (V.ref p3) (V.int g) H6 _
      simp! [e6]
      obtain⟨v,ev,t,r',rfl,ht,ok',nl'⟩:=jgn (M:=λv=>∃t r',v=.ref t/\H6 t=some (.tup (jcf r'))/\r'.okz i/\¬jck r') (l:=[V.ref p1,V.ref p2]) (λv hv=>by
       simp only[Aw,Aq,or_false]at hv
       rcases hv with rfl|rfl
       ·exact⟨p1,.no o,rfl,C6.ts (p1,.no o) (by simp),ho,id⟩
       ·exact⟨p2,.bin .or x x,rfl,C6.ts (p2,.bin .or x x) (by simp),⟨hx,hx⟩,id⟩) g0 g1
      exact⟨_,ev,fin H6 t r' _ _ _ _ C6.sb C6.el ht ok' (λz=>absurd z id) (λ_=>nl')⟩
     |bin w x y=>exact absurd rfl h3
     |letter z=>exact absurd hn (show ¬Str.ofString "letter"=Str.ofString "not"by decide +kernel)
     |nothing=>exact absurd hn (by decide +kernel)
     |blank=>exact absurd hn (by decide +kernel)
    ·have lfr:jck r:=by
      cases r with
      |no x=>exact absurd rfl hn
      |bin w x y=>exact absurd rfl h3
      |_=>trivial
     rw[ha1]
     dsimp only
     intro D hD
     have hD0:H D=none:=sb1.kp.free hD
     have nDb:=sb1.ne hD
     have nDl:D≠l:=(jj el1 hD).symm
     obtain⟨W,hW⟩:∃W:Nat->L2.St->Hp->Prop,W=λk σ H'=>∃(ss:List Str)(v0:Option V),σ=[v0]/\H' D=some (.lst (ss.map V.str))/\(∀z∈ss,z.length=1/\lw z)/\ss.length<=k/\Cw H b l c us (jcf r) [] H':=⟨_,rfl⟩
     refine jd4 (xs:=us) W (by rw[hW];exact⟨[],none,rfl,je,by simp,by simp,C1.new hD⟩) ?_ ?_ ?_
     ·intro k σ H' _ hw
      rw[hW]at hw
      obtain⟨ss,v0,rfl,hd,hs,lk,C⟩:=hw
      exact C.sb.kp.tup _ _ ha
     ·intro k x σ H2 hx hw
      rw[hW]at hw
      obtain⟨ss,v0,rfl,hd,hs,lk,C⟩:=hw
      have kl:k<rs.length:=by rw[<-ul];exact(Aj.mp hx).1
      obtain⟨e,he1,he2⟩:=(ex.kp C.sb.kp).get kl
      rw[hx]at he1
      cases he1
      have ok2:=ex.ok k _ (jd2 kl)
      generalize rs.getD k .nothing=r2 at he2 ok2
      simp! [jd0,jec,he2]
      refine⟨_,jfn r2,?_⟩
      simp! [he2,hd]
      refine ite2 (λhn=>?_) (λ_=>by rw[hW];exact⟨ss,_,rfl,hd,hs,by omega,C⟩)
      cases r2 with
      |letter z =>
       refine⟨_,jcg (by decide) rfl,by rw[Ab];omega,?_⟩
       rw[hW]
       refine⟨ss++[z],_,rfl,by rw[je];simp,λy hy=>?_,by simp;omega,C.own hd hD0 nDb nDl⟩
       rcases A6.mp hy with hy|hy
       ·exact hs y hy
       ·rw[Ag.mp hy];exact ok2
      |bin w x y=>exact absurd hn ((λw=>by cases w <;> decide +kernel:∀w,¬ew w=Str.ofString "letter") w)
      |no x=>exact absurd hn (show ¬Str.ofString "not"=Str.ofString "letter"by decide +kernel)
      |nothing=>exact absurd hn (by decide +kernel)
      |blank=>exact absurd hn (by decide +kernel)
     ·intro σ H2 hw
      rw[hW]at hw
      obtain⟨ss,v0,rfl,hd,hs,lk,C⟩:=hw
      refine⟨ss,by rw[hd];rfl,by omega,λp ss' hp _ nd me=>?_⟩
      have C3:=C.new (o:=.lst (ss'.map V.str)) hp
      have e3:upd H2 p (.lst (ss'.map V.str)) p=some (.lst (ss'.map V.str)):=je
      have p0:H p=none:=C.sb.kp.free hp
      have npb:=C.sb.ne hp
      have npl:p≠l:=(jj C.el hp).symm
      have ok3:∀z∈ss',z.length=1/\lw z:=λz hz=>hs z ((me z).mp hz)
      have l3:ss'.length<=50:=by
       have:=jik nd λz hz=>(me z).mp hz
       omega
      generalize upd H2 p (.lst (ss'.map V.str))=H3 at C3 e3⊢
      obtain⟨J2,hJ2⟩:∃J:L2.St->Hp->Prop,J=λσ H'=>∃sq:List Str,σ=[some (.ref b),some (.ref a),some (.ref l),some (.int (i:Int)),some (.ref c),none,none,none,some (.ref p)]/\H' p=some (.lst (sq.map V.str))/\(∀z∈sq,z.length=1/\lw z)/\1<=sq.length/\sq.length<=51/\Cw H b l c us (jcf r) [] H':=⟨_,rfl⟩
      refine⟨J2,?_,?_⟩
      ·simp! [e3,Ab]
       refine ite2 (λ_=>?_) (λh4=>by rw[hJ2];exact⟨ss',rfl,e3,ok3,by omega,by omega,C3⟩)
       refine C3.tk (by omega) (by omega) λd H4 d0 d1 C4 k4=>?_
       have e4:=k4.old _ _ e3 (by simp[npb])
       have l26:(Str.ofString "abcdefghijklmnopqrstuvwxyz").length=26:=by decide +kernel
       have az:lw (Str.ofString "abcdefghijklmnopqrstuvwxyz"):=jea "abcdefghijklmnopqrstuvwxyz" (by decide +kernel)
       show rIxU (V.str _) (V.int d) H4 _
       rw[jgh]
       have dl:d.toNat<(Str.ofString "abcdefghijklmnopqrstuvwxyz").cps.toList.length:=by rw[show(Str.ofString "abcdefghijklmnopqrstuvwxyz").cps.toList.length=26 by decide +kernel];omega
       refine⟨by omega,_,jcg d0 (Ai dl),_,by rw[e4];rfl,by rw[Ab];omega,?_⟩
       rw[hJ2]
       refine⟨ss'++[sgn ((Str.ofString "abcdefghijklmnopqrstuvwxyz").cps.toList[d.toNat]'dl)],rfl,by rw[je];simp[sgn],λz hz=>?_,by simp,by simp;omega,C4.own e4 p0 npb npl⟩
       rcases A6.mp hz with hz|hz
       ·exact ok3 z hz
       ·rw[Ag.mp hz]
        refine⟨rfl,λc hc=>?_⟩
        have:c=(Str.ofString "abcdefghijklmnopqrstuvwxyz").cps.toList[d.toNat]'dl:=by simpa[sgn]using hc
        rw[this]
        exact az _ (Iu dl)
      intro σ H4 hj
      rw[hJ2]at hj
      obtain⟨sq,rfl,e4,ok4,l4,l5,C4⟩:=hj
      simp! [e4,Ab]
      refine C4.tk (by omega) (by omega) λd H5 d0 d1 C5 k5=>?_
      have e5:=k5.old _ _ e4 (by simp[npb])
      show rIxU (V.ref p) (V.int d) H5 _
      simp! [e5]
      obtain⟨v,ev,z,rfl,hz⟩:=jgn (M:=λv=>∃z,v=.str z/\z.length=1/\lw z) (l:=sq.map V.str) (λv hv=>by
       obtain⟨z,hz,rfl⟩:=A4.mp hv
       exact⟨z,rfl,ok4 z hz⟩) d0 (by rw[Ab];exact d1)
      refine⟨_,ev,by omega,λp1 hp1=>?_⟩
      have C6:Cw H b l c us (jcf r) _ (upd H5 p1 (.tup [V.str (Str.ofString "letter"),V.str z])):=C5.put (.letter z) hp1
      generalize upd H5 p1 (.tup [V.str (Str.ofString "letter"),V.str z])=H6 at C6⊢
      exact fin H6 p1 (.letter z) _ _ _ _ C6.sb C6.el (C6.ts (p1,.letter z) (by simp)) hz (λ_=>trivial) (λh=>absurd lfr h)
  intro σ H2 hj
  rw[hJ]at hj
  obtain⟨v3,v4,v5,v6,v7,v8,t,r',rfl,sb2,el2,et,ok',lf,nl⟩:=hj
  simp!
  refine jc0 el2 λq hq=>?_
  have e2:=((ex.kp sb2.kp).set ok' et).kp (((Kp.refl [] H2).new (o:=.tup (us.set i (.ref t))) hq))
  obtain⟨l1,l2⟩:=lfe r' lf nl
  obtain⟨L,lb⟩:∃L,LB (rs.set i r') L:=by
   rcases dr with h|⟨ch,h⟩
   ·exact⟨LX,jn1 e2 (by rw[U1];exact h)⟩
   ·exact⟨_,jmw ch h hi ok' l1 l2⟩
  exact k q _ _ L _ je e2 lb (by rw[U1];exact n1) (by rw[U1];omega) (sb2.new hq)
end
def spDr:Sp:=λvs H Q _=>∃(b:Addr),vs=[.ref b]/\SB H b H/\∀(t:Addr)(us:List V)(rs:List RE)(H':Hp),H' t=some (.tup us)->Exp H' us rs->1<=rs.length->DR rs->SB H b H'->Q (.ref t) H'
structure TDr(mg:Str->Option Value)(fl ft fc fe:Addr):Prop where
 m19z:mg "_law_letters"=some (.ref fl)
 m1z:mg "_law_take"=some (.ref ft)
 m16z:mg "_law_chain"=some (.ref fc)
 m18z:mg "_law_expression"=some (.ref fe)
theorem DR.lb{H:Hp}{us:List V}{rs:List RE}(E:Exp H us rs)(h:DR rs):(∃L,LB rs L)/\rs.length<=60:=by
 rcases h with h|⟨ch,h⟩
 ·exact⟨⟨_,jn1 E h⟩,by omega⟩
 ·exact⟨⟨_,jo4 ch h⟩,by omega⟩
def jha(K:PySem.W.Frag)(Pt:Addr):Sp:=λvs H Q _=>∃(a:Addr)(ns:List Int),vs=[.ref a]/\SqL K H a (ns.map V.int)/\ns.length<=63/\a≠Pt/\TabOk H Pt LQ/\∀H',Q (.bl true) H'
structure TLT(mg:Str->Option Value)(fb fd ft fc fr fs fy:Addr):Prop where
 n_range:mg "range"=none
 n_len:mg "len"=none
 m6z:mg "_law_box"=some (.ref fb)
 m9z:mg "_law_drawn"=some (.ref fd)
 m1z:mg "_law_take"=some (.ref ft)
 m17z:mg "_law_changed"=some (.ref fc)
 m8z:mg "_law_right"=some (.ref fr)
 m2z:mg "show_expression"=some (.ref fs)
 m3z:mg "_law_tidy"=some (.ref fy)
section
variable{P:Program}{w:World}{K:PySem.W.Frag}{mg:Str->Option Value}{base:Heap}
abbrev yu:Stmt:=top 34
theorem jax:FnScope ["_law_box_here","_law_letters_here"] ["_law_box_here"] (jk yu):=⟨rfl,rfl,rfl,by decide +kernel,rfl,by decide +kernel,by decide +kernel⟩
theorem ok__law_drawn{f fl ft fc fe:Addr}{fd fdl fdt fdc fde:FuncData}(F:Fun K "_law_drawn" "_law_drawn" yu f fd)(T:TDr mg fl ft fc fe)
  (F19z:Fun K "_law_letters" "_law_letters" yg fl fdl) (b19z:Binds K fdl ["_law_box_here","_law_most"] []) (G19z:FnOk P w K mg base CX0 2 fl fdl ["_law_box_here","_law_most"] jiy)
  (F1z:Fun K "_law_take" "_law_take" kg ft fdt) (b1z:Binds K fdt ["_law_box_here","_law_wide"] []) (G1z:FnOk P w K mg base CX0 1 ft fdt ["_law_box_here","_law_wide"] jde)
  (F16z:Fun K "_law_chain" "_law_chain" yt fc fdc) (b16z:Binds K fdc ["_law_box_here","_law_letters_here","_law_most"] []) (G16z:FnOk P w K mg base CX0 2 fc fdc ["_law_box_here","_law_letters_here","_law_most"] spCh)
  (F18z:Fun K "_law_expression" "_law_expression" ko fe fde) (b18z:Binds K fde ["_law_box_here","_law_letters_here","_law_most"] []) (G18z:FnOk P w K mg base CX0 3 fe fde ["_law_box_here","_law_letters_here","_law_most"] jp3) :
  FnOk P w K mg base CX0 4 f fd ["_law_box_here"] spDr:=by
 refine F.ok jax (λvs H Q E h=>?_) (λcdv A outer s H vs Q E hr h=>?_)
 ·obtain⟨b,rfl,_⟩:=h
  rfl
 ·obtain⟨b,rfl,sb,k⟩:=h
  have hu:=hr.units
  have hsz:sizeLine=16777216:=Ar
  refine exQ (jh (jp (i:=1) jax.nd rfl (by first|exact Or.inl rfl|exact Or.inr rfl) (jm G19z (hr.mono (by decide)) rfl T.m19z F19z.kp b19z .nil jo (jc (qpv 0) (jc jg jd))))
  (yr (j0 (jt (kz hu) (jm G1z (hr.mono (by decide)) rfl T.m1z F1z.kp b1z .nil jo (jc (qpv 0) (jc jg jd))) jg (jx _)) (ji (ju (jm G16z (hr.mono (by decide)) rfl T.m16z F16z.kp b16z .nil jo (jc (qpv 0) (jc (qpv 1) (jc jg jd)))))) j6)
  (ji (ju (jm G18z (hr.mono (by decide)) rfl T.m18z F18z.kp b18z .nil jo (jc (qpv 0) (jc (qpv 1) (jc jg jd)))))))) ?_
  simp!
  obtain⟨o,hb,ho⟩:=sb.bx
  refine⟨b,4,o,rfl,hb,ho,by omega,by omega,λz o1 H1 hz ho1 eb1 k1=>?_⟩
  have zl:lw z:=hz.az
  have z1:=hz.lo
  have z9:=hz.hi
  have sb1:SB H b H1:=⟨k1,o1,eb1,ho1⟩
  refine⟨λσ H'=>σ=[some (.ref b),some (.str z)]/\SB H b H',?_,?_⟩
  ·simp!
   refine sb1.tq (by omega) (by omega) λd H2 d0 d1 sb2 k2=>?_
   simp!
   refine ite2 (λ_=>?_) (λ_=>sb2)
   obtain⟨o2,hb2,ho2⟩:=sb2.bx
   refine⟨b,z,o2,rfl,hb2,ho2,by omega,by omega,zl,λt us rs o3 H3 ht ex n1 n5 ch ho3 eb3 k3=>?_⟩
   exact k t us rs H3 ht ex n1 (.inr ⟨ch,n5⟩) (sb2.trans ⟨k3,o3,eb3,ho3⟩)
  rintro _ H2 ⟨rfl,sb2⟩
  simp!
  obtain⟨o2,hb2,ho2⟩:=sb2.bx
  refine⟨b,z,8,o2,rfl,hb2,ho2,by omega,by omega,zl,by omega,by omega,λt us rs o3 H3 ht ex n1 n8 ho3 eb3 k3=>?_⟩
  exact k t us rs H3 ht ex n1 (.inl n8) (sb2.trans ⟨k3,o3,eb3,ho3⟩)
abbrev jac:Stmt:=top 39
theorem jai:FnScope ["_law_script","_law_box_here","_law_first","_law_second","_law_alike","_law_k"] ["_law_script"] (jk jac):=⟨rfl,rfl,rfl,by decide +kernel,rfl,by decide +kernel,by decide +kernel⟩
theorem ok_law{f fb fdr ft fc fri fs fy Pt:Addr}{fd fdb fdd fdt fdc fde fds fdy:FuncData}(F:Fun K "law" "law" jac f fd)(T:TLT mg fb fdr ft fc fri fs fy)
  (F6z:Fun K "_law_box" "_law_box" ze fb fdb) (b6z:Binds K fdb ["_law_script","_law_k"] []) (G6z:FnOk P w K mg base CX0 1 fb fdb ["_law_script","_law_k"] (jp2 K))
  (F9z:Fun K "_law_drawn" "_law_drawn" yu fdr fdd) (b9z:Binds K fdd ["_law_box_here"] []) (G9z:FnOk P w K mg base CX0 4 fdr fdd ["_law_box_here"] spDr)
  (F1z:Fun K "_law_take" "_law_take" kg ft fdt) (b1z:Binds K fdt ["_law_box_here","_law_wide"] []) (G1z:FnOk P w K mg base CX0 1 ft fdt ["_law_box_here","_law_wide"] jde)
  (F17z:Fun K "_law_changed" "_law_changed" yb fc fdc) (b17z:Binds K fdc ["_law_box_here","_law_rows"] []) (G17z:FnOk P w K mg base CX0 2 fc fdc ["_law_box_here","_law_rows"] spCg)
  (F8z:Fun K "_law_right" "_law_right" yv fri fde) (b8z:Binds K fde ["_law_rows"] []) (G8z:FnOk P w K mg base CX0 63 fri fde ["_law_rows"] (spR3 Pt))
  (F2z:Fun K "show_expression" "show_expression" kc fs fds) (b2z:Binds K fds ["expression"] []) (G2z:FnOk P w K mg base CX0 6 fs fds ["expression"] (spSE Pt))
  (F3z:Fun K "_law_tidy" "_law_tidy" yo fy fdy) (b3z:Binds K fdy ["_law_rows"] []) (G3z:FnOk P w K mg base CX0 62 fy fdy ["_law_rows"] spTd) :
  FnOk P w K mg base CX0 64 f fd ["_law_script"] (jha K Pt):=by
 refine F.ok jai (λvs H Q E h=>?_) (λcdv A outer s H vs Q E hr h=>?_)
 ·obtain⟨a,is,rfl,_⟩:=h
  rfl
 ·obtain⟨a,is,rfl,hS,hil,naP,tb,kQ⟩:=h
  have hu:=hr.units
  have hsz:sizeLine=16777216:=Ar
  refine exQ (jh (jp (i:=1) jai.nd rfl (by first|exact Or.inl rfl|exact Or.inr rfl) (jm G6z (hr.mono (by decide)) rfl T.m6z F6z.kp b6z .nil jo (jc (qpv 0) (jc jg jd))))
  (jh (jp (i:=2) jai.nd rfl (by first|exact Or.inl rfl|exact Or.inr rfl) (jm G9z (hr.mono (by decide)) rfl T.m9z F9z.kp b9z .nil jo (jc (qpv 1) jd)))
  (yr (j0 (jt (kz hu) (jm G1z (hr.mono (by decide)) rfl T.m1z F1z.kp b1z .nil jo (jc (qpv 1) (jc jg jd))) jg (jx _)) (ji (jp (i:=3) jai.nd rfl (by first|exact Or.inl rfl|exact Or.inr rfl) (jm G17z (hr.mono (by decide)) rfl T.m17z F17z.kp b17z .nil jo (jc (jm G6z (hr.mono (by decide)) rfl T.m6z F6z.kp b6z .nil jo (jc (qpv 0) (jc jg jd))) (jc (qpv 2) jd))))) (ji (jp (i:=3) jai.nd rfl (by first|exact Or.inl rfl|exact Or.inr rfl) (jm G9z (hr.mono (by decide)) rfl T.m9z F9z.kp b9z .nil jo (jc (jm G6z (hr.mono (by decide)) rfl T.m6z F6z.kp b6z .nil jo (jc (qpv 0) (jc jg jd))) jd)))))
  (yr (j0 (QW.pt (jaq (jae (za (jm G8z (hr.mono (by decide)) rfl T.m8z F8z.kp b8z .nil jo (jc (qpv 2) jd)))) (jar (jae (za (jm G8z (hr.mono (by decide)) rfl T.m8z F8z.kp b8z .nil jo (jc (qpv 3) jd))))))) (ji (ju z4)) j6)
  (jh (jp (i:=4) jai.nd rfl (by first|exact Or.inl rfl|exact Or.inr rfl) (zj (kz hu) (jm G2z (hr.mono (by decide)) rfl T.m2z F2z.kp b2z .nil jo (jc (qpv 2) jd)) (jm G2z (hr.mono (by decide)) rfl T.m2z F2z.kp b2z .nil jo (jc (qpv 3) jd)) (jx _)))
  (yr (j0 (jt (jbd hu) (qpv 4) (zj (jbw (K:=K) rfl hu) (jm G3z (hr.mono (by decide)) rfl T.m3z F3z.kp b3z .nil jo (jc (qpv 2) jd)) (jm G3z (hr.mono (by decide)) rfl T.m3z F3z.kp b3z .nil jo (jc (qpv 3) jd)) (jx _)) (jx _)) (ji (ju z4)) j6)
  (jh (zu Iq rfl (qpi_range2 rfl T.n_range (jc jg (jc (jq j9 jg (jy ka (by rfl) T.n_len ky (jc (zd (jal (K:=K) rfl) (qpv 0) (y6 jg) (y6 jg)) jd))) jd))) (kh (i:=5) jai.nd rfl (by first|exact Or.inl rfl|exact Or.inr rfl)) (ji (j0 (jae (za (jm G8z (hr.mono (by decide)) rfl T.m8z F8z.kp b8z .nil jo (jc (jm G9z (hr.mono (by decide)) rfl T.m9z F9z.kp b9z .nil jo (jc (jm G6z (hr.mono (by decide)) rfl T.m6z F6z.kp b6z .nil jo (jc (qpv 0) (jc (qpv 5) jd))) jd)) jd)))) (ji (ju z4)) j6)))
  (ji (ju (jm G8z (hr.mono (by decide)) rfl T.m8z F8z.kp b8z .nil jo (jc (qpv 2) jd))))))))))) ?_
  simp!
  refine⟨a,0,is,rfl,hS,by omega,by omega,λb o hb ho=>?_⟩
  have kb:Kp [] H (upd H b o):=(Kp.refl [] H).new hb
  have sb0:SB (upd H b o) b (upd H b o):=⟨Kp.refl _ _,o,je,ho⟩
  generalize upd H b o=H0 at kb sb0⊢
  have fr1:∀s∈[b],H s=none:=λs hs=>by rw[Ag.mp hs];exact hb
  refine⟨b,rfl,sb0,λt1 us1 rs1 H1 ht1 ex1 n1 dr1 sb1=>?_⟩
  have k1:Kp [] H H1:=Kp.fresh kb sb1.kp fr1
  obtain⟨⟨L1,lb1⟩,m1⟩:=DR.lb ex1 dr1
  have sb1':SB H1 b H1:=⟨Kp.refl _ _,sb1.bx⟩
  obtain⟨J1,hJ1⟩:∃J:L2.St->Hp->Prop,J=λσ H'=>∃(t2:Addr)(us2:List V)(rs2:List RE)(L2:Nat->Nat),σ=[some (.ref a),some (.ref b),some (.ref t1),some (.ref t2),none,none]/\H' t2=some (.tup us2)/\Exp H' us2 rs2/\LB rs2 L2/\1<=rs2.length/\rs2.length<=60/\Kp [b] H1 H':=⟨_,rfl⟩
  refine⟨J1,?_,?_⟩
  ·simp!
   refine sb1'.tq (by omega) (by omega) λd H2 d0 d1 sb2 k2=>?_
   have k02:Kp [] H H2:=Kp.fresh k1 k2 fr1
   simp!
   refine ite2 (λ_=>?_) (λ_=>?_)
   ·refine⟨a,1,is,rfl,k02.seq (by simp) hS,by omega,by omega,λb2 o2 hb2 ho2=>?_⟩
    have kb2:Kp [] H2 (upd H2 b2 o2):=(Kp.refl [] H2).new hb2
    have sb3:SB (upd H2 b2 o2) b2 (upd H2 b2 o2):=⟨Kp.refl _ _,o2,je,ho2⟩
    generalize upd H2 b2 o2=H3 at kb2 sb3⊢
    have k23:Kp [b] H1 H3:=k2.trans (kb2.mono (by simp))
    refine⟨b2,t1,us1,rs1,rfl,sb3,k23.tup _ _ ht1,ex1.kp k23,n1,dr1,λt2 us2 rs2 L2 H4 ht2 ex2 lb2 n2 m2 sb4=>?_⟩
    rw[hJ1]
    have k24:Kp [] H2 H4:=Kp.fresh kb2 sb4.kp λs hs=>by rw[Ag.mp hs];exact hb2
    exact⟨t2,us2,rs2,L2,rfl,ht2,ex2,lb2,n2,m2,k2.trans (k24.mono (by simp))⟩
   ·refine⟨a,1,is,rfl,k02.seq (by simp) hS,by omega,by omega,λb2 o2 hb2 ho2=>?_⟩
    have kb2:Kp [] H2 (upd H2 b2 o2):=(Kp.refl [] H2).new hb2
    have sb3:SB (upd H2 b2 o2) b2 (upd H2 b2 o2):=⟨Kp.refl _ _,o2,je,ho2⟩
    generalize upd H2 b2 o2=H3 at kb2 sb3⊢
    refine⟨b2,rfl,sb3,λt2 us2 rs2 H4 ht2 ex2 n2 dr2 sb4=>?_⟩
    rw[hJ1]
    have k24:Kp [] H2 H4:=Kp.fresh kb2 sb4.kp λs hs=>by rw[Ag.mp hs];exact hb2
    obtain⟨⟨L2,lb2⟩,m2⟩:=DR.lb ex2 dr2
    exact⟨t2,us2,rs2,L2,rfl,ht2,ex2,lb2,n2,m2,k2.trans (k24.mono (by simp))⟩
  intro σ H2 hj
  rw[hJ1]at hj
  obtain⟨t2,us2,rs2,L2,rfl,ht2,ex2,lb2,n2,m2,k12⟩:=hj
  have k2:Kp [] H H2:=Kp.fresh k1 k12 fr1
  have ht1':=k12.tup _ _ ht1
  have ex1':=ex1.kp k12
  clear k12 sb1' sb1 fr1 ht1 ex1 hJ1
  have tb2:=tb.kp k2 (by simp) (by simp)
  have R1:∀(H':Hp)(Q':VK),Kp [Pt] H2 H'->TabOk H' Pt LQ->(∀H3,Kp [Pt] H2 H3->TabOk H3 Pt LQ->Q' (.bl true) H3)->spR3 Pt [.ref t1] H' Q' E0:=λH' Q' kk tb' q=>⟨t1,us1,rs1,L1,rfl,kk.tup _ _ ht1',ex1'.kp kk,lb1,n1,m1,tb',λH3 k3 tb3=>q H3 (kk.trans k3) tb3⟩
  have R2:∀(H':Hp)(Q':VK),Kp [Pt] H2 H'->TabOk H' Pt LQ->(∀H3,Kp [Pt] H2 H3->TabOk H3 Pt LQ->Q' (.bl true) H3)->spR3 Pt [.ref t2] H' Q' E0:=λH' Q' kk tb' q=>⟨t2,us2,rs2,L2,rfl,kk.tup _ _ ht2,ex2.kp kk,lb2,n2,m2,tb',λH3 k3 tb3=>q H3 (kk.trans k3) tb3⟩
  refine⟨λσ H'=>σ=[some (.ref a),some (.ref b),some (.ref t1),some (.ref t2),none,none]/\Kp [Pt] H2 H'/\TabOk H' Pt LQ,?_,?_⟩
  ·simp!
   refine R1 H2 _ (Kp.refl _ _) tb2 λH3 k3 tb3=>⟨true,rfl,?_⟩
   rw[Ae (by decide)]
   refine R2 H3 _ k3 tb3 λH4 k4 tb4=>⟨true,rfl,?_⟩
   rw[Ae (by decide)]
   exact⟨k4,tb4⟩
  rintro _ H3 ⟨rfl,k3,tb3⟩
  simp!
  have ok1:okZ rs1:=ex1'.ok
  have ok2:okZ rs2:=ex2.ok
  refine⟨t1,us1,rs1,TX rs1,rfl,k3.tup _ _ ht1',ex1'.kp k3,tb3,lb1.wr ok1 n1 (by omega),λH4 k4 tb4=>?_⟩
  have k34:=k3.trans k4
  refine⟨t2,us2,rs2,TX rs2,rfl,k34.tup _ _ ht2,ex2.kp k34,tb4,lb2.wr ok2 n2 (by omega),λH5 k5 tb5=>?_⟩
  have k35:=k34.trans k5
  simp!
  refine⟨λσ H'=>(∃v4,σ=[some (.ref a),some (.ref b),some (.ref t1),some (.ref t2),v4,none])/\Kp [] H5 H',?_,?_⟩
  ·simp!
   refine⟨t1,us1,rs1,rfl,k35.tup _ _ ht1',ex1'.kp k35,n1,m1,λq1 vs1 F1 H6 tp1 sh1 hq1 rt1 k6=>?_⟩
   have k36:Kp [Pt] H2 H6:=k35.trans (k6.mono (by simp))
   refine⟨t2,us2,rs2,rfl,k36.tup _ _ ht2,ex2.kp k36,n2,m2,λq2 vs2 F2 H7 tp2 sh2 hq2 rt2 k7=>?_⟩
   refine⟨q1,q2,vs1,vs2,F1.map rowD,F2.map rowD,rfl,rfl,SqT.of (k7.tup _ _ hq1),SqT.of hq2,jc2 (rt1.kp k7),jc2 rt2,jdt sh1,jdt sh2,?_⟩
   rw[jeo]
   have al:=jpr n1 n2 ok1 ok2 tp1 tp2
   have e8:decide (F1=F2)=decide (tx (TX rs1) (rs1.length-1)=tx (TX rs2) (rs2.length-1)):=decide_eq_decide.mpr al.symm
   rw[e8]
   show rNeU (V.bl _) (V.bl _) H7 _
   generalize decide (tx (TX rs1) (rs1.length-1)=tx (TX rs2) (rs2.length-1))=v
   simp!
   rw[Ae (by simp)]
   exact⟨⟨_,rfl⟩,k6.trans k7⟩
  rintro _ H6 ⟨⟨v4,rfl⟩,k6⟩
  have tb6:=tb5.kp k6 (by simp) (by simp)
  have k26:Kp [Pt] H2 H6:=k35.trans (k6.mono (by simp))
  have kH6:Kp [Pt] H H6:=(k2.mono (by simp)).trans k26
  simp!
  refine rSlU.sq (kH6.seq (by simpa using naP) hS) λp hp=>?_
  have cl:=jed (is.map V.int) (some 3) (some 8)
  rw[Ab]at cl
  generalize cutV (is.map V.int) (some 3) (some 8)=cu at cl
  have k7:Kp [] H6 (upd H6 p (.lst cu)):=(Kp.refl [] H6).new hp
  have ep:upd H6 p (.lst cu) p=some (.lst cu):=je
  generalize upd H6 p (.lst cu)=H7 at k7 ep⊢
  simp! [ep]
  refine⟨3,_,⟨rfl,rfl⟩,by omega,?_⟩
  rw[show((3+(cu.length:Int))-3).toNat=cu.length by omega]
  refine jdv (λi σ H'=>∃v5,σ=[some (.ref a),some (.ref b),some (.ref t1),some (.ref t2),v4,v5]/\Kp [Pt] H2 H'/\TabOk H' Pt LQ) ⟨none,rfl,k26.trans (k7.mono (by simp)),tb6.kp k7 (by simp) (by simp)⟩ ?_ ?_
  ·rintro i σ H8 hi ⟨v5,rfl,k8,tb8⟩
   simp!
   have kH8:Kp [Pt] H H8:=(k2.mono (by simp)).trans k8
   refine⟨a,_,is,rfl,kH8.seq (by simpa using naP) hS,by omega,by omega,λb2 o2 hb2 ho2=>?_⟩
   have kb2:Kp [] H8 (upd H8 b2 o2):=(Kp.refl [] H8).new hb2
   have sb3:SB (upd H8 b2 o2) b2 (upd H8 b2 o2):=⟨Kp.refl _ _,o2,je,ho2⟩
   generalize upd H8 b2 o2=H9 at kb2 sb3⊢
   refine⟨b2,rfl,sb3,λt3 us3 rs3 H10 ht3 ex3 n3 dr3 sb4=>?_⟩
   have k24:Kp [] H8 H10:=Kp.fresh kb2 sb4.kp λs hs=>by rw[Ag.mp hs];exact hb2
   obtain⟨⟨L3,lb3⟩,m3⟩:=DR.lb ex3 dr3
   refine⟨t3,us3,rs3,L3,rfl,ht3,ex3,lb3,n3,m3,tb8.kp k24 (by simp) (by simp),λH11 k11 tb11=>⟨true,rfl,?_⟩⟩
   rw[Ae (by decide)]
   exact⟨(k8.trans (k24.mono (by simp))).trans k11,tb11⟩
  ·rintro σ H8 ⟨v5,rfl,k8,tb8⟩
   simp!
   exact R1 H8 _ k8 tb8 λH9 _ _=>kQ H9
end
theorem c_of{K:PySem.W.Frag}{hh:Heap}(X:K.In hh){b c:Addr}{fd:FuncData}{oc:Value}{od:Option Addr}{osl:Array (Option Value)}(h3:PySem.W.nsIn K mainGlobals "show_expression"=some (some (.ref b)))(h4:K.lookup b=some ⟨oc,od,.func fd,osl⟩)(h5:fd.code=.ref c)(h6:PySem.W.codeHdIn K c 104=true):∃c,PySem.W.CodeHd hh c 104:=⟨c,PySem.W.codeHd_of_K X h6⟩
theorem jga{P:Program}{w:World}{K:PySem.W.Frag}{a:Addr}{kvs:List (Key×V)}{es:Array DictEntry}{ep:Nat}(lk:K.lookup a=some {cls:=.type "dict",data:=.dict es ep})
  (h:Paired (fun(e:DictEntry) (kv:Key×V)=>∃x t,e.key=.str x t/\e.hash=PyData.keyHash w.params x/\kv.1=.inr x/\RelV kv.2 e.val) es.toList kvs) (nd:(kvs.map Prod.fst).Nodup):KDict P w K a kvs:=by
 have key:∀{l:List DictEntry}{kvs:List (Key×V)},Paired (fun(e:DictEntry) (kv:Key×V)=>∃x t,e.key=.str x t/\e.hash=PyData.keyHash w.params x/\kv.1=.inr x/\RelV kv.2 e.val) l kvs->∃m:List (Str×Tok×Value),l=m.map (entS w)/\KV kvs (m.map λp=>((Sum.inr p.1:Key),p.2.2)):=by
  intro l kvs h
  induction h with
  |nil=>exact⟨[],rfl,.nil⟩
  |cons h _ ih =>
   obtain⟨x,t,e1,e2,e3,e4⟩:=h
   obtain⟨m,f1,f2⟩:=ih
   rename_i e kv _ _ _
   refine⟨(x,t,e.val)::m,?_,.cons ⟨e3,e4⟩ f2⟩
   rw[Ay,<-f1]
   obtain⟨hh,kk,vv⟩:=e
   cases e1
   cases e2
   rfl
 obtain⟨m,e1,e2⟩:=key h
 exact KDict.of lk e1 e2 nd
theorem us2{C:List Value->Prop}(h:∀v0 v1:Value,C [v0,v1])(us:List Value)(e:us.length=2):C us:=by
 cases us with
 |nil=>exact absurd e.symm (Oo _)
 |cons v0 us =>
  cases us with
  |nil=>exact absurd (Ow (e.symm)) (Oo _)
  |cons v1 us =>
   cases us with
   |nil=>exact h v0 v1
   |cons _ _=>exact absurd (Ow (Ow (e))) (Oo _)
theorem us3{C:List Value->Prop}(h:∀v0 v1 v2:Value,C [v0,v1,v2])(us:List Value)(e:us.length=3):C us:=by
 cases us with
 |nil=>exact absurd e.symm (Oo _)
 |cons v0 us =>
  cases us with
  |nil=>exact absurd (Ow (e.symm)) (Oo _)
  |cons v1 us =>
   cases us with
   |nil=>exact absurd (Ow (Ow (e.symm))) (Oo _)
   |cons v2 us =>
    cases us with
    |nil=>exact h v0 v1 v2
    |cons _ _=>exact absurd (Ow (Ow (Ow (e)))) (Oo _)
theorem all_mk{l:PySem.W.OpenLaw}{w:World}{K:PySem.W.Frag}{h:Heap}{mg:Str->Option Value}{fa f1 f2 f3 f4 f5 f6 f7 f8 f9 f10 f11 f12 f13 f14 f15 f16 f17 f18 f19 f20 f21 f22 f23 f24 f25 f26:Addr}(X:K.In h)(G:h.Ns mainGlobals mg)(hfa:mg "law"=some (.ref fa))
  {od1 od2 od3 od4 od5 od6 od7 od8 od9 od10 od11 od12 od13 od14 od15 od16 od17 od18 od19 od20 od21 od22 od23 od24 od25 od26 an1 an2 an3 an4 an5 an6 an7 an8 an9 an10 an11 an12 an13 an14 an15 an16 an17 an18 an19 an20 an21 an22 an23 an24 an25 an26:Option Addr}{sl1 sl2 sl3 sl4 sl5 sl6 sl7 sl8 sl9 sl10 sl11 sl12 sl13 sl14 sl15 sl16 sl17 sl18 sl19 sl20 sl21 sl22 sl23 sl24 sl25 sl26:Array (Option Value)}{oc1 kV1 dc1 pm1 cd1 ct1 oc2 kV2 dc2 pm2 cd2 ct2 oc3 kV3 dc3 pm3 cd3 ct3 oc4 kV4 dc4 pm4 cd4 ct4 oc5 kV5 dc5 pm5 cd5 ct5 oc6 kV6 dc6 pm6 cd6 ct6 oc7 kV7 dc7 pm7 cd7 ct7 oc8 kV8 dc8 pm8 cd8 ct8 oc9 kV9 dc9 pm9 cd9 ct9 oc10 kV10 dc10 pm10 cd10 ct10 oc11 kV11 dc11 pm11 cd11 ct11 oc12 kV12 dc12 pm12 cd12 ct12 oc13 kV13 dc13 pm13 cd13 ct13 oc14 kV14 dc14 pm14 cd14 ct14 oc15 kV15 dc15 pm15 cd15 ct15 oc16 kV16 dc16 pm16 cd16 ct16 oc17 kV17 dc17 pm17 cd17 ct17 oc18 kV18 dc18 pm18 cd18 ct18 oc19 kV19 dc19 pm19 cd19 ct19 oc20 kV20 dc20 pm20 cd20 ct20 oc21 kV21 dc21 pm21 cd21 ct21 oc22 kV22 dc22 pm22 cd22 ct22 oc23 kV23 dc23 pm23 cd23 ct23 oc24 kV24 dc24 pm24 cd24 ct24 oc25 kV25 dc25 pm25 cd25 ct25 oc26 kV26 dc26 pm26 cd26 ct26:Value}
  {C ab aw as cc:Addr}{esb esw ess:Array DictEntry}{epb epw eps:Nat}{tkm:Tok}{M0:Addr}{vd0 va0:Option Addr}{vs0:Array (Option Value)}{vo0 vk0 vq0 vp0 vc0 vt0:Value}{M1:Addr}{vd1 va1:Option Addr}{vs1:Array (Option Value)}{vo1 vk1 vq1 vp1 vc1 vt1:Value}{M2:Addr}{vd2 va2:Option Addr}{vs2:Array (Option Value)}{vo2 vk2 vq2 vp2 vc2 vt2:Value}{M3:Addr}{vd3 va3:Option Addr}{vs3:Array (Option Value)}{vo3 vk3 vq3 vp3 vc3 vt3:Value}{M4:Addr}{vd4 va4:Option Addr}{vs4:Array (Option Value)}{vo4 vk4 vq4 vp4 vc4 vt4:Value}{M5:Addr}{vd5 va5:Option Addr}{vs5:Array (Option Value)}{vo5 vk5 vq5 vp5 vc5 vt5:Value}{M6:Addr}{vd6 va6:Option Addr}{vs6:Array (Option Value)}{vo6 vk6 vq6 vp6 vc6 vt6:Value}
  (a1:PySem.W.nsIn K mainGlobals "parts_of"=some (some (.ref f1))) (l1:K.lookup f1=some ⟨oc1,od1,.func (PySem.W.fnOf "parts_of" "parts_of" (jw yy) (jv yy) (jk yy) .none kV1 dc1 pm1 an1 cd1 ct1),sl1⟩) (c1:PySem.W.codeIn K cd1 "parts_of"=true) (k1:PySem.W.keepIn K (.ref f1)=true)
  (a2:PySem.W.nsIn K mainGlobals "with_parts"=some (some (.ref f2))) (l2:K.lookup f2=some ⟨oc2,od2,.func (PySem.W.fnOf "with_parts" "with_parts" (jw ya) (jv ya) (jk ya) .none kV2 dc2 pm2 an2 cd2 ct2),sl2⟩) (c2:PySem.W.codeIn K cd2 "with_parts"=true) (k2:PySem.W.keepIn K (.ref f2)=true)
  (a3:PySem.W.nsIn K mainGlobals "in_order"=some (some (.ref f3))) (l3:K.lookup f3=some ⟨oc3,od3,.func (PySem.W.fnOf "in_order" "in_order" (jw ym) (jv ym) (jk ym) .none kV3 dc3 pm3 an3 cd3 ct3),sl3⟩) (c3:PySem.W.codeIn K cd3 "in_order"=true) (k3:PySem.W.keepIn K (.ref f3)=true)
  (a4:PySem.W.nsIn K mainGlobals "heads_of"=some (some (.ref f4))) (l4:K.lookup f4=some ⟨oc4,od4,.func (PySem.W.fnOf "heads_of" "heads_of" (jw yx) (jv yx) (jk yx) .none kV4 dc4 pm4 an4 cd4 ct4),sl4⟩) (c4:PySem.W.codeIn K cd4 "heads_of"=true) (k4:PySem.W.keepIn K (.ref f4)=true)
  (a5:PySem.W.nsIn K mainGlobals "tidied"=some (some (.ref f5))) (l5:K.lookup f5=some ⟨oc5,od5,.func (PySem.W.fnOf "tidied" "tidied" (jw zk) (jv zk) (jk zk) .none kV5 dc5 pm5 an5 cd5 ct5),sl5⟩) (c5:PySem.W.codeIn K cd5 "tidied"=true) (k5:PySem.W.keepIn K (.ref f5)=true)
  (a6:PySem.W.nsIn K mainGlobals "written"=some (some (.ref f6))) (l6:K.lookup f6=some ⟨oc6,od6,.func (PySem.W.fnOf "written" "written" (jw zm) (jv zm) (jk zm) .none kV6 dc6 pm6 an6 cd6 ct6),sl6⟩) (c6:PySem.W.codeIn K cd6 "written"=true) (k6:PySem.W.keepIn K (.ref f6)=true)
  (a7:PySem.W.nsIn K mainGlobals "signs_of"=some (some (.ref f7))) (l7:K.lookup f7=some ⟨oc7,od7,.func (PySem.W.fnOf "signs_of" "signs_of" (jw yz) (jv yz) (jk yz) .none kV7 dc7 pm7 an7 cd7 ct7),sl7⟩) (c7:PySem.W.codeIn K cd7 "signs_of"=true) (k7:PySem.W.keepIn K (.ref f7)=true)
  (a8:PySem.W.nsIn K mainGlobals "show_expression"=some (some (.ref f8))) (l8:K.lookup f8=some ⟨oc8,od8,.func (PySem.W.fnOf "show_expression" "show_expression" (jw kc) (jv kc) (jk kc) .none kV8 dc8 pm8 an8 cd8 ct8),sl8⟩) (c8:PySem.W.codeIn K cd8 "show_expression"=true) (k8:PySem.W.keepIn K (.ref f8)=true)
  (a9:PySem.W.nsIn K mainGlobals "pieces_of"=some (some (.ref f9))) (l9:K.lookup f9=some ⟨oc9,od9,.func (PySem.W.fnOf "pieces_of" "pieces_of" (jw y8) (jv y8) (jk y8) .none kV9 dc9 pm9 an9 cd9 ct9),sl9⟩) (c9:PySem.W.codeIn K cd9 "pieces_of"=true) (k9:PySem.W.keepIn K (.ref f9)=true)
  (a10:PySem.W.nsIn K mainGlobals "bound_part"=some (some (.ref f10))) (l10:K.lookup f10=some ⟨oc10,od10,.func (PySem.W.fnOf "bound_part" "bound_part" (jw yw) (jv yw) (jk yw) .none kV10 dc10 pm10 an10 cd10 ct10),sl10⟩) (c10:PySem.W.codeIn K cd10 "bound_part"=true) (k10:PySem.W.keepIn K (.ref f10)=true)
  (a11:PySem.W.nsIn K mainGlobals "read_expression"=some (some (.ref f11))) (l11:K.lookup f11=some ⟨oc11,od11,.func (PySem.W.fnOf "read_expression" "read_expression" (jw ku) (jv ku) (jk ku) .none kV11 dc11 pm11 an11 cd11 ct11),sl11⟩) (c11:PySem.W.codeIn K cd11 "read_expression"=true) (k11:PySem.W.keepIn K (.ref f11)=true)
  (a12:PySem.W.nsIn K mainGlobals "row_of_sign"=some (some (.ref f12))) (l12:K.lookup f12=some ⟨oc12,od12,.func (PySem.W.fnOf "row_of_sign" "row_of_sign" (jw yk) (jv yk) (jk yk) .none kV12 dc12 pm12 an12 cd12 ct12),sl12⟩) (c12:PySem.W.codeIn K cd12 "row_of_sign"=true) (k12:PySem.W.keepIn K (.ref f12)=true)
  (a13:PySem.W.nsIn K mainGlobals "_law_box"=some (some (.ref f13))) (l13:K.lookup f13=some ⟨oc13,od13,.func (PySem.W.fnOf "_law_box" "_law_box" (jw ze) (jv ze) (jk ze) .none kV13 dc13 pm13 an13 cd13 ct13),sl13⟩) (c13:PySem.W.codeIn K cd13 "_law_box"=true) (k13:PySem.W.keepIn K (.ref f13)=true)
  (a14:PySem.W.nsIn K mainGlobals "_law_take"=some (some (.ref f14))) (l14:K.lookup f14=some ⟨oc14,od14,.func (PySem.W.fnOf "_law_take" "_law_take" (jw kg) (jv kg) (jk kg) .none kV14 dc14 pm14 an14 cd14 ct14),sl14⟩) (c14:PySem.W.codeIn K cd14 "_law_take"=true) (k14:PySem.W.keepIn K (.ref f14)=true)
  (a15:PySem.W.nsIn K mainGlobals "_law_letters"=some (some (.ref f15))) (l15:K.lookup f15=some ⟨oc15,od15,.func (PySem.W.fnOf "_law_letters" "_law_letters" (jw yg) (jv yg) (jk yg) .none kV15 dc15 pm15 an15 cd15 ct15),sl15⟩) (c15:PySem.W.codeIn K cd15 "_law_letters"=true) (k15:PySem.W.keepIn K (.ref f15)=true)
  (a16:PySem.W.nsIn K mainGlobals "_law_row_at"=some (some (.ref f16))) (l16:K.lookup f16=some ⟨oc16,od16,.func (PySem.W.fnOf "_law_row_at" "_law_row_at" (jw yj) (jv yj) (jk yj) .none kV16 dc16 pm16 an16 cd16 ct16),sl16⟩) (c16:PySem.W.codeIn K cd16 "_law_row_at"=true) (k16:PySem.W.keepIn K (.ref f16)=true)
  (a17:PySem.W.nsIn K mainGlobals "_law_expression"=some (some (.ref f17))) (l17:K.lookup f17=some ⟨oc17,od17,.func (PySem.W.fnOf "_law_expression" "_law_expression" (jw ko) (jv ko) (jk ko) .none kV17 dc17 pm17 an17 cd17 ct17),sl17⟩) (c17:PySem.W.codeIn K cd17 "_law_expression"=true) (k17:PySem.W.keepIn K (.ref f17)=true)
  (a18:PySem.W.nsIn K mainGlobals "_law_chain"=some (some (.ref f18))) (l18:K.lookup f18=some ⟨oc18,od18,.func (PySem.W.fnOf "_law_chain" "_law_chain" (jw yt) (jv yt) (jk yt) .none kV18 dc18 pm18 an18 cd18 ct18),sl18⟩) (c18:PySem.W.codeIn K cd18 "_law_chain"=true) (k18:PySem.W.keepIn K (.ref f18)=true)
  (a19:PySem.W.nsIn K mainGlobals "_law_laid"=some (some (.ref f19))) (l19:K.lookup f19=some ⟨oc19,od19,.func (PySem.W.fnOf "_law_laid" "_law_laid" (jw yn) (jv yn) (jk yn) .none kV19 dc19 pm19 an19 cd19 ct19),sl19⟩) (c19:PySem.W.codeIn K cd19 "_law_laid"=true) (k19:PySem.W.keepIn K (.ref f19)=true)
  (a20:PySem.W.nsIn K mainGlobals "_law_tidy"=some (some (.ref f20))) (l20:K.lookup f20=some ⟨oc20,od20,.func (PySem.W.fnOf "_law_tidy" "_law_tidy" (jw yo) (jv yo) (jk yo) .none kV20 dc20 pm20 an20 cd20 ct20),sl20⟩) (c20:PySem.W.codeIn K cd20 "_law_tidy"=true) (k20:PySem.W.keepIn K (.ref f20)=true)
  (a21:PySem.W.nsIn K mainGlobals "_law_drawn"=some (some (.ref f21))) (l21:K.lookup f21=some ⟨oc21,od21,.func (PySem.W.fnOf "_law_drawn" "_law_drawn" (jw yu) (jv yu) (jk yu) .none kV21 dc21 pm21 an21 cd21 ct21),sl21⟩) (c21:PySem.W.codeIn K cd21 "_law_drawn"=true) (k21:PySem.W.keepIn K (.ref f21)=true)
  (a22:PySem.W.nsIn K mainGlobals "_law_changed"=some (some (.ref f22))) (l22:K.lookup f22=some ⟨oc22,od22,.func (PySem.W.fnOf "_law_changed" "_law_changed" (jw yb) (jv yb) (jk yb) .none kV22 dc22 pm22 an22 cd22 ct22),sl22⟩) (c22:PySem.W.codeIn K cd22 "_law_changed"=true) (k22:PySem.W.keepIn K (.ref f22)=true)
  (a23:PySem.W.nsIn K mainGlobals "_law_without_pair"=some (some (.ref f23))) (l23:K.lookup f23=some ⟨oc23,od23,.func (PySem.W.fnOf "_law_without_pair" "_law_without_pair" (jw ki) (jv ki) (jk ki) .none kV23 dc23 pm23 an23 cd23 ct23),sl23⟩) (c23:PySem.W.codeIn K cd23 "_law_without_pair"=true) (k23:PySem.W.keepIn K (.ref f23)=true)
  (a24:PySem.W.nsIn K mainGlobals "_law_begins"=some (some (.ref f24))) (l24:K.lookup f24=some ⟨oc24,od24,.func (PySem.W.fnOf "_law_begins" "_law_begins" (jw ye) (jv ye) (jk ye) .none kV24 dc24 pm24 an24 cd24 ct24),sl24⟩) (c24:PySem.W.codeIn K cd24 "_law_begins"=true) (k24:PySem.W.keepIn K (.ref f24)=true)
  (a25:PySem.W.nsIn K mainGlobals "_law_right"=some (some (.ref f25))) (l25:K.lookup f25=some ⟨oc25,od25,.func (PySem.W.fnOf "_law_right" "_law_right" (jw yv) (jv yv) (jk yv) .none kV25 dc25 pm25 an25 cd25 ct25),sl25⟩) (c25:PySem.W.codeIn K cd25 "_law_right"=true) (k25:PySem.W.keepIn K (.ref f25)=true)
  (a26:PySem.W.nsIn K mainGlobals "law"=some (some (.ref f26))) (l26:K.lookup f26=some ⟨oc26,od26,.func (PySem.W.fnOf "law" "law" (jw jac) (jv jac) (jk jac) .none kV26 dc26 pm26 an26 cd26 ct26),sl26⟩) (c26:PySem.W.codeIn K cd26 "law"=true) (k26:PySem.W.keepIn K (.ref f26)=true)
  (z_len:PySem.W.nsIn K mainGlobals "len"=some none)
  (z_int:PySem.W.nsIn K mainGlobals "int"=some none)
  (z_range:PySem.W.nsIn K mainGlobals "range"=some none)
  (z_list:PySem.W.nsIn K mainGlobals "list"=some none)
  (z_tuple:PySem.W.nsIn K mainGlobals "tuple"=some none)
  (z_isinstance:PySem.W.nsIn K mainGlobals "isinstance"=some none)
  (z_str:PySem.W.nsIn K mainGlobals "str"=some none)
  (z_bool:PySem.W.nsIn K mainGlobals "bool"=some none)
  (z_enumerate:PySem.W.nsIn K mainGlobals "enumerate"=some none)
  (z_min:PySem.W.nsIn K mainGlobals "min"=some none)
  (z_sum:PySem.W.nsIn K mainGlobals "sum"=some none)
  (z_reversed:PySem.W.nsIn K mainGlobals "reversed"=some none)
  (z_sorted:PySem.W.nsIn K mainGlobals "sorted"=some none)
  (z_set:PySem.W.nsIn K mainGlobals "set"=some none)
  (aC:PySem.W.nsIn K mainGlobals "Reading"=some (some (.ref C)))
  (Cpg:PySem.W.plainGet K C Str.empty=true)
  (Chd:PySem.W.hasDictIn K C=true)
  (Cpo:PySem.W.plainOver K C=true)
  (Csa:PySem.W.findIn K (.ref C) "__setattr__"=some (some (.builtin "object.__setattr__")))
  (Cmk:PySem.W.makesIn K C=true)
  (Ckp:PySem.W.keepIn K (.ref C)=true)
  (Nrows:PySem.W.findIn K (.ref C) "rows"=some none)
  (Nready:PySem.W.findIn K (.ref C) "ready"=some none)
  (Nwaiting:PySem.W.findIn K (.ref C) "waiting"=some none)
  (Nopened:PySem.W.findIn K (.ref C) "opened"=some none)
  (Ndue:PySem.W.findIn K (.ref C) "due"=some none)
  (fm0:PySem.W.findIn K (.ref C) "__init__"=some (some (.ref M0)))
  (lm0:K.lookup M0=some ⟨vo0,vd0,.func (PySem.W.fnOf "__init__" "Reading.__init__" (jw zx) (jv zx) (jk zx) .none vk0 vq0 vp0 va0 vc0 vt0),vs0⟩)
  (cm0:PySem.W.codeIn K vc0 "Reading.__init__"=true)
  (km0:PySem.W.keepIn K (.ref M0)=true)
  (im0:PySem.W.isFn K (.ref M0)=true)
  (fm1:PySem.W.findIn K (.ref C) "fits"=some (some (.ref M1)))
  (lm1:K.lookup M1=some ⟨vo1,vd1,.func (PySem.W.fnOf "fits" "Reading.fits" (jw zw) (jv zw) (jk zw) .none vk1 vq1 vp1 va1 vc1 vt1),vs1⟩)
  (cm1:PySem.W.codeIn K vc1 "Reading.fits"=true)
  (km1:PySem.W.keepIn K (.ref M1)=true)
  (im1:PySem.W.isFn K (.ref M1)=true)
  (fm2:PySem.W.findIn K (.ref C) "take"=some (some (.ref M2)))
  (lm2:K.lookup M2=some ⟨vo2,vd2,.func (PySem.W.fnOf "take" "Reading.take" (jw zy) (jv zy) (jk zy) .none vk2 vq2 vp2 va2 vc2 vt2),vs2⟩)
  (cm2:PySem.W.codeIn K vc2 "Reading.take"=true)
  (km2:PySem.W.keepIn K (.ref M2)=true)
  (im2:PySem.W.isFn K (.ref M2)=true)
  (fm3:PySem.W.findIn K (.ref C) "wait_for_second"=some (some (.ref M3)))
  (lm3:K.lookup M3=some ⟨vo3,vd3,.func (PySem.W.fnOf "wait_for_second" "Reading.wait_for_second" (jw km) (jv km) (jk km) .none vk3 vq3 vp3 va3 vc3 vt3),vs3⟩)
  (cm3:PySem.W.codeIn K vc3 "Reading.wait_for_second"=true)
  (km3:PySem.W.keepIn K (.ref M3)=true)
  (im3:PySem.W.isFn K (.ref M3)=true)
  (fm4:PySem.W.findIn K (.ref C) "begin_part"=some (some (.ref M4)))
  (lm4:K.lookup M4=some ⟨vo4,vd4,.func (PySem.W.fnOf "begin_part" "Reading.begin_part" (jw yh) (jv yh) (jk yh) .none vk4 vq4 vp4 va4 vc4 vt4),vs4⟩)
  (cm4:PySem.W.codeIn K vc4 "Reading.begin_part"=true)
  (km4:PySem.W.keepIn K (.ref M4)=true)
  (im4:PySem.W.isFn K (.ref M4)=true)
  (fm5:PySem.W.findIn K (.ref C) "bind"=some (some (.ref M5)))
  (lm5:K.lookup M5=some ⟨vo5,vd5,.func (PySem.W.fnOf "bind" "Reading.bind" (jw zv) (jv zv) (jk zv) .none vk5 vq5 vp5 va5 vc5 vt5),vs5⟩)
  (cm5:PySem.W.codeIn K vc5 "Reading.bind"=true)
  (km5:PySem.W.keepIn K (.ref M5)=true)
  (im5:PySem.W.isFn K (.ref M5)=true)
  (fm6:PySem.W.findIn K (.ref C) "put_row"=some (some (.ref M6)))
  (lm6:K.lookup M6=some ⟨vo6,vd6,.func (PySem.W.fnOf "put_row" "Reading.put_row" (jw zb) (jv zb) (jk zb) .none vk6 vq6 vp6 va6 vc6 vt6),vs6⟩)
  (cm6:PySem.W.codeIn K vc6 "Reading.put_row"=true)
  (km6:PySem.W.keepIn K (.ref M6)=true)
  (im6:PySem.W.isFn K (.ref M6)=true)
  (eb:PySem.W.nsIn K mainGlobals "BINDS"=some (some (.ref ab)))
  (lb:K.lookup ab=some {cls:=.type "dict",data:=.dict esb epb})
  (vb:Paired (fun(e:DictEntry) (kv:Key×V)=>∃x t,e.key=.str x t/\e.hash=PyData.keyHash w.params x/\kv.1=.inr x/\RelV kv.2 e.val) esb.toList KB)
  (nb:(KB.map Prod.fst).Nodup)
  (ew:PySem.W.nsIn K mainGlobals "WORDS"=some (some (.ref aw)))
  (lw:K.lookup aw=some {cls:=.type "dict",data:=.dict esw epw})
  (vw:Paired (fun(e:DictEntry) (kv:Key×V)=>∃x t,e.key=.str x t/\e.hash=PyData.keyHash w.params x/\kv.1=.inr x/\RelV kv.2 e.val) esw.toList KW)
  (nw:(KW.map Prod.fst).Nodup)
  (sw:(aw == sysModules)=false)
  (es':PySem.W.nsIn K mainGlobals "SIGNS"=some (some (.ref as)))
  (ls:K.lookup as=some {cls:=.type "dict",data:=.dict ess eps})
  (vs':Paired (fun(e:DictEntry) (kv:Key×V)=>∃x t,e.key=.str x t/\e.hash=PyData.keyHash w.params x/\kv.1=.inr x/\RelV kv.2 e.val) ess.toList KS)
  (ns':(KS.map Prod.fst).Nodup)
  (em:PySem.W.nsIn K mainGlobals "MOST_SIGNS"=some (some (.int 100000 tkm)))
  (ecd:cd8=.ref cc)
  (hcin:PySem.W.codeHdIn K cc 104=true)
  : ∃fd:FuncData,(∀(s:Shared)(v:Value),BindsTo s fd ⟨[v],[]⟩ [("_law_script",v)])/\∀base:Heap,K.In base->base.Ns mainGlobals mg->(∀t∈[104],base.BuiltinsAt mg t)->FnOk l.prog w K mg base CX0 64 fa fd ["_law_script"] (jha K 104):=by
 have e:=hfa.symm.trans (A2 X G a26)
 cases e
 have F23z:=jcj (st:=yy) l1 c1 k1
 have m23z:=A2 X G a1
 have b23z:=F23z.binds (ps:=["row"]) λ_ _ _ _ _ _=>us1 λ_=>rfl
 have F4z:=jcj (st:=ya) l2 c2 k2
 have m4z:=A2 X G a2
 have b4z:=F4z.binds (ps:=["row","numbers"]) λ_ _ _ _ _ _=>us2 λ_ _=>rfl
 have F22z:=jcj (st:=ym) l3 c3 k3
 have m22z:=A2 X G a3
 have b22z:=F22z.binds (ps:=["rows"]) λ_ _ _ _ _ _=>us1 λ_=>rfl
 have F21z:=jcj (st:=yx) l4 c4 k4
 have m21z:=A2 X G a4
 have b21z:=F21z.binds (ps:=["rows"]) λ_ _ _ _ _ _=>us1 λ_=>rfl
 have F5z:=jcj (st:=zk) l5 c5 k5
 have m5z:=A2 X G a5
 have b5z:=F5z.binds (ps:=["expression"]) λ_ _ _ _ _ _=>us1 λ_=>rfl
 have F27z:=jcj (st:=zm) l6 c6 k6
 have m27z:=A2 X G a6
 have b27z:=F27z.binds (ps:=["rows","pieces"]) λ_ _ _ _ _ _=>us2 λ_ _=>rfl
 have F26z:=jcj (st:=yz) l7 c7 k7
 have m26z:=A2 X G a7
 have b26z:=F26z.binds (ps:=["rows","pieces"]) λ_ _ _ _ _ _=>us2 λ_ _=>rfl
 have F2z:=jcj (st:=kc) l8 c8 k8
 have m2z:=A2 X G a8
 have b2z:=F2z.binds (ps:=["expression"]) λ_ _ _ _ _ _=>us1 λ_=>rfl
 have F24z:=jcj (st:=y8) l9 c9 k9
 have m24z:=A2 X G a9
 have b24z:=F24z.binds (ps:=["expression","row"]) λ_ _ _ _ _ _=>us2 λ_ _=>rfl
 have F11z:=jcj (st:=yw) l10 c10 k10
 have m11z:=A2 X G a10
 have b11z:=F11z.binds (ps:=["expression","number","binds"]) λ_ _ _ _ _ _=>us3 λ_ _ _=>rfl
 have F12z:=jcj (st:=ku) l11 c11 k11
 have m12z:=A2 X G a11
 have b12z:=F12z.binds (ps:=["text"]) λ_ _ _ _ _ _=>us1 λ_=>rfl
 have F25z:=jcj (st:=yk) l12 c12 k12
 have m25z:=A2 X G a12
 have b25z:=F25z.binds (ps:=["sign"]) λ_ _ _ _ _ _=>us1 λ_=>rfl
 have F6z:=jcj (st:=ze) l13 c13 k13
 have m6z:=A2 X G a13
 have b6z:=F6z.binds (ps:=["_law_script","_law_k"]) λ_ _ _ _ _ _=>us2 λ_ _=>rfl
 have F1z:=jcj (st:=kg) l14 c14 k14
 have m1z:=A2 X G a14
 have b1z:=F1z.binds (ps:=["_law_box_here","_law_wide"]) λ_ _ _ _ _ _=>us2 λ_ _=>rfl
 have F19z:=jcj (st:=yg) l15 c15 k15
 have m19z:=A2 X G a15
 have b19z:=F19z.binds (ps:=["_law_box_here","_law_most"]) λ_ _ _ _ _ _=>us2 λ_ _=>rfl
 have F14z:=jcj (st:=yj) l16 c16 k16
 have m14z:=A2 X G a16
 have b14z:=F14z.binds (ps:=["_law_box_here","_law_k"]) λ_ _ _ _ _ _=>us2 λ_ _=>rfl
 have F18z:=jcj (st:=ko) l17 c17 k17
 have m18z:=A2 X G a17
 have b18z:=F18z.binds (ps:=["_law_box_here","_law_letters_here","_law_most"]) λ_ _ _ _ _ _=>us3 λ_ _ _=>rfl
 have F16z:=jcj (st:=yt) l18 c18 k18
 have m16z:=A2 X G a18
 have b16z:=F16z.binds (ps:=["_law_box_here","_law_letters_here","_law_most"]) λ_ _ _ _ _ _=>us3 λ_ _ _=>rfl
 have F7z:=jcj (st:=yn) l19 c19 k19
 have m7z:=A2 X G a19
 have b7z:=F7z.binds (ps:=["_law_rows","_law_at","_law_laid_here"]) λ_ _ _ _ _ _=>us3 λ_ _ _=>rfl
 have F3z:=jcj (st:=yo) l20 c20 k20
 have m3z:=A2 X G a20
 have b3z:=F3z.binds (ps:=["_law_rows"]) λ_ _ _ _ _ _=>us1 λ_=>rfl
 have F9z:=jcj (st:=yu) l21 c21 k21
 have m9z:=A2 X G a21
 have b9z:=F9z.binds (ps:=["_law_box_here"]) λ_ _ _ _ _ _=>us1 λ_=>rfl
 have F17z:=jcj (st:=yb) l22 c22 k22
 have m17z:=A2 X G a22
 have b17z:=F17z.binds (ps:=["_law_box_here","_law_rows"]) λ_ _ _ _ _ _=>us2 λ_ _=>rfl
 have F20z:=jcj (st:=ki) l23 c23 k23
 have m20z:=A2 X G a23
 have b20z:=F20z.binds (ps:=["_law_text","_law_at"]) λ_ _ _ _ _ _=>us2 λ_ _=>rfl
 have F13z:=jcj (st:=ye) l24 c24 k24
 have m13z:=A2 X G a24
 have b13z:=F13z.binds (ps:=["_law_text"]) λ_ _ _ _ _ _=>us1 λ_=>rfl
 have F8z:=jcj (st:=yv) l25 c25 k25
 have m8z:=A2 X G a25
 have b8z:=F8z.binds (ps:=["_law_rows"]) λ_ _ _ _ _ _=>us1 λ_=>rfl
 have F_law:=jcj (st:=jac) l26 c26 k26
 have m_law:=A2 X G a26
 have b_law:=F_law.binds (ps:=["_law_script"]) λ_ _ _ _ _ _=>us1 λ_=>rfl
 have n_len:=Ia X G z_len
 have n_int:=Ia X G z_int
 have n_range:=Ia X G z_range
 have n_list:=Ia X G z_list
 have n_tuple:=Ia X G z_tuple
 have n_isinstance:=Ia X G z_isinstance
 have n_str:=Ia X G z_str
 have n_bool:=Ia X G z_bool
 have n_enumerate:=Ia X G z_enumerate
 have n_min:=Ia X G z_min
 have n_sum:=Ia X G z_sum
 have n_reversed:=Ia X G z_reversed
 have n_sorted:=Ia X G z_sorted
 have n_set:=Ia X G z_set
 refine⟨PySem.W.fnOf "law" "law" (jw jac) (jv jac) (jk jac) .none kV26 dc26 pm26 an26 cd26 ct26,λs v=>.of_eq rfl,λbase kb0 _ hbt=>?_⟩
 have hd:PySem.W.CodeHd base cc 104:=PySem.W.codeHd_of_K kb0 hcin
 have ss:PySem.W.kitOne K (.type "str") (.type "str")=some true:=Ak (by simp)
 have ii:PySem.W.kitOne K (.type "int") (.type "int")=some true:=Ak (by simp)
 have tt:PySem.W.kitOne K (.type "tuple") (.type "tuple")=some true:=Ak (by simp)
 have is_:PySem.W.kitOne K (.type "int") (.type "str")=some false:=by
  unfold PySem.W.kitOne
  rw[Ae (by decide)]
  unfold PySem.W.kitCls
  first|rfl|decide +kernel|simp
 have si:PySem.W.kitOne K (.type "str") (.type "int")=some false:=by
  unfold PySem.W.kitOne
  rw[Ae (by decide)]
  unfold PySem.W.kitCls
  first|rfl|decide +kernel|simp
 have ib:PySem.W.kitOne K (.type "int") (.type "bool")=some false:=by
  unfold PySem.W.kitOne
  rw[Ae (by decide)]
  unfold PySem.W.kitCls
  first|rfl|decide +kernel|simp
 have sb:PySem.W.kitOne K (.type "str") (.type "bool")=some false:=by
  unfold PySem.W.kitOne
  rw[Ae (by decide)]
  unfold PySem.W.kitCls
  first|rfl|decide +kernel|simp
 have hT:TPa K mg:=⟨n_isinstance,n_int,n_str,n_tuple,n_bool,ii,si,ss,is_,ib,tt⟩
 have ia:PySem.W.kitAny K (.type "int") [.type "int",.type "str"]=some true:=by unfold PySem.W.kitAny;rw[ii]
 have sa:PySem.W.kitAny K (.type "str") [.type "int",.type "str"]=some true:=by unfold PySem.W.kitAny;rw[si];show PySem.W.kitAny K (.type "str") [.type "str"]=_;unfold PySem.W.kitAny;rw[ss]
 have m_Reading:=A2 X G aC
 have m_BINDS:=A2 X G eb
 have m_WORDS:=A2 X G ew
 have kb:KDict l.prog w K ab KB:=jga lb vb nb
 have kw:KDict l.prog w K aw KW:=jga lw vw nw
 have cls:Cls K C:=⟨Cpg,Chd,Cpo,Csa⟩
 have rc:RC K C:=⟨cls,Nrows,Nready,Nwaiting,Nopened,Ndue⟩
 have F31z:=jcj (st:=zx) lm0 cm0 km0
 have b31z:=F31z.binds (ps:=["self"]) λ_ _ _ _ _ _=>us1 λ_=>rfl
 have F30z:=jcj (st:=zw) lm1 cm1 km1
 have b30z:=F30z.binds (ps:=["self","sign"]) λ_ _ _ _ _ _=>us2 λ_ _=>rfl
 have d_fits:Meth K C "fits" M1:=⟨fm1,im1,km1⟩
 have F0z:=jcj (st:=zy) lm2 cm2 km2
 have b0z:=F0z.binds (ps:=["self","sign"]) λ_ _ _ _ _ _=>us2 λ_ _=>rfl
 have d_take:Meth K C "take" M2:=⟨fm2,im2,km2⟩
 have F28z:=jcj (st:=km) lm3 cm3 km3
 have b28z:=F28z.binds (ps:=["self","word"]) λ_ _ _ _ _ _=>us2 λ_ _=>rfl
 have d_wait_for_second:Meth K C "wait_for_second" M3:=⟨fm3,im3,km3⟩
 have F29z:=jcj (st:=yh) lm4 cm4 km4
 have b29z:=F29z.binds (ps:=["self","sign"]) λ_ _ _ _ _ _=>us2 λ_ _=>rfl
 have d_begin_part:Meth K C "begin_part" M4:=⟨fm4,im4,km4⟩
 have F10z:=jcj (st:=zv) lm5 cm5 km5
 have b10z:=F10z.binds (ps:=["self","binds"]) λ_ _ _ _ _ _=>us2 λ_ _=>rfl
 have d_bind:Meth K C "bind" M5:=⟨fm5,im5,km5⟩
 have F15z:=jcj (st:=zb) lm6 cm6 km6
 have b15z:=F15z.binds (ps:=["self","row"]) λ_ _ _ _ _ _=>us2 λ_ _=>rfl
 have d_put_row:Meth K C "put_row" M6:=⟨fm6,im6,km6⟩
 have mkR:Mk K C M0:=⟨Cmk,fm0,im0,Ckp⟩
 have g1z:=ok__law_take (P:=l.prog) (w:=w) (mg:=mg) (base:=base) F1z
 have g6z:=ok__law_box (P:=l.prog) (w:=w) (base:=base) F6z ⟨n_len,n_int⟩
 have g19z:=ok__law_letters (P:=l.prog) (w:=w) (base:=base) F19z ⟨n_len,n_list,n_range,m1z⟩ F1z b1z g1z
 have g14z:=ok__law_row_at (P:=l.prog) (w:=w) (base:=base) F14z ⟨m1z⟩ F1z b1z g1z
 have g18z:=ok__law_expression (P:=l.prog) (w:=w) (base:=base) F18z ⟨n_range,n_len,n_tuple,m1z,m14z⟩ F1z b1z g1z F14z b14z g14z
 have g16z:=ok__law_chain (P:=l.prog) (w:=w) (base:=base) F16z ⟨n_range,n_len,n_tuple,m1z⟩ F1z b1z g1z
 have g23z:=ok_parts_of (P:=l.prog) (w:=w) (base:=base) F23z hT
 have g4z:=ok_with_parts (P:=l.prog) (w:=w) (base:=base) F4z hT
 have g21z:=ok_heads_of (P:=l.prog) (w:=w) (base:=base) F21z ⟨n_enumerate,m4z⟩ F4z b4z g4z
 have g22z:=ok_in_order (P:=l.prog) (w:=w) (base:=base) F22z ⟨n_len,n_tuple,m21z,m4z,m23z⟩ F21z b21z g21z F4z b4z g4z F23z b23z g23z
 have g5z:=ok_tidied (P:=l.prog) (w:=w) (base:=base) F5z ⟨m22z⟩ F22z b22z g22z
 have g25z:=ok_row_of_sign (P:=l.prog) (w:=w) (mg:=mg) (base:=base) F25z
 have g15z:=ok_put_row (P:=l.prog) (w:=w) (base:=base) F15z ⟨n_len,rc⟩
 have g10z:=ok_bind (P:=l.prog) (w:=w) (base:=base) F10z ⟨rc,cls,m_BINDS,kb,d_put_row⟩ b15z g15z
 have g28z:=ok_wait_for_second (P:=l.prog) (w:=w) (base:=base) F28z ⟨rc,cls,m_BINDS,kb,d_bind⟩ b10z g10z
 have g29z:=ok_begin_part (P:=l.prog) (w:=w) (base:=base) F29z ⟨rc,cls,m25z,d_put_row⟩ F25z b25z g25z b15z g15z
 have g0z:=ok_take (P:=l.prog) (w:=w) (base:=base) F0z ⟨rc,cls,m_BINDS,kb,m_WORDS,kw,sw,d_bind,d_wait_for_second,d_begin_part⟩ b10z g10z b28z g28z b29z g29z
 have g30z:=ok_fits (P:=l.prog) (w:=w) (base:=base) F30z ⟨rc,m_WORDS,kw,sw⟩
 have g31z:=ok_init (P:=l.prog) (w:=w) (mg:=mg) (base:=base) F31z rc
 have g12z:=ok_read_expression (P:=l.prog) (w:=w) (base:=base) F12z ⟨rc,cls,mkR,m_Reading,n_enumerate,n_tuple,m_BINDS,kb,m5z,d_fits,d_take,d_bind⟩ b31z g31z b30z g30z b0z g0z b10z g10z F5z b5z g5z
 have m_SIGNS:=A2 X G es'
 have m_MOST:=A2 X G em
 have kS:KDict l.prog w K as KS:=jga ls vs' ns'
 have g11z:=ok_bound_part (P:=l.prog) (w:=w) (base:=base) F11z ⟨m_BINDS,kb⟩
 have g24z:=ok_pieces_of (P:=l.prog) (w:=w) (base:=base) F24z ⟨m_BINDS,m_SIGNS,m11z,kb,kS⟩ F11z b11z g11z
 have g26z:=ok_signs_of (P:=l.prog) (w:=w) (base:=base) F26z ⟨n_isinstance,n_min,n_len,n_sum,n_str,m_MOST,ss,is_⟩
 have g27z:=ok_written (P:=l.prog) (w:=w) (base:=base) F27z ⟨n_isinstance,n_list,n_reversed,n_len,n_str,m_MOST,m26z⟩ ss is_ F26z b26z g26z
 have g2z:=ok_show_expression (P:=l.prog) (w:=w) (base:=base) (Pt:=104) F2z ⟨m27z,m24z,rfl,hd,hbt 104 (.head _)⟩ ecd F27z b27z g27z F24z b24z g24z
 have g7z:=ok__law_laid (P:=l.prog) (w:=w) (base:=base) F7z ⟨m7z,n_tuple⟩ b7z
 have g3z:=ok__law_tidy (P:=l.prog) (w:=w) (base:=base) F3z ⟨n_len,n_tuple,m7z⟩ F7z b7z g7z
 have g13z:=ok__law_begins (P:=l.prog) (w:=w) (base:=base) F13z ⟨n_enumerate⟩
 have g20z:=ok__law_without_pair (P:=l.prog) (w:=w) (base:=base) F20z ⟨n_int⟩
 have g8z:=ok__law_right (P:=l.prog) (w:=w) (base:=base) F8z ⟨n_len,n_isinstance,n_str,ss,m3z,m2z,m12z,m5z,m13z,m20z⟩ F3z b3z g3z F2z b2z g2z F12z b12z g12z F5z b5z g5z F13z b13z g13z F20z b20z g20z
 have g17z:=ok__law_changed (P:=l.prog) (w:=w) (base:=base) F17z ⟨n_len,n_list,n_tuple,n_sorted,n_set,m1z⟩ F1z b1z g1z
 have g9z:=ok__law_drawn (P:=l.prog) (w:=w) (base:=base) F9z ⟨m19z,m1z,m16z,m18z⟩ F19z b19z g19z F1z b1z g1z F16z b16z g16z F18z b18z g18z
 exact ok_law F_law ⟨n_range,n_len,m6z,m9z,m1z,m17z,m8z,m2z,m3z⟩ F6z b6z g6z F9z b9z g9z F1z b1z g1z F17z b17z g17z F8z b8z g8z F2z b2z g2z F3z b3z g3z
theorem jsr{K:PySem.W.Frag}{H:Hp}{a t:Addr}{xs:List V}{ps:Array Value}(hS:SqL K H a xs)(hT:H t=some (.tbl ps))(hK:K.lookup t=none):a≠t:=by
 rintro rfl
 rcases hS with(h|⟨o,h⟩)|⟨o,its,n,h,_⟩
 ·rw[hT]at h;cases h
 ·rw[hT]at h;cases h
 ·rw[hK]at h;cases h
theorem walk{l:PySem.W.OpenLaw}{q:Program}{loose:List Str}{XP:(Str->Option Value)->Heap->Prop}{YP:World->Heap->Prop}{d:DefRec}{K:Params->PySem.W.Frag}(hn:l.most=some 63)(hdf:d.params.defaults=[])
  (hY:∀(w:World)(h:Heap),YP w h->(K w.params).In h) (hT:∀(w:World)(h:Heap),YP w h->∀t∈[104],h.get? t=some (PySem.W.tabObj #[]))
  (hC:∀(w:World)(h:Heap),(K w.params).In h->∀t∈[104],∃c,PySem.W.CodeHd h c t) (hN:∀w:World,∀t∈[104],(K w.params).lookup t=none)
  (F:∀(w:World)(mg:Str->Option Value)(fa:Addr)(h:Heap),(K w.params).In h->h.Ns mainGlobals mg->mg d.name=some (.ref fa) ->
   ∃fd:FuncData,(∀(s:Shared)(u:Value),BindsTo s fd ⟨[u],[]⟩ [("_law_script",u)])/\∀base:Heap,(K w.params).In base->base.Ns mainGlobals mg->(∀t∈[104],base.BuiltinsAt mg t)->FnOk l.prog w (K w.params) mg base CX0 64 fa fd ["_law_script"] (jha (K w.params) 104)) :
  PySem.W.WalkO q loose XP YP l.row.toRowW d [] (λf vs=>PySem.call f vs) :=
 L2.walk_ofT (n:=63) (k:=64) (x:="_law_script") (ts:=[104]) (CX:=λ_=>CX0) (sp:=λw=>jha (K w.params) 104) hn (by decide) hdf ⟨rfl,by decide,by decide,rfl⟩ hY hT hC hN F (λw _ a ns hl hS hT=>⟨a,ns,rfl,hS,hl,jsr hS (hT 104 (.head _)) (hN w 104 (.head _)),⟨#[],hT 104 (.head _),trivial,λp cv e=>by cases e⟩,λ_=>rfl⟩) λ_ _ _ _ _ z=>z
end My
theorem PySem.W.Fast.tw12158844618769539377:True:=trivial
theorem PySem.W.Fast.tw3456090442453249605:True:=trivial
theorem PySem.W.Fast.tw6919596583665794380:True:=trivial
theorem PySem.W.Fast.tw1609946419425723079:True:=trivial
theorem PySem.W.Fast.tw7731164552322229755:True:=trivial
theorem PySem.W.Fast.tw8191075420851079158:True:=trivial
theorem PySem.W.Fast.tw1068492405743304678:True:=trivial
theorem PySem.W.Fast.tw9503468458211428315:True:=trivial
theorem PySem.W.Fast.tw18276024074749126850:True:=trivial
theorem PySem.W.Fast.tw2300282914179913747:True:=trivial
theorem PySem.W.Fast.tw307101596129737073:True:=trivial
theorem PySem.W.Fast.tw18408910363384952717:True:=trivial
theorem PySem.W.Fast.tw4458137940219019265:True:=trivial
theorem PySem.W.Fast.tw9102362576196738637:True:=trivial
theorem PySem.W.Fast.tw2542708933477234279:True:=trivial
theorem PySem.W.Fast.tw3902739259021241194:True:=trivial
theorem PySem.W.Fast.tw2091475349852220877:True:=trivial
theorem PySem.W.Fast.tw8396892825012614162:True:=trivial
theorem PySem.W.Fast.tw7497300636553939645:True:=trivial
theorem PySem.W.Fast.tw7094513138517093436:True:=trivial
theorem PySem.W.Fast.tw18282218625513286554:True:=trivial
theorem PySem.W.Fast.tw16742075696451181128:True:=trivial
theorem PySem.W.Fast.tw17793732605880850018:True:=trivial
theorem PySem.W.Fast.tw12355121465566953393:True:=trivial
theorem PySem.W.Fast.tw16590360688761308525:True:=trivial
theorem PySem.W.Fast.tw15381860212388565072:True:=trivial
theorem PySem.W.Fast.tw9262491740348852930:True:=trivial
theorem PySem.W.Fast.tw2810776793121162849:True:=trivial
theorem PySem.W.Fast.tw9056627243028959144:True:=trivial
theorem PySem.W.Fast.tw9174172986412249187:True:=trivial
theorem PySem.W.Fast.tw15687172870326946787:True:=trivial
theorem PySem.W.Fast.tw12692878924947881181:True:=trivial
theorem PySem.W.Fast.tw349333085823385788:True:=trivial
theorem PySem.W.Fast.tw6574182858591501628:True:=trivial
theorem PySem.W.Fast.tw3665967611208346362:True:=trivial
theorem PySem.W.Fast.tw10920817396768679529:True:=trivial
theorem PySem.W.Fast.tw18136489343960724184:True:=trivial
theorem PySem.W.Fast.tw9950885822343584054:True:=trivial
theorem PySem.W.Fast.tw4514942491062066391:True:=trivial
theorem PySem.W.Fast.tw13280284514692393090:True:=trivial
theorem PySem.W.Fast.tw11106314535166505750:True:=trivial
theorem PySem.W.Fast.tw8907927604491829226:True:=trivial
theorem PySem.W.Fast.tw11468457955031573005:True:=trivial
theorem PySem.W.Fast.tw12723792149125464513:True:=trivial
theorem PySem.W.Fast.tw8161226256780430165:True:=trivial
theorem PySem.W.Fast.tw10833442878153822239:True:=trivial
theorem PySem.W.Fast.tw14856784370621369379:True:=trivial
theorem PySem.W.Fast.tw4601718187725783108:True:=trivial
theorem PySem.W.Fast.tw6124892240255118493:True:=trivial
theorem PySem.W.Fast.tw9378016001500464854:True:=trivial
theorem PySem.W.Fast.tw6457812449573360404:True:=trivial
theorem PySem.W.Fast.tw17148571596717371665:True:=trivial
theorem PySem.W.Fast.tw17316084796769934728:True:=trivial
theorem PySem.W.Fast.tw802195526299680211:True:=trivial
theorem PySem.W.Fast.tw7254820211625908646:True:=trivial
theorem PySem.W.Fast.tw3874328837789482537:True:=trivial
theorem PySem.W.Fast.tw6063883248871318958:True:=trivial
theorem PySem.W.Fast.tw12875824666421737896:True:=trivial
theorem PySem.W.Fast.tw3378389340656098317:True:=trivial
theorem PySem.W.Fast.tw91565865880367716:True:=trivial
theorem PySem.W.Fast.tw10298263495993611167:True:=trivial
theorem PySem.W.Fast.tw13668924442899468789:True:=trivial
theorem PySem.W.Fast.tw8885533736806194117:True:=trivial
theorem PySem.W.Fast.tw15849431847000738202:True:=trivial
theorem PySem.W.Fast.tw2717714437020871454:True:=trivial
theorem PySem.W.Fast.tw16414985763224225148:True:=trivial
theorem PySem.W.Fast.tw5627542150756572700:True:=trivial
theorem PySem.W.Fast.tw16896093747572805251:True:=trivial
theorem PySem.W.Fast.tw17502278092703180810:True:=trivial
theorem PySem.W.Fast.tw3608301512285601003:True:=trivial
theorem PySem.W.Fast.tw4135295016689248898:True:=trivial
theorem PySem.W.Fast.tw16969839589553533014:True:=trivial
theorem PySem.W.Fast.tw18263725218896501240:True:=trivial
theorem PySem.W.Fast.tw4391931169903074311:True:=trivial
theorem PySem.W.Fast.tw6665329765347759297:True:=trivial
theorem PySem.W.Fast.tw13147784209690257497:True:=trivial
theorem PySem.W.Fast.tw4774263780749259153:True:=trivial
theorem PySem.W.Fast.tw16676331629086562221:True:=trivial
theorem PySem.W.Fast.tw8394523416888832638:True:=trivial
theorem PySem.W.Fast.tw2254015455260631727:True:=trivial
theorem PySem.W.Fast.tw6652297720912736066:True:=trivial
theorem PySem.W.Fast.tw6134808342196153611:True:=trivial
theorem PySem.W.Fast.tw1125658450612422901:True:=trivial
theorem PySem.W.Fast.tw1610469197758796543:True:=trivial
theorem PySem.W.Fast.tw1900617212215367841:True:=trivial
theorem PySem.W.Fast.tw4393903356768358343:True:=trivial
theorem PySem.W.Fast.tw3619238134122070452:True:=trivial
theorem PySem.W.Fast.tw478479211472664501:True:=trivial
theorem PySem.W.Fast.tw11300491059579393818:True:=trivial
theorem PySem.W.Fast.tw3765239761221657919:True:=trivial
theorem PySem.W.Fast.tw1256336491995886863:True:=trivial
theorem PySem.W.Fast.tw12373174997160071601:True:=trivial
theorem PySem.W.Fast.tw4197510688799749687:True:=trivial
theorem PySem.W.Fast.tw8949853724892363398:True:=trivial
theorem PySem.W.Fast.tw15027185140018379084:True:=trivial
theorem PySem.W.Fast.tw7311453202774684262:True:=trivial
theorem PySem.W.Fast.tw3877761112382539790:True:=trivial
theorem PySem.W.Fast.tw9377818041827809519:True:=trivial
theorem PySem.W.Fast.tw12553813959627315394:True:=trivial
theorem PySem.W.Fast.tw1376029921718855111:True:=trivial
theorem PySem.W.Fast.tw11056383355796279732:True:=trivial
theorem PySem.W.Fast.tw4046655271276678133:True:=trivial
theorem PySem.W.Fast.tw14246196023131507805:True:=trivial
theorem PySem.W.Fast.tw8948250736648234194:True:=trivial
theorem PySem.W.Fast.tw13152529412876402062:True:=trivial
theorem PySem.W.Fast.tw2059596396356956036:True:=trivial
theorem PySem.W.Fast.tw11088240184655058908:True:=trivial
theorem PySem.W.Fast.tw5824156145866121452:True:=trivial
theorem PySem.W.Fast.tw3557618598825320311:True:=trivial
theorem PySem.W.Fast.tw15143334104107944114:True:=trivial
theorem PySem.W.Fast.tw6104370774327196797:True:=trivial
theorem PySem.W.Fast.tw12263498990719241285:True:=trivial
theorem PySem.W.Fast.tw7551819101172291169:True:=trivial
theorem PySem.W.Fast.tw2908658469655118132:True:=trivial
theorem PySem.W.Fast.tw3955381544508395794:True:=trivial
theorem PySem.W.Fast.tw1962964671827305611:True:=trivial
theorem PySem.W.Fast.tw14312298467888065590:True:=trivial
theorem PySem.W.Fast.tw3632770918260675144:True:=trivial
theorem PySem.W.Fast.tw11249085175233401090:True:=trivial
theorem PySem.W.Fast.tw16399814763751490712:True:=trivial
open PySem PySem.W PyProof.Rows
set_option maxRecDepth 100000 in
set_option maxHeartbeats 0 in
theorem PySem.Challenge.cw_calmword_k30_whole_there_and_back_holds : PySem.Challenge.rw_calmword_k30_whole_there_and_back.Holds := by
 w_on;o_law;k_head;(case hw=>w_witness2)
 k_fill
 refine My.walk (l:=PySem.Challenge.rw_calmword_k30_whole_there_and_back) rfl rfl (λw h Y=>PySem.W.km_in_of Y) (λw h Y=>PySem.W.km_tabs_of Y) ?cC ?cN ?F
 case cC=>intro w h X t ht;cases Ag.mp ht;refine' My.c_of X ?h3 ?h4 ?h5 ?h6;(case h3=>k_is);(case h4=>k_is);(case h5=>rfl);(case h6=>kernel_rfl)
 case cN=>exact λw t ht=>by cases Ag.mp ht;rfl
 case F =>
  intro w mg fa h KX G hmg
  refine' My.all_mk KX G hmg ?a1 ?l1 ?c1 ?k1 ?a2 ?l2 ?c2 ?k2 ?a3 ?l3 ?c3 ?k3 ?a4 ?l4 ?c4 ?k4 ?a5 ?l5 ?c5 ?k5 ?a6 ?l6 ?c6 ?k6 ?a7 ?l7 ?c7 ?k7 ?a8 ?l8 ?c8 ?k8 ?a9 ?l9 ?c9 ?k9 ?a10 ?l10 ?c10 ?k10 ?a11 ?l11 ?c11 ?k11 ?a12 ?l12 ?c12 ?k12 ?a13 ?l13 ?c13 ?k13 ?a14 ?l14 ?c14 ?k14 ?a15 ?l15 ?c15 ?k15 ?a16 ?l16 ?c16 ?k16 ?a17 ?l17 ?c17 ?k17 ?a18 ?l18 ?c18 ?k18 ?a19 ?l19 ?c19 ?k19 ?a20 ?l20 ?c20 ?k20 ?a21 ?l21 ?c21 ?k21 ?a22 ?l22 ?c22 ?k22 ?a23 ?l23 ?c23 ?k23 ?a24 ?l24 ?c24 ?k24 ?a25 ?l25 ?c25 ?k25 ?a26 ?l26 ?c26 ?k26 ?z_len ?z_int ?z_range ?z_list ?z_tuple ?z_isinstance ?z_str ?z_bool ?z_enumerate ?z_min ?z_sum ?z_reversed ?z_sorted ?z_set ?aC ?Cpg ?Chd ?Cpo ?Csa ?Cmk ?Ckp ?Nrows ?Nready ?Nwaiting ?Nopened ?Ndue ?fm0 ?lm0 ?cm0 ?km0 ?im0 ?fm1 ?lm1 ?cm1 ?km1 ?im1 ?fm2 ?lm2 ?cm2 ?km2 ?im2 ?fm3 ?lm3 ?cm3 ?km3 ?im3 ?fm4 ?lm4 ?cm4 ?km4 ?im4 ?fm5 ?lm5 ?cm5 ?km5 ?im5 ?fm6 ?lm6 ?cm6 ?km6 ?im6 ?eb ?lb ?vb ?nb ?ew ?lw ?vw ?nw ?sw ?es' ?ls ?vs' ?ns' ?em ?ecd ?hcin
  (case a1=>k_is)
  (case l1=>k_is)
  (case c1=>k_is)
  (case k1=>k_is)
  (case a2=>k_is)
  (case l2=>k_is)
  (case c2=>k_is)
  (case k2=>k_is)
  (case a3=>k_is)
  (case l3=>k_is)
  (case c3=>k_is)
  (case k3=>k_is)
  (case a4=>k_is)
  (case l4=>k_is)
  (case c4=>k_is)
  (case k4=>k_is)
  (case a5=>k_is)
  (case l5=>k_is)
  (case c5=>k_is)
  (case k5=>k_is)
  (case a6=>k_is)
  (case l6=>k_is)
  (case c6=>k_is)
  (case k6=>k_is)
  (case a7=>k_is)
  (case l7=>k_is)
  (case c7=>k_is)
  (case k7=>k_is)
  (case a8=>k_is)
  (case l8=>k_is)
  (case c8=>k_is)
  (case k8=>k_is)
  (case a9=>k_is)
  (case l9=>k_is)
  (case c9=>k_is)
  (case k9=>k_is)
  (case a10=>k_is)
  (case l10=>k_is)
  (case c10=>k_is)
  (case k10=>k_is)
  (case a11=>k_is)
  (case l11=>k_is)
  (case c11=>k_is)
  (case k11=>k_is)
  (case a12=>k_is)
  (case l12=>k_is)
  (case c12=>k_is)
  (case k12=>k_is)
  (case a13=>k_is)
  (case l13=>k_is)
  (case c13=>k_is)
  (case k13=>k_is)
  (case a14=>k_is)
  (case l14=>k_is)
  (case c14=>k_is)
  (case k14=>k_is)
  (case a15=>k_is)
  (case l15=>k_is)
  (case c15=>k_is)
  (case k15=>k_is)
  (case a16=>k_is)
  (case l16=>k_is)
  (case c16=>k_is)
  (case k16=>k_is)
  (case a17=>k_is)
  (case l17=>k_is)
  (case c17=>k_is)
  (case k17=>k_is)
  (case a18=>k_is)
  (case l18=>k_is)
  (case c18=>k_is)
  (case k18=>k_is)
  (case a19=>k_is)
  (case l19=>k_is)
  (case c19=>k_is)
  (case k19=>k_is)
  (case a20=>k_is)
  (case l20=>k_is)
  (case c20=>k_is)
  (case k20=>k_is)
  (case a21=>k_is)
  (case l21=>k_is)
  (case c21=>k_is)
  (case k21=>k_is)
  (case a22=>k_is)
  (case l22=>k_is)
  (case c22=>k_is)
  (case k22=>k_is)
  (case a23=>k_is)
  (case l23=>k_is)
  (case c23=>k_is)
  (case k23=>k_is)
  (case a24=>k_is)
  (case l24=>k_is)
  (case c24=>k_is)
  (case k24=>k_is)
  (case a25=>k_is)
  (case l25=>k_is)
  (case c25=>k_is)
  (case k25=>k_is)
  (case a26=>k_is)
  (case l26=>k_is)
  (case c26=>k_is)
  (case k26=>k_is)
  (case z_len=>k_is)
  (case z_int=>k_is)
  (case z_range=>k_is)
  (case z_list=>k_is)
  (case z_tuple=>k_is)
  (case z_isinstance=>k_is)
  (case z_str=>k_is)
  (case z_bool=>k_is)
  (case z_enumerate=>k_is)
  (case z_min=>k_is)
  (case z_sum=>k_is)
  (case z_reversed=>k_is)
  (case z_sorted=>k_is)
  (case z_set=>k_is)
  (case aC=>k_is)
  (case Cpg=>first|k_is|kernel_rfl)
  (case Chd=>first|k_is|kernel_rfl)
  (case Cpo=>first|k_is|kernel_rfl)
  (case Csa=>first|k_is|kernel_rfl)
  (case Cmk=>first|k_is|kernel_rfl)
  (case Ckp=>first|k_is|kernel_rfl)
  (case Nrows=>first|k_is|kernel_rfl)
  (case Nready=>first|k_is|kernel_rfl)
  (case Nwaiting=>first|k_is|kernel_rfl)
  (case Nopened=>first|k_is|kernel_rfl)
  (case Ndue=>first|k_is|kernel_rfl)
  (case fm0=>first|k_is|kernel_rfl)
  (case lm0=>k_is)
  (case cm0=>first|k_is|kernel_rfl)
  (case km0=>first|k_is|kernel_rfl)
  (case im0=>first|k_is|kernel_rfl)
  (case fm1=>first|k_is|kernel_rfl)
  (case lm1=>k_is)
  (case cm1=>first|k_is|kernel_rfl)
  (case km1=>first|k_is|kernel_rfl)
  (case im1=>first|k_is|kernel_rfl)
  (case fm2=>first|k_is|kernel_rfl)
  (case lm2=>k_is)
  (case cm2=>first|k_is|kernel_rfl)
  (case km2=>first|k_is|kernel_rfl)
  (case im2=>first|k_is|kernel_rfl)
  (case fm3=>first|k_is|kernel_rfl)
  (case lm3=>k_is)
  (case cm3=>first|k_is|kernel_rfl)
  (case km3=>first|k_is|kernel_rfl)
  (case im3=>first|k_is|kernel_rfl)
  (case fm4=>first|k_is|kernel_rfl)
  (case lm4=>k_is)
  (case cm4=>first|k_is|kernel_rfl)
  (case km4=>first|k_is|kernel_rfl)
  (case im4=>first|k_is|kernel_rfl)
  (case fm5=>first|k_is|kernel_rfl)
  (case lm5=>k_is)
  (case cm5=>first|k_is|kernel_rfl)
  (case km5=>first|k_is|kernel_rfl)
  (case im5=>first|k_is|kernel_rfl)
  (case fm6=>first|k_is|kernel_rfl)
  (case lm6=>k_is)
  (case cm6=>first|k_is|kernel_rfl)
  (case km6=>first|k_is|kernel_rfl)
  (case im6=>first|k_is|kernel_rfl)
  (case eb=>k_is)
  (case lb=>k_is)
  (case vb=>exact(.cons ⟨_,_,rfl,rfl,rfl,⟨_,rfl⟩⟩ (.cons ⟨_,_,rfl,rfl,rfl,⟨_,rfl⟩⟩ (.cons ⟨_,_,rfl,rfl,rfl,⟨_,rfl⟩⟩ (.cons ⟨_,_,rfl,rfl,rfl,⟨_,rfl⟩⟩ (.cons ⟨_,_,rfl,rfl,rfl,⟨_,rfl⟩⟩ (.cons ⟨_,_,rfl,rfl,rfl,⟨_,rfl⟩⟩ (.cons ⟨_,_,rfl,rfl,rfl,⟨_,rfl⟩⟩ (.cons ⟨_,_,rfl,rfl,rfl,⟨_,rfl⟩⟩ .nil)))))))))
  (case nb=>decide +kernel)
  (case ew=>k_is)
  (case lw=>k_is)
  (case vw=>exact(.cons ⟨_,_,rfl,rfl,rfl,⟨_,rfl⟩⟩ (.cons ⟨_,_,rfl,rfl,rfl,⟨_,rfl⟩⟩ .nil)))
  (case nw=>decide +kernel)
  (case sw=>first|rfl|decide)
  (case es'=>k_is)
  (case ls=>k_is)
  (case vs'=>exact(.cons ⟨_,_,rfl,rfl,rfl,⟨_,rfl⟩⟩ (.cons ⟨_,_,rfl,rfl,rfl,⟨_,rfl⟩⟩ (.cons ⟨_,_,rfl,rfl,rfl,⟨_,rfl⟩⟩ .nil))))
  (case ns'=>decide +kernel)
  (case em=>k_is)
  (case ecd=>rfl)
  (case hcin=>kernel_rfl)