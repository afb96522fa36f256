import PyProof.Rows.All
import Wide.All
import OpenK.AllK
import Wide.FinOn
import Lean
import PyProof.EqAt
import PyProof.EqKinds
import PyProof.TupleCall
import PySem.Challenge.RW_calmword_k44_the_first_wrong_word
set_option Elab.async false
set_option linter.all false
set_option maxRecDepth 100000
set_option maxHeartbeats 4000000
abbrev Aa:=@if_neg
abbrev Ab:=@List.getElem?_eq_some_iff
abbrev Ac:=@PySem.Heap.get?_push_of_some
abbrev Ad:=@PySem.wpAny_bind
abbrev Ae:=@List.length_map
abbrev Af:=@if_pos
abbrev Ag:=@Nat.le_refl
abbrev Ah:=@List.not_mem_nil
abbrev Ai:=@PySem.Heap.lt_size
abbrev Aj:=@List.size_toArray
abbrev Ak:=@PySem.sizeLine_eq
abbrev Al:=@List.mem_cons
abbrev Am:=@PySem.wpAny_pure
abbrev An:=@List.getElem?_eq_getElem
abbrev Ao:=@List.mem_singleton
abbrev Ap:=@List.length_append
abbrev Aq:=@PySem.W.mg_of
abbrev Ar:=@Nat.ne_of_lt
abbrev At:=@PySem.Heap.get?_push_size
abbrev Au:=@List.getD_eq_getElem?_getD
abbrev Av:=@List.map_cons
abbrev Aw:=@Nat.lt_of_lt_of_le
abbrev Ax:=@PySem.F.slot_list_append
abbrev Ay:=@PySem.F.type_list_append
abbrev Az:=@Option.some.inj
abbrev A0:=@List.mem_of_getElem?
abbrev A2:=@Bool.false_ne_true
abbrev A3:=@List.getElem?_map
abbrev A4:=@PySem.wpAny_loadPart_at
abbrev A5:=@PySem.Paired.length
abbrev A6:=@List.drop_eq_getElem_cons
abbrev A7:=@Nat.le_trans
abbrev A8:=@List.mem_append_right
abbrev A9:=@List.append_assoc
abbrev Ia:=@decide_eq_false
abbrev Ib:=@List.append_nil
abbrev Ic:=@List.getElem?_append_left
abbrev Ie:=@List.mem_append
abbrev Ig:=@PySem.W.mg_none_of
abbrev Ih:=@Bool.false_eq_true
abbrev Ii:=@Nat.succ.inj
abbrev Ij:=@of_decide_eq_true
abbrev Ik:=@List.getElem?_append_right
abbrev Il:=@List.length_take
abbrev Im:=@Nat.succ_ne_zero
abbrev Io:=@List.mem_map
abbrev Ip:=@List.mem_cons_of_mem
abbrev Iq:=@List.mem_append_left
abbrev Ir:=@PySem.wpAny_Call_Name_kw
abbrev Iu:=@PySem.W.kia_one
abbrev Iv:=@List.filter_cons
abbrev Iw:=@PyProof.Rows.callWith_type1
abbrev Ix:=@Nat.zero_le
abbrev Iy:=@PySem.wpAny_mono
abbrev Iz:=@List.cons.injEq
abbrev I0:=@PySem.PassesOwn.never
abbrev Oa:=@PySem.Heap.get?_update_other
abbrev Ob:=@PySem.wpAny_truthy_bool
abbrev Oc:=@PySem.Heap.get?_update_self
abbrev Od:=@List.map_append
abbrev Oe:=@PySem.Calls.spliced_cons
abbrev Of:=@List.getElem_mem
abbrev Og:=@decide_eq_true
abbrev Oh:=@PySem.mem_of_lookup
abbrev Oi:=@if_false
abbrev Oj:=@Bool.eq_iff_iff
abbrev Ol:=@Ne.symm
abbrev Om:=@congrArg
abbrev On:=@Bool.and_eq_true
abbrev Oo:=@List.all_eq_true
abbrev Op:=@List.mem_of_mem_take
abbrev Oq:=@Bool.and_eq_true_iff
abbrev Os:=@or_false
abbrev Ot:=@List.mem_filter
abbrev Ou:=@List.take_of_length_le
abbrev Ov:=@List.map_map
abbrev Ow:=@List.mem_cons_self
abbrev Ox:=@PySem.W.callWith_K
abbrev Oy:=@List.length_filter_le
abbrev Oz:=@List.mem_of_mem_drop
abbrev O0:=@PySem.wpAny_newObj_type
abbrev O1:=@Nat.lt_irrefl
abbrev O2:=@beq_eq_false_iff_ne
abbrev O3:=@PySem.wpAny_isSubtype_exc
abbrev O4:=@PySem.wpAny_execs_cons
abbrev O5:=@if_true
abbrev O6:=@List.take_succ
abbrev O7:=@Option.map_eq_some_iff
abbrev O8:=@List.map_nil
abbrev O9:=@List.filter_append
abbrev Ua:=@PySem.F.attrBase_ValueError
abbrev Ub:=@PySem.wpAny_passesOwn
abbrev Uc:=@List.nodup_cons
abbrev Ud:=@PySem.F.slot_list_pop
abbrev Ue:=@PySem.F.type_list_pop
abbrev Uf:=@PySem.F.slot_str_join
abbrev Ug:=@PySem.F.type_str_join
abbrev Uh:=@Array.getElem?_eq_some_iff
abbrev Ui:=@PySem.Calls.spliced_nil
abbrev Uj:=@Nat.le_of_eq
abbrev Uk:=@List.length_drop
abbrev Ul:=@PySem.wpAny_comprehension_free
abbrev Um:=@List.take_length
abbrev Uo:=@Array.all_eq_true_iff_forall_mem
abbrev Up:=@List.map_congr_left
abbrev Uq:=@PyProof.Rows.slot_tuple_getitem
abbrev Ur:=@PySem.wpAny_holding
abbrev Us:=@PySem.wpAny_standAt
abbrev Ut:=@Bool.not_true
abbrev Uu:=@PySem.wpAny_execs_nil
abbrev Uv:=@PySem.wpAny_loadPart'
abbrev Uw:=@List.contains_cons
abbrev Ux:=@PySem.wpAny_field
abbrev Uy:=@PySem.Calls.callWith_builtin
abbrev Uz:=@PySem.Paired.snoc
abbrev U0:=@List.length_range
abbrev U1:=@List.nodup_append
abbrev U2:=@PySem.codeAny_mono
abbrev U3:=@List.take_append_drop
abbrev U4:=@PySem.wpAny_setField
abbrev U5:=@List.dropLast_concat_getLast
abbrev U6:=@List.getElem?_eq_none
abbrev U7:=@beq_iff_eq
abbrev U8:=@beq_self_eq_true
abbrev U9:=@PySem.codeAny_call_builtin
abbrev Wa:=@List.range'_succ
abbrev Wb:=@List.drop_eq_nil_iff
abbrev Wc:=@List.pairwise_append
abbrev Wd:=@List.getElem?_eq_none_iff
abbrev We:=@List.range_succ
abbrev Wf:=@Classical.byContradiction
abbrev Wg:=@Nat.ne_of_gt
abbrev Wh:=@List.mem_filterMap
abbrev Wi:=@PySem.tupleKind_room_in1
abbrev Wj:=@of_decide_eq_false
abbrev Wk:=@List.mem_range
abbrev Wl:=@PySem.wpAny_call
abbrev Wm:=@PySem.call_meets
abbrev Wn:=@List.drop_zero
abbrev Wo:=@PySem.wpAny_callSpecial?_slot
abbrev Wp:=@PySem.F.args_tuple_iterator_next_1
abbrev Wq:=@PySem.WalksT.enumerateD
abbrev Ws:=@PySem.wpAny_pyIter_enum
abbrev Wt:=@List.mem_range'_1
abbrev Wu:=@List.reverse_cons
abbrev Wv:=@List.foldr_append
abbrev Ww:=@PySem.F.entry_tuple_iterator_next
abbrev Wx:=@List.isEmpty_iff
abbrev Wy:=@PySem.W.methodCall_KW
abbrev Wz:=@PySem.Heap.get?_none_of_le
abbrev W0:=@List.getElem?_set_ne
abbrev W3:=@List.of_mem_zip
abbrev W6:=@PySem.Calls.evalArgs_plain
abbrev W7:=@List.forIn_cons
abbrev W8:=@PySem.wpAny_newFunctionEnv
abbrev W9:=@Bool.or_true
abbrev Ya:=@PySem.W.plainGet_of
abbrev Yb:=@PySem.Heap.SameBut.update
abbrev Yc:=@Bool.or_eq_true_iff
abbrev Yd:=@PySem.W.codeHd_of_K
abbrev Ye:=@List.nodup_nil
abbrev Yf:=@PySem.sizeLine_eq
abbrev Yg:=@PySem.Calls.Constant_str
abbrev Yh:=@PySem.Obj.data_mapFields
abbrev Yi:=@Int.emod_lt_of_pos
abbrev Yj:=@Nat.lt_of_le_of_lt
abbrev Yk:=@Sum.inr.injEq
abbrev Yl:=@Int.ofNat.inj
namespace L2
open PySem PySem.Spec PyProof.Rows
abbrev Key:=Sum Int Str
def jgg:Key->Value->Bool
 |.inl k,v=>Value.isInt k v
 |.inr x,v=>Value.isStrOf x v
def keyH(w:World):Key->Int
 |.inl k=>hashInt k
 |.inr x=>hashStr w x
theorem jdh:∀{k:Key}{v:Value},jgg k v=true->(∃i t,k=Sum.inl i/\v=Value.int i t)\/(∃x t,k=Sum.inr x/\v=Value.str x t)
 |.inl i,v,h=>by
  obtain⟨t,e⟩:=Value.isInt_shape (k:=i) (v:=v) h
  exact .inl ⟨i,t,rfl,e⟩
 |.inr x,v,h=>by
  obtain⟨t,e⟩:=Value.isStrOf_shape (x:=x) (v:=v) h
  exact .inr ⟨x,t,rfl,e⟩
theorem jpk(i:Int)(t:Tok):jgg (.inl i) (.int i t)=true:=by simp[jgg,Value.isInt]
theorem jpl(x:Str)(t:Tok):jgg (.inr x) (.str x t)=true:=by simp[jgg,Value.isStrOf]
theorem jtd(a b:Int):decide ((Sum.inl a:Key)=Sum.inl b)=(a == b):=by
 by_cases e:a=b
 ·subst e;simp
 ·have h:¬(Sum.inl a:Key)=Sum.inl b:=λq=>e (Sum.inl.inj q)
  rw[Ia h]
  exact(O2.mpr e).symm
theorem jtg(a b:Str):decide ((Sum.inr a:Key)=Sum.inr b)=decide (a=b):=by
 by_cases e:a=b
 ·subst e;simp
 ·have h:¬(Sum.inr a:Key)=Sum.inr b:=λq=>e (Sum.inr.inj q)
  rw[Ia h,Ia e]
theorem jte(a:Int)(b:Str):decide ((Sum.inl a:Key)=Sum.inr b)=false:=Ia (λq=>nomatch q)
theorem jtf(a:Str)(b:Int):decide ((Sum.inr a:Key)=Sum.inl b)=false:=Ia (λq=>nomatch q)
def jdg(prog:Program)(w:World):PySem.KeyKind prog w Key where
 is:=jgg
 hash:=keyH w
 inj:=λv a b ha hb=>by
  rcases jdh ha with⟨i,t,rfl,rfl⟩|⟨x,t,rfl,rfl⟩
  ·rcases jdh hb with⟨j,u,rfl,e⟩|⟨y,u,rfl,e⟩
   ·injection e with e1 _;rw[e1]
   ·exact nomatch e
  ·rcases jdh hb with⟨j,u,rfl,e⟩|⟨y,u,rfl,e⟩
   ·exact nomatch e
   ·injection e with e1 _;rw[e1]
 byValue:=λk v h=>by
  rcases jdh h with⟨i,t,rfl,rfl⟩|⟨x,t,rfl,rfl⟩ <;> rfl
 pyHash:=λhv h=>by
  rcases jdh hv with⟨i,t,rfl,rfl⟩|⟨x,t,rfl,rfl⟩
  ·exact wpAny_pyHash_int h
  ·exact wpAny_pyHash_str h
 eqBool:=λhu hv h=>by
  rcases jdh hu with⟨i,t,rfl,rfl⟩|⟨x,t,rfl,rfl⟩
  ·rcases jdh hv with⟨j,u,rfl,rfl⟩|⟨y,u,rfl,rfl⟩
   ·rw[jtd]at h;exact wpAny_eqBool_int h
   ·rw[jte]at h;exact SeqAt.EqAt.int_str i t y u _ _ _ _ h
  ·rcases jdh hv with⟨j,u,rfl,rfl⟩|⟨y,u,rfl,rfl⟩
   ·rw[jtf]at h;exact SeqAt.EqAt.str_int x t j u _ _ _ _ h
   ·rw[jtg]at h;exact wpAny_eqBool_str h
 «strs»:=λk x t v h=>by
  rcases jdh h with⟨i,u,rfl,e⟩|⟨y,u,rfl,e⟩
  ·exact nomatch e
  ·injection e with e1 _
   subst e1
   cases v <;> rfl
theorem jmn(prog:Program)(w:World)(i:Int)(t:Tok):(jdg prog w).is (.inl i) (.int i t)=true:=jpk i t
theorem jmo(prog:Program)(w:World)(x:Str)(t:Tok):(jdg prog w).is (.inr x) (.str x t)=true:=jpl x t
inductive V where
 |non|bl (b:Bool)|int (i:Int)|str (x:Str)|byt (b:Array UInt8)|flt (b:UInt64)|ref (a:Addr)|ty (n:String)
 deriving DecidableEq
def RelV:V->Value->Prop
 |.non,u=>u=Value.none
 |.bl b,u=>u=Value.bool b
 |.int i,u=>∃t,u=Value.int i t
 |.str x,u=>∃t,u=Value.str x t
 |.byt b,u=>∃t,u=Value.bytes b t
 |.flt b,u=>∃t,u=Value.float b t
 |.ref a,u=>u=Value.ref a
 |.ty n,u=>u=Value.type n
abbrev Vals:List V->List Value->Prop:=Paired RelV
theorem Vals.length{xs:List V}{us:List Value}(r:Vals xs us):xs.length=us.length:=A5 r
theorem Vals.get:∀{xs:List V}{us:List Value}{i:Nat}{x:V},Vals xs us->xs[i]?=some x->∃u,us[i]?=some u/\RelV x u
 |_,_,_,_,.nil,e=>by simp at e
 |_,_,0,_,.cons r _,e=>by simp at e;subst e;exact⟨_,rfl,r⟩
 |_,_,i+1,x,.cons _ t,e=>by
  obtain⟨u,h1,h2⟩:=Vals.get (i:=i) (x:=x) t (by simpa using e)
  exact⟨u,by simpa using h1,h2⟩
theorem Vals.set{x:V}{u:Value}(r:RelV x u):∀{xs:List V}{us:List Value}(i:Nat),Vals xs us->Vals (xs.set i x) (us.set i u)
 |_,_,_,.nil=>.nil
 |_,_,0,.cons _ t=>.cons r t
 |_,_,i+1,.cons q t=>.cons q (Vals.set r i t)
theorem Vals.append:∀{xs ys:List V}{us ws:List Value},Vals xs us->Vals ys ws->Vals (xs++ys) (us++ws)
 |_,_,_,_,.nil,s=>s
 |_,_,_,_,.cons r t,s=>.cons r (Vals.append t s)
theorem Vals.take:∀{xs:List V}{us:List Value}(n:Nat),Vals xs us->Vals (xs.take n) (us.take n)
 |_,_,0,_=>.nil
 |_,_,_+1,.nil=>.nil
 |_,_,n+1,.cons r t=>.cons r (Vals.take n t)
theorem Vals.drop:∀{xs:List V}{us:List Value}(n:Nat),Vals xs us->Vals (xs.drop n) (us.drop n)
 |_,_,0,r=>r
 |_,_,_+1,.nil=>.nil
 |_,_,n+1,.cons _ t=>Vals.drop n t
def RelO:Option V->Option Value->Prop
 |some v,some u=>RelV v u
 |none,none=>True
 |_,_=>False
def KV{κ:Type}:List (κ×V)->List (κ×Value)->Prop:=Paired fun(p:κ×V) (q:κ×Value)=>p.1=q.1/\RelV p.2 q.2
def kV:Key->V
 |.inl i=>.int i
 |.inr x=>.str x
inductive HO where
  |lst (xs:List V)
  |tup (xs:List V)
  |dK (kvs:List (Key×V))|dT (kvs:List (List Key×V))
  |set (S:Int->Bool) (n:Nat)
  |ins (C dx:Addr) (fs:List (Str×V))
  |own (x:Addr)
  |xd (fs:List (Str×V))
  |met (f x:Addr)
  |rng (lo hi:Int)
  |frz (o:Obj) (u:HO)
  |tbl (ps:Array Value)
  |ext (φ:Heap->Prop)
abbrev Hp:=Addr->Option HO
def upd(H:Hp)(a:Addr)(o:HO):Hp:=λb=>if b=a then some o else H b
theorem je{H:Hp}{a:Addr}{o:HO}:upd H a o a=some o:=by unfold upd;rw[Af rfl]
theorem jf{H:Hp}{a b:Addr}{o:HO}(h:b≠a):upd H a o b=H b:=by unfold upd;rw[Aa h]
theorem jep{H:Hp}{a:Addr}{o u:HO}:upd (upd H a o) a u=upd H a u:=by
 funext b;unfold upd;split <;> rfl
theorem jkd{H:Hp}{a b:Addr}{o u:HO}(h:H a=some o)(h':H b=some u)(d:o≠u):a≠b:=by
 intro e;subst e;rw[h]at h';exact d (Az h')
theorem jl{H:Hp}{a b:Addr}{o:HO}(h:H a=some o)(h':H b=none):a≠b:=by
 intro e;subst e;rw[h]at h';cases h'
section
variable(P:Program)(w:World)
def ObjOk(H:Hp)(h:Heap)(a:Addr):HO->Prop
 |.lst xs=>xs.length<=sizeLine/\∃(its:List Value)(n:Nat),Vals xs its/\h.get? a=some {cls:=.type "list",data:=.seq its.toArray n}
 |.tup xs=>xs.length<=sizeLine/\∃its:List Value,Vals xs its/\IsTup h a its.toArray
 |.dK kvs=>kvs.length<=sizeLine/\(a == sysModules)=false/\∃vs,KV kvs vs/\h.DictOf (jdg P w) a vs
 |.dT kvs=>kvs.length<=sizeLine/\(a == sysModules)=false/\∃xs:List (List Key×Addr×Value),
   Paired (fun(p:List Key×V) (q:List Key×Addr×Value)=>p.1=q.1/\H q.2.1=some (.tup (p.1.map kV))/\RelV p.2 q.2.2) kvs xs /\
   ∃o es ep,h.get? a=some o/\o.ExactDict/\o.data=.dict es ep/\es.toList=xs.map (entryOfKey (tupleKind (jdg P w)))/\(xs.map (·.1)).Nodup
 |.set S n=>h.SetOf (intKind P w) a S n
 |.ins C dx fs=>H dx=some (.own a)/\fs.length<=1000/\dx≠a/\h.get? a=some (PySem.W.instObj C dx) /\
   ∃mA,h.Ns1 dx mA/\(∀f,RelO (fs.lookup f) (mA f))/\PySem.Within mA (fs.map (·.1))
 |.own _=>∃o,h.get? a=some o
 |.xd fs=>∃mA,h.Ns1 a mA/\∀f,RelO (fs.lookup f) (mA f)
 |.rng lo hi=>∃t u v,h.get? a=some {cls:=.type "range",data:=.fields #[.int lo t,.int hi u,.int 1 v]}
 |.frz o u=>h.get? a=some o/\ObjOk H h a u
 |.tbl ps=>h.get? a=some {cls:=.none,data:=.fields ps}
 |.met f x=>h.get? a=some (PySem.W.methodObj (.ref f) (.ref x))
 |.ext φ=>φ h/\(∃o,h.get? a=some o)/\∀h1 h2:Heap,φ h1->(∀o,h1.get? a=some o->h2.get? a=some o)->φ h2
def HOk(H:Hp)(h:Heap):Prop:=∀a o,H a=some o->ObjOk P w H h a o
end
section
variable{P:Program}{w:World}{H H':Hp}{h h':Heap}{a:Addr}{o:HO}
theorem ObjOk.lt(x:ObjOk P w H h a o):a<h.objs.size:=by
 cases o with
 |lst xs=>obtain⟨_,_,_,_,e⟩:=x;exact Ai e
 |tup xs=>obtain⟨_,_,_,p⟩:=x;exact p.lt
 |dK kvs=>obtain⟨_,_,_,_,o,_,_,e,_⟩:=x;exact Ai e
 |dT kvs=>obtain⟨_,_,_,_,o,_,_,e,_⟩:=x;exact Ai e
 |set S n=>obtain⟨o,_,_,_,e,_⟩:=x;exact Ai e
 |ins C dx fs=>obtain⟨_,_,_,e,_⟩:=x;exact Ai e
 |own y=>obtain⟨_,e⟩:=x;exact Ai e
 |xd fs=>obtain⟨_,⟨_,_,_,e,_⟩,_⟩:=x;exact Ai e
 |rng lo hi=>obtain⟨_,_,_,e⟩:=x;exact Ai e
 |frz ob u=>obtain⟨e,_⟩:=x;exact Ai e
 |tbl ps=>exact Ai (show h.get? a=some _ from x)
 |met f y=>exact Ai (show h.get? a=some _ from x)
 |ext φ=>obtain⟨_,⟨_,e⟩,_⟩:=x;exact Ai e
theorem Paired.mapP{α β:Type}{F G:α->β->Prop}:∀{l₁:List α}{l₂:List β},Paired F l₁ l₂->(∀a b,F a b->G a b)->Paired G l₁ l₂
 |_,_,.nil,_=>.nil
 |_,_,.cons r t,f=>.cons (f _ _ r) (Paired.mapP t f)
theorem ObjOk.stay(x:ObjOk P w H h a o)(k:∀b u,(b=a\/H b=some (.own a))->h.get? b=some u->h'.get? b=some u)
  (ho:∀b,H b=some (.own a)->H' b=some (.own a)) (ht:∀b xs,H b=some (.tup xs)->H' b=some (.tup xs)):ObjOk P w H' h' a o:=by
 induction o with
 |lst xs=>obtain⟨z,its,n,r,e⟩:=x;exact⟨z,its,n,r,k _ _ (.inl rfl) e⟩
 |tup xs=>obtain⟨z,its,r,ob,e,c⟩:=x;exact⟨z,its,r,ob,k _ _ (.inl rfl) e,c⟩
 |dK kvs=>obtain⟨z,y,vs,r,ob,es,ep,e,c⟩:=x;exact⟨z,y,vs,r,ob,es,ep,k _ _ (.inl rfl) e,c⟩
 |dT kvs =>
  obtain⟨z,y,xs,r,ob,es,ep,e,c⟩:=x
  exact⟨z,y,xs,Paired.mapP r λp q z=>⟨z.1,ht _ _ z.2.1,z.2.2⟩,ob,es,ep,k _ _ (.inl rfl) e,c⟩
 |set S n=>obtain⟨ob,es,ep,t,e,c⟩:=x;exact⟨ob,es,ep,t,k _ _ (.inl rfl) e,c⟩
 |ins C dx fs =>
  obtain⟨d,z,ne,e,mA,⟨od,es,ep,e2,c⟩,r⟩:=x
  exact⟨ho _ d,z,ne,k _ _ (.inl rfl) e,mA,⟨od,es,ep,k _ _ (.inr d) e2,c⟩,r⟩
 |own y=>obtain⟨ob,e⟩:=x;exact⟨ob,k _ _ (.inl rfl) e⟩
 |xd fs=>obtain⟨mA,⟨od,es,ep,e,c⟩,r⟩:=x;exact⟨mA,⟨od,es,ep,k _ _ (.inl rfl) e,c⟩,r⟩
 |rng lo hi=>obtain⟨t,u,v,e⟩:=x;exact⟨t,u,v,k _ _ (.inl rfl) e⟩
 |frz ob u ih=>obtain⟨e,q⟩:=x;exact⟨k _ _ (.inl rfl) e,ih q⟩
 |tbl ps =>
  have e:h.get? a=some {cls:=.none,data:=.fields ps}:=x
  show h'.get? a=some {cls:=.none,data:=.fields ps}
  exact k a _ (.inl rfl) e
 |met f y =>
  have e:h.get? a=some (PySem.W.methodObj (.ref f) (.ref y)):=x
  show h'.get? a=some (PySem.W.methodObj (.ref f) (.ref y))
  exact k a _ (.inl rfl) e
 |ext φ=>obtain⟨p,⟨o,e⟩,st⟩:=x;exact⟨st _ _ p λo q=>k _ _ (.inl rfl) q,⟨o,k _ _ (.inl rfl) e⟩,st⟩
theorem HOk.lt(x:HOk P w H h)(e:H a=some o):a<h.objs.size:=(x a o e).lt
theorem HOk.fresh(x:HOk P w H h)(e:h.objs.size<=a):H a=none:=by
 cases q:H a with
 |none=>rfl
 |some u=>exact absurd (Aw (x.lt q) e) (O1 _)
theorem HOk.kept(x:HOk P w H h)(k:∀b u,h.get? b=some u->h'.get? b=some u):HOk P w H h':=λa o e =>
 (x a o e).stay (λb u _ q=>k b u q) (λ_ q=>q) λ_ _ q=>q
theorem HOk.laid(x:HOk P w H h)(k:∀b u,h.get? b=some u->h'.get? b=some u)(hp:h.objs.size<=a)(new:ObjOk P w (upd H a o) h' a o):HOk P w (upd H a o) h':=λb u e=>by
 have hn:=x.fresh hp
 by_cases hb:b=a
 ·subst hb;rw[je]at e;cases e;exact new
 ·rw[jf hb]at e
  exact(x b u e).stay (λc v _ q=>k c v q) (λc q=>by rw[jf (jl q hn)];exact q) λc xs q=>by rw[jf (jl q hn)];exact q
end
def Rd(H:Hp)(a:Addr)(u:HO):Prop:=H a=some u\/∃o,H a=some (.frz o u)
theorem Rd.ok{P:Program}{w:World}{H:Hp}{h:Heap}{a:Addr}{u:HO}(r:Rd H a u)(x:HOk P w H h):ObjOk P w H h a u:=by
 rcases r with r|⟨o,r⟩
 ·exact x a u r
 ·obtain⟨_,q⟩:=x a _ r
  exact q
def Mut:Option HO->Prop
 |some (.lst _)=>True
 |some (.dK _)=>True
 |some (.dT _)=>True
 |some (.set _ _)=>True
 |some (.ins _ _ _)=>True
 |some (.ext _)=>True
 |_=>False
section
variable{P:Program}{w:World}{H:Hp}{h h':Heap}{x e:Addr}{o':HO}
theorem HOk.write(ok:HOk P w H h)(mu:Mut (H x))(he:e=x\/H e=some (.own x))(k:∀b u,b≠e->h.get? b=some u->h'.get? b=some u)(heo:∃u,h'.get? e=some u)
  (new:ObjOk P w (upd H x o') h' x o'):HOk P w (upd H x o') h':=λb u q=>by
 have nown:∀c y,H c=some (.own y)->c≠x:=λc y r z=>by subst z;rw[r]at mu;exact mu
 have ntup:∀c xs,H c=some (.tup xs)->c≠x:=λc xs r z=>by subst z;rw[r]at mu;exact mu
 by_cases hb:b=x
 ·subst hb;rw[je]at q;cases q;exact new
 ·rw[jf hb]at q
  by_cases hbe:b=e
  ·have q':H b=some (.own x):=by
    rcases he with z|z
    ·exact absurd (hbe.trans z) hb
    ·rw[hbe];exact z
   rw[q]at q';cases q'
   obtain⟨v,hv⟩:=heo
   exact⟨v,by rw[hbe];exact hv⟩
  ·refine(ok b u q).stay (λc v hc r=>k c v ?_ r) (λc r=>by rw[jf (nown c b r)];exact r) λc xs r=>by rw[jf (ntup c xs r)];exact r
   rcases hc with rfl|hc
   ·exact hbe
   ·rintro rfl
    rcases he with z|z
    ·exact nown c b hc z
    ·rw[hc]at z;cases z;exact hb rfl
end
structure Un(fs ex:List Addr)(H H':Hp)(h h':Heap):Prop where
 keep:∀b o,h.get? b=some o->H b=none->b∉fs->b∉ex->h'.get? b=some o
 slot:∀b o,h.get? b=some o->H b=none->b∈fs->b∉ex->∃sl,h'.get? b=some {o with slots:=sl}
 free:∀b o,h.get? b=some o->H b=none->b∉ex->H' b=none
 there:∀b o,h.get? b=some o->b∉ex->∃o',h'.get? b=some o'
 tups:∀b xs,H b=some (.tup xs)->H' b=some (.tup xs)
 frzs:∀b o u,H b=some (.frz o u)->H' b=some (.frz o u)
 tbls:∀b ps,H b=some (.tbl ps)->∃more,H' b=some (.tbl (ps++more))
section
variable{fs fs' ex ex':List Addr}{H H1 H2:Hp}{h h1 h2 h':Heap}{a x e:Addr}{o:HO}
theorem Un.any(u:Un fs ex H H1 h h1){b:Addr}{ob:Obj}(q:h.get? b=some ob)(n:H b=none)(hx:b∉ex):∃sl,h1.get? b=some {ob with slots:=sl}:=by
 by_cases hb:b∈fs
 ·exact u.slot b ob q n hb hx
 ·exact⟨ob.slots,u.keep b ob q n hb hx⟩
theorem Un.kept(k:∀b u,h.get? b=some u->h'.get? b=some u):Un fs ex H H h h' :=
 ⟨λb ob q _ _ _=>k b ob q,λb ob q _ _ _=>⟨ob.slots,k b ob q⟩,λ_ _ _ n _=>n,λb ob q _=>⟨ob,k b ob q⟩,λ_ _ q=>q,λ_ _ _ q=>q,λ_ ps q=>⟨#[],by rw[q];simp⟩⟩
theorem Un.refl:Un fs ex H H h h:=Un.kept λ_ _ q=>q
theorem Un.laid(k:∀b u,h.get? b=some u->h'.get? b=some u)(hp:h.objs.size<=a)(hn:H a=none):Un fs ex H (upd H a o) h h' where
 keep:=λb u q _ _ _=>k b u q
 slot:=λb u q _ _ _=>⟨u.slots,k b u q⟩
 free:=λb u q n _=>by rw[jf (Ar (Aw (Ai q) hp))];exact n
 there:=λb u q _=>⟨u,k b u q⟩
 tups:=λb xs q=>by rw[jf (jl q hn)];exact q
 frzs:=λb u xs q=>by rw[jf (jl q hn)];exact q
 tbls:=λb ps q=>⟨#[],by rw[jf (jl q hn),q];simp⟩
theorem Un.write(mu:Mut (H x))(he:e=x\/H e=some (.own x))(k:∀b u,b≠e->h.get? b=some u->h'.get? b=some u)(heo:∃u,h'.get? e=some u):Un fs ex H (upd H x o) h h':=by
 have hx:∀b,H b=none->b≠x:=λb n z=>by subst z;rw[n]at mu;exact mu
 have hb:∀b,H b=none->b≠e:=λb n z=>by
  subst z
  rcases he with r|r
  ·exact hx b n r
  ·rw[n]at r;cases r
 have hm:∀b u,H b=some u->¬Mut (some u)->b≠x:=λb u q nm z=>by subst z;rw[q]at mu;exact nm mu
 refine⟨λb u q n _ _=>k b u (hb b n) q,λb u q n _ _=>⟨u.slots,k b u (hb b n) q⟩,λb u q n _=>by rw[jf (hx b n)];exact n,λb u q _=>?_,
  λb xs q=>by rw[jf (hm b _ q λz=>z)];exact q,λb u xs q=>by rw[jf (hm b _ q λz=>z)];exact q,λb ps q=>⟨#[],by rw[jf (hm b _ q λz=>z),q];simp⟩⟩
 by_cases hbe:b=e
 ·subst hbe;exact heo
 ·exact⟨u,k b u hbe q⟩
end
def trk(h:Heap)(H:Hp):List Addr:=(List.range h.objs.size).filter λa=>(H a).isSome
def hidT(h:Heap)(H:Hp):Heap:=PySem.W.hideAll h (trk h H)
theorem jpe(h:Heap)(H:Hp):(hidT h H).objs.size=h.objs.size:=PySem.W.hideAll_size _ _
theorem jqn{h:Heap}{H:Hp}{b:Addr}{o:Obj}(e:h.get? b=some o)(n:H b=none):(hidT h H).get? b=some o :=
 PySem.W.hideAll_get _ e λhm=>by
  have q:(H b).isSome=true:=(Ot.mp hm).2
  rw[n]at q;simp at q
theorem jsj{h:Heap}{H:Hp}{b:Addr}{o:Obj}(e:(hidT h H).get? b=some o):h.get? b=some o/\H b=none:=by
 have e':h.get? b=some o:=PySem.W.of_hideAll (trk h H) e
 refine⟨e',?_⟩
 cases q:H b with
 |none=>rfl
 |some x =>
  have hm:b∈trk h H:=Ot.mpr ⟨Wk.mpr (Ai e'),by simp[q]⟩
  have z:(hidT h H).get? b=none:=PySem.W.hideAll_none (trk h H) hm
  rw[z]at e;cases e
structure Mod(K:PySem.W.Frag)(mg:Str->Option Value)(base:Heap):Prop where
 kin:K.In base
 glob:base.Ns mainGlobals mg
 blt:∃mb,base.Ns builtinsNs mb/\∀x:Str,x≠"__name__"->mb x=bootBuiltins x
 nolimit:base.NoLimit
structure Cx where
 prog:Program
 w:World
 K:PySem.W.Frag
 mg:Str->Option Value
 base:Heap
 A:Around
 N:List Str
 s₀:Shared
 H₀:Hp
 env:Env
 outer:List Env
 stack:List Env
 ex:List Addr
 fn:Str->Bool
 calm:Bool
 pn:List (Addr×Obj)
 xe:Value->Shared->Prop
def frs(l:List Env):List Addr:=l.filterMap (·.frame)
abbrev Cx.fs(X:Cx):List Addr:=frs X.outer
def Vis(sc:Scope)(x:Str):Prop:=sc.names.lookup x=some .local\/sc.names.lookup x=some .cell\/sc.names.lookup x=some .free
def Loc(sc:Scope)(x:Str):Prop:=sc.names.lookup x=some .local\/sc.names.lookup x=some .cell
def Look(env:Env)(h:Heap)(m:Str->Option Value)(x:Str)(u:Value):Prop :=
 (env.kindOf x=some .local/\m x=some u)\/((env.kindOf x=some .cell\/env.kindOf x=some .free)/\∃c,env.cells.lookup x=some c/\h.IsCell c (some u))
structure Cx.Ok(X:Cx):Prop where
 mod:Mod X.K X.mg X.base
 kind:X.env.scope.kind=.function
 glob:X.env.globals=mainGlobals
 blt:X.env.builtins=builtinsNs
 above:X.s₀.heap.objs.size<=X.env.locals
 inj:∀x y c,X.env.cells.lookup x=some c->X.env.cells.lookup y=some c->x=y
 has:∀x,(X.env.kindOf x=some .cell\/X.env.kindOf x=some .free)->∃c,X.env.cells.lookup x=some c
 cab:∀x c,X.fn x=true->X.env.cells.lookup x=some c->X.s₀.heap.objs.size<=c
 hd:X.calm=true->X.A.handled=none
 frames:X.A.frames=some X.stack
 stk:X.stack=X.outer\/(X.stack=X.env::X.outer/\X.env.frame=some X.env.locals)
 exf:∀b∈X.ex,b≠X.env.locals/\∀x c,X.env.cells.lookup x=some c->c≠b
 bs:∀b o,X.base.get? b=some o->X.s₀.heap.get? b=some o/\X.H₀ b=none
 bsz:X.base.objs.size<=X.s₀.heap.objs.size
 noex:∀b o,X.base.get? b=some o->b∉X.ex
 exfs:∀b∈X.ex,b∉X.fs
 funs:X.s₀.heap.FunFrames X.base X.outer
 frf:∀b∈X.fs,X.H₀ b=none
structure Inv(X:Cx)(pins:List (Addr×Obj))(σ:List (Option V))(H:Hp)(s:Shared):Prop where
 ok:X.Ok
 os:s.os=X.s₀.os
 bare:AllBare s.gens
 base:Un X.fs X.ex X.H₀ H X.s₀.heap s.heap
 loc:∃m,s.heap.Ns X.env.locals m/\∀(i:Nat)(x:Str)(v:V),X.N[i]?=some x->σ[i]?=some (some v)->Vis X.env.scope x->∃u,RelV v u/\Look X.env s.heap m x u
 cell:∀x c,X.env.cells.lookup x=some c->∃v,s.heap.IsCell c v
 free:H X.env.locals=none
 freeC:∀x c,X.env.cells.lookup x=some c->H c=none
 pin:∀p∈X.pn++pins,s.heap.get? p.1=some p.2/\H p.1=none/\p.1≠X.env.locals/\p.1∉X.fs/\∀v,p.2.data≠.cell v
 hok:HOk X.prog X.w H s.heap
 len:σ.length=X.N.length
section
variable{X:Cx}{pins:List (Addr×Obj)}{σ:List (Option V)}{H H':Hp}{s:Shared}{h':Heap}
theorem Cx.Ok.nofr(ok:X.Ok){b:Addr}{o:Obj}(e:X.base.get? b=some o):b∉X.fs:=λhb=>by
 have:=(ok.funs.mem hb).1
 rw[e]at this;cases this
theorem Inv.bs(I:Inv X pins σ H s):∀b o,X.base.get? b=some o->s.heap.get? b=some o/\H b=none:=λb o e =>
 ⟨I.base.keep b o (I.ok.bs b o e).1 (I.ok.bs b o e).2 (I.ok.nofr e) (I.ok.noex b o e),I.base.free b o (I.ok.bs b o e).1 (I.ok.bs b o e).2 (I.ok.noex b o e)⟩
theorem Inv.bk(I:Inv X pins σ H s):∀b o,X.base.get? b=some o->s.heap.get? b=some o:=λb o e=>(I.bs b o e).1
theorem Inv.mod(I:Inv X pins σ H s):Mod X.K X.mg X.base:=I.ok.mod
theorem Inv.kIn(I:Inv X pins σ H s):X.K.In s.heap:=I.ok.mod.kin.keeps I.bk
theorem Inv.lt(I:Inv X pins σ H s):X.env.locals<s.heap.objs.size:=let⟨_,hn,_⟩:=I.loc;hn.lt
theorem Inv.sz(I:Inv X pins σ H s):X.s₀.heap.objs.size<=s.heap.objs.size:=A7 I.ok.above (Nat.le_of_lt I.lt)
theorem Inv.nofs(I:Inv X pins σ H s){a:Addr}(h:s.heap.objs.size<=a):a∉X.fs:=λhb=>by
 obtain⟨_,o,ho,_⟩:=I.ok.funs.mem hb
 exact absurd (Aw (Ai ho) (A7 I.sz h)) (O1 _)
theorem Inv.cne(I:Inv X pins σ H s):∀x c,X.env.cells.lookup x=some c->c≠X.env.locals:=λx c e z=>by
 obtain⟨v,o,ho,hd⟩:=I.cell x c e
 obtain⟨m,⟨o',es,ep,ho',hd',_⟩,_⟩:=I.loc
 rw[z,ho']at ho;cases ho;rw[hd']at hd;cases hd
theorem Inv.funs(I:Inv X pins σ H s):s.heap.FunFrames X.base X.outer:=by
 have all:∀(l:List Env),(∀b∈frs l,b∈X.fs)->X.s₀.heap.FunFrames X.base l->s.heap.FunFrames X.base l:=by
  intro l
  induction l with
  |nil=>intro _ _;trivial
  |cons env r ih =>
   intro hs hl
   obtain⟨hk,⟨L,o,hf,hn,ho,hd⟩,hr⟩:=hl
   have hL:L∈X.fs:=hs L (by unfold frs;rw[List.filterMap_cons,hf];exact Ow)
   obtain⟨sl,e⟩:=I.base.slot L o ho (I.ok.frf L hL) hL λz=>I.ok.exfs L z hL
   exact⟨hk,⟨L,_,hf,hn,e,hd⟩,ih (λb hb=>hs b (by unfold frs;rw[List.filterMap_cons,hf];exact Ip _ hb)) hr⟩
 exact all X.outer (λ_ hb=>hb) I.ok.funs
theorem Inv.stack(I:Inv X pins σ H s):s.heap.FunFrames X.base X.stack:=by
 rcases I.ok.stk with e|⟨e,hf⟩
 ·rw[e];exact I.funs
 ·rw[e]
  obtain⟨m,hn,_⟩:=I.loc
  refine .cons (by rw[I.ok.kind];decide) hf hn ?_ I.funs
  exact Wz (A7 I.ok.bsz I.ok.above)
theorem Inv.stkSub(I:Inv X pins σ H s):∀b∈frs X.stack,b∈X.env.locals::X.fs:=λb hb=>by
 rcases I.ok.stk with e|⟨e,hf⟩
 ·rw[e]at hb;exact Ip _ hb
 ·rw[e]at hb
  unfold frs at hb
  rw[List.filterMap_cons,hf]at hb
  exact hb
theorem Inv.stkFree(I:Inv X pins σ H s):∀b∈frs X.stack,H b=none:=λb hb=>by
 rcases Al.mp (I.stkSub b hb)with e|hb
 ·rw[e];exact I.free
 ·obtain⟨_,o,ho,_⟩:=I.ok.funs.mem hb
  exact I.base.free b o ho (I.ok.frf b hb) λz=>I.ok.exfs b z hb
theorem Inv.step{g':Array GenState}{t':Nat}{d':Drawn}{ch:List Addr}(I:Inv X pins σ H s)
  (hch:∀b∈ch,(b∈X.ex\/X.s₀.heap.objs.size<=b)/\b≠X.env.locals/\(∀x c,X.env.cells.lookup x=some c->c≠b)/\∀p∈X.pn++pins,p.1≠b)
  (keep:∀b o,b≠X.env.locals->b∉X.fs->b∉ch->s.heap.get? b=some o->H b=none->h'.get? b=some o)
  (slot:∀b o,b≠X.env.locals->b∈X.fs->b∉ch->s.heap.get? b=some o->H b=none->∃sl,h'.get? b=some {o with slots:=sl}) (free:∀b o,b∉ch->s.heap.get? b=some o->H b=none->H' b=none)
  (there:∀b o,b∉ch->s.heap.get? b=some o->∃o',h'.get? b=some o')
  (tups:∀b xs,H b=some (.tup xs)->H' b=some (.tup xs)) (frzs:∀b o u,H b=some (.frz o u)->H' b=some (.frz o u)) (tbls:∀b ps,H b=some (.tbl ps)->∃more,H' b=some (.tbl (ps++more)))
  (ns:∀m,s.heap.Ns X.env.locals m->h'.Ns X.env.locals m) (hok:HOk X.prog X.w H' h') (hg:AllBare g') :
  Inv X pins σ H' {s with heap:=h',gens:=g',drawn:=d',toks:=t'}:=by
 have neL:∀b o,X.s₀.heap.get? b=some o->b≠X.env.locals:=λb o e=>Ar (Aw (Ai e) I.ok.above)
 have neC:∀b o,X.s₀.heap.get? b=some o->b∉X.ex->b∉ch:=λb o e hx hb=>by
  rcases(hch b hb).1 with z|z
  ·exact hx z
  ·exact absurd (Aw (Ai e) z) (O1 _)
 have cellK:∀x c,X.env.cells.lookup x=some c->∀v,s.heap.IsCell c v->h'.IsCell c v:=λx c e v ⟨o,ho,hd⟩=>by
  have nch:c∉ch:=λz=>(hch c z).2.2.1 x c e rfl
  by_cases hc:c∈X.fs
  ·obtain⟨sl,q⟩:=slot c o (I.cne x c e) hc nch ho (I.freeC x c e)
   exact⟨_,q,hd⟩
  ·exact⟨o,keep c o (I.cne x c e) hc nch ho (I.freeC x c e),hd⟩
 refine⟨I.ok,I.os,hg,⟨λb o e n hb hx=>?_,λb o e n hb hx=>?_,λb o e n hx=>?_,λb o e hx=>?_,λb xs e=>tups b xs (I.base.tups b xs e),λb o xs e=>frzs b o xs (I.base.frzs b o xs e),λb ps e=>?_⟩,?_,λx c e=>?_,?_,λx c e=>?_,λp hp=>?_,hok,I.len⟩
 ·exact keep b o (neL b o e) hb (neC b o e hx) (I.base.keep b o e n hb hx) (I.base.free b o e n hx)
 ·obtain⟨sl,e1⟩:=I.base.slot b o e n hb hx
  obtain⟨sl',e2⟩:=slot b _ (neL b o e) hb (neC b o e hx) e1 (I.base.free b o e n hx)
  exact⟨sl',e2⟩
 ·obtain⟨o',e1⟩:=I.base.there b o e hx
  exact free b o' (neC b o e hx) e1 (I.base.free b o e n hx)
 ·obtain⟨o',e1⟩:=I.base.there b o e hx
  exact there b o' (neC b o e hx) e1
 ·obtain⟨m1,e1⟩:=I.base.tbls b ps e
  obtain⟨m2,e2⟩:=tbls b _ e1
  exact⟨m1++m2,by rw[e2,Array.append_assoc]⟩
 ·obtain⟨m,hn,hl⟩:=I.loc
  refine⟨m,ns m hn,λi x v e1 e2 e3=>?_⟩
  obtain⟨u,r,l⟩:=hl i x v e1 e2 e3
  refine⟨u,r,?_⟩
  rcases l with l|⟨k,c,e,z⟩
  ·exact .inl l
  ·exact .inr ⟨k,c,e,cellK x c e _ z⟩
 ·obtain⟨v,z⟩:=I.cell x c e
  exact⟨v,cellK x c e v z⟩
 ·obtain⟨m,⟨o,_,_,ho,_⟩,_⟩:=I.loc
  exact free _ o (λz=>(hch _ z).2.1 rfl) ho I.free
 ·obtain⟨v,o,ho,hd⟩:=I.cell x c e
  exact free c o (λz=>(hch c z).2.2.1 x c e rfl) ho (I.freeC x c e)
 ·obtain⟨e,n,ne,nf,d⟩:=I.pin p hp
  have nch:p.1∉ch:=λz=>(hch p.1 z).2.2.2 p hp rfl
  exact⟨keep p.1 p.2 ne nf nch e n,free p.1 p.2 nch e n,ne,nf,d⟩
theorem Inv.un{t':Nat}(I:Inv X pins σ H s)(u:Un X.fs [] H H' s.heap h')(hok:HOk X.prog X.w H' h'):Inv X pins σ H' {s with heap:=h',toks:=t'}:=by
 obtain⟨m,⟨o,es,ep,ho,r⟩,_⟩:=id I.loc
 obtain⟨sl,hL⟩:=u.any ho I.free (by simp)
 exact I.step (g':=s.gens) (d':=s.drawn) (ch:=[]) (λ_ z=>nomatch z) (λb o _ hb _ e n=>u.keep b o e n hb (by simp)) (λb o _ hb _ e n=>u.slot b o e n hb (by simp)) (λb o _ e n=>u.free b o e n (by simp)) (λb o _ e=>u.there b o e (by simp)) u.tups u.frzs u.tbls (λm' hm=>by
  obtain⟨o',es',ep',ho',r'⟩:=hm
  rw[ho]at ho';cases ho'
  exact⟨_,es',ep',hL,r'⟩) hok I.bare
theorem Inv.call{g':Array GenState}{t':Nat}{d':Drawn}{ch:List Addr}(I:Inv X pins σ H s)(u:Un (frs X.stack) ch H H' s.heap h')(hok:HOk X.prog X.w H' h')(hg:AllBare g')
  (hch:∀b∈ch,(b∈X.ex\/X.s₀.heap.objs.size<=b)/\b≠X.env.locals/\(∀x c,X.env.cells.lookup x=some c->c≠b)/\∀p∈X.pn++pins,p.1≠b) :
  Inv X pins σ H' {s with heap:=h',gens:=g',drawn:=d',toks:=t'}:=by
 obtain⟨m,⟨o,es,ep,ho,r⟩,_⟩:=id I.loc
 obtain⟨sl,hL⟩:=u.any ho I.free λz=>(hch _ z).2.1 rfl
 exact I.step (ch:=ch) hch (λb o hL hb hc e n=>u.keep b o e n (λz=>(Al.mp (I.stkSub b z)).elim hL hb) hc) (λb o _ _ hc e n=>u.any e n hc) (λb o hc e n=>u.free b o e n hc) (λb o hc e=>u.there b o e hc) u.tups u.frzs u.tbls (λm' hm=>by
  obtain⟨o',es',ep',ho',r'⟩:=hm
  rw[ho]at ho';cases ho'
  exact⟨_,es',ep',hL,r'⟩) hok hg
theorem Inv.turned{t':Nat}{it:Addr}(I:Inv X pins σ H s)(k:∀b o,b≠it->s.heap.get? b=some o->h'.get? b=some o)(hn:H it=none)(hL:it≠X.env.locals)
  (h1:it∈X.ex\/X.s₀.heap.objs.size<=it) (h2:∀x c,X.env.cells.lookup x=some c->c≠it) (h3:∀p∈X.pn++pins,p.1≠it):Inv X pins σ H {s with heap:=h',toks:=t'}:=by
 have nit:∀b u,H b=some u->b≠it:=λb u e z=>by rw[z,hn]at e;cases e
 refine I.step (g':=s.gens) (d':=s.drawn) (ch:=[it]) (λb hb=>?_) (λb o _ _ hc e _=>k b o (λz=>hc (by simp[z])) e) (λb o _ _ hc e _=>⟨o.slots,k b o (λz=>hc (by simp[z])) e⟩) (λ_ _ _ _ n=>n)
  (λb o hc e=>⟨o,k b o (λz=>hc (by simp[z])) e⟩) (λ_ _ e=>e) (λ_ _ _ e=>e) (λb ps e=>⟨#[],by rw[e];simp⟩) (λm hm=>?_) (λb u e=>?_) I.bare
 ·have e:b=it:=by simpa using hb
  subst e
  exact⟨h1,hL,h2,h3⟩
 ·obtain⟨o,es,ep,ho,r⟩:=hm
  exact⟨o,es,ep,k _ o (Ol hL) ho,r⟩
 ·refine(I.hok b u e).stay (λc v hc q=>k c v ?_ q) (λ_ q=>q) λ_ _ q=>q
  rcases hc with z|z
  ·rw[z];exact nit b u e
  ·exact nit c _ z
theorem Inv.tok(I:Inv X pins σ H s)(t:Nat):Inv X pins σ H {s with toks:=t}:=I.un (h':=s.heap) (t':=t) Un.refl I.hok
theorem Inv.kept{t':Nat}(I:Inv X pins σ H s)(k:∀b u,s.heap.get? b=some u->h'.get? b=some u):Inv X pins σ H {s with heap:=h',toks:=t'}:=I.un (Un.kept k) (I.hok.kept k)
theorem Inv.laid{a:Addr}{o:HO}{t':Nat}(I:Inv X pins σ H s)(k:∀b u,s.heap.get? b=some u->h'.get? b=some u)(hp:s.heap.objs.size<=a)(new:ObjOk X.prog X.w (upd H a o) h' a o) :
  Inv X pins σ (upd H a o) {s with heap:=h',toks:=t'}:=I.un (Un.laid k hp (I.hok.fresh hp)) (I.hok.laid k hp new)
theorem Inv.write{x e:Addr}{o:HO}{t':Nat}(I:Inv X pins σ H s)(mu:Mut (H x))(he:e=x\/H e=some (.own x))(k:∀b u,b≠e->s.heap.get? b=some u->h'.get? b=some u)(heo:∃u,h'.get? e=some u)
  (new:ObjOk X.prog X.w (upd H x o) h' x o):Inv X pins σ (upd H x o) {s with heap:=h',toks:=t'}:=I.un (Un.write mu he k heo) (I.hok.write mu he k heo new)
theorem Inv.pins_of{pins':List (Addr×Obj)}(I:Inv X pins σ H s)(h:∀p∈pins',s.heap.get? p.1=some p.2/\H p.1=none/\p.1≠X.env.locals/\p.1∉X.fs/\∀v,p.2.data≠.cell v):Inv X pins' σ H s :=
 ⟨I.ok,I.os,I.bare,I.base,I.loc,I.cell,I.free,I.freeC,λp hp=>(Ie.mp hp).elim (λz=>I.pin p (Iq _ z)) (h p),I.hok,I.len⟩
theorem jg4{N:List Str}(hN:N.Nodup){i j:Nat}{x:Str}(a:N[i]?=some x)(b:N[j]?=some x):i=j:=by
 obtain⟨h1,e1⟩:=Ab.mp a
 obtain⟨h2,e2⟩:=Ab.mp b
 exact(List.getElem_inj hN).mp (e1.trans e2.symm)
theorem jgb{M:Model}{A:Around}{E:Value->Shared->Prop}{i:Nat}{x:Str}{v:V}{u:Value}{Q:Unit->Shared->Prop}(I:Inv X pins σ H s)(hN:X.N.Nodup)(hi:X.N[i]?=some x)(hx:Loc X.env.scope x)(r:RelV v u)
  (h:∀s',Inv X pins (σ.set i (some v)) H s'->(∃a,Heap.SameBut a s.heap s'.heap/\(a=X.env.locals\/X.env.cells.lookup x=some a))->Q () s') (hf:X.fn x=true\/X.env.scope.names.lookup x=some .local:=by first|exact .inl rfl|exact .inr rfl|assumption):wpAny M A (storeName X.env x u) Q E s:=by
 obtain⟨m,hn,hl⟩:=id I.loc
 have hcls:(X.env.scope.kind == .class || (X.env.scope.kind == .module && X.env.locals != X.env.globals))=false:=by rw[I.ok.kind];rfl
 have hiσ:i<σ.length:=by rw[I.len];exact(Ab.mp hi).1
 have cne:=I.cne
 have tracked:∀{a:Addr}{h':Heap},(∃o,s.heap.get? a=some o/\H a=none)->Heap.SameBut a s.heap h'->HOk X.prog X.w H h':=fun{a h'} ha hs b ob e=>by
  obtain⟨_,_,hfree⟩:=ha
  refine(I.hok b ob e).stay (λc w' hc q=>(hs.2 c ?_).trans q) (λ_ q=>q) λ_ _ q=>q
  rintro rfl
  rcases hc with rfl|hc
  ·rw[hfree]at e;cases e
  ·rw[hfree]at hc;cases hc
 rcases hx with hk|hk
 ·refine wpAny_storeName_local hk hn (λh' hn' hs=>?_) hcls
  obtain⟨oL,_,_,hoL,_⟩:=id hn
  refine h _ ⟨I.ok,I.os,I.bare,⟨λb o e n hb hx=>?_,λb o e n hb hx=>?_,I.base.free,λb o e hx=>?_,I.base.tups,I.base.frzs,I.base.tbls⟩,⟨_,hn',λj y v' e1 e2 e3=>?_⟩,λy c e=>?_,I.free,I.freeC,λp hp=>?_,tracked ⟨oL,hoL,I.free⟩ hs,by simpa using I.len⟩ ⟨_,hs,.inl rfl⟩
  ·exact(hs.2 b (Ar (Aw (Ai e) I.ok.above))).trans (I.base.keep b o e n hb hx)
  ·obtain⟨sl,e1⟩:=I.base.slot b o e n hb hx
   exact⟨sl,(hs.2 b (Ar (Aw (Ai e) I.ok.above))).trans e1⟩
  ·obtain⟨o',e1⟩:=I.base.there b o e hx
   exact⟨o',(hs.2 b (Ar (Aw (Ai e) I.ok.above))).trans e1⟩
  ·by_cases hj:j=i
   ·subst hj
    rw[hi]at e1;cases e1
    rw[List.getElem?_set_self hiσ]at e2
    cases e2
    exact⟨u,r,.inl ⟨hk,by simp⟩⟩
   ·rw[W0 (Ol hj)]at e2
    obtain⟨u',r',q⟩:=hl j y v' e1 e2 e3
    refine⟨u',r',?_⟩
    rcases q with⟨k,e⟩|⟨k,c,e,z⟩
    ·refine .inl ⟨k,?_⟩
     have:y≠x:=λe=>hj (jg4 hN e1 (e▸hi))
     simp[this,e]
    ·exact .inr ⟨k,c,e,z.sameBut hs (cne y c e)⟩
  ·obtain⟨w',z⟩:=I.cell y c e
   exact⟨w',z.sameBut hs (cne y c e)⟩
  ·obtain⟨e,n,ne,nf,d⟩:=I.pin p hp
   exact⟨(hs.2 p.1 ne).trans e,n,ne,nf,d⟩
 ·have hfn:X.fn x=true:=by
   rcases hf with z|z
   ·exact z
   ·rw[z]at hk;cases hk
  obtain⟨c,hc⟩:=I.ok.has x (.inl hk)
  obtain⟨w',z⟩:=I.cell x c hc
  refine wpAny_storeName_cell I.ok.kind hk hc z (λh' hc' hs=>?_)
  obtain⟨oc,hoc,hocd⟩:=id z
  refine h {s with heap:=h'} ⟨I.ok,I.os,I.bare,⟨λb o e n hb hx=>?_,λb o e n hb hx=>?_,I.base.free,λb o e hx=>?_,I.base.tups,I.base.frzs,I.base.tbls⟩,⟨m,hn.sameBut hs (Ol (cne x c hc)),λj y v' e1 e2 e3=>?_⟩,λy c' e=>?_,I.free,I.freeC,λp hp=>?_,tracked ⟨oc,hoc,I.freeC x c hc⟩ hs,by simpa using I.len⟩ ⟨c,hs,.inr hc⟩
  ·exact(hs.2 b (Ar (Aw (Ai e) (I.ok.cab x c hfn hc)))).trans (I.base.keep b o e n hb hx)
  ·obtain⟨sl,e1⟩:=I.base.slot b o e n hb hx
   exact⟨sl,(hs.2 b (Ar (Aw (Ai e) (I.ok.cab x c hfn hc)))).trans e1⟩
  ·obtain⟨o',e1⟩:=I.base.there b o e hx
   exact⟨o',(hs.2 b (Ar (Aw (Ai e) (I.ok.cab x c hfn hc)))).trans e1⟩
  ·by_cases hj:j=i
   ·subst hj
    rw[hi]at e1;cases e1
    rw[List.getElem?_set_self hiσ]at e2
    cases e2
    exact⟨u,r,.inr ⟨.inl hk,c,hc,hc'⟩⟩
   ·rw[W0 (Ol hj)]at e2
    obtain⟨u',r',q⟩:=hl j y v' e1 e2 e3
    refine⟨u',r',?_⟩
    rcases q with q|⟨k,c',e,z'⟩
    ·exact .inl q
    ·refine .inr ⟨k,c',e,z'.sameBut hs ?_⟩
     rintro rfl
     exact hj (jg4 hN e1 (I.ok.inj _ _ _ e hc▸hi))
  ·by_cases hcc:c'=c
   ·subst hcc;exact⟨_,hc'⟩
   ·obtain⟨w2,z2⟩:=I.cell y c' e
    exact⟨w2,z2.sameBut hs hcc⟩
  ·obtain⟨e,n,ne,nf,d⟩:=I.pin p hp
   refine⟨(hs.2 p.1 ?_).trans e,n,ne,nf,d⟩
   intro q
   rw[q,hoc]at e
   have q':oc=p.2:=Az e
   exact d w' (by rw[<-q'];exact hocd)
theorem jew{M:Model}{A:Around}{E:Value->Shared->Prop}{i:Nat}{x:Str}{v:V}{u:Value}{Q:Unit->Shared->Prop}(I:Inv X pins σ H s)(hN:X.N.Nodup)(hi:X.N[i]?=some x)(hx:Loc X.env.scope x)(r:RelV v u)
  (h:∀s',Inv X pins (σ.set i (some v)) H s'->Q () s') (hf:X.fn x=true\/X.env.scope.names.lookup x=some .local:=by first|exact .inl rfl|exact .inr rfl|assumption):wpAny M A (storeName X.env x u) Q E s :=
 jgb I hN hi hx r (λs' I' _=>h s' I') hf
theorem Inv.call'{s':Shared}{ch:List Addr}(I:Inv X pins σ H s)(ho:s'.os=s.os)(u:Un (frs X.stack) ch H H' s.heap s'.heap)(hok:HOk X.prog X.w H' s'.heap)(hg:AllBare s'.gens)
  (hch:∀b∈ch,(b∈X.ex\/X.s₀.heap.objs.size<=b)/\b≠X.env.locals/\(∀x c,X.env.cells.lookup x=some c->c≠b)/\∀p∈X.pn++pins,p.1≠b):Inv X pins σ H' s':=by
 obtain⟨h',g',d',t',o'⟩:=s'
 have e:o'=s.os:=ho
 subst e
 exact I.call (g':=g') (t':=t') (d':=d') u hok hg hch
end
abbrev XK:=Value->Option Addr->Hp->Prop
abbrev St:=List (Option V)
abbrev VK:=V->Hp->Prop
abbrev TE:=St->Hp->VK->Prop
abbrev TT:=St->Hp->(Bool->Hp->Prop)->Prop
abbrev TA:=St->Hp->(List V->Hp->Prop)->Prop
structure Ends where
 nx:St->Hp->Prop
 rt:VK
 bk:St->Hp->Prop:=λ_ _=>False
 ct:St->Hp->Prop:=λ_ _=>False
abbrev TS:=Ends->St->Hp->Prop
def EP(X:Cx)(pins:List (Addr×Obj))(σ:St)(Q:VK)(u:Value)(s':Shared):Prop:=∃v H',Inv X pins σ H' s'/\RelV v u/\Q v H'
def TP(X:Cx)(pins:List (Addr×Obj))(σ:St)(Q:Bool->Hp->Prop)(b:Bool)(s':Shared):Prop:=∃H',Inv X pins σ H' s'/\Q b H'
def AP(X:Cx)(pins:List (Addr×Obj))(σ:St)(Q:List V->Hp->Prop)(us:List Value)(s':Shared):Prop:=∃vs H',Inv X pins σ H' s'/\Vals vs us/\Q vs H'
def SP(X:Cx)(pins:List (Addr×Obj))(D:Ends)(f:Flow)(s':Shared):Prop :=
 match f with
 |.next=>∃σ' H',Inv X pins σ' H' s'/\D.nx σ' H'
 |.brk=>∃σ' H',Inv X pins σ' H' s'/\D.bk σ' H'
 |.cont=>∃σ' H',Inv X pins σ' H' s'/\D.ct σ' H'
 |.ret u=>∃v σ' H',Inv X pins σ' H' s'/\RelV v u/\D.rt v H'
def PE(X:Cx)(e:Expr)(t:TE):Prop :=
 ∀(pins:List (Addr×Obj))(s:Shared)(σ:St)(H:Hp)(Q:VK),Inv X pins σ H s->t σ H Q->wpAny (model X.prog X.w) X.A (eval e X.env) (EP X pins σ Q) X.xe s
def PT(X:Cx)(e:Expr)(t:TT):Prop :=
 ∀(pins:List (Addr×Obj))(s:Shared)(σ:St)(H:Hp)(Q:Bool->Hp->Prop),Inv X pins σ H s->t σ H Q->wpAny (model X.prog X.w) X.A (isTrue e X.env (eval e X.env)) (TP X pins σ Q) X.xe s
def PW(X:Cx)(e:Expr)(t:TT):Prop :=
 ∀(whole:Sem Value)(pins:List (Addr×Obj))(s:Shared)(σ:St)(H:Hp)(Q:Bool->Hp->Prop),Inv X pins σ H s->t σ H Q->wpAny (model X.prog X.w) X.A (isTrue e X.env whole) (TP X pins σ Q) X.xe s
theorem PW.pt{X:Cx}{e:Expr}{t:TT}(h:PW X e t):PT X e t:=h _
def PA(X:Cx)(es:List Expr)(t:TA):Prop :=
 ∀(pos:Pos)(pins:List (Addr×Obj))(s:Shared)(σ:St)(H:Hp)(Q:List V->Hp->Prop),Inv X pins σ H s->t σ H Q->wpAny (model X.prog X.w) X.A (spliced (backTo pos (starEach es X.env))) (AP X pins σ Q) X.xe s
def PS(X:Cx)(st:Stmt)(t:TS):Prop :=
 ∀(pins:List (Addr×Obj))(s:Shared)(σ:St)(H:Hp)(D:Ends),Inv X pins σ H s->t D σ H->wpAny (model X.prog X.w) X.A (exec st X.env) (SP X pins D) X.xe s
def PSs(X:Cx)(st:List Stmt)(t:TS):Prop :=
 ∀(pins:List (Addr×Obj))(s:Shared)(σ:St)(H:Hp)(D:Ends),Inv X pins σ H s->t D σ H->wpAny (model X.prog X.w) X.A (execs st X.env) (SP X pins D) X.xe s
theorem thn{α:Type}{t:Sem α}{Q Q':α->Shared->Prop}{M:Model}{A:Around}{E:Value->Shared->Prop}{s:Shared}(h:wpAny M A t Q E s)(hQ:∀a s,Q a s->Q' a s):wpAny M A t Q' E s:=Iy h hQ λ_ _ x=>x
section
variable{X:Cx}
def tVar(i:Nat):TE:=λσ H Q=>∃v,σ[i]?=some (some v)/\Q v H
def tC(v:V):TE:=λ_ H Q=>Q v H
theorem jcu{i:Nat}{x:Str}{pos:Pos}(hN:X.N[i]?=some x)(hv:Vis X.env.scope x)(hd:(x == ("__debug__":Str))=false:=by decide)(hcd:(x == ("__classdict__":Str))=false:=by decide):PE X (.Name x pos) (tVar i):=by
 intro pins s σ H Q I h
 obtain⟨v,e,h⟩:=h
 obtain⟨m,hn,hl⟩:=I.loc
 obtain⟨u,r,l⟩:=hl i x v hN e hv
 have fin:EP X pins σ Q u s:=⟨v,H,I,r,h⟩
 rcases l with⟨hk,hm⟩|⟨hk,c,hc,hcell⟩
 ·exact wpAny_Name (wpAny_loadName_local I.ok.kind hk hn hm fin) hd
 ·rcases hk with hk|hk
  ·exact wpAny_Name (wpAny_loadName_cell I.ok.kind hk hc hcell fin) hd
  ·exact wpAny_Name (wpAny_loadName_free I.ok.kind hk hc hcell fin hcd) hd
theorem pe_int{i j pos}:PE X (.Constant (.int i) j pos) (tC (.int i)):=λ_ _ _ H _ I h=>wpAny_Constant_int ⟨.int i,H,I.tok _,⟨_,rfl⟩,h⟩
theorem pe_bl{b j pos}:PE X (.Constant (.bool b) j pos) (tC (.bl b)):=λ_ _ _ H _ I h=>Constant_bool ⟨.bl b,H,I,rfl,h⟩
theorem pe_non{j pos}:PE X (.Constant .none j pos) (tC .non):=λ_ _ _ H _ I h=>Constant_none ⟨.non,H,I,rfl,h⟩
theorem pe_str{x j pos}:PE X (.Constant (.str x) j pos) (tC (.str x)):=λ_ _ _ H _ I h=>Yg ⟨.str x,H,I.tok _,⟨_,rfl⟩,h⟩
def Gl(X:Cx)(x:Str):Prop:=X.env.kindOf x=some .globalImplicit
theorem jed{E:Value->Shared->Prop}{pins:List (Addr×Obj)}{s:Shared}{σ:St}{H:Hp}{x:Str}{u:Value}{pos:Pos}{Q:Value->Shared->Prop}(I:Inv X pins σ H s)(hg:Gl X x)(hm:X.mg x=some u)(h:Q u s)
  (hd:(x == ("__debug__":Str))=false:=by decide):wpAny (model X.prog X.w) X.A (eval (.Name x pos) X.env) Q E s :=
 Calls.Name_function_global I.ok.kind hg (Calls.loadGlobal_global (by rw[I.ok.glob];exact I.mod.glob.keeps I.bk) hm h) hd
theorem jef{E:Value->Shared->Prop}{pins:List (Addr×Obj)}{s:Shared}{σ:St}{H:Hp}{x:Str}{u:Value}{pos:Pos}{Q:Value->Shared->Prop}(I:Inv X pins σ H s)(hg:Gl X x)(hm:X.mg x=none)(hv:bootBuiltins x=some u)(h:Q u s)
  (hn:x≠"__name__":=by decide) (hd:(x == ("__debug__":Str))=false:=by decide):wpAny (model X.prog X.w) X.A (eval (.Name x pos) X.env) Q E s:=by
 obtain⟨mb,h1,h2⟩:=I.mod.blt
 exact Calls.Name_function_global I.ok.kind hg (Calls.loadGlobal_builtin (by rw[I.ok.glob];exact I.mod.glob.keeps I.bk) hm (by rw[I.ok.blt];exact h1.keeps I.bk) ((h2 x hn).trans hv) h) hd
theorem pe_glob{x:Str}{v:V}{u:Value}{pos:Pos}(hg:Gl X x)(hm:X.mg x=some u)(r:RelV v u)(hd:(x == ("__debug__":Str))=false:=by decide):PE X (.Name x pos) (tC v) :=
 λ_ _ _ H _ I h=>jed I hg hm ⟨v,H,I,r,h⟩ hd
theorem pe_bltn{x:Str}{v:V}{u:Value}{pos:Pos}(hg:Gl X x)(hm:X.mg x=none)(hv:bootBuiltins x=some u)(r:RelV v u)(hn:x≠"__name__":=by decide)(hd:(x == ("__debug__":Str))=false:=by decide):PE X (.Name x pos) (tC v) :=
 λ_ _ _ H _ I h=>jef I hg hm hv ⟨v,H,I,r,h⟩ hn hd
variable{a b:Expr}{ta tb:TE}{pos:Pos}
def PC(X:Cx)(op:CmpOp)(a b:Expr)(t:TE):Prop :=
 ∀(pins:List (Addr×Obj))(s:Shared)(σ:St)(H:Hp)(Q:VK),Inv X pins σ H s->t σ H Q ->
  wpAny (model X.prog X.w) X.A (eval a X.env) (λv s₁=>wpAny (model X.prog X.w) X.A (eval b X.env) (λu s₂=>wpAny (model X.prog X.w) X.A (compareOp op v u) (EP X pins σ Q) X.xe s₂) X.xe s₁) X.xe s
def tB(t:TE):TT:=λσ H Q=>t σ H λx H1=>∃c,x=.bl c/\Q c H1
theorem pt_cmp{op:CmpOp}{t:TE}(h:PC X op a b t)(h1:behindInMarks op b=false:=by first|exact nobehind _ (by decide) (by decide)|rfl):PT X (.Compare a [op] [b] pos) (tB t):=by
 intro pins s σ H Q I hw
 refine wpAny_isTrue_Compare1 (thn (h pins s σ H _ I hw) λv s1 h1=>thn h1 λu s2 h2=>thn h2 λc s3 ⟨x,H1,I1,r1,q1⟩=>?_) h1
 obtain⟨d,rfl,q⟩:=q1
 cases r1
 exact Ob ⟨H1,I1,q⟩
theorem pt_val{e:Expr}{t:TE}(h:PE X e t)(he:∀whole,isTrue e X.env whole=(do let v <-whole;standAt e.pos;holding [v] (truthy v)):=by intro _;rfl):PT X e (tB t):=by
 intro pins s σ H Q I hw
 refine isTrue_plain (thn (h pins s σ H _ I hw) λv s1 ⟨x,H1,I1,r1,q1⟩=>?_) (he _)
 obtain⟨d,rfl,q⟩:=q1
 cases r1
 exact Ob ⟨H1,I1,q⟩
variable{tA tB':TT}{rest:List Expr}
def tAnd(t u:TT):TT:=λσ H Q=>t σ H λc H1=>if c=true then u σ H1 Q else Q false H1
def tOr(t u:TT):TT:=λσ H Q=>t σ H λc H1=>if c=true then Q true H1 else u σ H1 Q
def tNot(t:TT):TT:=λσ H Q=>t σ H λc H1=>Q (!c) H1
theorem pw_and1(ha:PT X a tA):PW X (.BoolOp .And [a] pos) tA:=by
 intro wh pins s σ H Q I h
 refine isTrue_and (thn (ha pins s σ H Q I h) λc s1 e=>?_)
 cases c with
 |true=>exact isTrue_and_nil e
 |false=>exact e
theorem pw_or1(ha:PT X a tA):PW X (.BoolOp .Or [a] pos) tA:=by
 intro wh pins s σ H Q I h
 refine isTrue_or (thn (ha pins s σ H Q I h) λc s1 e=>?_)
 cases c with
 |false=>exact isTrue_or_nil e
 |true=>exact e
theorem pw_and(ha:PT X a tA)(hb:PW X (.BoolOp .And (b::rest) pos) tB'):PW X (.BoolOp .And (a::b::rest) pos) (tAnd tA tB'):=by
 intro wh pins s σ H Q I h
 refine isTrue_and (thn (ha pins s σ H _ I h) λc s1 ⟨H1,I1,q1⟩=>?_)
 cases c with
 |true=>exact hb wh pins s1 σ H1 Q I1 q1
 |false=>exact⟨H1,I1,q1⟩
theorem pw_or(ha:PT X a tA)(hb:PW X (.BoolOp .Or (b::rest) pos) tB'):PW X (.BoolOp .Or (a::b::rest) pos) (tOr tA tB'):=by
 intro wh pins s σ H Q I h
 refine isTrue_or (thn (ha pins s σ H _ I h) λc s1 ⟨H1,I1,q1⟩=>?_)
 cases c with
 |true=>exact⟨H1,I1,q1⟩
 |false=>exact hb wh pins s1 σ H1 Q I1 q1
theorem pt_not(ha:PT X a tA):PT X (.UnaryOp .Not a pos) (tNot tA):=by
 intro pins s σ H Q I h
 exact isTrue_not (ha pins s σ H (λc H1=>Q (!c) H1) I h)
def jki(ta tb:TE):TE:=λσ H Q=>ta σ H λx H1=>∃c,x=.bl c/\if c=true then tb σ H1 Q else Q (.bl false) H1
def tOrV(ta tb:TE):TE:=λσ H Q=>ta σ H λx H1=>∃c,x=.bl c/\if c=true then Q (.bl true) H1 else tb σ H1 Q
theorem pe_one{op}{t:TE}(h:PE X a t):PE X (.BoolOp op [a] pos) t:=λpins s σ H Q I hw=>BoolOp_one (h pins s σ H Q I hw)
theorem pe_and(ha:PE X a ta)(hb:PE X (.BoolOp .And (b::rest) pos) tb):PE X (.BoolOp .And (a::b::rest) pos) (jki ta tb):=by
 intro pins s σ H Q I h
 refine BoolOp_and (thn (ha pins s σ H _ I h) λv s1 ⟨x,H1,I1,r1,q1⟩=>?_)
 obtain⟨c,rfl,q1⟩:=q1
 cases r1
 refine Ob ?_
 cases c with
 |true=>exact hb pins s1 σ H1 Q I1 q1
 |false=>exact⟨.bl false,H1,I1,rfl,q1⟩
theorem pe_or(ha:PE X a ta)(hb:PE X (.BoolOp .Or (b::rest) pos) tb):PE X (.BoolOp .Or (a::b::rest) pos) (tOrV ta tb):=by
 intro pins s σ H Q I h
 refine BoolOp_or (thn (ha pins s σ H _ I h) λv s1 ⟨x,H1,I1,r1,q1⟩=>?_)
 obtain⟨c,rfl,q1⟩:=q1
 cases r1
 refine Ob ?_
 cases c with
 |false=>exact hb pins s1 σ H1 Q I1 q1
 |true=>exact⟨.bl true,H1,I1,rfl,q1⟩
def tIf(t:TT)(ta tb:TE):TE:=λσ H Q=>t σ H λc H1=>if c=true then ta σ H1 Q else tb σ H1 Q
theorem pe_ifExp{c:Expr}(hc:PT X c tA)(ha:PE X a ta)(hb:PE X b tb):PE X (.IfExp c a b pos) (tIf tA ta tb):=by
 intro pins s σ H Q I h
 refine wpAny_IfExp (thn (hc pins s σ H _ I h) λd s1 ⟨H1,I1,q1⟩=>?_)
 cases d with
 |true=>exact ha pins s1 σ H1 Q I1 q1
 |false=>exact hb pins s1 σ H1 Q I1 q1
end
def SqL(K:PySem.W.Frag)(H:Hp)(a:Addr)(xs:List V):Prop :=
 Rd H a (.lst xs) \/
  ∃(o:Obj)(its:Array Value)(n:Nat),K.lookup a=some o/\o.cls=.type "list"/\o.dict=none/\o.data=.seq its n/\its.size<=sizeLine/\Vals xs its.toList
def SqT(K:PySem.W.Frag)(H:Hp)(a:Addr)(xs:List V):Prop :=
 Rd H a (.tup xs) \/
  ∃(o:Obj)(its:Array Value)(n:Nat),K.lookup a=some o/\o.cls=.type "tuple"/\o.data=.seq its n/\its.size<=sizeLine/\Vals xs its.toList
def absV:Value->Option V
 |.none=>some .non
 |.bool b=>some (.bl b)
 |.int i _=>some (.int i)
 |.str x _=>some (.str x)
 |.bytes b _=>some (.byt b)
 |.float b _=>some (.flt b)
 |.ref a=>some (.ref a)
 |.type n=>some (.ty n)
 |_=>none
theorem RelV.abs{x:V}{u:Value}(r:RelV x u):absV u=some x:=by
 cases x with
 |non=>cases r;rfl
 |bl _=>cases r;rfl
 |int _=>obtain⟨t,rfl⟩:=r;rfl
 |str _=>obtain⟨t,rfl⟩:=r;rfl
 |byt _=>obtain⟨t,rfl⟩:=r;rfl
 |flt _=>obtain⟨t,rfl⟩:=r;rfl
 |ref _=>cases r;rfl
 |ty _=>cases r;rfl
theorem RelV.inj{x y:V}{u:Value}(r:RelV x u)(q:RelV y u):x=y:=Az (r.abs.symm.trans q.abs)
theorem Vals.inj:∀{xs ys:List V}{us:List Value},Vals xs us->Vals ys us->xs=ys
 |_,_,_,.nil,.nil=>rfl
 |_,_,_,.cons r t,.cons r' t'=>by rw[r.inj r',Vals.inj t t']
section
variable{X:Cx}{pins:List (Addr×Obj)}{σ:St}{H:Hp}{s:Shared}{a:Addr}{xs ys:List V}
theorem SqL.of{K:PySem.W.Frag}(h:H a=some (.lst xs)):SqL K H a xs:=.inl (.inl h)
theorem SqT.of{K:PySem.W.Frag}(h:H a=some (.tup xs)):SqT K H a xs:=.inl (.inl h)
theorem Inv.list(I:Inv X pins σ H s)(h:SqL X.K H a xs):∃its:List Value,Vals xs its/\PlainL s.heap a its.toArray/\xs.length<=sizeLine:=by
 rcases h with h|⟨o,its,n,hk,hc,hd,hs,hz,r⟩
 ·obtain⟨z,its,n,r,e⟩:=h.ok I.hok
  exact⟨its,r,⟨_,n,e,rfl,rfl,rfl⟩,z⟩
 ·refine⟨its.toList,r,⟨o,n,I.kIn a o hk,hc,hd,by simpa using hs⟩,?_⟩
  have e:=r.length
  simp only[Array.length_toList]at e
  omega
theorem Inv.tuple(I:Inv X pins σ H s)(h:SqT X.K H a xs):∃its:List Value,Vals xs its/\IsTup s.heap a its.toArray/\xs.length<=sizeLine:=by
 rcases h with h|⟨o,its,n,hk,hc,hs,hz,r⟩
 ·obtain⟨z,its,r,p⟩:=h.ok I.hok
  exact⟨its,r,p,z⟩
 ·refine⟨its.toList,r,⟨o,I.kIn a o hk,hc,n,by simpa using hs⟩,?_⟩
  have e:=r.length
  simp only[Array.length_toList]at e
  omega
theorem Inv.list_inj(I:Inv X pins σ H s)(h:SqL X.K H a xs)(h':SqL X.K H a ys):xs=ys:=by
 obtain⟨its,r,⟨o,n,e,_,_,d⟩,_⟩:=I.list h
 obtain⟨its',r',⟨o',n',e',_,_,d'⟩,_⟩:=I.list h'
 rw[e]at e';cases e'
 rw[d]at d'
 injection d' with d1 _
 have:its=its':=by simpa using Om Array.toList d1
 subst this
 exact r.inj r'
theorem Inv.tuple_inj(I:Inv X pins σ H s)(h:SqT X.K H a xs)(h':SqT X.K H a ys):xs=ys:=by
 obtain⟨its,r,⟨o,e,_,n,d⟩,_⟩:=I.tuple h
 obtain⟨its',r',⟨o',e',_,n',d'⟩,_⟩:=I.tuple h'
 rw[e]at e';cases e'
 rw[d]at d'
 injection d' with d1 _
 have:its=its':=by simpa using Om Array.toList d1
 subst this
 exact r.inj r'
end
abbrev Cx.wish(X:Cx)(E:Value->Shared->Prop):Cx:={X with xe:=E}
abbrev Cx.nox(X:Cx):Cx:=X.wish λ_ _=>False
theorem Cx.Ok.wish{X:Cx}(ok:X.Ok)(E:Value->Shared->Prop):(X.wish E).Ok :=
 ⟨ok.mod,ok.kind,ok.glob,ok.blt,ok.above,ok.inj,ok.has,ok.cab,ok.hd,ok.frames,ok.stk,ok.exf,ok.bs,ok.bsz,ok.noex,ok.exfs,ok.funs,ok.frf⟩
theorem Cx.Ok.unwish{X:Cx}{E:Value->Shared->Prop}(ok:(X.wish E).Ok):X.Ok :=
 ⟨ok.mod,ok.kind,ok.glob,ok.blt,ok.above,ok.inj,ok.has,ok.cab,ok.hd,ok.frames,ok.stk,ok.exf,ok.bs,ok.bsz,ok.noex,ok.exfs,ok.funs,ok.frf⟩
section
variable{X:Cx}{pins:List (Addr×Obj)}{σ:St}{H:Hp}{s:Shared}{E:Value->Shared->Prop}
theorem Inv.wish(I:Inv X pins σ H s)(E:Value->Shared->Prop):Inv (X.wish E) pins σ H s:=⟨I.ok.wish E,I.os,I.bare,I.base,I.loc,I.cell,I.free,I.freeC,I.pin,I.hok,I.len⟩
theorem Inv.unwish(I:Inv (X.wish E) pins σ H s):Inv X pins σ H s:=⟨I.ok.unwish,I.os,I.bare,I.base,I.loc,I.cell,I.free,I.freeC,I.pin,I.hok,I.len⟩
theorem SP.unwish{D:Ends}{f:Flow}{s':Shared}(h:SP (X.wish E) pins D f s'):SP X pins D f s':=by
 cases f with
 |next=>obtain⟨σ',H',I,q⟩:=h;exact⟨σ',H',I.unwish,q⟩
 |brk=>obtain⟨σ',H',I,q⟩:=h;exact⟨σ',H',I.unwish,q⟩
 |cont=>obtain⟨σ',H',I,q⟩:=h;exact⟨σ',H',I.unwish,q⟩
 |ret u=>obtain⟨v,σ',H',I,r,q⟩:=h;exact⟨v,σ',H',I.unwish,r,q⟩
theorem PSs.nox{st:List Stmt}{t:TS}(h:PSs X.nox st t):PSs X st t:=λpins s σ H D I hw =>
 Iy (h pins s σ H D (I.wish _) hw) (λ_ _ q=>q.unwish) λ_ _ z=>False.elim z
end
section
variable{X:Cx}{st:Stmt}{rest:List Stmt}{t u:TS}{e:Expr}{te:TE}{pos:Pos}
def jks:TS:=λD σ H=>D.nx σ H
def tSeq(t u:TS):TS:=λD σ H=>t {D with nx:=u D} σ H
theorem pss_nil:PSs X [] jks:=λ_ _ σ H _ I h=>Uu ⟨σ,H,I,h⟩
theorem pss_cons(h1:PS X st t)(h2:PSs X rest u):PSs X (st::rest) (tSeq t u):=by
 intro pins s σ H D I h
 refine O4 (thn (h1 pins s σ H {D with nx:=u D} I h) λf s1 q=>?_)
 cases f with
 |next =>
  obtain⟨σ',H',I',q⟩:=q
  exact h2 pins s1 σ' H' D I' q
 |ret v=>exact q
 |brk=>exact q
 |cont=>exact q
theorem pss_one(h1:PS X st t):PSs X [st] t:=by
 intro pins s σ H D I h
 refine O4 (thn (h1 pins s σ H D I h) λf s1 q=>?_)
 cases f with
 |next=>exact Uu q
 |ret v=>exact q
 |brk=>exact q
 |cont=>exact q
def jkl:TS:=λD σ H=>D.ct σ H
theorem ps_continue:PS X (.Continue pos) jkl:=λ_ _ σ H _ I h=>wpAny_Continue ⟨σ,H,I,h⟩
theorem Inv.quiet{pins:List (Addr×Obj)}{σ:St}{H:Hp}{s:Shared}(I:Inv X pins σ H s):interactive X.env=false:=by simp[interactive,I.ok.kind]
def jkm(te:TE):TS:=λD σ H=>te σ H λ_ H1=>D.nx σ H1
theorem ps_expr(he:PE X e te)(hs:swapsWith e none pos.line X.env=pure false:=by rfl):PS X (.Expr e pos) (jkm te):=by
 intro pins s σ H D I h
 exact wpAny_Expr_any (thn (he pins s σ H _ I h) λv s1 ⟨x,H1,I1,r1,q1⟩=>⟨σ,H1,I1,q1⟩) I.quiet hs
def tRet(te:TE):TS:=λD σ H=>te σ H D.rt
theorem ps_ret(he:PE X e te):PS X (.Return (some e) pos) (tRet te):=by
 intro pins s σ H D I h
 exact wpAny_Return_some (thn (he pins s σ H _ I h) λv s1 ⟨x,H1,I1,r1,q1⟩=>⟨x,σ,H1,I1,r1,q1⟩)
def tIfS(c:TT)(t u:TS):TS:=λD σ H=>c σ H λb H1=>if b=true then t D σ H1 else u D σ H1
theorem ps_if{c:Expr}{a b:List Stmt}{tc:TT}(hc:PT X c tc)(ha:PSs X a t)(hb:PSs X b u):PS X (.If c a b pos) (tIfS tc t u):=by
 intro pins s σ H D I h
 refine wpAny_If (thn (hc pins s σ H _ I h) λd s1 ⟨H1,I1,q1⟩=>?_)
 cases d with
 |true=>exact ha pins s1 σ H1 D I1 q1
 |false=>exact hb pins s1 σ H1 D I1 q1
def jp1:TS:=λ_ _ _=>False
theorem ps_never:PS X st jp1:=λ_ _ _ _ _ _ h=>h.elim
end
abbrev TG:=V->St->Hp->(St->Hp->Prop)->Prop
abbrev TGs:=List V->St->Hp->(St->Hp->Prop)->Prop
def PG(X:Cx)(target:Expr)(t:TG):Prop :=
 ∀(pins:List (Addr×Obj))(s:Shared)(σ:St)(H:Hp)(v:V)(u:Value)(Q:St->Hp->Prop),Inv X pins σ H s->RelV v u->t v σ H Q ->
  wpAny (model X.prog X.w) X.A (assign target X.env u) (λ_ s'=>∃σ' H',Inv X pins σ' H' s'/\Q σ' H') X.xe s
def PGs(X:Cx)(ts:List Expr)(t:TGs):Prop :=
 ∀(pins:List (Addr×Obj))(s:Shared)(σ:St)(H:Hp)(vs:List V)(us:List Value)(Q:St->Hp->Prop),Inv X pins σ H s->Vals vs us->t vs σ H Q ->
  wpAny (model X.prog X.w) X.A (assignInOrder ((assignEach ts X.env).map (·.2)) us) (λ_ s'=>∃σ' H',Inv X pins σ' H' s'/\Q σ' H') X.xe s
abbrev TSet:=V->V->V->Hp->(Hp->Prop)->Prop
def PSet(X:Cx)(t:TSet):Prop :=
 ∀(pins:List (Addr×Obj))(s:Shared)(σ:St)(H:Hp)(o i v:V)(ov iv u:Value)(Q:Hp->Prop),Inv X pins σ H s->RelV o ov->RelV i iv->RelV v u->t o i v H Q ->
  wpAny (model X.prog X.w) X.A (setItem ov iv u) (λ_ s'=>∃H',Inv X pins σ H' s'/\Q H') X.xe s
section
variable{X:Cx}{pos:Pos}
def jdo(i:Nat):TG:=λv σ H Q=>Q (σ.set i (some v)) H
theorem pg_name{i:Nat}{x:Str}(hN:X.N.Nodup)(hi:X.N[i]?=some x)(hx:Loc X.env.scope x)(hf:X.fn x=true\/X.env.scope.names.lookup x=some .local:=by first|exact .inl rfl|exact .inr rfl|assumption):PG X (.Name x pos) (jdo i):=by
 intro pins s σ H v u Q I r h
 exact wpAny_assign_Name (jew I hN hi hx r (λs' I'=>⟨_,H,I',h⟩) hf)
def gNil:TGs:=λvs σ H Q=>vs=[]/\Q σ H
def jrk(t:TG)(u:TGs):TGs:=λvs σ H Q=>∃v r,vs=v::r/\t v σ H λσ' H'=>u r σ' H' Q
theorem pgs_nil:PGs X [] gNil:=by
 intro pins s σ H vs us Q I r h
 obtain⟨e,h⟩:=h
 subst e
 cases r
 exact assignInOrder_nil ⟨σ,H,I,h⟩
theorem pgs_cons{e:Expr}{es:List Expr}{t:TG}{u:TGs}(h1:PG X e t)(h2:PGs X es u)
  (hs:(assignEach (e::es) X.env).map (·.2)=assign e X.env::(assignEach es X.env).map (·.2):=by rfl):PGs X (e::es) (jrk t u):=by
 intro pins s σ H vs us Q I r h
 obtain⟨v,vr,e1,h⟩:=h
 subst e1
 cases r with
 |cons r rr =>
  rw[hs]
  refine assignInOrder_cons (thn (h1 pins s σ H _ _ _ I r h) λ_ s1 ⟨σ1,H1,I1,q1⟩=>?_)
  exact h2 pins s1 σ1 H1 _ _ Q I1 rr q1
def gTup(K:PySem.W.Frag)(n:Nat)(t:TGs):TG:=λv σ H Q=>∃a xs,v=.ref a/\SqT K H a xs/\xs.length=n/\t xs σ H Q
theorem pg_tup{es:List Expr}{k:Nat}{t:TGs}{n:Nat}(hc:X.calm=true)(h:PGs X es t)
  (hn:(assignEach es X.env).length=n:=by rfl) (hst:(assignEach es X.env).findIdx? (·.1)=none:=by rfl):PG X (.Tuple es k pos) (gTup X.K n t):=by
 intro pins s σ H v u Q I r hw
 obtain⟨a,xs,e1,hq,hl,hw⟩:=hw
 subst e1
 cases r
 obtain⟨its,rv,ht,hz⟩:=I.tuple hq
 refine assign_Tuple_tuple (I.ok.hd hc) ht (by simp[hn,<-hl,rv.length]) hst λh' hx=>?_
 have I1:Inv X pins σ H {s with heap:=h'}:=I.kept (t':=s.toks) λb o e=>hx b o (Ar (Ai e)) e
 exact h pins _ σ H xs _ Q I1 (by simpa using rv) hw
def gSub(to ti:TE)(t:TSet):TG:=λv σ H Q=>to σ H λo H1=>ti σ H1 λi H2=>t o i v H2 λH3=>Q σ H3
theorem pg_sub{o i:Expr}{to ti:TE}{t:TSet}(ho:PE X o to)(hi:PE X i ti)(hs:PSet X t)
  (ha:∀v,assign (.Subscript o i pos) X.env v=(do
   let ov <-holding [v] (eval o X.env)
   let iv <-holding [v,ov] (eval i X.env)
   standAt pos
   holding [v,ov,iv] (setItem ov iv v)
   release [v,ov,iv] []):=by intro _;rfl):PG X (.Subscript o i pos) (gSub to ti t):=by
 intro pins s σ H v u Q I r h
 rw[ha]
 refine Ad (Ur (thn (ho pins s σ H _ I h) λov s1 ⟨x,H1,I1,r1,q1⟩=>?_))
 refine Ad (Ur (thn (hi pins s1 σ H1 _ I1 q1) λiv s2 ⟨y,H2,I2,r2,q2⟩=>?_))
 refine Ad (Us (Ad (Ur (thn (hs pins s2 σ H2 x y v ov iv u _ I2 r1 r2 r q2) λ_ s3 ⟨H3,I3,q3⟩=>?_))))
 exact wpAny_release ⟨σ,H3,I3,q3⟩
def tAsg(te:TE)(g:TG):TS:=λD σ H=>te σ H λx H1=>g x σ H1 D.nx
theorem ps_asg{tg e:Expr}{te:TE}{g:TG}(he:PE X e te)(hg:PG X tg g)(hs:swapsWithSole [tg] e pos.line X.env=pure false:=by rfl)(hw:swappedStores [tg] e X.env=pure none:=by rfl)
  (h1:(assignEach [tg] X.env).map (·.2)=[assign tg X.env]:=by rfl):PS X (.Assign [tg] e pos) (tAsg te g):=by
 intro pins s σ H D I h
 refine wpAny_Assign_stores (thn (he pins s σ H _ I h) λv s1 ⟨x,H1,I1,r1,q1⟩=>?_) hs hw
 rw[h1]
 exact thn (hg pins s1 σ H1 x v _ I1 r1 q1) λ_ s2 q=>q
theorem ps_set{i:Nat}{x:Str}{e:Expr}{te:TE}{pos':Pos}(hN:X.N.Nodup)(hi:X.N[i]?=some x)(hx:Loc X.env.scope x)(he:PE X e te)(hs:swapsWith e (some (.Name x pos')) pos.line X.env=pure false:=by rfl)(hf:X.fn x=true\/X.env.scope.names.lookup x=some .local:=by first|exact .inl rfl|exact .inr rfl|assumption) :
  PS X (.Assign [.Name x pos'] e pos) (tAsg te (jdo i)):=by
 intro pins s σ H D I h
 refine wpAny_Assign_Name (thn (he pins s σ H _ I h) λv s1 ⟨y,H1,I1,r1,q1⟩=>?_) hs
 exact jew I1 hN hi hx r1 (λs2 I2=>⟨_,H1,I2,q1⟩) hf
def jma(c:TT)(tb:TS):TS:=λD σ H=>∃W:Nat->St->Hp->Prop,(∃m,W m σ H)/\∀m σ H,W m σ H ->
 c σ H λb H1=>if b=true then ∃N:St->Hp->Prop,(∀σ' H',N σ' H'->∃m',m'<m/\W m' σ' H')/\tb {D with nx:=N,ct:=N,bk:=D.nx} σ H1 else D.nx σ H1
theorem ps_while{c:Expr}{body:List Stmt}{tc:TT}{tb:TS}(hp:PassesOwn (model X.prog X.w) X.A X.env X.xe)(hc:PT X c tc)(hb:PSs X body tb):PS X (.While c body [] pos) (jma tc tb):=by
 intro pins s σ H D I h
 obtain⟨W,⟨m0,w0⟩,turn⟩:=h
 refine wpAny_While (codeAny_whileLoop (λn s'=>∃σ' H',Inv X pins σ' H' s'/\W n σ' H') ?_ m0 ⟨σ,H,I,w0⟩)
 rintro n s1 ⟨σ1,H1,I1,w1⟩
 refine Ub hp (thn (hc pins s1 σ1 H1 _ I1 (turn n σ1 H1 w1)) λb s2 ⟨H2,I2,q2⟩=>?_)
 cases b with
 |true =>
  obtain⟨N,hN,q2⟩:=q2
  rw[Af rfl]
  refine Ub hp (thn (hb pins s2 σ1 H2 _ I2 q2) λf s3 q3=>?_)
  cases f with
  |next =>
   obtain⟨σ3,H3,I3,n3⟩:=q3
   obtain⟨m',hm,w3⟩:=hN σ3 H3 n3
   exact⟨m',hm,σ3,H3,I3,w3⟩
  |cont =>
   obtain⟨σ3,H3,I3,n3⟩:=q3
   obtain⟨m',hm,w3⟩:=hN σ3 H3 n3
   exact⟨m',hm,σ3,H3,I3,w3⟩
  |brk=>exact q3
  |ret v=>exact q3
 |false =>
  rw[Aa A2]
  exact Uu ⟨σ1,H2,I2,q2⟩
end
structure It where
 go:Nat->Hp->Prop
 yld:Nat->Hp->V->Hp->Prop
 stop:Nat->Hp->Prop
def FpOk(X:Cx)(pins:List (Addr×Obj))(H:Hp)(b:Addr):Prop :=
 H b=none/\b≠X.env.locals/\b∉X.fs/\(b∈X.ex\/X.s₀.heap.objs.size<=b)/\(∀x c,X.env.cells.lookup x=some c->c≠b)/\∀p∈X.pn++pins,p.1≠b
theorem Inv.fpOk{X:Cx}{pins:List (Addr×Obj)}{σ:St}{H H':Hp}{s:Shared}{b:Addr}(I:Inv X pins σ H s)(hb:s.heap.objs.size<=b)(hn:H' b=none):FpOk X pins H' b:=by
 refine⟨hn,Wg (Aw I.lt hb),I.nofs hb,.inr (A7 I.sz hb),λx c e z=>?_,λp hp z=>?_⟩
 ·obtain⟨v,q⟩:=I.cell x c e
  exact absurd (Aw q.lt (by rw[z];exact hb)) (O1 _)
 ·exact absurd (Aw (Ai (I.pin p hp).1) (by rw[z];exact hb)) (O1 _)
structure Turn(P:Program)(w:World)(K:PySem.W.Frag)(tg:Expr)(J:It)(fp:List Addr)(it:Addr)(tn:Nat->Heap->Prop):Prop where
 mem:it∈fp
 obj:∀i h,tn i h->∀b∈fp,∃o,h.get? b=some o/\∀v,o.data≠.cell v
 keep:∀i h h',tn i h->(∀b∈fp,∀o,h.get? b=some o->h'.get? b=some o)->tn i h'
 item:∀(X:Cx),X.prog=P->X.w=w->X.K=K->X.calm=true->∀(i:Nat)(pins:List (Addr×Obj))(s:Shared)(σ:St)(H:Hp)(E:Value->Shared->Prop),Inv X pins σ H s->(∀b∈fp,FpOk X pins H b)->tn i s.heap->J.go i H ->
  wpAny (model P w) X.A (pyNext (.ref it)) (λr s1=>∃u,r=some u /\
   wpAny (model P w) X.A (letOwnedTupleGo tg (.ref it) u) (λ_ s2=>∃x H',Inv X pins σ H' s2/\RelV x u/\J.yld i H x H'/\tn (i+1) s2.heap/\∀b∈fp,H' b=none) E s1) E s
 done:∀(X:Cx),X.prog=P->X.w=w->X.K=K->X.calm=true->∀(i:Nat)(pins:List (Addr×Obj))(s:Shared)(σ:St)(H:Hp)(E:Value->Shared->Prop),Inv X pins σ H s->(∀b∈fp,FpOk X pins H b)->tn i s.heap->J.stop i H ->
  wpAny (model P w) X.A (pyNext (.ref it)) (λr s1=>r=none/\Inv X pins σ H s1) E s
 self:∀(A:Around)(i:Nat)(s:Shared)(Q:Value->Shared->Prop)(E:Value->Shared->Prop),tn i s.heap->Q (.ref it) s->wpAny (model P w) A (pyIter (.ref it)) Q E s
abbrev TI:=St->Hp->(It->Hp->Prop)->Prop
def PIE(X:Cx)(pins:List (Addr×Obj))(σ:St)(tg:Expr)(R:It->Hp->Prop)(itv:Value)(s2:Shared):Prop :=
 ∃(it:Addr)(fp:List Addr)(tn:Nat->Heap->Prop)(J:It)(H':Hp),itv=.ref it/\Inv X pins σ H' s2/\Turn X.prog X.w X.K tg J fp it tn/\tn 0 s2.heap/\(∀b∈fp,FpOk X pins H' b)/\R J H'
def PI(X:Cx)(tg iter:Expr)(wi:TI):Prop :=
 ∀(pins:List (Addr×Obj))(s:Shared)(σ:St)(H:Hp)(R:It->Hp->Prop),Inv X pins σ H s->wi σ H R ->
  wpAny (model X.prog X.w) X.A (eval iter X.env) (λv s1=>wpAny (model X.prog X.w) X.A (pyIter v) (PIE X pins σ tg R) X.xe s1) X.xe s
theorem jhm{M:Model}{A:Around}{E:Value->Shared->Prop}{s:Shared}{tg:Expr}{it:Addr}{u:Value}{o:Obj}{n:String}{vs:Array Value}{Q:Unit->Shared->Prop}(ho:s.heap.get? it=some o)(hc:o.cls=.type n)(hd:o.data=.fields vs)
  (hn:["enumerate","zip","dict_itemiterator","dict_reverseitemiterator","odict_iterator","itertools.zip_longest","itertools.pairwise"].contains n=false) (hQ:Q () s):wpAny M A (letOwnedTupleGo tg (.ref it) u) Q E s:=by
 unfold letOwnedTupleGo
 cases tg <;> first
  |exact Am hQ
  |(cases u <;> first
    |exact Am hQ
    |(refine Ad (wpAny_load ho ?_)
      rw[hc,hd]
      show wpAny M A (if(["enumerate","zip","dict_itemiterator","dict_reverseitemiterator","odict_iterator","itertools.zip_longest","itertools.pairwise"].contains n && vs[0]? == some (rawInt _))=true then _ else _) Q E s
      rw[Aa (by intro h;rw[hn,Bool.false_and]at h;cases h)]
      exact Am hQ))
def Itl(K:PySem.W.Frag)(a:Addr):It :=
 ⟨λi H=>∃xs x,SqL K H a xs/\xs[i]?=some x,λi H x H'=>H'=H/\∀xs,SqL K H a xs->xs[i]?=some x,λi H=>∃xs,SqL K H a xs/\xs.length<=i⟩
def Itt(K:PySem.W.Frag)(a:Addr):It :=
 ⟨λi H=>∃xs x,SqT K H a xs/\xs[i]?=some x,λi H x H'=>H'=H/\∀xs,SqT K H a xs->xs[i]?=some x,λi H=>∃xs,SqT K H a xs/\xs.length<=i⟩
def Itr(lo:Int)(n:Nat):It:=⟨λi _=>i<n,λi H x H'=>H'=H/\x=.int (lo+i),λi _=>n<=i⟩
theorem jp6{P:Program}{w:World}{K:PySem.W.Frag}{tg:Expr}(a it:Addr):Turn P w K tg (Itl K a) [it] it (λi h=>h.IsListIter it a i) where
 mem:=by simp
 obj:=λi h st b hb=>by
  have e:b=it:=by simpa using hb
  subst e
  obtain⟨o,e,c,d⟩:=st
  exact⟨o,e,λv z=>by rw[d]at z;cases z⟩
 keep:=λi h h' st k=>st.at λo e=>k it (by simp) o e
 item:=by
  intro X hP hw hK hc i pins s σ H E I hf st hg
  subst hP hw hK
  obtain⟨xs,x,hq,hx⟩:=hg
  obtain⟨its,rv,p,hz⟩:=I.list hq
  obtain⟨u,hu,ru⟩:=rv.get hx
  obtain⟨f0,f1,f2,f3,f4,f5⟩:=hf it (by simp)
  refine wpAny_pyNext_list_item st p.isList (x:=u) (by simpa using hu) λh' st' sb=>?_
  have I1:Inv X pins σ H {s with heap:=h'}:=I.turned (t':=s.toks) (λb o hb e=>(sb.2 b hb).trans e) f0 f1 f3 f4 f5
  obtain⟨o,e,c,d⟩:=id st'
  exact⟨u,rfl,jhm (s:={s with heap:=h'}) e c d (by decide) ⟨x,H,I1,ru,⟨rfl,λys hy=>by rw[I.list_inj hy hq];exact hx⟩,st',λb hb=>(hf b hb).1⟩⟩
 done:=by
  intro X hP hw hK hc i pins s σ H E I hf st hg
  subst hP hw hK
  obtain⟨xs,hq,hx⟩:=hg
  obtain⟨its,rv,p,hz⟩:=I.list hq
  obtain⟨f0,f1,f2,f3,f4,f5⟩:=hf it (by simp)
  have hl:=rv.length
  exact wpAny_pyNext_list_end (I.ok.hd hc) st p.isList (by simp;omega) λh' eb=>⟨rfl,I.turned (t':=s.toks) (λb o hb e=>eb b o hb e) f0 f1 f3 f4 f5⟩
 self:=λ_ _ _ _ _ st h=>wpAny_pyIter_listiter st h
theorem joo{P:Program}{w:World}{K:PySem.W.Frag}{tg:Expr}(a it:Addr):Turn P w K tg (Itt K a) [it] it (λi h=>h.IsTupleIter it a i) where
 mem:=by simp
 obj:=λi h st b hb=>by
  have e:b=it:=by simpa using hb
  subst e
  obtain⟨o,e,c,d⟩:=st
  exact⟨o,e,λv z=>by rw[d]at z;cases z⟩
 keep:=λi h h' st k=>st.at λo e=>k it (by simp) o e
 item:=by
  intro X hP hw hK hc i pins s σ H E I hf st hg
  subst hP hw hK
  obtain⟨xs,x,hq,hx⟩:=hg
  obtain⟨its,rv,p,hz⟩:=I.tuple hq
  obtain⟨u,hu,ru⟩:=rv.get hx
  obtain⟨f0,f1,f2,f3,f4,f5⟩:=hf it (by simp)
  refine wpAny_pyNext_tuple_item st (show s.heap.IsTuple a its.toArray from p) (x:=u) (by simpa using hu) λh' st' sb=>?_
  have I1:Inv X pins σ H {s with heap:=h'}:=I.turned (t':=s.toks) (λb o hb e=>(sb.2 b hb).trans e) f0 f1 f3 f4 f5
  obtain⟨o,e,c,d⟩:=id st'
  exact⟨u,rfl,jhm (s:={s with heap:=h'}) e c d (by decide) ⟨x,H,I1,ru,⟨rfl,λys hy=>by rw[I.tuple_inj hy hq];exact hx⟩,st',λb hb=>(hf b hb).1⟩⟩
 done:=by
  intro X hP hw hK hc i pins s σ H E I hf st hg
  subst hP hw hK
  obtain⟨xs,hq,hx⟩:=hg
  obtain⟨its,rv,p,hz⟩:=I.tuple hq
  obtain⟨f0,f1,f2,f3,f4,f5⟩:=hf it (by simp)
  have hl:=rv.length
  exact wpAny_pyNext_tuple_end (I.ok.hd hc) st (show s.heap.IsTuple a its.toArray from p) (by simp;omega) λh' eb=>⟨rfl,I.turned (t':=s.toks) (λb o hb e=>eb b o hb e) f0 f1 f3 f4 f5⟩
 self:=λ_ _ _ _ _ st h=>wpAny_pyIter_tupleiter st h
theorem jon{P:Program}{w:World}{K:PySem.W.Frag}{tg:Expr}(it:Addr)(lo:Int)(n:Nat):Turn P w K tg (Itr lo n) [it] it (λi h=>IsRangeIter h it (lo+(i:Nat)*1) ((n:Int)-(i:Nat)) 1) where
 mem:=by simp
 obj:=λi h st b hb=>by
  have e:b=it:=by simpa using hb
  subst e
  exact⟨_,st,λv z=>by
   have z':Data.fields _=Data.cell v:=z
   cases z'⟩
 keep:=λi h h' st k=>k it (by simp) _ st
 item:=by
  intro X hP hw hK hc i pins s σ H E I hf st hg
  subst hP hw hK
  obtain⟨f0,f1,f2,f3,f4,f5⟩:=hf it (by simp)
  have W:=Walks.range (prog:=X.prog) (w:=X.w) (I.ok.hd hc) it lo 1 n
  refine W.item i s _ _ hg st λv h' tk hv st' kk=>?_
  obtain⟨t,rfl⟩:=hv
  have I1:Inv X pins σ H {s with heap:=h',toks:=tk}:=I.turned (λb o hb e=>kk b o (by simpa using hb) e) f0 f1 f3 f4 f5
  refine⟨_,rfl,jhm (s:={s with heap:=h',toks:=tk}) (n:="range_iterator") st' rfl rfl (by decide) ⟨.int (lo+i),H,I1,⟨t,?_⟩,⟨rfl,rfl⟩,st',λb hb=>(hf b hb).1⟩⟩
  rw[Int.mul_one]
 done:=by
  intro X hP hw hK hc i pins s σ H E I hf st hg
  subst hP hw hK
  obtain⟨f0,f1,f2,f3,f4,f5⟩:=hf it (by simp)
  exact wpAny_pyNext_range_end (I.ok.hd hc) st (by have:n<=i:=hg;omega) λh' eb=>⟨rfl,I.turned (t':=s.toks) (λb o hb e=>eb b o hb e) f0 f1 f3 f4 f5⟩
 self:=λ_ _ _ _ _ st h=>wpAny_pyIter_rangeiter st h
section
variable{X:Cx}{tg:Expr}
theorem jl0{pins:List (Addr×Obj)}{σ:St}{H:Hp}{s:Shared}{R:It->Hp->Prop}{E:Value->Shared->Prop}{lo hi:Int}{t u v:Tok}{tk:Nat}(I:Inv X pins σ H s)(h1:-(2^62)<=lo)(h2:lo<2^62)(h3:-(2^62)<=hi)(h4:hi<2^62)
  (q:R (Itr lo (hi-lo).toNat) H):wpAny (model X.prog X.w) X.A (pyIter (.ref s.heap.objs.size)) (PIE X pins σ tg R) E {s with heap:=s.heap.push {cls:=.type "range",data:=.fields #[.int lo t,.int hi u,.int 1 v]},toks:=tk}:=by
 refine wpAny_pyIter_range (IsRange.new ..) (small_one h1 h2 h3 h4) ?_
 have I1:Inv X pins σ H {s with heap:=s.heap.push {cls:=.type "range",data:=.fields #[.int lo t,.int hi u,.int 1 v]},toks:=tk}:=I.kept λb o e=>Ac _ e
 refine⟨(s.heap.push {cls:=.type "range",data:=.fields #[.int lo t,.int hi u,.int 1 v]}).objs.size,[(s.heap.push {cls:=.type "range",data:=.fields #[.int lo t,.int hi u,.int 1 v]}).objs.size],_,_,H,rfl,
  I1.kept (t':=tk) λb o e=>Ac _ e,jon _ lo (hi-lo).toNat,?_,λb hb=>?_,q⟩
 ·have e1:lo+((0:Nat):Int)*1=lo:=by simp
  have e2:(((hi-lo).toNat:Nat):Int)-((0:Nat):Int)=Builtin.Range.rangeSize lo hi 1:=by rw[rangeSize_one];split <;> omega
  show IsRangeIter _ _ (lo+((0:Nat):Int)*1) ((((hi-lo).toNat:Nat):Int)-((0:Nat):Int)) 1
  rw[e1,e2]
  exact At _ rfl
 ·have e:b=(s.heap.push {cls:=.type "range",data:=.fields #[.int lo t,.int hi u,.int 1 v]}).objs.size:=by simpa using hb
  subst e
  exact I1.fpOk (Ag _) (I1.hok.fresh (Ag _))
def jj9(ta:TA):TI:=λσ H R=>ta σ H λvs H1=>∃j:Int,vs=[.int j]/\-(2^62)<=j/\j<2^62/\R (Itr 0 j.toNat) H1
def jka(ta:TA):TI:=λσ H R=>ta σ H λvs H1=>∃i j:Int,vs=[.int i,.int j]/\(-(2^62)<=i/\i<2^62/\-(2^62)<=j/\j<2^62)/\R (Itr i (j-i).toNat) H1
theorem pi_range1{a:Expr}{ta:TA}{p pos:Pos}(hg:Gl X "range")(hm:X.mg "range"=none)(ha:PA X [a] ta)(hs:starEach [a] X.env=[(false,eval a X.env)]:=by rfl):PI X tg (.Call (.Name "range" p) [a] [] pos) (jj9 ta):=by
 intro pins s σ H R I h
 refine Call_ (jef I hg hm boot_range (Iw (thn (ha pos pins s σ H _ I h) λus s1 ⟨vs,H1,I1,r1,q1⟩=>?_) hs rfl))
 obtain⟨j,e,q1,q2,q⟩:=q1
 subst e
 cases r1 with
 |cons r rr =>
  cases rr
  obtain⟨t,rfl⟩:=r
  exact call_range_1 (jl0 I1 (by omega) (by omega) q1 q2 (by simpa using q))
theorem pi_range2{a b:Expr}{ta:TA}{p pos:Pos}(hg:Gl X "range")(hm:X.mg "range"=none)(ha:PA X [a,b] ta)(hs:starEach [a,b] X.env=[(false,eval a X.env),(false,eval b X.env)]:=by rfl)(hs2:starEach [b] X.env=[(false,eval b X.env)]:=by rfl) :
  PI X tg (.Call (.Name "range" p) [a,b] [] pos) (jka ta):=by
 intro pins s σ H R I h
 refine Call_ (jef I hg hm boot_range (Iw (thn (ha pos pins s σ H _ I h) λus s1 ⟨vs,H1,I1,r1,q1⟩=>?_) (by rw[hs,hs2]) (by rw[hs2];rfl)))
 obtain⟨i,j,e,⟨q1,q2,q3,q4⟩,q⟩:=q1
 subst e
 cases r1 with
 |cons r rr =>
  cases rr with
  |cons r' rr =>
   cases rr
   obtain⟨t,rfl⟩:=r
   obtain⟨t',rfl⟩:=r'
   exact call_range_2 (jl0 I1 q1 q2 q3 q4 q)
def tFor(wi:TI)(g:TG)(tb:TS):TS:=λD σ H=>wi σ H λJ H1=>∃W:Nat->Nat->St->Hp->Prop,(∃m,W 0 m σ H1)/\∀i m σ H,W i m σ H ->
 (J.stop i H/\D.nx σ H)\/(J.go i H/\∃N:St->Hp->Prop,(∀σ' H',N σ' H'->∃m',m'<m/\W (i+1) m' σ' H')/\∀x H',J.yld i H x H'->g x σ H' λσ2 H2=>tb {D with nx:=N,ct:=N,bk:=D.nx} σ2 H2)
def jf6(fp:List Addr)(h:Heap):List (Addr×Obj):=fp.filterMap λb=>(h.get? b).map λo=>(b,o)
theorem jd4{fp:List Addr}{h:Heap}{b:Addr}{o:Obj}(hb:b∈fp)(e:h.get? b=some o):(b,o)∈jf6 fp h:=Wh.mpr ⟨b,hb,by rw[e];rfl⟩
theorem jpq{fp:List Addr}{h:Heap}{p:Addr×Obj}(hp:p∈jf6 fp h):p.1∈fp/\h.get? p.1=some p.2:=by
 obtain⟨b,hb,e⟩:=Wh.mp hp
 cases q:h.get? b with
 |none=>rw[q]at e;cases e
 |some o =>
  rw[q]at e
  have e':(b,o)=p:=Az e
  subst e'
  exact⟨hb,q⟩
theorem Inv.pinned{pins:List (Addr×Obj)}{σ:St}{H:Hp}{s:Shared}{fp:List Addr}(I:Inv X pins σ H s)(hf:∀b∈fp,FpOk X pins H b)(ho:∀b∈fp,∃o,s.heap.get? b=some o/\∀v,o.data≠.cell v):Inv X (pins++jf6 fp s.heap) σ H s :=
 I.pins_of λp hp=>(Ie.mp hp).elim (λz=>I.pin p (A8 _ z)) λz=>by
  obtain⟨hb,e⟩:=jpq z
  obtain⟨f0,f1,f2,_⟩:=hf p.1 hb
  obtain⟨o,e',d⟩:=ho p.1 hb
  rw[e]at e';cases e'
  exact⟨e,f0,f1,f2,d⟩
theorem Inv.unpinned{pins pl:List (Addr×Obj)}{σ:St}{H:Hp}{s:Shared}(I:Inv X (pins++pl) σ H s):Inv X pins σ H s:=I.pins_of λp hp=>I.pin p (A8 _ (Iq _ hp))
theorem ps_for{iter:Expr}{body:List Stmt}{wi:TI}{g:TG}{tb:TS}{pos:Pos}(hp:PassesOwn (model X.prog X.w) X.A X.env X.xe)(hc:X.calm=true)(hi:PI X tg iter wi)(hg:PG X tg g)(hb:PSs X body tb)
  (hs:∀x,foldedSetIterable iter X.env x=pure x:=by intro _;rfl):PS X (.For tg iter body [] pos) (tFor wi g tb):=by
 intro pins s σ H D I h
 refine wpAny_For (thn (hi pins s σ H _ I h) λv s1 h1=>thn h1 λitv s2 h2=>?_) hs
 obtain⟨it,fp,tn,J,H2,e,I2,T,st2,f2,W,⟨m0,w0⟩,turn⟩:=h2
 subst e
 have stat:∀{H':Hp},(∀b∈fp,H' b=none)->∀b∈fp,FpOk X pins H' b:=λhn b hb=>⟨hn b hb,(f2 b hb).2⟩
 refine codeAny_forLoop_any (λn s'=>∃i σ' H',Inv X pins σ' H' s'/\tn i s'.heap/\(∀b∈fp,H' b=none)/\W i n σ' H') ?_ m0 ⟨0,σ,H2,I2,st2,λb hb=>(f2 b hb).1,w0⟩
 rintro n s3 ⟨i,σ3,H3,I3,st3,fr3,w3⟩
 rcases turn i n σ3 H3 w3 with⟨stop,qn⟩|⟨go,N,hN,step⟩
 ·refine Ub hp (thn (T.done X rfl rfl rfl hc i pins s3 σ3 H3 X.xe I3 (stat fr3) st3 stop) λr s4 ⟨hr,I4⟩=>?_)
  subst hr
  exact Uu ⟨σ3,H3,I4,qn⟩
 ·refine Ub hp (thn (T.item X rfl rfl rfl hc i pins s3 σ3 H3 X.xe I3 (stat fr3) st3 go) λr s4 ⟨u,hr,h4⟩=>?_)
  subst hr
  refine Ub hp (thn h4 λ_ s5 ⟨x,H5,I5,r5,y5,st5,fr5⟩=>?_)
  have I5':=I5.pinned (stat fr5) (T.obj _ _ st5)
  refine Ub hp (thn (hg _ s5 σ3 H5 x u _ I5' r5 (step x H5 y5)) λ_ s6 ⟨σ6,H6,I6,q6⟩=>?_)
  refine Ub hp (thn (hb _ s6 σ6 H6 _ I6 q6) λf s7 q7=>?_)
  have again:∀{σ7:St}{H7:Hp},Inv X (pins++jf6 fp s5.heap) σ7 H7 s7->N σ7 H7->∃m,m<n/\∃i σ' H',Inv X pins σ' H' s7/\tn i s7.heap/\(∀b∈fp,H' b=none)/\W i m σ' H':=fun{σ7 H7} I7 n7=>by
   obtain⟨m',hm,w7⟩:=hN σ7 H7 n7
   refine⟨m',hm,i+1,σ7,H7,I7.unpinned,T.keep _ _ _ st5 λb hb o e=>(I7.pin (b,o) (A8 _ (A8 _ (jd4 hb e)))).1,λb hb=>?_,w7⟩
   obtain⟨o,e,d⟩:=T.obj _ _ st5 b hb
   exact(I7.pin (b,o) (A8 _ (A8 _ (jd4 hb e)))).2.1
  cases f with
  |next=>obtain⟨σ7,H7,I7,n7⟩:=q7;exact again I7 n7
  |cont=>obtain⟨σ7,H7,I7,n7⟩:=q7;exact again I7 n7
  |brk=>obtain⟨σ7,H7,I7,q7⟩:=q7;exact⟨σ7,H7,I7.unpinned,q7⟩
  |ret v=>obtain⟨x7,σ7,H7,I7,r7,q7⟩:=q7;exact⟨x7,σ7,H7,I7.unpinned,r7,q7⟩
end
theorem jql{K:PySem.W.Frag}{a:Addr}{xs:List V}{g:TG}{tb:TS}{D:Ends}{σ:St}{H:Hp}(Pv:Nat->St->Hp->Prop)(h0:Pv 0 σ H)(hl:∀i σ H,i<=xs.length->Pv i σ H->SqL K H a xs)
  (hs:∀i x σ H,xs[i]?=some x->Pv i σ H->g x σ H λσ2 H2=>tb {D with nx:=Pv (i+1),ct:=Pv (i+1),bk:=D.nx} σ2 H2) (hd:∀σ H,Pv xs.length σ H->D.nx σ H) :
  ∃W:Nat->Nat->St->Hp->Prop,(∃m,W 0 m σ H)/\∀i m σ H,W i m σ H ->
   ((Itl K a).stop i H/\D.nx σ H)\/((Itl K a).go i H/\∃N:St->Hp->Prop,(∀σ' H',N σ' H'->∃m',m'<m/\W (i+1) m' σ' H')/\∀x H',(Itl K a).yld i H x H'->g x σ H' λσ2 H2=>tb {D with nx:=N,ct:=N,bk:=D.nx} σ2 H2):=by
 refine⟨λi m σ H=>m=xs.length-i/\i<=xs.length/\Pv i σ H,⟨xs.length,by simp,Ix _,h0⟩,?_⟩
 rintro i m σ H ⟨rfl,hi,p⟩
 have q:=hl i σ H hi p
 by_cases hlt:i<xs.length
 ·refine .inr ⟨⟨xs,xs[i],q,by simp[hlt]⟩,Pv (i+1),λσ' H' p'=>⟨xs.length-(i+1),by omega,rfl,hlt,p'⟩,λx H' y=>?_⟩
  obtain⟨e,y⟩:=y
  subst e
  exact hs i x σ _ (y xs q) p
 ·have e:i=xs.length:=by omega
  subst e
  exact .inl ⟨⟨xs,q,Ag _⟩,hd σ H p⟩
theorem jsc{K:PySem.W.Frag}{a:Addr}{xs:List V}{g:TG}{tb:TS}{D:Ends}{σ:St}{H:Hp}(Pv:Nat->St->Hp->Prop)(h0:Pv 0 σ H)(hl:∀i σ H,i<=xs.length->Pv i σ H->SqT K H a xs)
  (hs:∀i x σ H,xs[i]?=some x->Pv i σ H->g x σ H λσ2 H2=>tb {D with nx:=Pv (i+1),ct:=Pv (i+1),bk:=D.nx} σ2 H2) (hd:∀σ H,Pv xs.length σ H->D.nx σ H) :
  ∃W:Nat->Nat->St->Hp->Prop,(∃m,W 0 m σ H)/\∀i m σ H,W i m σ H ->
   ((Itt K a).stop i H/\D.nx σ H)\/((Itt K a).go i H/\∃N:St->Hp->Prop,(∀σ' H',N σ' H'->∃m',m'<m/\W (i+1) m' σ' H')/\∀x H',(Itt K a).yld i H x H'->g x σ H' λσ2 H2=>tb {D with nx:=N,ct:=N,bk:=D.nx} σ2 H2):=by
 refine⟨λi m σ H=>m=xs.length-i/\i<=xs.length/\Pv i σ H,⟨xs.length,by simp,Ix _,h0⟩,?_⟩
 rintro i m σ H ⟨rfl,hi,p⟩
 have q:=hl i σ H hi p
 by_cases hlt:i<xs.length
 ·refine .inr ⟨⟨xs,xs[i],q,by simp[hlt]⟩,Pv (i+1),λσ' H' p'=>⟨xs.length-(i+1),by omega,rfl,hlt,p'⟩,λx H' y=>?_⟩
  obtain⟨e,y⟩:=y
  subst e
  exact hs i x σ _ (y xs q) p
 ·have e:i=xs.length:=by omega
  subst e
  exact .inl ⟨⟨xs,q,Ag _⟩,hd σ H p⟩
theorem jpc{lo:Int}{n:Nat}{g:TG}{tb:TS}{D:Ends}{σ:St}{H:Hp}(Pv:Nat->St->Hp->Prop)(h0:Pv 0 σ H)
  (hs:∀i σ H,i<n->Pv i σ H->g (.int (lo+i)) σ H λσ2 H2=>tb {D with nx:=Pv (i+1),ct:=Pv (i+1),bk:=D.nx} σ2 H2) (hd:∀σ H,Pv n σ H->D.nx σ H) :
  ∃W:Nat->Nat->St->Hp->Prop,(∃m,W 0 m σ H)/\∀i m σ H,W i m σ H ->
   ((Itr lo n).stop i H/\D.nx σ H)\/((Itr lo n).go i H/\∃N:St->Hp->Prop,(∀σ' H',N σ' H'->∃m',m'<m/\W (i+1) m' σ' H')/\∀x H',(Itr lo n).yld i H x H'->g x σ H' λσ2 H2=>tb {D with nx:=N,ct:=N,bk:=D.nx} σ2 H2):=by
 refine⟨λi m σ H=>m=n-i/\i<=n/\Pv i σ H,⟨n,by simp,Ix _,h0⟩,?_⟩
 rintro i m σ H ⟨rfl,hi,p⟩
 by_cases hlt:i<n
 ·refine .inr ⟨hlt,Pv (i+1),λσ' H' p'=>⟨n-(i+1),by omega,rfl,hlt,p'⟩,λx H' y=>?_⟩
  obtain⟨e,y⟩:=y
  subst e y
  exact hs i σ _ hlt p
 ·have e:i=n:=by omega
  subst e
  exact .inl ⟨Ag _,hd σ H p⟩
theorem jra{c:TT}{tb:TS}{D:Ends}{σ:St}{H:Hp}(Pv:St->Hp->Prop)(μ:St->Hp->Nat)(h0:Pv σ H)
  (hs:∀σ H,Pv σ H->c σ H λb H1=>if b=true then tb {D with nx:=λσ' H'=>Pv σ' H'/\μ σ' H'<μ σ H,ct:=λσ' H'=>Pv σ' H'/\μ σ' H'<μ σ H,bk:=D.nx} σ H1 else D.nx σ H1)
  (mono:∀σ H Q Q',(∀b H1,Q b H1->Q' b H1)->c σ H Q->c σ H Q'):jma c tb D σ H:=by
 refine⟨λm σ H=>m=μ σ H/\Pv σ H,⟨_,rfl,h0⟩,?_⟩
 rintro m σ H ⟨rfl,p⟩
 refine mono σ H _ _ (λb H1 q=>?_) (hs σ H p)
 cases b with
 |true=>exact⟨_,λσ' H' ⟨p',l⟩=>⟨_,l,rfl,p'⟩,q⟩
 |false=>exact q
abbrev R2:=V->V->Hp->VK->Prop
def OpR(X:Cx)(f:Value->Value->Sem Value)(r:R2):Prop :=
 ∀(pins:List (Addr×Obj))(s:Shared)(σ:St)(H:Hp)(x y:V)(v u:Value)(Q:VK),Inv X pins σ H s->RelV x v->RelV y u->r x y H Q ->
  wpAny (model X.prog X.w) X.A (f v u) (EP X pins σ Q) X.xe s
def UnR(X:Cx)(f:Value->Sem Value)(r:V->Hp->VK->Prop):Prop :=
 ∀(pins:List (Addr×Obj))(s:Shared)(σ:St)(H:Hp)(x:V)(v:Value)(Q:VK),Inv X pins σ H s->RelV x v->r x H Q ->
  wpAny (model X.prog X.w) X.A (f v) (EP X pins σ Q) X.xe s
def jdf(X:Cx)(f:Value)(r:List V->Hp->VK->Prop):Prop :=
 ∀(pins:List (Addr×Obj))(s:Shared)(σ:St)(H:Hp)(xs:List V)(us:List Value)(Q:VK),Inv X pins σ H s->Vals xs us->r xs H Q ->
  wpAny (model X.prog X.w) X.A (call f us) (EP X pins σ Q) X.xe s
def TruR(X:Cx)(r:V->Hp->(Bool->Hp->Prop)->Prop):Prop :=
 ∀(pins:List (Addr×Obj))(s:Shared)(σ:St)(H:Hp)(x:V)(v:Value)(Q:Bool->Hp->Prop),Inv X pins σ H s->RelV x v->r x H Q ->
  wpAny (model X.prog X.w) X.A (truthy v) (TP X pins σ Q) X.xe s
def tOp(r:R2)(ta tb:TE):TE:=λσ H Q=>ta σ H λx H1=>tb σ H1 λy H2=>r x y H2 Q
def tUn(r:V->Hp->VK->Prop)(ta:TE):TE:=λσ H Q=>ta σ H λx H1=>r x H1 Q
def rI(C:Int->Int->Prop)(g:Int->Int->V):R2:=λx y H Q=>∃i j,x=.int i/\y=.int j/\C i j/\Q (g i j) H
def rI0(g:Int->Int->V):R2:=λx y H Q=>∃i j,x=.int i/\y=.int j/\Q (g i j) H
def rU(g:Int->V):V->Hp->VK->Prop:=λx H Q=>∃i,x=.int i/\Q (g i) H
section
variable{X:Cx}{a b c:Expr}{ta tb tc:TE}{pos:Pos}
theorem binT(ha:PE X a ta)(hb:PE X b tb){pins:List (Addr×Obj)}{s:Shared}{σ:St}{H:Hp}{R:V->V->Hp->Prop}(I:Inv X pins σ H s)
  (h:ta σ H λx H1=>tb σ H1 λy H2=>R x y H2) {Q:Value->Shared->Prop}{f:Value->Value->Sem Value}
  (hf:∀v u s2 x y H2,Inv X pins σ H2 s2->RelV x v->RelV y u->R x y H2->wpAny (model X.prog X.w) X.A (f v u) Q X.xe s2) :
  wpAny (model X.prog X.w) X.A (eval a X.env) (λv s₁=>wpAny (model X.prog X.w) X.A (eval b X.env) (λu s₂=>wpAny (model X.prog X.w) X.A (f v u) Q X.xe s₂) X.xe s₁) X.xe s:=by
 refine thn (ha pins s σ H _ I h) λv s1 ⟨x,H1,I1,r1,q1⟩=>?_
 refine thn (hb pins s1 σ H1 _ I1 q1) λu s2 ⟨y,H2,I2,r2,q2⟩=>?_
 exact hf v u s2 x y H2 I2 r1 r2 q2
theorem pe_op{op:Operator}{r:R2}(ho:OpR X (binaryOp op) r)(ha:PE X a ta)(hb:PE X b tb):PE X (.BinOp a op b pos) (tOp r ta tb):=by
 intro pins s σ H Q I h
 exact wpAny_BinOp (binT ha hb I h λv u s2 x y H2 I2 rx ry q=>ho pins s2 σ H2 x y v u Q I2 rx ry q)
theorem pe_un{op:UnaryOp}{r:V->Hp->VK->Prop}(ho:UnR X (unaryOp op) r)(ha:PE X a ta):PE X (.UnaryOp op a pos) (tUn r ta):=by
 intro pins s σ H Q I h
 exact UnaryOp_ (thn (ha pins s σ H _ I h) λv s1 ⟨x,H1,I1,r1,q1⟩=>ho pins s1 σ H1 x v Q I1 r1 q1)
theorem opI{f:Value->Value->Sem Value}{C:Int->Int->Prop}{g:Int->Int->Int}
  (rule:∀(i j:Int)(t u:Tok)(s:Shared)(Q:Value->Shared->Prop)(E:Value->Shared->Prop),C i j->Q (.int (g i j) s.toks) {s with toks:=s.toks+1}->wpAny (model X.prog X.w) X.A (f (.int i t) (.int j u)) Q E s) :
  OpR X f (rI C λi j=>.int (g i j)):=by
 intro pins s σ H x y v u Q I rx ry h
 obtain⟨i,j,rfl,rfl,hc,q⟩:=h
 obtain⟨t,rfl⟩:=rx
 obtain⟨t',rfl⟩:=ry
 exact rule i j t t' s _ _ hc ⟨.int (g i j),H,I.tok _,⟨_,rfl⟩,q⟩
theorem opI0{f:Value->Value->Sem Value}{g:Int->Int->Int}
  (rule:∀(i j:Int)(t u:Tok)(s:Shared)(Q:Value->Shared->Prop)(E:Value->Shared->Prop),Q (.int (g i j) s.toks) {s with toks:=s.toks+1}->wpAny (model X.prog X.w) X.A (f (.int i t) (.int j u)) Q E s) :
  OpR X f (rI0 λi j=>.int (g i j)):=by
 intro pins s σ H x y v u Q I rx ry h
 obtain⟨i,j,rfl,rfl,q⟩:=h
 obtain⟨t,rfl⟩:=rx
 obtain⟨t',rfl⟩:=ry
 exact rule i j t t' s _ _ ⟨.int (g i j),H,I.tok _,⟨_,rfl⟩,q⟩
theorem opB0{f:Value->Value->Sem Value}{g:Int->Int->Bool}
  (rule:∀(i j:Int)(t u:Tok)(s:Shared)(Q:Value->Shared->Prop)(E:Value->Shared->Prop),Q (.bool (g i j)) s->wpAny (model X.prog X.w) X.A (f (.int i t) (.int j u)) Q E s) :
  OpR X f (rI0 λi j=>.bl (g i j)):=by
 intro pins s σ H x y v u Q I rx ry h
 obtain⟨i,j,rfl,rfl,q⟩:=h
 obtain⟨t,rfl⟩:=rx
 obtain⟨t',rfl⟩:=ry
 exact rule i j t t' s _ _ ⟨.bl (g i j),H,I,rfl,q⟩
def CDiv(i j:Int):Prop:=0<j/\j<1073741824
def CPow(i j:Int):Prop:=0<=j/\j<=1000000/\i.natAbs<2^64
def CMul(i j:Int):Prop:=(-(2^64)<i/\i<2^64)\/(-(2^64)<j/\j<2^64)
theorem CMul.ok{i j:Int}(h:CMul i j):IntMulOk i j:=by
 rcases h with⟨h1,h2⟩|⟨h1,h2⟩
 ·exact .of_left (intBits_le_64 h1 h2)
 ·exact .of_right (intBits_le_64 h1 h2)
theorem op_add:OpR X (binaryOp .Add) (rI0 λi j=>.int (i+j)):=opI0 λ_ _ _ _ _ _ _ q=>add_int q
theorem jaf:OpR X (binaryOp .Sub) (rI0 λi j=>.int (i-j)):=opI0 λ_ _ _ _ _ _ _ q=>sub_int q
theorem op_mul:OpR X (binaryOp .Mult) (rI CMul λi j=>.int (i*j)):=opI λ_ _ _ _ _ _ _ hc q=>mul_int q hc.ok
theorem jcx:OpR X (binaryOp .FloorDiv) (rI CDiv λi j=>.int (i / j)):=opI λi j _ _ _ _ _ hc q=>by
 have h1:(0:Int)<j:=hc.1
 have h2:j<1073741824:=hc.2
 exact floordiv_int (by omega) (by rw[Int.fdiv_eq_ediv_of_nonneg i (by omega)];exact q) (.inl (PyProof.noPylong_small (by omega)))
theorem jam:OpR X (binaryOp .Mod) (rI (λ_ j=>0<j) λi j=>.int (i%j)):=opI λi j _ _ _ _ _ hc q=>by
 have h1:(0:Int)<j:=hc
 exact mod_int' (by omega) (by rw[Int.fmod_eq_emod_of_nonneg i (by omega)];exact q)
theorem op_pow:OpR X (binaryOp .Pow) (rI CPow λi j=>.int (i^j.toNat)):=opI λ_ _ _ _ _ _ _ hc q=>pow_int_small hc.1 hc.2.1 hc.2.2 q
theorem unI{f:Value->Sem Value}{g:Int->Int}
  (rule:∀(i:Int)(t:Tok)(s:Shared)(Q:Value->Shared->Prop)(E:Value->Shared->Prop),Q (.int (g i) s.toks) {s with toks:=s.toks+1}->wpAny (model X.prog X.w) X.A (f (.int i t)) Q E s) :
  UnR X f (rU λi=>.int (g i)):=by
 intro pins s σ H x v Q I rx h
 obtain⟨i,rfl,q⟩:=h
 obtain⟨t,rfl⟩:=rx
 exact rule i t s _ _ ⟨.int (g i),H,I.tok _,⟨_,rfl⟩,q⟩
theorem jib:UnR X (unaryOp .USub) (rU λi=>.int (-i)):=unI λ_ _ _ _ _ q=>neg_int q
end
def scal:V->V->Bool
 |.non,.non=>true|.non,.int _=>true|.int _,.non=>true|.non,.bl _=>true|.bl _,.non=>true|.non,.str _=>true|.str _,.non=>true
 |.int _,.int _=>true|.bl _,.bl _=>true|.str _,.str _=>true|.byt _,.byt _=>true
 |.int _,.str _=>true|.str _,.int _=>true|.bl _,.str _=>true|.str _,.bl _=>true
 |_,_=>false
def rEq:R2:=λx y H Q=>scal x y=true/\Q (.bl (decide (x=y))) H
def rNe:R2:=λx y H Q=>scal x y=true/\Q (.bl (!decide (x=y))) H
theorem jm0{i j:Int}:decide (V.int i=V.int j)=(i == j):=by
 rw[Oj]
 simp
theorem jo1{i j:Bool}:decide (V.bl i=V.bl j)=(i == j):=by
 rw[Oj]
 simp
theorem jm1{i j:Str}:decide (V.str i=V.str j)=(i == j):=by
 rw[Oj]
 simp
theorem jmz{i j:Array UInt8}:decide (V.byt i=V.byt j)=(i.toList == j.toList):=by
 rw[Oj]
 cases i
 cases j
 simp
section
variable{X:Cx}{a b c:Expr}{ta tb tc:TE}{pos:Pos}
theorem jdb{pins:List (Addr×Obj)}{σ:St}{H:Hp}{s:Shared}{Q:VK}{k k':Bool}(I:Inv X pins σ H s)(q:Q (.bl k) H)(e:k=k'):EP X pins σ Q (.bool k') s:=by
 subst e
 exact⟨.bl k,H,I,rfl,q⟩
theorem jcq:OpR X (compareOp .Eq) rEq:=by
 intro pins s σ H x y v u Q I rx ry h
 obtain⟨hs,q⟩:=h
 cases x with
 |non =>
  cases rx
  cases y with
  |non=>cases ry;exact PySem.EqNone.eq_none_none (jdb I q (by simp))
  |bl j=>cases ry;exact PySem.EqNone.eq_none_bool (jdb I q (by simp))
  |int j=>obtain⟨t',rfl⟩:=ry;exact PySem.EqNone.eq_none_int (jdb I q (by simp))
  |str j=>obtain⟨t',rfl⟩:=ry;exact PySem.EqNone.eq_none_str (jdb I q (by simp))
  |_=>exact absurd (show false=true from hs) A2
 |bl i =>
  cases rx
  cases y with
  |non=>cases ry;exact PySem.EqNone.eq_bool_none (jdb I q (by simp))
  |bl j=>cases ry;exact eq_bool (jdb I q jo1)
  |str j=>obtain⟨t',rfl⟩:=ry;exact PySem.EqMixed.eq_bool_str (jdb I q (by simp))
  |_=>exact absurd (show false=true from hs) A2
 |int i =>
  obtain⟨t,rfl⟩:=rx
  cases y with
  |non=>cases ry;exact PySem.EqNone.eq_int_none (jdb I q (by simp))
  |int j=>obtain⟨t',rfl⟩:=ry;exact eq_int (jdb I q jm0)
  |str j=>obtain⟨t',rfl⟩:=ry;exact PySem.EqMixed.eq_int_str (jdb I q (by simp))
  |_=>exact absurd (show false=true from hs) A2
 |str i =>
  obtain⟨t,rfl⟩:=rx
  cases y with
  |non=>cases ry;exact PySem.EqNone.eq_str_none (jdb I q (by simp))
  |bl j=>cases ry;exact PySem.EqMixed.eq_str_bool (jdb I q (by simp))
  |int j=>obtain⟨t',rfl⟩:=ry;exact PySem.EqMixed.eq_str_int (jdb I q (by simp))
  |str j=>obtain⟨t',rfl⟩:=ry;exact eq_str (jdb I q jm1)
  |_=>exact absurd (show false=true from hs) A2
 |byt i =>
  obtain⟨t,rfl⟩:=rx
  cases y with
  |byt j=>obtain⟨t',rfl⟩:=ry;exact PySem.W.eq_bytes (jdb I q jmz)
  |_=>exact absurd (show false=true from hs) A2
 |_=>cases y <;> exact absurd (show false=true from hs) A2
theorem jcr:OpR X (compareOp .NotEq) rNe:=by
 intro pins s σ H x y v u Q I rx ry h
 obtain⟨hs,q⟩:=h
 cases x with
 |non =>
  cases rx
  cases y with
  |non=>cases ry;exact PySem.EqNone.ne_none_none (jdb I q (by simp))
  |bl j=>cases ry;exact PySem.EqNone.ne_none_bool (jdb I q (by simp))
  |int j=>obtain⟨t',rfl⟩:=ry;exact PySem.EqNone.ne_none_int (jdb I q (by simp))
  |str j=>obtain⟨t',rfl⟩:=ry;exact PySem.EqNone.ne_none_str (jdb I q (by simp))
  |_=>exact absurd (show false=true from hs) A2
 |bl i =>
  cases rx
  cases y with
  |non=>cases ry;exact PySem.EqNone.ne_bool_none (jdb I q (by simp))
  |bl j=>cases ry;exact ne_bool (jdb I q (Om not jo1))
  |str j=>obtain⟨t',rfl⟩:=ry;exact PySem.EqMixed.ne_bool_str (jdb I q (by simp))
  |_=>exact absurd (show false=true from hs) A2
 |int i =>
  obtain⟨t,rfl⟩:=rx
  cases y with
  |non=>cases ry;exact PySem.EqNone.ne_int_none (jdb I q (by simp))
  |int j=>obtain⟨t',rfl⟩:=ry;exact ne_int (jdb I q (Om not jm0))
  |str j=>obtain⟨t',rfl⟩:=ry;exact PySem.EqMixed.ne_int_str (jdb I q (by simp))
  |_=>exact absurd (show false=true from hs) A2
 |str i =>
  obtain⟨t,rfl⟩:=rx
  cases y with
  |non=>cases ry;exact PySem.EqNone.ne_str_none (jdb I q (by simp))
  |bl j=>cases ry;exact PySem.EqMixed.ne_str_bool (jdb I q (by simp))
  |int j=>obtain⟨t',rfl⟩:=ry;exact PySem.EqMixed.ne_str_int (jdb I q (by simp))
  |str j=>obtain⟨t',rfl⟩:=ry;exact ne_str (jdb I q (Om not jm1))
  |_=>exact absurd (show false=true from hs) A2
 |byt i =>
  obtain⟨t,rfl⟩:=rx
  cases y with
  |byt j=>obtain⟨t',rfl⟩:=ry;exact PySem.W.ne_bytes (jdb I q (Om not jmz))
  |_=>exact absurd (show false=true from hs) A2
 |_=>cases y <;> exact absurd (show false=true from hs) A2
theorem op_lt:OpR X (compareOp .Lt) (rI0 λi j=>.bl (decide (i<j))):=opB0 λ_ _ _ _ _ _ _ q=>lt_int q
theorem op_le:OpR X (compareOp .LtE) (rI0 λi j=>.bl (decide (i<=j))):=opB0 λ_ _ _ _ _ _ _ q=>le_int q
theorem jb5:OpR X (compareOp .Gt) (rI0 λi j=>.bl (decide (j<i))):=opB0 λ_ _ _ _ _ _ _ q=>gt_int q
theorem op_ge:OpR X (compareOp .GtE) (rI0 λi j=>.bl (decide (j<=i))):=opB0 λ_ _ _ _ _ _ _ q=>ge_int q
theorem op_lt_str:OpR X (compareOp .Lt) (λx y H Q=>∃i j,x=.str i/\y=.str j/\Q (.bl (decide (i.cps.toList<j.cps.toList))) H):=by
 intro pins s σ H x y v u Q I rx ry h
 obtain⟨i,j,rfl,rfl,q⟩:=h
 obtain⟨t,rfl⟩:=rx
 obtain⟨t',rfl⟩:=ry
 exact lt_str (jdb I q rfl)
theorem op_in_str:OpR X (compareOp .In) (λx y H Q=>∃i j,x=.str i/\y=.str j/\Q (.bl (!(Builtin.Str.occurrences j i 0 j.length 1).isEmpty)) H):=by
 intro pins s σ H x y v u Q I rx ry h
 obtain⟨i,j,rfl,rfl,q⟩:=h
 obtain⟨t,rfl⟩:=rx
 obtain⟨t',rfl⟩:=ry
 exact in_str (jdb I q rfl)
theorem jct:OpR X (compareOp .Is) (λx y H Q=>y=.non/\Q (.bl (decide (x=.non))) H):=by
 intro pins s σ H x y v u Q I rx ry h
 obtain⟨rfl,q⟩:=h
 cases ry
 refine is_none_gen (jdb I q ?_)
 cases x <;> first
  |(cases rx;rfl)
  |(obtain⟨t,rfl⟩:=rx;rfl)
theorem op_notN:OpR X (compareOp .IsNot) (λx y H Q=>y=.non/\Q (.bl (!decide (x=.non))) H):=by
 intro pins s σ H x y v u Q I rx ry h
 obtain⟨rfl,q⟩:=h
 cases ry
 refine isnot_none_gen (jdb I q ?_)
 cases x <;> first
  |(cases rx;rfl)
  |(obtain⟨t,rfl⟩:=rx;rfl)
theorem jt(b:Expr){op:CmpOp}(h:op≠.In:=by decide)(h2:op≠.NotIn:=by decide):behindInMarks op b=false:=by
 have e1:(op == CmpOp.In)=false:=by cases op <;> first|rfl|exact absurd rfl h
 have e2:(op == CmpOp.NotIn)=false:=by cases op <;> first|rfl|exact absurd rfl h2
 cases b <;> simp[behindInMarks,e1,e2]
theorem pe_cmpR{op:CmpOp}{r:R2}(ho:OpR X (compareOp op) r)(ha:PE X a ta)(hb:PE X b tb)(hm:behindInMarks op b=false):PE X (.Compare a [op] [b] pos) (tOp r ta tb):=by
 intro pins s σ H Q I h
 exact wpAny_Compare1 (binT ha hb I h λv u s2 x y H2 I2 rx ry q=>ho pins s2 σ H2 x y v u Q I2 rx ry q) hm
def jfu(t:TE):TT:=λσ H Q=>t σ H λx H'=>∃k,x=.bl k/\Q k H'
theorem pt_cmpR{op:CmpOp}{r:R2}(ho:OpR X (compareOp op) r)(ha:PE X a ta)(hb:PE X b tb)(hm:behindInMarks op b=false):PT X (.Compare a [op] [b] pos) (jfu (tOp r ta tb)):=by
 intro pins s σ H Q I h
 refine wpAny_isTrue_Compare1 (thn (ha pins s σ H _ I h) λv s1 ⟨x,H1,I1,r1,q1⟩=>thn (hb pins s1 σ H1 _ I1 q1) λu s2 ⟨y,H2,I2,r2,q2⟩ =>
  thn (ho pins s2 σ H2 x y v u _ I2 r1 r2 q2) λc s3 ⟨z,H3,I3,r3,k,e,q3⟩=>?_) hm
 subst e
 cases r3
 exact Ob ⟨H3,I3,q3⟩
def jfe(r r':R2)(ta tb tc:TE):TE:=λσ H Q=>ta σ H λx H1=>tb σ H1 λy H2=>r x y H2 λz H3=>∃k,z=.bl k /\
 (if k=true then tc σ H3 λw' H4=>r' y w' H4 Q else Q (.bl false) H3)
theorem pe_chain{op op':CmpOp}{r r':R2}(ho:OpR X (compareOp op) r)(ho':OpR X (compareOp op') r')(ha:PE X a ta)(hb:PE X b tb)(hc:PE X c tc)
  (hm:lastMarks [op,op'] [b,c]=false:=by with_unfolding_all rfl):PE X (.Compare a [op,op'] [b,c] pos) (jfe r r' ta tb tc):=by
 intro pins s σ H Q I h
 refine Compare_chain (thn (ha pins s σ H _ I h) λv s1 ⟨x,H1,I1,r1,q1⟩=>chain_link (thn (hb pins s1 σ H1 _ I1 q1) λu s2 ⟨y,H2,I2,r2,q2⟩ =>
  thn (ho pins s2 σ H2 x y v u _ I2 r1 r2 q2) λd s3 ⟨z,H3,I3,r3,k,e,q3⟩=>?_)) hm
 subst e
 cases r3
 refine Ob ?_
 cases k with
 |false=>exact ite_ff ⟨.bl false,H3,I3,rfl,q3⟩
 |true=>exact ite_tt (chain_last (thn (hc pins s3 σ H3 _ I3 q3) λw' s4 ⟨z',H4,I4,r4,q4⟩=>ho' pins s4 σ H4 y z' u w' Q I4 r2 r4 q4))
theorem pt_chain{op op':CmpOp}{r r':R2}(ho:OpR X (compareOp op) r)(ho':OpR X (compareOp op') r')(ha:PE X a ta)(hb:PE X b tb)(hc:PE X c tc)
  (hm:lastMarks [op,op'] [b,c]=false:=by with_unfolding_all rfl):PT X (.Compare a [op,op'] [b,c] pos) (jfu (jfe r r' ta tb tc)):=by
 intro pins s σ H Q I h
 refine isTrue_chain (thn (ha pins s σ H _ I h) λv s1 ⟨x,H1,I1,r1,q1⟩=>test_link (thn (hb pins s1 σ H1 _ I1 q1) λu s2 ⟨y,H2,I2,r2,q2⟩ =>
  thn (ho pins s2 σ H2 x y v u _ I2 r1 r2 q2) λd s3 ⟨z,H3,I3,r3,k,e,q3⟩=>?_)) hm
 subst e
 cases r3
 refine Ob ?_
 cases k with
 |false =>
  obtain⟨k',e',q'⟩:=q3
  cases e'
  exact ite_ff ⟨H3,I3,q'⟩
 |true =>
  refine ite_tt (test_last (thn (hc pins s3 σ H3 _ I3 q3) λw' s4 ⟨z',H4,I4,r4,q4⟩=>thn (ho' pins s4 σ H4 y z' u w' _ I4 r2 r4 q4) λd' s5 ⟨z2,H5,I5,r5,k2,e2,q5⟩=>?_))
  subst e2
  cases r5
  exact Ob ⟨H5,I5,q5⟩
def TruV(K:PySem.W.Frag)(x:V)(H:Hp)(k:Bool):Prop :=
 match x with
 |.non=>k=false
 |.bl b=>k=b
 |.int i=>k=(i != 0)
 |.str y=>y.length<=sizeLine/\k=((y.length:Int) != 0)
 |.byt y=>y.size<=sizeLine/\k=((y.size:Int) != 0)
 |.ref p=>(∃xs,SqL K H p xs/\k=!xs.isEmpty)\/(∃xs,SqT K H p xs/\k=!xs.isEmpty)\/∃kvs,H p=some (.dK kvs)/\k=!kvs.isEmpty
 |_=>False
theorem jn6{κ:Type}{kvs:List (κ×V)}{vs:List (κ×Value)}(r:KV kvs vs):(!vs.isEmpty)=!kvs.isEmpty:=by
 cases r <;> rfl
theorem jhp{xs:List V}{its:List Value}(r:Vals xs its):(!its.toArray.isEmpty)=!xs.isEmpty:=by
 cases r <;> simp
theorem jer:(sizeLine:Nat)<2^63:=by rw[Yf];decide
theorem jt3:TruR X (λx H Q=>∃k,TruV X.K x H k/\Q k H):=by
 intro pins s σ H x v Q I rx h
 obtain⟨k,e,q⟩:=h
 have hl:=jer
 have hs:sizeLine=16777216:=Yf
 cases x with
 |non =>
  cases rx
  have e':k=false:=e
  subst e'
  exact truthy_none ⟨H,I,q⟩
 |bl b =>
  cases rx
  have e':k=b:=e
  subst e'
  exact Ob ⟨H,I,q⟩
 |int i =>
  obtain⟨t,rfl⟩:=rx
  have e':k=(i != 0):=e
  subst e'
  exact PySem.P.truthy_int ⟨H,I,q⟩
 |str y =>
  obtain⟨t,rfl⟩:=rx
  obtain⟨hy,e'⟩:y.length<=sizeLine/\k=((y.length:Int) != 0):=e
  subst e'
  exact PySem.P.truthy_str (by omega) ⟨H,I.tok _,q⟩
 |byt y =>
  obtain⟨t,rfl⟩:=rx
  obtain⟨hy,e'⟩:y.size<=sizeLine/\k=((y.size:Int) != 0):=e
  subst e'
  exact PySem.W.truthy_bytes (by omega) ⟨H,I.tok _,q⟩
 |ref p =>
  cases rx
  have e':(∃xs,SqL X.K H p xs/\k=!xs.isEmpty)\/(∃xs,SqT X.K H p xs/\k=!xs.isEmpty)\/∃kvs,H p=some (.dK kvs)/\k=!kvs.isEmpty:=e
  rcases e' with⟨xs,hx,e'⟩|⟨xs,hx,e'⟩|⟨kvs,hx,e'⟩
  ·subst e'
   obtain⟨its,r,pl,hz⟩:=I.list hx
   have hlen:=r.length
   exact wpAny_truthy_list pl.isList (by simp only[Aj];omega) ⟨H,I.tok _,by rw[jhp r];exact q⟩
  ·subst e'
   obtain⟨its,r,pl,hz⟩:=I.tuple hx
   have hlen:=r.length
   exact truthy_tuple pl (by simp only[Aj];omega) ⟨H,I.tok _,by rw[jhp r];exact q⟩
  ·subst e'
   obtain⟨hz,hS,vs,r,m⟩:kvs.length<=sizeLine/\(p == sysModules)=false/\∃vs,KV kvs vs/\s.heap.DictOf (jdg X.prog X.w) p vs:=I.hok p _ hx
   have hlen:kvs.length=vs.length:=A5 r
   exact wpAny_truthy_dict hS m (by omega) ⟨H,I.tok _,by rw[jn6 r];exact q⟩
 |_=>exact(show False from e).elim
theorem op_add_str:OpR X (binaryOp .Add) (λx y H Q=>∃i j,x=.str i/\y=.str j/\i.length+j.length<=sizeLine/\Q (.str (i++j)) H):=by
 intro pins s σ H x y v u Q I rx ry h
 obtain⟨i,j,rfl,rfl,hz,q⟩:=h
 obtain⟨t,rfl⟩:=rx
 obtain⟨t',rfl⟩:=ry
 exact add_str (λt' tk=>⟨.str (i++j),H,I.tok _,⟨_,rfl⟩,q⟩) hz
theorem jd5{x:V}{us:List Value}(r:Vals [x] us):∃u,us=[u]/\RelV x u:=by
 cases r with
 |cons r1 r2=>cases r2;exact⟨_,rfl,r1⟩
theorem jgr{x y:V}{us:List Value}(r:Vals [x,y] us):∃u w',us=[u,w']/\RelV x u/\RelV y w':=by
 cases r with
 |cons r1 r2 =>
  cases r2 with
  |cons r3 r4=>cases r4;exact⟨_,_,rfl,r1,r3⟩
theorem call_max2(hc:X.calm=true):jdf X (.builtin "max") (λxs H Q=>∃i j,xs=[.int i,.int j]/\Q (.int (if j>i then j else i)) H):=by
 intro pins s σ H xs us Q I r h
 obtain⟨i,j,rfl,q⟩:=h
 obtain⟨u,w',rfl,⟨t,rfl⟩,⟨t',rfl⟩⟩:=jgr r
 refine max_two_ints (I.ok.hd hc) λh' tk k=>⟨_,H,I.kept k,?_,q⟩
 by_cases hj:j>i
 ·rw[Af hj,Af hj];exact⟨_,rfl⟩
 ·rw[Aa hj,Aa hj];exact⟨_,rfl⟩
theorem call_min2(hc:X.calm=true):jdf X (.builtin "min") (λxs H Q=>∃i j,xs=[.int i,.int j]/\Q (.int (if j<i then j else i)) H):=by
 intro pins s σ H xs us Q I r h
 obtain⟨i,j,rfl,q⟩:=h
 obtain⟨u,w',rfl,⟨t,rfl⟩,⟨t',rfl⟩⟩:=jgr r
 refine min_two_ints (I.ok.hd hc) λh' tk k=>⟨_,H,I.kept k,?_,q⟩
 by_cases hj:j<i
 ·rw[Af hj,Af hj];exact⟨_,rfl⟩
 ·rw[Aa hj,Aa hj];exact⟨_,rfl⟩
theorem jcg:jdf X (.type "int") (λxs H Q=>(∃i,xs=[.int i]/\Q (.int i) H)\/∃k,xs=[.bl k]/\Q (.int (if k then 1 else 0)) H):=by
 intro pins s σ H xs us Q I r h
 rcases h with⟨i,rfl,q⟩|⟨k,rfl,q⟩
 ·obtain⟨u,rfl,t,rfl⟩:=jd5 r
  exact call_int_int ⟨.int i,H,I,⟨_,rfl⟩,q⟩
 ·obtain⟨u,rfl,r1⟩:=jd5 r
  cases r1
  exact call_int_bool ⟨.int (if k then 1 else 0),H,I.tok _,⟨_,rfl⟩,q⟩
end
structure ObjM(h:Heap)(x dx C:Addr)(mA:Str->Option Value):Prop where
 obj:h.get? x=some (PySem.W.instObj C dx)
 ns:h.Ns1 dx mA
 ne:dx≠x
theorem jpn{h:Heap}{dx:Addr}{mA:Str->Option Value}(n:h.Ns1 dx mA):∃od,h.get? dx=some od/\∀name,PySem.W.lookIn name od=some (mA name):=by
 obtain⟨o,es,ep,ho,hd,hk,_,hm⟩:=n
 refine⟨o,ho,λname=>?_⟩
 have e:=hm name
 unfold nsFind findBy at e
 rw[<-Array.find?_toList]at e
 unfold PySem.W.lookIn
 rw[hd]
 dsimp only
 split
 ·rename_i y q
  rw[q]at e
  exact Om some e
 ·rename_i q
  rw[q]at e
  have a:es.toList.any (·.refKey)=false:=by
   rw[List.any_eq_false]
   intro y hy
   obtain⟨z,t,hkey⟩:=hk y (Array.mem_toList_iff.mp hy)
   simp[DictEntry.refKey,hkey]
  have a':¬es.toList.any (·.refKey)=true:=by rw[a];exact A2
  rw[Aa a']
  exact Om some e
theorem ObjM.look{h:Heap}{x dx C:Addr}{mA:Str->Option Value}(I:ObjM h x dx C mA):∃od,PySem.W.InstAt h x (PySem.W.instObj C dx) C (some od)/\∀name,PySem.W.lookIn name od=some (mA name) :=
 let⟨od,ho,hl⟩:=jpn I.ns
 ⟨od,⟨I.obj,rfl,rfl,ho⟩,hl⟩
section
variable{prog:Program}{w:World}{A:Around}{E:Value->Shared->Prop}{s:Shared}{K:PySem.W.Frag}{x dx C f:Addr}{mA:Str->Option Value}{name:Str}{v:Value}
theorem jsd{expr:Bool}{Q:Value->Shared->Prop}(X:K.In s.heap)(I:ObjM s.heap x dx C mA)(hg:PySem.W.plainGet K C name=true)(hh:PySem.W.hasDictIn K C=true)
  (ha:PySem.W.findIn K (.ref C) name=some none) (hv:mA name=some v) (hv':PySem.W.handedIn v=true) (h:Q v {s with toks:=s.toks+1}) :
  wpAny (model prog w) A (getAttr (.ref x) name expr) Q E s:=by
 obtain⟨od,J,hl⟩:=I.look
 exact PySem.W.get_value X J (Ya hg).1 (PySem.W.findObj_own hh ha rfl (by rw[hl,hv])) hv' h
theorem jqm{pl:Sem Bool}{Q:Value×List Value->Shared->Prop}(X:K.In s.heap)(I:ObjM s.heap x dx C mA)(hg:PySem.W.plainGet K C name=true)
  (hf:PySem.W.findIn K (.ref C) name=some (some (.ref f))) (ht:PySem.W.isFn K (.ref f)=true) (hv:mA name=none) (h:Q (.ref f,[.ref x]) s) :
  wpAny (model prog w) A (getMethod (.ref x) name pl) Q E s:=by
 obtain⟨od,J,hl⟩:=I.look
 exact PySem.W.method_fn X J (Ya hg).1 (Ya hg).2 hf (U7.mp ht) (by show(PySem.W.lookIn name od).map (·.isSome)=some false;rw[hl,hv];rfl) h
theorem jss{ns:List Str}{Q:Unit->Shared->Prop}(X:K.In s.heap)(I:ObjM s.heap x dx C mA)
  (hs:PySem.W.findIn K (.ref C) "__setattr__"=some (some (.builtin "object.__setattr__"))) (hp:PySem.W.plainOver K C=true) (ht:PySem.W.takerIn K C name=some none) (hh:PySem.W.hasDictIn K C=true)
  (hw:PySem.Within mA ns) (hsz:ns.length<=sizeLine)
  (h:∀h',ObjM h' x dx C (λy=>if y=name then some v else mA y)->Heap.SameBut dx s.heap h'->Q () {s with heap:=h',toks:=s.toks+2}) :
  wpAny (model prog w) A (setAttr (.ref x) name v) Q E s:=by
 obtain⟨od,J,hl⟩:=I.look
 refine PySem.W.set_plain X J hs (PySem.W.osa_open (s:={s with toks:=s.toks+1}) (r:=none) X J hp ht λb=>?_)
 obtain⟨cd,hc,hd'⟩:=PySem.W.any_some hh
 have hx:s.heap.get? x=some ⟨.ref C,some dx,.plain,#[]⟩:=I.obj
 refine Ad (Am (Ad (Ad (wpAny_loadPart hx (Ad (PySem.W.Looks.here (s:={s with toks:=s.toks+1}) (PySem.W.looks_clsIn X hc) ?_))))))
 rw[hd']
 refine Am (a:=some dx) (Ad (Am (Ad ?_)))
 refine wpAny_nsSet1 (s:={s with toks:=s.toks+1}) I.ns λh' hn2 hs2=>?_
 obtain⟨oD,esD,epD,hoD,hdD,hcD⟩:=hn2.count (PySem.Within.cons name v hw)
 refine Ad (wpAny_lookBehind hoD (by rw[hdD];exact pastItsLine_dict (A7 hcD (by rw[List.length_cons];omega))) ?_)
 exact Am (h _ ⟨(hs2.2 _ (Ol I.ne)).trans I.obj,hn2,I.ne⟩ hs2)
theorem jqs{R:Result->Shared->Prop}{vs:List Value}{kw:List (Str×Value)}(X:K.In s.heap)(hm:PySem.W.makesIn K C=true)
  (hi:PySem.W.findIn K (.ref C) "__init__"=some (some (.ref f))) (hf:PySem.W.typeIn K (.ref f)=some (.type "function"))
  (h:codeAny (model prog w) (A.under (.builtin "type.__call__" ⟨.ref C::vs,kw⟩)) (.call (.ref f) ⟨.ref (s.heap.objs.size+1)::vs,kw⟩) (PySem.W.InitBack (s.heap.objs.size+1) R)
   {s with heap:=(s.heap.push PySem.W.emptyDict).push (PySem.W.instObj C s.heap.objs.size)}) :
  codeAny (model prog w) A (.call (.ref C) ⟨vs,kw⟩) R s:=by
 obtain⟨hh,g,d,t,os⟩:=s
 exact PySem.W.make_core (PySem.W.makes_of X hm) (PySem.W.looks_findIn X hi) (λself=>PySem.W.bind_fn X self hf) (.inl rfl) h
end
def putF(f:Str)(v:V):List (Str×V)->List (Str×V)
 |[]=>[(f,v)]
 |(g,x)::r=>if g=f then(g,v)::r else(g,x)::putF f v r
theorem jgv(f g:Str)(v:V):∀fs:List (Str×V),(putF f v fs).lookup g=if g=f then some v else fs.lookup g
 |[]=>by
  show List.lookup g [(f,v)]=_
  by_cases h:g=f
  ·have hb:(g == f)=true:=U7.mpr h
   simp only[List.lookup,hb,Af h]
  ·have hb:(g == f)=false:=O2.mpr h
   simp only[List.lookup,hb,Aa h]
 |(k,x)::r=>by
  have ih:=jgv f g v r
  rw[show putF f v ((k,x)::r)=(if k=f then(k,v)::r else(k,x)::putF f v r)from rfl]
  by_cases hk:k=f
  ·rw[Af hk]
   by_cases h:g=k
   ·have hb:(g == k)=true:=U7.mpr h
    simp only[List.lookup,hb,Af (h.trans hk)]
   ·have hb:(g == k)=false:=O2.mpr h
    simp only[List.lookup,hb,Aa (λe:g=f=>h (e.trans hk.symm))]
  ·rw[Aa hk]
   by_cases h:g=k
   ·have hb:(g == k)=true:=U7.mpr h
    simp only[List.lookup,hb,Aa (λe:g=f=>hk (h.symm.trans e))]
   ·have hb:(g == k)=false:=O2.mpr h
    simp only[List.lookup,hb]
    exact ih
theorem jf0(f:Str)(v:V):∀fs:List (Str×V),f∈(putF f v fs).map (·.1)/\∀g,g∈fs.map (·.1)->g∈(putF f v fs).map (·.1)
 |[]=>⟨by simp[putF],λg h=>by simp at h⟩
 |(k,x)::r=>by
  obtain⟨i1,i2⟩:=jf0 f v r
  rw[show putF f v ((k,x)::r)=(if k=f then(k,v)::r else(k,x)::putF f v r)from rfl]
  by_cases hk:k=f
  ·rw[Af hk]
   subst hk
   exact⟨by simp,λg h=>by simpa using h⟩
  ·rw[Aa hk]
   refine⟨?_,λg h=>?_⟩
   ·rw[Av]
    exact Ip _ i1
   ·rw[Av]at h⊢
    rcases Al.mp h with e|e
    ·exact Al.mpr (.inl e)
    ·exact Ip _ (i2 g e)
theorem jgu(f:Str)(v:V):∀fs:List (Str×V),(putF f v fs).length<=fs.length+1
 |[]=>by simp[putF]
 |(k,x)::r=>by
  have ih:=jgu f v r
  rw[show putF f v ((k,x)::r)=(if k=f then(k,v)::r else(k,x)::putF f v r)from rfl]
  by_cases hk:k=f
  ·rw[Af hk,List.length_cons,List.length_cons];omega
  ·rw[Aa hk,List.length_cons,List.length_cons];omega
theorem RelO.some_of{v:V}{o:Option Value}(r:RelO (some v) o):∃u,o=some u/\RelV v u:=by
 cases o with
 |none=>exact(show False from r).elim
 |some u=>exact⟨u,rfl,r⟩
theorem RelO.none_of{o:Option Value}(r:RelO none o):o=none:=by
 cases o with
 |none=>rfl
 |some u=>exact(show False from r).elim
theorem jjc{v:V}{u:Value}(r:RelV v u):PySem.W.handedIn u=true:=by
 cases v with
 |non=>cases(show u=Value.none from r);rfl
 |bl b=>cases(show u=Value.bool b from r);rfl
 |int i=>obtain⟨t,e⟩:=(show ∃t,u=Value.int i t from r);cases e;rfl
 |str x=>obtain⟨t,e⟩:=(show ∃t,u=Value.str x t from r);cases e;rfl
 |byt b=>obtain⟨t,e⟩:=(show ∃t,u=Value.bytes b t from r);cases e;rfl
 |flt b=>obtain⟨t,e⟩:=(show ∃t,u=Value.float b t from r);cases e;rfl
 |ref a=>cases(show u=Value.ref a from r);rfl
 |ty n=>cases(show u=Value.type n from r);rfl
section
variable{P:Program}{w:World}{H H':Hp}{h h':Heap}{a C dx:Addr}{fs fs':List (Str×V)}
theorem jgf(hok:HOk P w H h)(e:H a=some (.ins C dx fs)):∃mA,ObjM h a dx C mA/\(∀f,RelO (fs.lookup f) (mA f))/\PySem.Within mA (fs.map (·.1))/\fs.length<=1000/\H dx=some (.own a):=by
 obtain⟨d,z,ne,ob,mA,n,r,q⟩:=(show ObjOk P w H h a (.ins C dx fs)from hok a _ e)
 exact⟨mA,⟨ob,n,ne⟩,r,q,z,d⟩
end
structure Cls(K:PySem.W.Frag)(C:Addr):Prop where
 pg:PySem.W.plainGet K C Str.empty=true
 hd:PySem.W.hasDictIn K C=true
 po:PySem.W.plainOver K C=true
 sa:PySem.W.findIn K (.ref C) "__setattr__"=some (some (.builtin "object.__setattr__"))
theorem Cls.get{K:PySem.W.Frag}{C:Addr}(c:Cls K C)(f:Str):PySem.W.plainGet K C f=true:=c.pg
def NoAttr(K:PySem.W.Frag)(C:Addr)(f:Str):Prop:=PySem.W.findIn K (.ref C) f=some none
theorem NoAttr.taker{K:PySem.W.Frag}{C:Addr}{f:Str}(n:NoAttr K C f):PySem.W.takerIn K C f=some none:=by
 unfold PySem.W.takerIn
 rw[show PySem.W.findIn K (.ref C) f=some none from n]
 rfl
structure Meth(K:PySem.W.Frag)(C:Addr)(m:Str)(f:Addr):Prop where
 at_:PySem.W.findIn K (.ref C) m=some (some (.ref f))
 fn:PySem.W.isFn K (.ref f)=true
 kp:PySem.W.keepIn K (.ref f)=true
section
variable{X:Cx}{pins:List (Addr×Obj)}{σ:St}{H:Hp}{s:Shared}{a C dx:Addr}{fs:List (Str×V)}{f:Str}{v:V}{A:Around}{E:Value->Shared->Prop}
theorem jhk{b:Bool}{Q:Value->Shared->Prop}(I:Inv X pins σ H s)(e:H a=some (.ins C dx fs))(c:Cls X.K C)(n:NoAttr X.K C f)(l:fs.lookup f=some v)
  (h:∀u s',Inv X pins σ H s'->RelV v u->Q u s'):wpAny (model X.prog X.w) A (getAttr (.ref a) f b) Q E s:=by
 obtain⟨mA,O,r,_,_,_⟩:=jgf I.hok e
 obtain⟨u,hu,ru⟩:=RelO.some_of (v:=v) (o:=mA f) (by rw[<-l];exact r f)
 exact jsd I.kIn O (c.get f) c.hd n hu (jjc ru) (h u _ (I.tok _) ru)
theorem jhl{m:Str}{g:Addr}{pl:Sem Bool}{Q:Value×List Value->Shared->Prop}(I:Inv X pins σ H s)(e:H a=some (.ins C dx fs))(c:Cls X.K C)(k:Meth X.K C m g)(l:fs.lookup m=none)
  (h:Q (.ref g,[.ref a]) s):wpAny (model X.prog X.w) A (getMethod (.ref a) m pl) Q E s:=by
 obtain⟨mA,O,r,_,_,_⟩:=jgf I.hok e
 have hn:mA m=none:=RelO.none_of (by rw[<-l];exact r m)
 exact jqm I.kIn O (c.get m) k.at_ k.fn hn h
theorem jh0{y:V}{u:Value}{Q:Unit->Shared->Prop}(I:Inv X pins σ H s)(e:H a=some (.ins C dx fs))(c:Cls X.K C)(n:NoAttr X.K C f)(hl:fs.length<1000)(ry:RelV y u)
  (h:∀s',Inv X pins σ (upd H a (.ins C dx (putF f y fs))) s'->Q () s'):wpAny (model X.prog X.w) A (setAttr (.ref a) f u) Q E s:=by
 obtain⟨mA,O,r,wi,_,ho⟩:=jgf I.hok e
 have hz:(fs.map (·.1)).length<=sizeLine:=by rw[Ae,Yf];omega
 refine jss I.kIn O c.sa c.po n.taker c.hd wi hz λh' O' sb=>h _ ?_
 have hd:∃o,h'.get? dx=some o:=let⟨o,_,_,e',_⟩:=O'.ns;⟨o,e'⟩
 refine I.write (x:=a) (e:=dx) (by rw[e];exact True.intro) (.inr ho) (λb q hb z=>(sb.2 b hb).trans z) hd ?_
 refine⟨by rw[jf O.ne];exact ho,?_,O.ne,O'.obj,_,O'.ns,λg=>?_,λg hg=>?_⟩
 ·have:=jgu f y fs;omega
 ·show RelO ((putF f y fs).lookup g) (if g=f then some u else mA g)
  rw[jgv]
  by_cases q:g=f
  ·rw[Af q,Af q];exact ry
  ·rw[Aa q,Aa q];exact r g
 ·by_cases q:g=f
  ·rw[q];exact(jf0 f y fs).1
  ·refine(jf0 f y fs).2 g (wi g λz=>hg ?_)
   show(if g=f then some u else mA g)=none
   rw[Aa q];exact z
theorem Inv.made(I:Inv X pins σ H s):Inv X pins σ (upd (upd H s.heap.objs.size (.own (s.heap.objs.size+1))) (s.heap.objs.size+1) (.ins C s.heap.objs.size []))
  {s with heap:=(s.heap.push PySem.W.emptyDict).push (PySem.W.instObj C s.heap.objs.size)}:=by
 have e1:(s.heap.push PySem.W.emptyDict).get? s.heap.objs.size=some PySem.W.emptyDict:=At s.heap rfl
 have e2:((s.heap.push PySem.W.emptyDict).push (PySem.W.instObj C s.heap.objs.size)).get? (s.heap.objs.size+1)=some (PySem.W.instObj C s.heap.objs.size):=by
  have:=At (s.heap.push PySem.W.emptyDict) (o:=PySem.W.instObj C s.heap.objs.size) rfl
  rwa[Heap.size_push]at this
 have e3:(s.heap.push PySem.W.emptyDict).Ns s.heap.objs.size (λ_=>none):=⟨PySem.W.emptyDict,#[],_,e1,rfl,(λe he=>absurd he (by simp)),λ_=>rfl⟩
 have I1:=I.laid (a:=s.heap.objs.size) (o:=.own (s.heap.objs.size+1)) (h':=s.heap.push PySem.W.emptyDict) (t':=s.toks) (λb u q=>Ac _ q) (Ag _) ⟨_,e1⟩
 refine I1.laid (a:=s.heap.objs.size+1) (o:=.ins C s.heap.objs.size []) (t':=s.toks) (λb u q=>Ac _ q) (Uj (Heap.size_push _ _)) ?_
 have ne:s.heap.objs.size≠s.heap.objs.size+1:=Ar (Nat.lt_succ_self _)
 refine⟨by rw[jf ne,je],Ix _,ne,e2,λ_=>none,(Heap.Ns1.of_empty e3).at λo q=>Ac _ q,λ_=>True.intro,λy hy=>absurd rfl hy⟩
theorem jmt{prog:Program}{w:World}{env:Env}{e:Expr}{f:Str}{pos:Pos}{s:Shared}{Q:Value->Shared->Prop}(hb:attributeBase e f env (eval e env)=eval e env)
  (h:wpAny (model prog w) A (eval e env) (λo s₁=>wpAny (model prog w) A (getAttr o f true) Q E s₁) E s):wpAny (model prog w) A (eval (.Attribute e f pos) env) Q E s :=
 Attribute_any_ h (by rw[arm_eval_Attribute,hb])
end
def tFld(K:PySem.W.Frag)(ta:TE)(f:Str):TE:=λσ H Q=>ta σ H λx H1=>∃a C dx fs v,x=.ref a/\H1 a=some (.ins C dx fs)/\Cls K C/\NoAttr K C f/\fs.lookup f=some v/\Q v H1
def sFld(K:PySem.W.Frag)(ta tv:TE)(f:Str):TS:=λD σ H=>tv σ H λy H1=>ta σ H1 λx H2=>∃a C dx fs,x=.ref a/\H2 a=some (.ins C dx fs)/\Cls K C/\NoAttr K C f/\fs.length<1000 /\
 D.nx σ (upd H2 a (.ins C dx (putF f y fs)))
def InOp(X:Cx)(op:Operator)(rd:V->V->Hp->VK->Prop):Prop :=
 ∀(pins:List (Addr×Obj))(s:Shared)(σ:St)(H:Hp)(x y:V)(u v:Value)(Q:VK),Inv X pins σ H s->RelV x u->RelV y v->rd x y H Q->wpAny (model X.prog X.w) X.A (inplaceOp op u v) (EP X pins σ Q) X.xe s
def jiw(K:PySem.W.Frag)(ta tv:TE)(rd:V->V->Hp->VK->Prop)(f:Str):TS:=λD σ H=>ta σ H λx H1=>∃a C dx fs v,x=.ref a/\H1 a=some (.ins C dx fs)/\Cls K C/\NoAttr K C f/\fs.lookup f=some v /\
 tv σ H1 λy H2=>rd v y H2 λz H3=>∃dx' fs',H3 a=some (.ins C dx' fs')/\fs'.length<1000/\D.nx σ (upd H3 a (.ins C dx' (putF f z fs')))
section
variable{X:Cx}{o e value:Expr}{f:Str}{pos pos' tpos:Pos}{ta tv:TE}
theorem pe_fld(he:PE X e ta)(hb:attributeBase e f X.env (eval e X.env)=eval e X.env):PE X (.Attribute e f pos) (tFld X.K ta f):=by
 intro pins s σ H Q I h
 refine jmt hb (thn (he pins s σ H _ I h) λu s1 ⟨x,H1,I1,rx,a,C,dx,fs,v,ex,ea,c,n,l,q⟩=>?_)
 subst ex
 obtain rfl:u=Value.ref a:=rx
 exact jhk I1 ea c n l λu' s2 I2 ru=>⟨v,H1,I2,ru,q⟩
theorem ps_fld(ha:PE X o ta)(hv:PE X value tv)(hs:swapsWith value (some (.Attribute o f pos')) pos.line X.env=pure false):PS X (.Assign [.Attribute o f pos'] value pos) (sFld X.K ta tv f):=by
 intro pins s σ H D I h
 refine plainObj_wpAny_Assign_Attribute (thn (hv pins s σ H _ I h) λu s1 ⟨y,H1,I1,ry,q⟩=>thn (ha pins s1 σ H1 _ I1 q) λov s2 ⟨x,H2,I2,rx,a,C,dx,fs,ex,ea,c,n,l,q2⟩=>?_) hs
 subst ex
 obtain rfl:ov=Value.ref a:=rx
 exact jh0 I2 ea c n l ry λs3 I3=>⟨σ,_,I3,q2⟩
theorem ps_fldaug{op:Operator}{rd:V->V->Hp->VK->Prop}(ha:PE X o ta)(hv:PE X value tv)(hop:InOp X op rd):PS X (.AugAssign (.Attribute o f tpos) op value pos) (jiw X.K ta tv rd f):=by
 intro pins s σ H D I h
 refine wpAny_AugAssign_AttributeAny (thn (ha pins s σ H _ I h) λov s1 ⟨x,H1,I1,rx,a,C,dx,fs,v,ex,ea,c,n,l,q⟩=>?_)
 subst ex
 obtain rfl:ov=Value.ref a:=rx
 refine jhk I1 ea c n l λu s2 I2 ru=>thn (hv pins s2 σ H1 _ I2 q) λw3 s3 ⟨y,H2,I3,ry,q3⟩=>thn (hop pins s3 σ H2 v y u w3 _ I3 ru ry q3) λw4 s4 ⟨z,H3,I4,rz,dx',fs',ea',l',q4⟩=>?_
 exact jh0 I4 ea' c n l' rz λs5 I5=>⟨σ,_,I5,q4⟩
def rAdd:V->V->Hp->VK->Prop:=λx y H Q=>∃i j,x=.int i/\y=.int j/\Q (.int (i+j)) H
theorem jtb:InOp X .Add rAdd:=by
 rintro pins s σ H x y u v Q I rx ry ⟨i,j,rfl,rfl,q⟩
 obtain⟨t,rfl⟩:=(show ∃t,u=Value.int i t from rx)
 obtain⟨t',rfl⟩:=(show ∃t',v=Value.int j t' from ry)
 exact PyProof.Rows.iadd_int ⟨.int (i+j),H,I.tok _,⟨_,rfl⟩,q⟩
end
section
variable{X:Cx}{pins:List (Addr×Obj)}{σ:St}{H:Hp}{s:Shared}{A:Around}{E:Value->Shared->Prop}{Q:Value->Shared->Prop}{c:Value}{b:Bool}
inductive TyOf (K:PySem.W.Frag) (H:Hp):V->Value->Prop where
 |non:TyOf K H .non (.type "NoneType")
 |bl (x:Bool):TyOf K H (.bl x) (.type "bool")
 |int (i:Int):TyOf K H (.int i) (.type "int")
 |str (x:Str):TyOf K H (.str x) (.type "str")
 |flt (x:UInt64):TyOf K H (.flt x) (.type "float")
 |lst {a:Addr}{xs:List V} (e:H a=some (.lst xs)):TyOf K H (.ref a) (.type "list")
 |frz {a:Addr}{o:Obj}{xs:List V} (e:H a=some (.frz o (.lst xs))):TyOf K H (.ref a) (.type "list")
 |tup {a:Addr}{xs:List V} (e:H a=some (.tup xs)):TyOf K H (.ref a) (.type "tuple")
 |dK {a:Addr}{kvs:List (Key×V)} (e:H a=some (.dK kvs)):TyOf K H (.ref a) (.type "dict")
 |dT {a:Addr}{kvs:List (List Key×V)} (e:H a=some (.dT kvs)):TyOf K H (.ref a) (.type "dict")
 |ins {a C dx:Addr}{fs:List (Str×V)} (e:H a=some (.ins C dx fs)) (cl:Cls K C) (ha:PySem.W.findIn K (.ref C) "__class__"=some (some (.builtin "object.__class__")))
   (hn:PySem.W.specialIn K (.builtin "object.__class__") "__get__"=some (some (.builtin "getset_descriptor.__get__"))) (htk:PySem.W.takesIn K (.builtin "object.__class__")=some true)
   (hm:PySem.W.mroIn K C (.type "object")=some true):TyOf K H (.ref a) (.ref C)
theorem jpi{x:V}{u t:Value}(I:Inv X pins σ H s)(rx:RelV x u)(ty:TyOf X.K H x t)(e:PySem.W.kitOne X.K t c=some b)(h:∀tk,Q (.bool b) {s with toks:=tk}) :
  wpAny (model X.prog X.w) A (call (.builtin "isinstance") [u,c]) Q E s:=by
 cases ty with
 |non=>cases(show u=Value.none from rx);exact Iu PySem.W.kitx_none I.kIn True.intro e (λz=>nomatch z) h
 |bl y=>cases(show u=Value.bool y from rx);exact Iu PySem.W.kitx_bool I.kIn True.intro e (λz=>nomatch z) h
 |int i=>obtain⟨t,q⟩:=(show ∃t,u=Value.int i t from rx);cases q;exact Iu PySem.W.kitx_int I.kIn True.intro e (λz=>nomatch z) h
 |str y=>obtain⟨t,q⟩:=(show ∃t,u=Value.str y t from rx);cases q;exact Iu PySem.W.kitx_str I.kIn True.intro e (λz=>nomatch z) h
 |flt y=>obtain⟨t,q⟩:=(show ∃t,u=Value.float y t from rx);cases q;exact Iu PySem.W.kitx_float I.kIn True.intro e (λz=>nomatch z) h
 |@lst a xs ea =>
  cases(show u=Value.ref a from rx)
  obtain⟨_,_,n,_,h1⟩:=(show ObjOk X.prog X.w H s.heap a (.lst xs)from I.hok a _ ea)
  exact Iu PySem.W.kitx_list I.kIn ⟨_,h1,rfl⟩ e (λz=>nomatch z) h
 |@frz a ob xs ea =>
  cases(show u=Value.ref a from rx)
  obtain⟨_,_,_,n,_,h1⟩:=(show ObjOk X.prog X.w H s.heap a (.frz ob (.lst xs))from I.hok a _ ea)
  exact Iu PySem.W.kitx_list I.kIn ⟨_,h1,rfl⟩ e (λz=>nomatch z) h
 |@tup a xs ea =>
  cases(show u=Value.ref a from rx)
  obtain⟨_,_,_,p⟩:=(show ObjOk X.prog X.w H s.heap a (.tup xs)from I.hok a _ ea)
  obtain⟨o,h1,h2,_⟩:=p
  exact Iu PySem.W.kitx_tuple I.kIn ⟨o,h1,h2⟩ e (λz=>nomatch z) h
 |@dK a kvs ea =>
  cases(show u=Value.ref a from rx)
  obtain⟨_,_,vs,_,p⟩:=(show ObjOk X.prog X.w H s.heap a (.dK kvs)from I.hok a _ ea)
  obtain⟨o,es,ep,h1,h2,_⟩:=p
  exact Iu PySem.W.kitx_dict I.kIn ⟨o,h1,h2.1⟩ e (λz=>nomatch z) h
 |@dT a kvs ea =>
  cases(show u=Value.ref a from rx)
  obtain⟨_,_,xs,_,o,es,ep,h1,h2,_⟩:=(show ObjOk X.prog X.w H s.heap a (.dT kvs)from I.hok a _ ea)
  exact Iu PySem.W.kitx_dict I.kIn ⟨o,h1,h2.1⟩ e (λz=>nomatch z) h
 |@ins a C dx fs ea cl ha hn htk hm =>
  cases(show u=Value.ref a from rx)
  obtain⟨mA,O,_⟩:=jgf I.hok ea
  obtain⟨od,J,_⟩:=O.look
  exact Iu (PySem.W.kitx_own (cl.get _) cl.hd ha hn htk hm) I.kIn J e (λz=>nomatch z) h
end
structure Room(k:Nat)(A:Around):Prop where
 hd:A.handled=none
 dp:A.depth+3*k+5<recursionLimit
 un:A.units+16*k+200<cLine
 gd:A.guards=some []
theorem Room.mono{j k:Nat}{A:Around}(r:Room k A)(h:j<=k):Room j A:=⟨r.hd,by have:=r.dp;omega,by have:=r.un;omega,r.gd⟩
theorem Room.deeper{k:Nat}{A:Around}(r:Room (k+1) A)(env:Env):Room k (A.deeper env) :=
 ⟨r.hd,by have:=r.dp;show A.depth+1+3*k+5<_;omega,by have:=r.un;show A.units+3+16*k+200<_;omega,r.gd⟩
theorem jn8{A:Around}{C:Addr}{us:List Value}{kw:List (Str×Value)}:(A.under (.builtin "type.__call__" ⟨.ref C::us,kw⟩)).depth=A.depth+1:=by
 first|rfl|simp[Around.under,Code.weight,Code.isCreation,Code.isGuard,Code.isCaller,Code.frames,Code.isFrame,guardIds]
theorem jn9{A:Around}{C:Addr}{us:List Value}{kw:List (Str×Value)}:(A.under (.builtin "type.__call__" ⟨.ref C::us,kw⟩)).units=A.units+1:=by
 first|rfl|simp[Around.under,Code.cUnits,Code.frames,Code.isFrame]
theorem Room.make{k:Nat}{A:Around}(r:Room (k+1) A)(C:Addr)(us:List Value)(kw:List (Str×Value)):Room k (A.under (.builtin "type.__call__" ⟨.ref C::us,kw⟩)) :=
 ⟨r.hd,by have:=r.dp;rw[jn8];omega,by have:=r.un;rw[jn9];omega,by first|exact r.gd|(simpa[Around.under,Code.isGuard,guardIds]using r.gd)⟩
theorem Room.depth{k:Nat}{A:Around}(r:Room k A):A.depth<recursionLimit:=by have:=r.dp;omega
theorem Room.units{k:Nat}{A:Around}(r:Room k A):A.units+64<cLine:=by have:=r.un;omega
def tNil:TA:=λ_ H Q=>Q [] H
def je4(ta:TE)(tr:TA):TA:=λσ H Q=>ta σ H λx H1=>tr σ H1 λxs H2=>Q (x::xs) H2
section
variable{X:Cx}{e:Expr}{es:List Expr}{te:TE}{t:TA}{pos:Pos}
theorem jc5:PA X [] tNil:=λ_ _ _ _ H Q I h=>Ui ⟨[],H,I,.nil,h⟩
theorem jcy(ha:PE X e te)(hr:PA X es t)(hs:starEach (e::es) X.env=(false,eval e X.env)::starEach es X.env:=by rfl):PA X (e::es) (je4 te t):=by
 intro pos pins s σ H Q I h
 rw[hs]
 show wpAny _ _ (spliced ((false,eval e X.env)::backTo pos (starEach es X.env))) _ _ s
 refine Oe (thn (ha pins s σ H _ I h) λu s1 ⟨x,H1,I1,r1,q1⟩=>?_)
 exact thn (hr pos pins s1 σ H1 _ I1 q1) λus s2 ⟨xs,H2,I2,r2,q2⟩=>⟨x::xs,H2,I2,.cons r1 r2,q2⟩
def tTup(t:TA):TE:=λσ H Q=>t σ H λxs H1=>xs.length<=sizeLine/\∀p,H1 p=none->Q (.ref p) (upd H1 p (.tup xs))
def tLst(t:TA):TE:=λσ H Q=>t σ H λxs H1=>xs.length<=sizeLine/\∀p,H1 p=none->Q (.ref p) (upd H1 p (.lst xs))
theorem pe_tup{x1}(h:PA X es t):PE X (.Tuple es x1 pos) (tTup t):=by
 intro pins s σ H Q I hq
 refine wpAny_Tuple_spliced (thn (h pos pins s σ H _ I hq) λus s1 ⟨xs,H1,I1,r,z,q⟩=>⟨by rw[<-r.length];exact z,?_⟩)
 have hf:H1 s1.heap.objs.size=none:=I1.hok.fresh (Ag _)
 refine⟨.ref s1.heap.objs.size,upd H1 s1.heap.objs.size (.tup xs),I1.laid (t':=s1.toks) (λb u e=>Ac _ e) (Ag _) ?_,rfl,q _ hf⟩
 exact⟨z,us,r,⟨_,At _ rfl,rfl,_,rfl⟩⟩
theorem pe_lst(h:PA X es t):PE X (.List es pos) (tLst t):=by
 intro pins s σ H Q I hq
 refine wpAny_List_spliced (thn (h pos pins s σ H _ I hq) λus s1 ⟨xs,H1,I1,r,z,q⟩=>⟨by rw[<-r.length];exact z,?_⟩)
 have hf:H1 s1.heap.objs.size=none:=I1.hok.fresh (Ag _)
 refine⟨.ref s1.heap.objs.size,upd H1 s1.heap.objs.size (.lst xs),I1.laid (t':=s1.toks) (λb u e=>Ac _ e) (Ag _) ?_,rfl,q _ hf⟩
 exact⟨z,us,0,r,At _ rfl⟩
end
abbrev Sp:=List V->Hp->VK->XK->Prop
abbrev CXT:=List Env->Hp->Shared->XK->Value->Shared->Prop
structure Env0(P:Program)(w:World)(K:PySem.W.Frag)(mg:Str->Option Value)(base:Heap)(A:Around)(outer:List Env)(s:Shared)(H:Hp):Prop where
 frames:A.frames=some outer
 mod:Mod K mg base
 bs:∀b o,base.get? b=some o->s.heap.get? b=some o/\H b=none
 bsz:base.objs.size<=s.heap.objs.size
 funs:s.heap.FunFrames base outer
 frf:∀b∈frs outer,H b=none
 hok:HOk P w H s.heap
 bare:AllBare s.gens
def CE(outer:List Env)(P:Program)(w:World)(H:Hp)(s:Shared)(Q:VK)(u:Value)(s':Shared):Prop :=
 ∃v H',s'.os=s.os/\AllBare s'.gens/\Un (frs outer) [] H H' s.heap s'.heap/\HOk P w H' s'.heap/\RelV v u/\Q v H'
def CR(CX:CXT)(outer:List Env)(P:Program)(w:World)(H:Hp)(s:Shared)(Q:VK)(E:XK)(r:Result)(s':Shared):Prop :=
 match r with
 |.ok (.ret u)=>CE outer P w H s Q u s'
 |.ok _=>False
 |.error e=>CX outer H s E e s'
structure FnOk(P:Program)(w:World)(K:PySem.W.Frag)(mg:Str->Option Value)(base:Heap)(CX:CXT)(k:Nat)(f:Addr)(fd:FuncData)(ps:List Str)(sp:Sp):Prop where
 len:∀vs H Q E,sp vs H Q E->vs.length=ps.length
 run:∀(A:Around)(outer:List Env)(s:Shared)(H:Hp)(args:Args)(us:List Value)(vs:List V)(Q:VK)(E:XK),Room k A->Env0 P w K mg base A outer s H->BindsTo s fd args (ps.zip us)->Vals vs us->sp vs H Q E ->
  codeAny (model P w) A (.call (.ref f) args) (CR CX outer P w H s Q E) s
theorem FnOk.mono{P:Program}{w:World}{K:PySem.W.Frag}{mg:Str->Option Value}{base:Heap}{CX:CXT}{j k:Nat}{f:Addr}{fd:FuncData}{ps:List Str}{sp:Sp}(F:FnOk P w K mg base CX j f fd ps sp)(h:j<=k) :
  FnOk P w K mg base CX k f fd ps sp:=⟨F.len,λA outer s H args us vs Q E hr=>F.run A outer s H args us vs Q E (hr.mono h)⟩
theorem Env0.make{P:Program}{w:World}{K:PySem.W.Frag}{mg:Str->Option Value}{base:Heap}{A:Around}{outer:List Env}{s:Shared}{H:Hp}(e:Env0 P w K mg base A outer s H)(C:Addr)(us:List Value)(kw:List (Str×Value)) :
  Env0 P w K mg base (A.under (.builtin "type.__call__" ⟨.ref C::us,kw⟩)) outer s H:=⟨by first|exact e.frames|(simpa[Around.under,Code.envs,Code.isFrame,pushEnvs]using e.frames),e.mod,e.bs,e.bsz,e.funs,e.frf,e.hok,e.bare⟩
section
variable{X:Cx}{pins:List (Addr×Obj)}{σ:St}{H:Hp}{s s':Shared}
theorem Inv.env0(I:Inv X pins σ H s):Env0 X.prog X.w X.K X.mg X.base X.A X.stack s H :=
 ⟨I.ok.frames,I.ok.mod,I.bs,A7 I.ok.bsz I.sz,I.stack,I.stkFree,I.hok,I.bare⟩
theorem Inv.after{Q:VK}{u:Value}(I:Inv X pins σ H s)(h:CE X.stack X.prog X.w H s Q u s'):EP X pins σ Q u s':=by
 obtain⟨v,H',os,bare,un,hok,r,q⟩:=h
 obtain⟨hh,g,d,t,os'⟩:=s'
 obtain rfl:os'=s.os:=os
 exact⟨v,H',I.call (h':=hh) (g':=g) (d':=d) (t':=t) (ch:=[]) un hok bare (λb z=>absurd z (by simp)),r,q⟩
end
def jkk(sp:Sp)(dvs:List V)(E:XK)(t:TA):TE:=λσ H Q=>t σ H λvs H1=>sp (vs++dvs) H1 Q E
def jgm(C:Addr)(m:Str)(sp:Sp)(dvs:List V)(E:XK)(ta:TE)(t:TA):TE:=λσ H Q=>ta σ H λx H1=>∃a dx fs,x=.ref a/\H1 a=some (.ins C dx fs)/\fs.lookup m=none /\
 t σ H1 λvs H2=>sp (x::(vs++dvs)) H2 Q E
def jkr(C:Addr)(sp:Sp)(dvs:List V)(E:XK)(t:TA):TE:=λσ H Q=>t σ H λvs H1=>∀x dx,H1 x=none->H1 dx=none->dx≠x ->
 sp (.ref x::(vs++dvs)) (upd (upd H1 dx (.own x)) x (.ins C dx [])) (λv H2=>v=.non/\Q (.ref x) H2) E
def Binds(K:PySem.W.Frag)(fd:FuncData)(ps:List Str)(ds:List Value):Prop :=
 ∀(s:Shared)(us:List Value),K.In s.heap->(us++ds).length=ps.length->BindsTo s fd ⟨us,[]⟩ (ps.zip (us++ds))
theorem Binds.all{K:PySem.W.Frag}{fd:FuncData}{ps:List Str}(h:∀us:List Value,us.length=ps.length->bindArgs fd ⟨us,[]⟩=pure (ps.zip us)):Binds K fd ps []:=λs us _ hl=>by
 rw[Ib]at hl⊢
 exact .of_eq (h us hl)
def jdp(CX:CXT)(X:Cx)(E:XK):Prop:=∀(pins:List (Addr×Obj))(σ:St)(H:Hp)(s:Shared)(e:Value)(s':Shared),Inv X pins σ H s->CX X.stack H s E e s'->X.xe e s'
section
variable{X:Cx}{CX:CXT}{k:Nat}{f C:Addr}{fd:FuncData}{ps:List Str}{sp:Sp}{dvs:List V}{ds:List Value}{E:XK}{x m:Str}{p pos apos:Pos}{e o:Expr}{es:List Expr}{ta:TE}{t:TA}
theorem jga{pins:List (Addr×Obj)}{σ:St}{H:Hp}{s:Shared}{Q:VK}{us:List Value}{vs:List V}(F:FnOk X.prog X.w X.K X.mg X.base CX k f fd ps sp)(hr:Room k X.A)(hb:Binds X.K fd ps ds)(hd:Vals dvs ds)(hx:jdp CX X E)
  (I:Inv X pins σ H s) (r:Vals vs us) (h:sp (vs++dvs) H Q E):wpAny (model X.prog X.w) X.A (call (.ref f) us) (EP X pins σ Q) X.xe s:=by
 have r2:Vals (vs++dvs) (us++ds):=r.append hd
 have hl:(us++ds).length=ps.length:=by rw[<-r2.length];exact F.len _ _ _ _ h
 refine Wl (U2 (F.run X.A X.stack s H ⟨us,[]⟩ (us++ds) (vs++dvs) Q E hr I.env0 (hb s us I.kIn hl) r2 h) λr s' hq=>?_)
 cases r with
 |error e=>exact hx pins σ H s e s' I hq
 |ok fl =>
  cases fl with
  |ret u=>exact I.after hq
  |next=>exact False.elim hq
  |brk=>exact False.elim hq
  |cont=>exact False.elim hq
theorem pe_call(F:FnOk X.prog X.w X.K X.mg X.base CX k f fd ps sp)(hr:Room k X.A)(hg:Gl X x)(hm:X.mg x=some (.ref f))(hk:PySem.W.keepIn X.K (.ref f)=true)(hb:Binds X.K fd ps ds)(hd:Vals dvs ds)(hx:jdp CX X E)
  (ha:PA X (e::es) t) (hdb:(x == ("__debug__":Str))=false:=by decide) (he:starEach (e::es) X.env=(false,eval e X.env)::starEach es X.env:=by rfl) (hpl:(backTo pos (starEach es X.env)).any (·.1)=false:=by rfl) :
  PE X (.Call (.Name x p) (e::es) [] pos) (jkk sp dvs E t):=by
 intro pins s σ H Q I h
 refine Ir (jed I hg hm ?_ hdb)
 refine Ox (h₀:=X.base) I.ok.mod.kin hk (thn (ha pos pins s σ H _ I h) λus s1 ⟨vs,H1,I1,r,q⟩=>⟨I1.kIn,?_⟩) he hpl
 exact jga F hr hb hd hx I1 r q
theorem pe_meth{pl:Sem Bool}(he:PE X o ta)(c:Cls X.K C)(hm:Meth X.K C m f)(F:FnOk X.prog X.w X.K X.mg X.base CX k f fd ps sp)(hr:Room k X.A)(hb:Binds X.K fd ps ds)(hd:Vals dvs ds)(hx:jdp CX X E)(ha:PA X (e::es) t)
  (hst:starEach (e::es) X.env=(false,eval e X.env)::starEach es X.env:=by rfl) (hpl:(backTo pos (starEach es X.env)).any (·.1)=false:=by rfl)
  (ht:eval (.Call (.Attribute o m apos) (e::es) [] pos) X.env=(do
   let ov <-eval o X.env
   standAt apos.atName
   let(f,first) <-holding [ov] (getMethod ov m pl)
   callWith pos f first (backTo pos (starEach (e::es) X.env)) (backToKw pos (keywordEach [] X.env))):=by rfl) :
  PE X (.Call (.Attribute o m apos) (e::es) [] pos) (jgm C m sp dvs E ta t):=by
 intro pins s σ H Q I h
 refine Wy (pl:=pl) (thn (he pins s σ H _ I h) λu s1 ⟨x,H1,I1,rx,a,dx,fs,ex,ea,l,q⟩=>?_) ht
 subst ex
 obtain rfl:u=Value.ref a:=rx
 refine jhl I1 ea c hm l ?_
 refine Ox (first:=[.ref a]) (h₀:=X.base) I.ok.mod.kin hm.kp (thn (ha pos pins s1 σ H1 _ I1 q) λus s2 ⟨vs,H2,I2,r,q2⟩=>⟨I2.kIn,?_⟩) hst hpl
 exact jga (us:=.ref a::us) (vs:=.ref a::vs) F hr hb hd hx I2 (.cons rfl r) q2
theorem pe_meth0{pl:Sem Bool}(he:PE X o ta)(c:Cls X.K C)(hm:Meth X.K C m f)(F:FnOk X.prog X.w X.K X.mg X.base CX k f fd ps sp)(hr:Room k X.A)(hb:Binds X.K fd ps ds)(hd:Vals dvs ds)(hx:jdp CX X E)
  (ht:eval (.Call (.Attribute o m apos) [] [] pos) X.env=(do
   let ov <-eval o X.env
   standAt apos.atName
   let(f,first) <-holding [ov] (getMethod ov m pl)
   callWith pos f first (backTo pos (starEach [] X.env)) (backToKw pos (keywordEach [] X.env))):=by rfl) :
  PE X (.Call (.Attribute o m apos) [] [] pos) (jgm C m sp dvs E ta tNil):=by
 intro pins s σ H Q I h
 refine Wy (pl:=pl) (thn (he pins s σ H _ I h) λu s1 ⟨x,H1,I1,rx,a,dx,fs,ex,ea,l,q⟩=>?_) ht
 subst ex
 obtain rfl:u=Value.ref a:=rx
 refine jhl I1 ea c hm l ?_
 exact PySem.W.callWith_K0 (first:=[.ref a]) I1.kIn hm.kp (jga (us:=[.ref a]) (vs:=[.ref a]) F hr hb hd hx I1 (.cons rfl .nil) q)
structure Mk(K:PySem.W.Frag)(C f:Addr):Prop where
 makes:PySem.W.makesIn K C=true
 init:PySem.W.findIn K (.ref C) "__init__"=some (some (.ref f))
 fn:PySem.W.isFn K (.ref f)=true
 kp:PySem.W.keepIn K (.ref C)=true
theorem jq4{pins:List (Addr×Obj)}{σ:St}{H:Hp}{s:Shared}{Q:VK}{us:List Value}{vs:List V}(M:Mk X.K C f)(F:FnOk X.prog X.w X.K X.mg X.base CX k f fd ps sp)(hr:Room (k+1) X.A)(hb:Binds X.K fd ps ds)(hd:Vals dvs ds)
  (hx:jdp CX X E) (I:Inv X pins σ H s) (r:Vals vs us)
  (h:∀x dx,H x=none->H dx=none->dx≠x->sp (.ref x::(vs++dvs)) (upd (upd H dx (.own x)) x (.ins C dx [])) (λv H2=>v=.non/\Q (.ref x) H2) E) :
  wpAny (model X.prog X.w) X.A (call (.ref C) us) (EP X pins σ Q) X.xe s:=by
 have hq:=h (s.heap.objs.size+1) s.heap.objs.size (I.hok.fresh (Nat.le_succ _)) (I.hok.fresh (Ag _)) (Ar (Nat.lt_succ_self _))
 have I2:=Inv.made (C:=C) I
 have r2:Vals (V.ref (s.heap.objs.size+1)::(vs++dvs)) (Value.ref (s.heap.objs.size+1)::(us++ds)):=.cons rfl (r.append hd)
 have hl:(Value.ref (s.heap.objs.size+1)::us++ds).length=ps.length:=by
  have e:=r2.length
  rw[F.len _ _ _ _ hq]at e
  exact e.symm
 refine Wl (jqs (f:=f) I.kIn M.makes M.init (U7.mp M.fn) (U2 (F.run _ X.stack _ _ ⟨Value.ref (s.heap.objs.size+1)::us,[]⟩ (Value.ref (s.heap.objs.size+1)::(us++ds)) _ _ E (hr.make C us [])
  (I2.env0.make C us []) (hb _ (Value.ref (s.heap.objs.size+1)::us) I2.kIn hl) r2 hq) λr s' hq'=>?_))
 cases r with
 |error e=>exact hx pins σ _ _ e s' I2 hq'
 |ok fl =>
  cases fl with
  |ret u =>
   obtain⟨v,H',I3,rv,ev,q3⟩:=I2.after hq'
   subst ev
   exact⟨rv,⟨V.ref (s.heap.objs.size+1),H',I3,rfl,q3⟩⟩
  |next=>exact False.elim hq'
  |brk=>exact False.elim hq'
  |cont=>exact False.elim hq'
theorem pe_make(M:Mk X.K C f)(F:FnOk X.prog X.w X.K X.mg X.base CX k f fd ps sp)(hr:Room (k+1) X.A)(hg:Gl X x)(hm:X.mg x=some (.ref C))(hb:Binds X.K fd ps ds)(hd:Vals dvs ds)(hx:jdp CX X E)
  (ha:PA X (e::es) t) (hdb:(x == ("__debug__":Str))=false:=by decide) (he:starEach (e::es) X.env=(false,eval e X.env)::starEach es X.env:=by rfl) (hpl:(backTo pos (starEach es X.env)).any (·.1)=false:=by rfl) :
  PE X (.Call (.Name x p) (e::es) [] pos) (jkr C sp dvs E t):=by
 intro pins s σ H Q I h
 refine Ir (jed I hg hm ?_ hdb)
 refine Ox (h₀:=X.base) I.ok.mod.kin M.kp (thn (ha pos pins s σ H _ I h) λus s1 ⟨vs,H1,I1,r,q⟩=>⟨I1.kIn,?_⟩) he hpl
 exact jq4 M F hr hb hd hx I1 r q
end
structure FnScope(N P:List Str)(sc:Scope):Prop where
 kind:sc.kind=.function
 co:sc.isCoroutine=false
 gen:sc.isGenerator=false
 nd:N.Nodup
 pre:N.take P.length=P
 par:∀x∈P,sc.names.lookup x=some .local\/sc.names.lookup x=some .cell
 nofree:∀y∈sc.names,y.2≠.free
theorem ji5{kindOf:Str->Option NameKind}{x:Str}:∀{binds:List (Str×Value)}{m:Str->Option Value},(∀v,(x,v)∉binds)->bindL kindOf binds m x=m x
 |[],_,_=>rfl
 |(n,v)::r,m,h=>by
  unfold bindL
  rw[ji5 λw hw=>h w (Ip _ hw)]
  split
  ·have:x≠n:=by rintro rfl;exact h v Ow
   simp[this]
  ·rfl
theorem ji3{kindOf:Str->Option NameKind}{x:Str}:∀{binds:List (Str×Value)}{m:Str->Option Value},(∀v,(x,v)∉binds)->bindC kindOf binds m x=m x
 |[],_,_=>rfl
 |(n,v)::r,m,h=>by
  unfold bindC
  rw[ji3 λw hw=>h w (Ip _ hw)]
  split
  ·rfl
  ·have:x≠n:=by rintro rfl;exact h v Ow
   simp[this]
theorem ji4{kindOf:Str->Option NameKind}{x:Str}{v:Value}:∀{P:List Str}{vs:List Value}{i:Nat}{m:Str->Option Value},P.Nodup->P[i]?=some x->vs[i]?=some v->kindOf x=some .local ->
  bindL kindOf (P.zip vs) m x=some v
 |[],_,_,_,_,h,_,_=>by simp at h
 |_::_,[],_,_,_,_,h,_=>by simp at h
 |p::P,w::vs,0,m,nd,h1,h2,hk=>by
  simp at h1 h2;subst h1;subst h2
  show bindL kindOf ((p,w)::P.zip vs) m p=_
  unfold bindL
  rw[ji5 λv hv=>(Uc.mp nd).1 (W3 hv).1,Af hk]
  simp
 |p::P,w::vs,i+1,m,nd,h1,h2,hk=>by
  show bindL kindOf ((p,w)::P.zip vs) m x=_
  unfold bindL
  exact ji4 (i:=i) (Uc.mp nd).2 (by simpa using h1) (by simpa using h2) hk
theorem ji2{kindOf:Str->Option NameKind}{x:Str}{v:Value}:∀{P:List Str}{vs:List Value}{i:Nat}{m:Str->Option Value},P.Nodup->P[i]?=some x->vs[i]?=some v->kindOf x≠some .local ->
  bindC kindOf (P.zip vs) m x=some v
 |[],_,_,_,_,h,_,_=>by simp at h
 |_::_,[],_,_,_,_,h,_=>by simp at h
 |p::P,w::vs,0,m,nd,h1,h2,hk=>by
  simp at h1 h2;subst h1;subst h2
  show bindC kindOf ((p,w)::P.zip vs) m p=_
  unfold bindC
  rw[ji3 λv hv=>(Uc.mp nd).1 (W3 hv).1,Aa hk]
  simp
 |p::P,w::vs,i+1,m,nd,h1,h2,hk=>by
  show bindC kindOf ((p,w)::P.zip vs) m x=_
  unfold bindC
  exact ji2 (i:=i) (Uc.mp nd).2 (by simpa using h1) (by simpa using h2) hk
def start(N:List Str)(vs:List V):St:=vs.map some++List.replicate (N.length-vs.length) none
def cxOf(CX:CXT)(P:Program)(w:World)(K:PySem.W.Frag)(mg:Str->Option Value)(base:Heap)(N:List Str)(qual:Str)(scope:Scope)(f:Addr)(cd:Value)(A:Around)(outer:List Env)(s:Shared)(H:Hp)(E:XK):Cx where
 prog:=P
 w:=w
 K:=K
 mg:=mg
 base:=base
 A:=A.deeper (envOfC qual scope s.heap.objs.size f cd)
 N:=N
 s₀:=s
 H₀:=H
 env:=envOfC qual scope s.heap.objs.size f cd
 outer:=outer
 stack:=envOfC qual scope s.heap.objs.size f cd::outer
 ex:=[]
 calm:=true
 fn:=λ_=>true
 pn:=[]
 xe:=λe s'=>wpAny (model P w) (A.deeper (envOfC qual scope s.heap.objs.size f cd)) (leaving (envOfC qual scope s.heap.objs.size f cd) e) (λ_ s''=>CX outer H s E e s'') (λe' s''=>CX outer H s E e' s'') s'
theorem jky{sc:Scope}{n:Nat}{x:Str}(h:sc.names.lookup x=some .cell):∃c,(cellsFrom n sc.names []).lookup x=some c:=by
 have q:=PySem.W.cellsFrom_some sc.names n [] (.inl h)
 exact Option.isSome_iff_exists.mp q
theorem jje{CX:CXT}{P:Program}{w:World}{K:PySem.W.Frag}{mg:Str->Option Value}{base:Heap}{N ps:List Str}{qual:Str}{scope:Scope}{f:Addr}{cd:Value}{A:Around}{outer:List Env}{s s1:Shared}{H:Hp}{E:XK}{us:List Value}{vs:List V}
  (S:FnScope N ps scope) (hd:A.handled=none) (e0:Env0 P w K mg base A outer s H) (hl:vs.length=ps.length) (r:Vals vs us)
  (x:InCallC s s.heap.objs.size (bindL (envOfC qual scope s.heap.objs.size f cd).kindOf (ps.zip us) λ_=>none) (cellsFrom (s.heap.objs.size+1) scope.names []) (bindC (envOfC qual scope s.heap.objs.size f cd).kindOf (ps.zip us) λ_=>none) s1) :
  Inv (cxOf CX P w K mg base N qual scope f cd A outer s H E) [] (start N vs) H s1:=by
 have hpl:ps.length<=N.length:=by have:=Om List.length S.pre;rw[Il]at this;omega
 obtain⟨h1,tk,rfl,hk⟩:=x.done
 have noA:∀b:Addr,b∉(cxOf CX P w K mg base N qual scope f cd A outer s H E).ex:=λb z=>absurd (show b∈([]:List Addr)from z) (by simp)
 refine⟨⟨e0.mod,S.kind,rfl,rfl,Ag _,λy z c h1 h2=>?_,λy hy=>?_,λy c _ h=>?_,λ_=>hd,Around.frames_deeper e0.frames,.inr ⟨rfl,rfl⟩,λb z=>absurd z (noA b),e0.bs,e0.bsz,λb _ _=>noA b,λb z=>absurd z (noA b),e0.funs,e0.frf⟩,
  rfl,e0.bare,Un.kept hk,⟨_,x.toInCall.ns,λi y v h1 h2 h3=>?_⟩,λy c h=>⟨_,x.cell y c h⟩,e0.hok.fresh (Ag _),λy c h=>?_,λp hp=>absurd (show p∈([]:List (Addr×Obj))from hp) (by simp),e0.hok.kept hk,?_⟩
 ·exact name_of_addr x.apart (Oh h1) (Oh h2)
 ·have hy:scope.names.lookup y=some .cell\/scope.names.lookup y=some .free:=hy
  rcases hy with hy|hy
  ·exact jky hy
  ·exact absurd rfl (S.nofree _ (Oh hy))
 ·exact Nat.le_of_lt (x.above y c (Oh h))
 ·have hi:i<vs.length:=by
   unfold start at h2
   by_cases hi:i<vs.length
   ·exact hi
   ·rw[Ik (by simpa using hi)]at h2
    rw[List.getElem?_replicate]at h2
    split at h2 <;> cases h2
  have ha:vs[i]?=some v:=by
   unfold start at h2
   rw[Ic (by simpa using hi),A3]at h2
   cases e:vs[i]? with
   |none=>rw[e]at h2;cases h2
   |some a=>rw[e]at h2;cases h2;rfl
  obtain⟨u,hu,rv⟩:=r.get ha
  have hp:ps[i]?=some y:=by
   rw[<-S.pre,List.getElem?_take_of_lt (by omega)];exact h1
  have ndP:ps.Nodup:=by rw[<-S.pre];exact S.nd.sublist (List.take_sublist _ _)
  refine⟨u,rv,?_⟩
  rcases S.par y (A0 hp)with k|k
  ·exact .inl ⟨k,ji4 ndP hp hu k⟩
  ·obtain⟨c,e⟩:=jky (n:=s.heap.objs.size+1) k
   refine .inr ⟨.inl k,c,e,?_⟩
   have q:=x.cell y c e
   rw[ji2 ndP hp hu (by show scope.names.lookup y≠_;rw[k];decide)]at q
   exact q
 ·exact e0.hok.fresh (Nat.le_of_lt (x.above y c (Oh h)))
 ·unfold start
  show _=N.length
  rw[Ap,Ae,List.length_replicate]
  omega
theorem jn4{CX:CXT}{P:Program}{w:World}{K:PySem.W.Frag}{mg:Str->Option Value}{base:Heap}{k:Nat}{f:Addr}{name qual:Str}{params:Arguments}{body:List Stmt}{scope:Scope}{dV kV doc pm cdv ct oc:Value}{an od:Option Addr}
  {osl:Array (Option Value)}{N ps:List Str}{sp:Sp} (lk:K.lookup f=some ⟨oc,od,.func (PySem.W.fnOf name qual params body scope dV kV doc pm an cdv ct),osl⟩) (hcd:PySem.W.codeIn K cdv qual=true) (S:FnScope N ps scope)
  (len:∀vs H Q E,sp vs H Q E->vs.length=ps.length)
  (hbody:∀(A:Around)(outer:List Env)(s:Shared)(H:Hp)(vs:List V)(Q:VK)(E:XK),Room k (A.deeper (envOfC qual scope s.heap.objs.size f cdv))->sp vs H Q E ->
   ∃t,PSs (cxOf CX P w K mg base N qual scope f cdv A outer s H E) body t/\t {nx:=λ_ H'=>Q .non H',rt:=Q} (start N vs) H) :
  FnOk P w K mg base CX (k+1) f (PySem.W.fnOf name qual params body scope dV kV doc pm an cdv ct) ps sp:=by
 refine⟨len,λA outer s H args us vs Q E hr e0 hb r hsp=>?_⟩
 have hl:=len _ _ _ _ hsp
 have KX:K.In s.heap:=e0.mod.kin.keeps λb o e=>(e0.bs b o e).1
 have lim:s.heap.NoLimit:=e0.mod.nolimit.keeps λb o e=>(e0.bs b o e).1
 have hkind:∀y∈ps.zip us,scope.names.lookup y.1=some .local\/(scope.names.lookup y.1=some .cell/\((cellsFrom (s.heap.objs.size+1) scope.names []).lookup y.1).isSome=true):=fun⟨n,v⟩ hy=>by
  rcases S.par n (W3 hy).1 with q|q
  ·exact .inl q
  ·exact .inr ⟨q,PySem.W.cellsFrom_some _ _ _ (.inl q)⟩
 refine codeAny_call_function hr.depth (KX _ _ lk) rfl S.co S.gen rfl (PySem.W.codeRec_of KX hcd) (hb _ _ _ _ ?_)
 refine wpAny_newFunctionEnv_cells S.kind hkind λenv he s1 x=>?_
 subst he
 refine⟨lim.keeps x.toInCall.keep,codeAny_func ?_⟩
 obtain⟨t,ht,hq⟩:=hbody A outer s H vs Q E (hr.deeper _) hsp
 have I:Inv (cxOf CX P w K mg base N qual scope f cdv A outer s H E) [] (start N vs) H s1:=jje S hr.hd e0 hl r x
 refine Iy (ht [] s1 (start N vs) H _ I hq) (λfl s' hs=>?_) λe s' hs=>hs
 have fin:∀{σ':St}{H':Hp}{v:V}{u:Value},Inv (cxOf CX P w K mg base N qual scope f cdv A outer s H E) [] σ' H' s'->RelV v u->Q v H'->CE outer P w H s Q u s' :=
  fun{σ' H' v u} J rv q=>⟨v,H',J.os,J.bare,J.base,J.hok,rv,q⟩
 cases fl with
 |ret u =>
  obtain⟨v,σ',H',J,rv,q⟩:=hs
  exact fin J rv q
 |next =>
  obtain⟨σ',H',J,q⟩:=hs
  exact fin (v:=V.non) (u:=Value.none) J rfl q
 |brk =>
  obtain⟨_,_,_,q⟩:=hs
  exact False.elim q
 |cont =>
  obtain⟨_,_,_,q⟩:=hs
  exact False.elim q
section
variable{X:Cx}{x:Str}{p pos:Pos}{e:Expr}{es:List Expr}{t:TA}{id T:String}{r:List V->Hp->VK->Prop}
def tCB(r:List V->Hp->VK->Prop)(t:TA):TE:=λσ H Q=>t σ H λvs H1=>r vs H1 Q
theorem pe_callB(hc:jdf X (.builtin id) r)(hg:Gl X x)(hm:X.mg x=none)(hv:bootBuiltins x=some (.builtin id))(ha:PA X (e::es) t)(hn:x≠"__name__":=by decide)(hdb:(x == ("__debug__":Str))=false:=by decide)
  (he:starEach (e::es) X.env=(false,eval e X.env)::starEach es X.env:=by rfl) (hpl:(backTo pos (starEach es X.env)).any (·.1)=false:=by rfl):PE X (.Call (.Name x p) (e::es) [] pos) (tCB r t):=by
 intro pins s σ H Q I h
 refine Ir (jef I hg hm hv ?_ hn hdb)
 exact PyProof.Rows.callWith_builtin1 (thn (ha pos pins s σ H _ I h) λus s1 ⟨vs,H1,I1,r1,q1⟩=>hc pins s1 σ H1 vs us Q I1 r1 q1) he hpl
theorem pe_callTy(hc:jdf X (.type T) r)(hg:Gl X x)(hm:X.mg x=none)(hv:bootBuiltins x=some (.type T))(ha:PA X (e::es) t)(hn:x≠"__name__":=by decide)(hdb:(x == ("__debug__":Str))=false:=by decide)
  (he:starEach (e::es) X.env=(false,eval e X.env)::starEach es X.env:=by rfl) (hpl:(backTo pos (starEach es X.env)).any (·.1)=false:=by rfl):PE X (.Call (.Name x p) (e::es) [] pos) (tCB r t):=by
 intro pins s σ H Q I h
 refine Ir (jef I hg hm hv ?_ hn hdb)
 exact Iw (thn (ha pos pins s σ H _ I h) λus s1 ⟨vs,H1,I1,r1,q1⟩=>hc pins s1 σ H1 vs us Q I1 r1 q1) he hpl
end
end L2
namespace HT
open PySem PyProof.Rows
section
variable{prog:Program}{w:World}{A:Around}{E:Value->Shared->Prop}{s:Shared}
theorem cat_tup{t b:Addr}{vs ws:List Value}{Q:Value->Shared->Prop}(ht:IsTup s.heap t vs.toArray)(hb:IsTup s.heap b ws.toArray)(hv:vs≠[])
  (h1:ws=[]->Q (.ref t) s) (h2:ws≠[]->Q (.ref s.heap.objs.size) {s with heap:=s.heap.push {cls:=.type "tuple",data:=.seq (vs++ws).toArray}})
  (hsz:vs.length+ws.length<=sizeLine):wpAny (model prog w) A (binaryOp .Add (.ref t) (.ref b)) Q E s:=by
 obtain⟨⟨cls,dd,data,sl⟩,ho,hc,n,hd⟩:=id ht
 obtain⟨⟨cls2,dd2,data2,sl2⟩,ho2,hc2,n2,hd2⟩:=id hb
 simp only at hc hd hc2 hd2
 subst hc hd hc2 hd2
 have e:vs.toArray++ws.toArray=(vs++ws).toArray:=by simp
 by_cases hw:ws=[]
 ·exact concat_meets ⟨_,ho,rfl⟩ ⟨_,ho2,rfl⟩ noFill_tuple_add seq_tuple_add PySem.F.slot_tuple_add PySem.F.entry_tuple_add (PySem.F.args_tuple_add_2 _ _)
   (tuple_addW1 t b vs.toArray ws.toArray n n2 dd dd2 sl sl2 (by simpa using hv) (by simp[hw])) ⟨ho,ho2,h1 hw⟩
 ·refine concat_meets ⟨_,ho,rfl⟩ ⟨_,ho2,rfl⟩ noFill_tuple_add seq_tuple_add PySem.F.slot_tuple_add PySem.F.entry_tuple_add (PySem.F.args_tuple_add_2 _ _)
   (tuple_addW2 t b vs.toArray ws.toArray n n2 dd dd2 sl sl2 (by simpa using hv) (by simpa using hw) (by rw[Aj,Aj];exact hsz)) ⟨ho,ho2,?_⟩
  rw[e]
  exact h2 hw
def sIx(n d:Nat):Option Int->Nat
 |none=>d
 |some v=>if v<0 then(v+(n:Int)).toNat else min v.toNat n
theorem sIx_none(n d:Nat):sIx n d none=d:=rfl
theorem sIx_nat(n d k:Nat):sIx n d (some (k:Int))=min k n:=by
 show(if(k:Int)<0 then((k:Int)+(n:Int)).toNat else min (k:Int).toNat n)=min k n
 rw[Aa (by omega),Int.toNat_natCast]
theorem jts(n d:Nat)(hd:d<=n)(o:Option Int):sIx n d o<=n:=by
 cases o with
 |none=>exact hd
 |some v =>
  show(if v<0 then(v+(n:Int)).toNat else min v.toNat n)<=n
  by_cases hv:v<0
  ·rw[Af hv];omega
  ·rw[Aa hv];exact Nat.min_le_right _ _
theorem jmw(v:Int)(n d:Nat):(if v<0 then max (v+(n:Int)) 0 else min v (n:Int))=((sIx n d (some v):Nat):Int):=by
 show(if v<0 then max (v+(n:Int)) 0 else min v (n:Int))=(((if v<0 then(v+(n:Int)).toNat else min v.toNat n):Nat):Int)
 by_cases hv:v<0
 ·simp only[Af hv];omega
 ·simp only[Aa hv];omega
theorem jny(lo hi:Option Int)(n:Nat):Builtin.Slice.sliceAdjust lo hi 1 (n:Int)=(((sIx n 0 lo:Nat):Int),((sIx n n hi:Nat):Int)):=by
 have h1:¬((1:Int)<0):=by omega
 unfold Builtin.Slice.sliceAdjust
 simp only[h1,Oi]
 refine Prod.ext ?_ ?_
 ·cases lo with
  |none=>rfl
  |some v=>exact jmw v n 0
 ·cases hi with
  |none=>rfl
  |some v=>exact jmw v n n
theorem places_gen(i j:Nat):Builtin.Slice.slicePlaces (i:Int) (j:Int) 1=j-i:=by
 unfold Builtin.Slice.slicePlaces
 have h1:(1:Int)>0:=by omega
 simp only[h1,O5,Int.ediv_one]
 split <;> omega
theorem jh1{v:Value}{o:Option Int}{Q:Option Int->Shared->Prop}(p:IsPart v o)(h:Q o s):wpAny (model prog w) A (Builtin.Slice.slicePartIndex v) Q E s:=by
 cases p with
 |none=>exact slicePart_none h
 |int i t=>exact slicePart_int h
theorem jha{sl:Addr}{vl vu:Value}{lo hi:Option Int}{n:Nat}{Q:Int×Int×Nat->Shared->Prop}(hs:s.heap.IsSliceOf sl vl vu .none)(pl:IsPart vl lo)(pu:IsPart vu hi)
  (h:Q (((sIx n 0 lo:Nat):Int),1,sIx n n hi-sIx n 0 lo) s):wpAny (model prog w) A (Builtin.Slice.sliceApplied (.ref sl) (pure (n:Int))) Q E s:=by
 obtain⟨os,hos,hcs,hds⟩:=id hs
 unfold Builtin.Slice.sliceApplied Builtin.Slice.sliceFields
 refine Ad (Ad (Ux hos hds (x:=vl) rfl (Ad (Ux hos hds (x:=vu) rfl (Ad (Ux hos hds (x:=.none) rfl (Am ?_)))))))
 refine Ad (slicePart_none ?_)
 show wpAny _ _ (if((1:Int) == 0)=true then _ else _) _ _ s
 rw[Aa (by decide)]
 refine Ad (jh1 pl (Ad (jh1 pu (Ad (Am ?_)))))
 show wpAny _ _ (match Builtin.Slice.sliceAdjust lo hi 1 (n:Int)with|(lo,hi)=>pure (lo,(1:Int),Builtin.Slice.slicePlaces lo hi 1)) _ _ s
 rw[jny lo hi n]
 show wpAny _ _ (pure (((sIx n 0 lo:Nat):Int),(1:Int),Builtin.Slice.slicePlaces ((sIx n 0 lo:Nat):Int) ((sIx n n hi:Nat):Int) 1)) _ _ s
 rw[places_gen]
 exact Am h
theorem pick_gen(xs:Array Value)(i k:Nat):((List.range k).filterMap fun(m:Nat)=>xs[((i:Int)+(m:Int)*1).toNat]?).toArray=((xs.toList.drop i).take k).toArray:=by
 have e:(fun(m:Nat)=>xs[((i:Int)+(m:Int)*1).toNat]?)=λm=>xs[i+m]?:=by
  funext m
  have:((i:Int)+(m:Int)*1).toNat=i+m:=by omega
  rw[this]
 rw[e]
 have:=pick_run xs i k
 rw[List.filterMap_map]at this
 have e2:((λx=>xs[x]?)∘λx=>i+x)=λm=>xs[i+m]?:=rfl
 rw[e2]at this
 rw[this]
theorem getItem_tuple_cut{t sl:Addr}{items:Array Value}{vl vu:Value}{lo hi:Option Int}{Q:Value->Shared->Prop}(ht:IsTup s.heap t items)(hs:s.heap.IsSliceOf sl vl vu .none)(pl:IsPart vl lo)(pu:IsPart vu hi)
  (hw:¬(sIx items.size 0 lo=0/\sIx items.size items.size hi=items.size))
  (h:Q (.ref s.heap.objs.size) {s with heap:=s.heap.push {cls:=.type "tuple",data:=.seq ((items.toList.drop (sIx items.size 0 lo)).take (sIx items.size items.size hi-sIx items.size 0 lo)).toArray}})
  (hsz:items.size<=sizeLine):wpAny (model prog w) A (getItem (.ref t) (.ref sl)) Q E s:=by
 have htake:sizeOk (.seq ((items.toList.drop (sIx items.size 0 lo)).take (sIx items.size items.size hi-sIx items.size 0 lo)).toArray):=by
  show((items.toList.drop (sIx items.size 0 lo)).take (sIx items.size items.size hi-sIx items.size 0 lo)).toArray.size<=sizeLine
  rw[Aj,Il,Uk,Array.length_toList]
  omega
 have hj:sIx items.size items.size hi<=items.size:=jts _ _ (Ag _) hi
 obtain⟨os,hos,hcs,hds⟩:=id hs
 have hTs:s.TypeIs (.ref sl) "slice":=⟨os,hos,hcs⟩
 unfold getItem
 try with_reducible refine Ur ?_
 first|refine Ad (Am ?_)|skip
 refine Ad (wpAny_sequenceKey ht.typeIs (by decide) ?_)
 refine Ad (Wo (name:=Str.ofString "__getitem__") ht.typeIs Uq
  (wpAny_call_entry Uq ht.typeIs entry_tuple_getitem ?_ (args_tuple_getitem _ _)))
 show wpAny _ _ (Builtin.Tuple.tupleItemsOf (.ref t) >>= _) _ _ s
 refine Ad (tupleItemsOf_ ht ?_)
 refine Ad (wpAny_typeOf hTs ?_)
 rw[Af (by decide)]
 refine Ad (jha hs pl pu ?_)
 have hno:¬((((sIx items.size 0 lo:Nat):Int) == 0 && (1:Int) == 1 && (sIx items.size items.size hi-sIx items.size 0 lo) == items.size)=true):=by
  intro q
  rw[On,On]at q
  have q1:((sIx items.size 0 lo:Nat):Int)=0:=eq_of_beq q.1.1
  have q2:sIx items.size items.size hi-sIx items.size 0 lo=items.size:=eq_of_beq q.2
  exact hw ⟨by omega,by omega⟩
 show wpAny _ _ (if(((sIx items.size 0 lo:Nat):Int) == 0 && (1:Int) == 1 && (sIx items.size items.size hi-sIx items.size 0 lo) == items.size)=true then _ else _) _ _ s
 rw[Aa hno,pick_gen]
 first
  |exact Ad (m:=Builtin.Tuple.tupleExact _) (O0 (Am ⟨_,rfl,Am h⟩) htake)
  |exact Ad (m:=Builtin.Tuple.tupleExact _) (O0 (Ad (Am (Am ⟨_,rfl,Am h⟩))) htake)
  |exact Ad (Ad (m:=Builtin.Tuple.tupleExact _) (O0 (Am (Am ⟨_,rfl,Am h⟩)) htake))
  |exact Ad (Ad (m:=Builtin.Tuple.tupleExact _) (O0 (Am ⟨_,rfl,Am h⟩) htake))
end
end HT
namespace L2
open PySem PySem.Spec PyProof.Rows
abbrev TO:=St->Hp->(Option Int->Hp->Prop)->Prop
def PO(X:Cx)(e:Option Expr)(t:TO):Prop :=
 ∀(pins:List (Addr×Obj))(s:Shared)(σ:St)(H:Hp)(Q:Option Int->Hp->Prop),Inv X pins σ H s->t σ H Q ->
  wpAny (model X.prog X.w) X.A (evalPart e X.env) (λu s'=>∃o H',Inv X pins σ H' s'/\IsPart u o/\Q o H') X.xe s
def jgn:TO:=λ_ H Q=>Q none H
def jkt(t:TE):TO:=λσ H Q=>t σ H λx H1=>∃i,x=.int i/\Q (some i) H1
section
variable{X:Cx}{e:Expr}{te:TE}{lo hi:Option Expr}{tl th:TO}{pos p2:Pos}
theorem po_none:PO X none jgn:=by
 intro pins s σ H Q I h
 rw[evalPart_none]
 exact Am ⟨none,H,I,.none,h⟩
theorem po_some(h:PE X e te):PO X (some e) (jkt te):=by
 intro pins s σ H Q I hw
 rw[evalPart_some]
 refine thn (h pins s σ H _ I hw) λu s1 ⟨x,H1,I1,r1,q1⟩=>?_
 obtain⟨i,rfl,q⟩:=q1
 obtain⟨t,rfl⟩:=r1
 exact⟨some i,H1,I1,.int i t,q⟩
def SlR(X:Cx)(r:V->Option Int->Option Int->Hp->VK->Prop):Prop :=
 ∀(pins:List (Addr×Obj))(s:Shared)(σ:St)(H:Hp)(x:V)(v vl vu:Value)(lo hi:Option Int)(sl:Addr)(Q:VK),Inv X pins σ H s->RelV x v->s.heap.IsSliceOf sl vl vu .none->IsPart vl lo->IsPart vu hi->r x lo hi H Q ->
  ∃T id,typeLookup (.type T) "__getitem__"=pure (some (.builtin id))/\s.TypeIs v T/\wpAny (model X.prog X.w) X.A (getItem v (.ref sl)) (EP X pins σ Q) X.xe s
def tSl(r:V->Option Int->Option Int->Hp->VK->Prop)(te:TE)(tl th:TO):TE:=λσ H Q=>te σ H λx H1=>tl σ H1 λl H2=>th σ H2 λu H3=>r x l u H3 Q
theorem pe_slice{r:V->Option Int->Option Int->Hp->VK->Prop}(hr:SlR X r)(he:PE X e te)(hl:PO X lo tl)(hu:PO X hi th):PE X (.Subscript e (.Slice lo hi none p2) pos) (tSl r te tl th):=by
 intro pins s σ H Q I h
 refine Subscript_ (thn (he pins s σ H _ I h) λv s1 ⟨x,H1,I1,r1,q1⟩=>?_)
 refine wpAny_Slice (thn (hl pins s1 σ H1 _ I1 q1) λvl s2 ⟨l,H2,I2,pl,q2⟩=>thn (hu pins s2 σ H2 _ I2 q2) λvu s3 ⟨u,H3,I3,pu,q3⟩=>?_)
 rw[evalPart_none]
 refine Am ?_
 have I4:Inv X pins σ H3 {s3 with heap:=s3.heap.push {cls:=.type "slice",data:=.fields #[vl,vu,.none]}}:=I3.kept (t':=s3.toks) λb ob q=>Ac _ q
 obtain⟨T,id,hT,ht,hg⟩:=hr pins {s3 with heap:=s3.heap.push {cls:=.type "slice",data:=.fields #[vl,vu,.none]}} σ H3 x v vl vu l u s3.heap.objs.size Q I4 r1 (Heap.IsSliceOf.new ..) pl pu q3
 show wpAny (model X.prog X.w) X.A (subscriptTail e (.Slice lo hi none p2) v (.ref s3.heap.objs.size)) (EP X pins σ Q) X.xe {s3 with heap:=s3.heap.push {cls:=.type "slice",data:=.fields #[vl,vu,.none]}}
 exact tail_any (ops:=[.ref s3.heap.objs.size,v]) ht hT hg (by with_unfolding_all rfl)
def cutV(xs:List V)(lo hi:Option Int):List V:=(xs.drop (HT.sIx xs.length 0 lo)).take (HT.sIx xs.length xs.length hi-HT.sIx xs.length 0 lo)
theorem jgt(xs:List V)(lo hi:Option Int):(cutV xs lo hi).length<=xs.length:=by
 unfold cutV
 rw[Il,Uk]
 omega
def rSlT(K:PySem.W.Frag):V->Option Int->Option Int->Hp->VK->Prop:=λx lo hi H Q=>∃a xs,x=.ref a/\SqT K H a xs /\
 ¬(HT.sIx xs.length 0 lo=0/\HT.sIx xs.length xs.length hi=xs.length)/\∀p,H p=none->Q (.ref p) (upd H p (.tup (cutV xs lo hi)))
theorem sl_tup:SlR X (rSlT X.K):=by
 intro pins s σ H x v vl vu lo hi sl Q I rx hs pl pu h
 obtain⟨a,xs,rfl,hx,hw,q⟩:=h
 cases rx
 obtain⟨its,r,ht,hz⟩:=I.tuple hx
 have hlen:its.toArray.size=xs.length:=by rw[Aj];exact r.length.symm
 refine⟨"tuple",_,Uq.lookup,ht.typeIs,?_⟩
 refine HT.getItem_tuple_cut ht hs pl pu (by rw[hlen];exact hw) ?_ (by rw[hlen];exact hz)
 rw[hlen]
 refine⟨.ref s.heap.objs.size,_,I.laid (t':=s.toks) (o:=.tup (cutV xs lo hi)) (λb ob q=>Ac _ q) (Ag _) ?_,rfl,q _ (I.hok.fresh (Ag _))⟩
 exact⟨A7 (jgt xs lo hi) hz,_,(r.drop (HT.sIx xs.length 0 lo)).take (HT.sIx xs.length xs.length hi-HT.sIx xs.length 0 lo),IsTup.new _ _⟩
def juj(K:PySem.W.Frag):R2:=λx y H Q=>∃a b xs ys,x=.ref a/\y=.ref b/\SqT K H a xs/\SqT K H b ys/\xs≠[]/\xs.length+ys.length<=sizeLine /\
 (ys=[]->Q (.ref a) H)/\(ys≠[]->∀p,H p=none->Q (.ref p) (upd H p (.tup (xs++ys))))
theorem Vals.nil_iff{xs:List V}{us:List Value}(r:Vals xs us):us=[]↔xs=[]:=by
 cases r with
 |nil=>simp
 |cons _ _=>simp
theorem op_catT:OpR X (binaryOp .Add) (juj X.K):=by
 intro pins s σ H x y v u Q I rx ry h
 obtain⟨a,b,xs,ys,rfl,rfl,ha,hb,hx,hz,q1,q2⟩:=h
 cases rx
 cases ry
 obtain⟨its,r1,p1,_⟩:=I.tuple ha
 obtain⟨its2,r2,p2,_⟩:=I.tuple hb
 refine HT.cat_tup p1 p2 (λz=>hx (r1.nil_iff.mp z)) (λz=>⟨.ref a,H,I,rfl,q1 (r2.nil_iff.mp z)⟩) (λz=>?_) (by rw[<-r1.length,<-r2.length];exact hz)
 refine⟨.ref s.heap.objs.size,_,I.laid (t':=s.toks) (o:=.tup (xs++ys)) (λb ob q=>Ac _ q) (Ag _) ?_,rfl,q2 (λw=>z (r2.nil_iff.mpr w)) _ (I.hok.fresh (Ag _))⟩
 exact⟨by rw[Ap];exact hz,_,r1.append r2,IsTup.new _ _⟩
end
def ixN(n:Nat)(i:Int):Option Nat:=if 0<=i then(if i<n then some i.toNat else none)else if -(n:Int)<=i then some (i+n).toNat else none
def atI{α:Type}(xs:List α)(i:Int):Option α:=(ixN xs.length i).bind λj=>xs[j]?
theorem jm6{n:Nat}{i:Int}{j:Nat}(h:ixN n i=some j):seqIndex? i n=some j/\j<n/\-(n:Int)<=i/\i<n:=by
 unfold ixN at h
 by_cases h0:0<=i
 ·rw[Af h0]at h
  by_cases h1:i<n
  ·rw[Af h1]at h
   have e:i.toNat=j:=Az h
   exact⟨by rw[seqIndex_of h0 h1,e],by omega,by omega,h1⟩
  ·rw[Aa h1]at h;cases h
 ·rw[Aa h0]at h
  by_cases h1:-(n:Int)<=i
  ·rw[Af h1]at h
   have e:(i+n).toNat=j:=Az h
   exact⟨by rw[seqIndex_neg (by omega) h1,e],by omega,h1,by omega⟩
  ·rw[Aa h1]at h;cases h
theorem jif{α:Type}{xs:List α}{i:Int}{v:α}(h:atI xs i=some v):∃j,seqIndex? i xs.length=some j/\xs[j]?=some v/\j<xs.length/\-(xs.length:Int)<=i/\i<xs.length:=by
 unfold atI at h
 cases e:ixN xs.length i with
 |none=>rw[e]at h;cases h
 |some j =>
  rw[e]at h
  obtain⟨h1,h2,h3,h4⟩:=jm6 e
  exact⟨j,h1,h,h2,h3,h4⟩
theorem jfa{α:Type}{xs:List α}{j:Nat}{v:α}(h:xs[j]?=some v):atI xs (j:Int)=some v:=by
 have hj:j<xs.length:=(Ab.mp h).1
 have e:ixN xs.length (j:Int)=some j:=by
  unfold ixN
  rw[Af (by omega),Af (by omega)];simp
 unfold atI;rw[e];exact h
theorem jgz{α:Type}(xs:List α)(v:α):atI (xs++[v]) (-1)=some v:=by
 have hl:(xs++[v]).length=xs.length+1:=by simp
 have e:ixN (xs++[v]).length (-1)=some xs.length:=by
  unfold ixN
  rw[hl,Aa (by decide),Af (by omega)]
  congr 1
  omega
 unfold atI
 rw[e]
 show(xs++[v])[xs.length]?=some v
 simp
def jmr(b:Expr):Prop:=∀o i,subscripted b false o i=operate [o,i] (getItem o i)
def IxR(X:Cx)(r:R2):Prop :=
 ∀(value slice:Expr)(pins:List (Addr×Obj))(s:Shared)(σ:St)(H:Hp)(x y:V)(v u:Value)(Q:VK),Inv X pins σ H s->RelV x v->RelV y u->r x y H Q ->
  subscripted slice false v u=operate [v,u] (getItem v u)->wpAny (model X.prog X.w) X.A (subscriptTail value slice v u) (EP X pins σ Q) X.xe s
def MtR(X:Cx)(id:String)(r:V->List V->Hp->VK->Prop):Prop :=
 ∀(pins:List (Addr×Obj))(s:Shared)(σ:St)(H:Hp)(x:V)(xs:List V)(v:Value)(us:List Value)(Q:VK),Inv X pins σ H s->RelV x v->Vals xs us->r x xs H Q ->
  wpAny (model X.prog X.w) X.A (call (.builtin id) (v::us)) (EP X pins σ Q) X.xe s
section
variable{X:Cx}{a b:Expr}{ta tb:TE}{pos:Pos}
theorem IxR.or{r r':R2}(h:IxR X r)(h':IxR X r'):IxR X (λx y H Q=>r x y H Q\/r' x y H Q):=by
 intro value slice pins s σ H x y v u Q I rx ry q hs
 rcases q with q|q
 ·exact h value slice pins s σ H x y v u Q I rx ry q hs
 ·exact h' value slice pins s σ H x y v u Q I rx ry q hs
theorem pe_ix{r:R2}(hr:IxR X r)(ha:PE X a ta)(hb:PE X b tb)(hs:jmr b):PE X (.Subscript a b pos) (tOp r ta tb):=by
 intro pins s σ H Q I h
 exact Subscript_ (binT ha hb I h λv u s2 x y H2 I2 rx ry q=>hr a b pins s2 σ H2 x y v u Q I2 rx ry q (hs _ _))
def rIxL(K:PySem.W.Frag):R2:=λx y H Q=>∃p xs i v,x=.ref p/\y=.int i/\SqL K H p xs/\atI xs i=some v/\Q v H
def rIxT(K:PySem.W.Frag):R2:=λx y H Q=>∃p xs i v,x=.ref p/\y=.int i/\SqT K H p xs/\atI xs i=some v/\Q v H
def rIxS:R2:=λx y H Q=>∃z i c,x=.str z/\y=.int i/\z.length<=sizeLine/\atI z.cps.toList i=some c/\Q (.str ⟨#[c]⟩) H
theorem jca:IxR X (rIxL X.K):=by
 intro value slice pins s σ H x y v u Q I rx ry h hs
 obtain⟨p,xs,i,z,rfl,rfl,hq,he,q⟩:=h
 cases rx
 obtain⟨t,rfl⟩:=ry
 obtain⟨its,r,pl,hz⟩:=I.list hq
 obtain⟨j,h1,h2,h3,h4,h5⟩:=jif he
 obtain⟨w,ew,rw'⟩:=r.get h2
 have hl:=r.length
 have hn:=jer
 have fin:EP X pins σ Q w s:=⟨z,H,I,rw',q⟩
 by_cases h0:0<=i
 ·have hj:i.toNat=j:=by
   rw[seqIndex_of h0 h5]at h1
   exact Az h1
  exact item_listR pl.isList h0 (by omega) (by rw[hj];simpa using ew) fin hs
 ·have hj:(i+(its.toArray.size:Int)).toNat=j:=by
   rw[seqIndex_neg (by omega) h4]at h1
   rw[Aj,<-hl]
   exact Az h1
  exact subscriptTail_builtinR (x:=w) pl.isList.typeIs slot_list_getitem.lookup
   (wpAny_getItem_list_neg (Q:=λr s'=>r=w/\EP X pins σ Q r s') pl.isList (by omega) (by rw[Aj] <;> omega) (by omega) (by rw[hj];simpa using ew) ⟨rfl,fin⟩) hs
theorem jc4:IxR X (rIxT X.K):=by
 intro value slice pins s σ H x y v u Q I rx ry h hs
 obtain⟨p,xs,i,z,rfl,rfl,hq,he,q⟩:=h
 cases rx
 obtain⟨t,rfl⟩:=ry
 obtain⟨its,r,pl,hz⟩:=I.tuple hq
 obtain⟨j,h1,h2,h3,h4,h5⟩:=jif he
 obtain⟨w,ew,rw'⟩:=r.get h2
 have hl:=r.length
 have hn:=jer
 have fin:EP X pins σ Q w s:=⟨z,H,I,rw',q⟩
 exact subscriptTail_builtinR (x:=w) pl.typeIs slot_tuple_getitem.lookup
  (getItem_tuple (j:=j) (Q:=λr s'=>r=w/\EP X pins σ Q r s') pl (by omega) (by omega) (by rw[Aj,<-hl];exact h1) (by simpa using ew) ⟨rfl,fin⟩) hs
theorem ix_str:IxR X rIxS:=by
 intro value slice pins s σ H x y v u Q I rx ry h hs
 obtain⟨z,i,c,rfl,rfl,hz,he,q⟩:=h
 obtain⟨t,rfl⟩:=rx
 obtain⟨t',rfl⟩:=ry
 obtain⟨j,h1,h2,h3,h4,h5⟩:=jif he
 have hl:z.cps.toList.length=z.length:=by simp[Str.length]
 rw[hl]at h1 h4 h5
 have hn:=jer
 exact tail_any (typeIs_str s z t) slot_str_getitem.lookup (getItem_str (c:=c) (by
  have e1:decide (i < -(2^63:Int))=false:=Ia (by omega)
  have e2:decide (i ≥ 2^63)=false:=Ia (by omega)
  rw[e1,e2,Bool.or_false]) (by rw[h1];simpa using h2) ⟨.str ⟨#[c]⟩,H,I.tok _,⟨_,rfl⟩,q⟩) hs
theorem joa(its:List Value)(n j:Nat)(u:Value):Obj.mapSeq (·.setIfInBounds j u) {cls:=.type "list",data:=.seq its.toArray n}={cls:=.type "list",data:=.seq (its.set j u).toArray n}:=by
 simp[Obj.mapSeq]
theorem Inv.lst{pins:List (Addr×Obj)}{σ:St}{H:Hp}{s:Shared}{p:Addr}{xs:List V}(I:Inv X pins σ H s)(h:H p=some (.lst xs)) :
  ∃(its:List Value)(n:Nat),Vals xs its/\s.heap.get? p=some {cls:=.type "list",data:=.seq its.toArray n}/\xs.length<=sizeLine:=by
 obtain⟨z,its,n,r,e⟩:=I.hok p _ h
 exact⟨its,n,r,e,z⟩
theorem Inv.lstUpd{pins:List (Addr×Obj)}{σ:St}{H:Hp}{s:Shared}{p:Addr}{xs ys:List V}{its its':List Value}{n n':Nat}{f:Obj->Obj}(I:Inv X pins σ H s)(h:H p=some (.lst xs))
  (ho:s.heap.get? p=some {cls:=.type "list",data:=.seq its.toArray n}) (hf:f {cls:=.type "list",data:=.seq its.toArray n}={cls:=.type "list",data:=.seq its'.toArray n'}) (r:Vals ys its') (hz:ys.length<=sizeLine) (t:Nat) :
  Inv X pins σ (upd H p (.lst ys)) {s with heap:=s.heap.update p f,toks:=t}:=by
 have e:(s.heap.update p f).get? p=some {cls:=.type "list",data:=.seq its'.toArray n'}:=by
  rw[Oc f ho (by rw[hf] <;> rfl),hf]
 refine I.write (x:=p) (e:=p) (by rw[h];trivial) (.inl rfl) (λb u hb q=>(Oa _ _ (Ol hb)).trans q) ⟨_,e⟩ ?_
 exact⟨hz,its',n',r,e⟩
def juk:V->V->V->Hp->(Hp->Prop)->Prop:=λo i v H Q=>∃p xs k j,o=.ref p/\i=.int k/\H p=some (.lst xs)/\ixN xs.length k=some j/\Q (upd H p (.lst (xs.set j v)))
theorem jq6:PSet X juk:=by
 intro pins s σ H o i v ov iv u Q I ro ri rv h
 obtain⟨p,xs,k,j,rfl,rfl,hp,hj,q⟩:=h
 cases ro
 obtain⟨t,rfl⟩:=ri
 obtain⟨its,n,r,ho,hz⟩:=I.lst hp
 obtain⟨h1,h2,h3,h4⟩:=jm6 hj
 have hl:=r.length
 have hn:=jer
 have I':Inv X pins σ (upd H p (.lst (xs.set j v))) {s with heap:=s.heap.update p (Obj.mapSeq (·.setIfInBounds j u))} :=
  I.lstUpd hp ho (joa its n j u) (r.set rv j) (by rw[List.length_set];exact hz) s.toks
 by_cases h0:0<=k
 ·have hk:k.toNat=j:=by
   rw[seqIndex_of h0 h4]at h1
   exact Az h1
  exact PySem.W.ki_setAt ho h0 (by omega) (by rw[Aj,<-hl];exact h4) (by rw[hk];exact⟨_,I',q⟩)
 ·have hk:(k+(its.toArray.size:Int)).toNat=j:=by
   rw[seqIndex_neg (by omega) h3]at h1
   rw[Aj,<-hl]
   exact Az h1
  exact PySem.W.ki_setBack ho (by omega) (by rw[Aj,<-hl];exact h3) (by omega) (by rw[hk];exact⟨_,I',q⟩)
theorem jl4(lo hi:Option Int)(n:Nat):(sliceBounds lo hi none n).1=((HT.sIx n 0 lo:Nat):Int)/\(sliceBounds lo hi none n).2.1=((HT.sIx n n hi:Nat):Int)/\(sliceBounds lo hi none n).2.2=1:=by
 refine⟨?_,?_,rfl⟩
 ·cases lo with
  |none=>simp[sliceBounds,HT.sIx]
  |some i =>
   simp only[sliceBounds,HT.sIx,Option.getD_none,show(1:Int)>0 by decide,O5]
   by_cases h:i<0
   ·simp only[h,O5] <;> omega
   ·simp only[h,Oi] <;> omega
 ·cases hi with
  |none=>simp[sliceBounds,HT.sIx]
  |some i =>
   simp only[sliceBounds,HT.sIx,Option.getD_none,show(1:Int)>0 by decide,O5]
   by_cases h:i<0
   ·simp only[h,O5] <;> omega
   ·simp only[h,Oi] <;> omega
theorem jj7(its:List Value)(lo hi:Option Int):slicePick its.toArray lo hi none=((its.drop (HT.sIx its.length 0 lo)).take (HT.sIx its.length its.length hi-HT.sIx its.length 0 lo)).toArray:=by
 obtain⟨h1,h2,h3⟩:=jl4 lo hi its.toArray.size
 unfold slicePick
 rw[h1,h2,h3]
 simp only[sliceRange_one,pick_run,Aj] <;> rfl
def rSlL(K:PySem.W.Frag):V->Option Int->Option Int->Hp->VK->Prop:=λx lo hi H Q=>∃a xs,x=.ref a/\SqL K H a xs/\∀p,H p=none->Q (.ref p) (upd H p (.lst (cutV xs lo hi)))
theorem sl_list:SlR X (rSlL X.K):=by
 intro pins s σ H x v vl vu lo hi sl Q I rx hs pl pu h
 obtain⟨a,xs,rfl,hx,q⟩:=h
 cases rx
 obtain⟨its,r,ht,hz⟩:=I.list hx
 have hlen:=r.length
 refine⟨"list",_,slot_list_getitem.lookup,ht.isList.typeIs,?_⟩
 refine wpAny_getItem_list_slice ht.isList hs pl pu .none (by simp) ?_ (by rw[Aj] <;> omega)
 rw[jj7,<-hlen]
 refine⟨.ref s.heap.objs.size,_,I.laid (t':=s.toks) (o:=.lst (cutV xs lo hi)) (λb ob q=>Ac _ q) (Ag _) ?_,rfl,q _ (I.hok.fresh (Ag _))⟩
 exact⟨A7 (jgt xs lo hi) hz,_,0,(r.drop (HT.sIx xs.length 0 lo)).take (HT.sIx xs.length xs.length hi-HT.sIx xs.length 0 lo),At _ rfl⟩
def jdx:V->Bool
 |.non=>true
 |.bl _=>true
 |.int _=>true
 |.str _=>true
 |_=>false
def eqV:V->V->Bool
 |.non,.non=>true
 |.bl a,.bl b=>a == b
 |.bl a,.int b=>(if a then 1 else 0) == b
 |.int a,.bl b=>a == (if b then 1 else 0)
 |.int a,.int b=>a == b
 |.str a,.str b=>a == b
 |_,_=>false
theorem js7{A:Around}{s:Shared}{y x:V}{u v:Value}(ry:RelV y u)(rx:RelV x v)(fy:jdx y=true)(fx:jdx x=true):SeqAt.EqAt A s u v (eqV y x):=by
 cases y with
 |non =>
  cases ry
  cases x with
  |non=>cases rx;exact SeqAt.EqAt.same _
  |bl b=>cases rx;exact SeqAt.EqAt.none_bool b
  |int b=>obtain⟨t,rfl⟩:=rx;exact SeqAt.EqAt.none_int b t
  |str b=>obtain⟨t,rfl⟩:=rx;exact SeqAt.EqAt.none_str b t
  |_=>exact absurd (show false=true from fx) A2
 |bl a =>
  cases ry
  cases x with
  |non=>cases rx;exact SeqAt.EqAt.bool_none a
  |bl b=>cases rx;exact SeqAt.EqAt.bool_bool a b
  |int b=>obtain⟨t,rfl⟩:=rx;exact SeqAt.EqAt.bool_int a b t
  |str b=>obtain⟨t,rfl⟩:=rx;exact SeqAt.EqAt.bool_str a b t
  |_=>exact absurd (show false=true from fx) A2
 |int a =>
  obtain⟨t',rfl⟩:=ry
  cases x with
  |non=>cases rx;exact SeqAt.EqAt.int_none a t'
  |bl b=>cases rx;exact SeqAt.EqAt.int_bool a t' b
  |int b=>obtain⟨t,rfl⟩:=rx;exact SeqAt.EqAt.int_int a t' b t
  |str b=>obtain⟨t,rfl⟩:=rx;exact SeqAt.EqAt.int_str a t' b t
  |_=>exact absurd (show false=true from fx) A2
 |str a =>
  obtain⟨t',rfl⟩:=ry
  cases x with
  |non=>cases rx;exact SeqAt.EqAt.str_none a t'
  |bl b=>cases rx;exact SeqAt.EqAt.str_bool a t' b
  |int b=>obtain⟨t,rfl⟩:=rx;exact SeqAt.EqAt.str_int a t' b t
  |str b=>obtain⟨t,rfl⟩:=rx;exact SeqAt.EqAt.str_str a t' b t
  |_=>exact absurd (show false=true from fx) A2
 |_=>exact absurd (show false=true from fy) A2
def eqU(x:V)(u:Value):Bool:=match u with
 |.none=>eqV .non x
 |.bool b=>eqV (.bl b) x
 |.int i _=>eqV (.int i) x
 |.str z _=>eqV (.str z) x
 |_=>false
theorem jo5{x y:V}{u:Value}(r:RelV y u)(f:jdx y=true):eqU x u=eqV y x:=by
 cases y with
 |non=>cases r;rfl
 |bl b=>cases r;rfl
 |int i=>obtain⟨t,rfl⟩:=r;rfl
 |str z=>obtain⟨t,rfl⟩:=r;rfl
 |_=>exact absurd (show false=true from f) A2
theorem je8{x:V}:∀{xs:List V}{us:List Value},Vals xs us->xs.all jdx=true->us.any (eqU x)=xs.any λy=>eqV y x
 |_,_,.nil,_=>rfl
 |y::xs,u::us,.cons r t,f=>by
  rw[List.all_cons,On]at f
  rw[List.any_cons,List.any_cons,jo5 r f.1,je8 t f.2]
theorem jes{A:Around}{s:Shared}{x:V}{v:Value}(rx:RelV x v)(fx:jdx x=true):∀{xs:List V}{us:List Value},Vals xs us->xs.all jdx=true->∀u∈us,SeqAt.EqAt A s u v (eqU x u)
 |_,_,.nil,_=>λu hu=>by cases hu
 |y::xs,u::us,.cons r t,f=>λu' hu=>by
  rw[List.all_cons,On]at f
  rcases Al.mp hu with rfl|hu
  ·rw[jo5 r f.1];exact js7 r rx f.1 fx
  ·exact jes rx fx t f.2 u' hu
def inV(x:V)(xs:List V):Bool:=xs.any λy=>eqV y x
def rIn(K:PySem.W.Frag)(neg:Bool):R2:=λx y H Q=>∃p xs,y=.ref p/\(SqL K H p xs\/SqT K H p xs)/\jdx x=true/\xs.all jdx=true/\Q (.bl (if neg then !inV x xs else inV x xs)) H
theorem op_in_seq:OpR X (compareOp .In) (rIn X.K false):=by
 intro pins s σ H x y v u Q I rx ry h
 obtain⟨p,xs,rfl,hq,fx,fs,q⟩:=h
 cases ry
 rcases hq with hq|hq
 ·obtain⟨its,r,pl,hz⟩:=I.list hq
  refine SeqAt.in_listAt (eqU x) pl.isList (λw hw=>jes rx fx r fs w (by simpa using hw)) ⟨.bl _,H,I,rfl,?_⟩
  rw[show its.toArray.any (eqU x)=its.any (eqU x)by simp,je8 r fs]
  exact q
 ·obtain⟨its,r,pl,hz⟩:=I.tuple hq
  refine SeqAt.in_tupleAt (eqU x) pl (λw hw=>jes rx fx r fs w (by simpa using hw)) ⟨.bl _,H,I,rfl,?_⟩
  rw[show its.toArray.any (eqU x)=its.any (eqU x)by simp,je8 r fs]
  exact q
theorem op_notIn_seq:OpR X (compareOp .NotIn) (rIn X.K true):=by
 intro pins s σ H x y v u Q I rx ry h
 obtain⟨p,xs,rfl,hq,fx,fs,q⟩:=h
 cases ry
 rcases hq with hq|hq
 ·obtain⟨its,r,pl,hz⟩:=I.list hq
  refine SeqAt.notIn_listAt (eqU x) pl.isList (λw hw=>jes rx fx r fs w (by simpa using hw)) ⟨.bl _,H,I,rfl,?_⟩
  rw[show its.toArray.any (eqU x)=its.any (eqU x)by simp,je8 r fs]
  exact q
 ·obtain⟨its,r,pl,hz⟩:=I.tuple hq
  refine SeqAt.notIn_tupleAt (eqU x) pl (λw hw=>jes rx fx r fs w (by simpa using hw)) ⟨.bl _,H,I,rfl,?_⟩
  rw[show its.toArray.any (eqU x)=its.any (eqU x)by simp,je8 r fs]
  exact q
theorem op_notIn_str:OpR X (compareOp .NotIn) (λx y H Q=>∃i j,x=.str i/\y=.str j/\Q (.bl (!(!(Builtin.Str.occurrences j i 0 j.length 1).isEmpty))) H):=by
 intro pins s σ H x y v u Q I rx ry h
 obtain⟨i,j,rfl,rfl,q⟩:=h
 obtain⟨t,rfl⟩:=rx
 obtain⟨t',rfl⟩:=ry
 exact notIn_str ⟨.bl _,H,I,rfl,q⟩
theorem zw:jdf X (.builtin "len") (λxs H Q=>∃p ys,xs=[.ref p]/\(SqL X.K H p ys\/SqT X.K H p ys)/\Q (.int ys.length) H):=by
 intro pins s σ H xs us Q I r h
 obtain⟨p,ys,rfl,hq,q⟩:=h
 obtain⟨u,rfl,rx⟩:=jd5 r
 cases rx
 have hn:=jer
 rcases hq with hq|hq
 ·obtain⟨its,r',pl,hz⟩:=I.list hq
  have hlen:=r'.length
  exact Calls.call_len_list pl.isList (by simp only[Aj] <;> omega) ⟨.int ys.length,H,I.tok _,⟨s.toks+1,by rw[Aj,hlen]⟩,q⟩
 ·obtain⟨its,r',pl,hz⟩:=I.tuple hq
  have hlen:=r'.length
  exact len_tuple pl (by simp only[Aj] <;> omega) ⟨.int ys.length,H,I.tok _,⟨s.toks+1,by rw[Aj,hlen]⟩,q⟩
theorem call_len_str:jdf X (.builtin "len") (λxs H Q=>∃z,xs=[.str z]/\z.length<=sizeLine/\Q (.int z.length) H):=by
 intro pins s σ H xs us Q I r h
 obtain⟨z,rfl,hz,q⟩:=h
 obtain⟨u,rfl,t,rfl⟩:=jd5 r
 have hn:=jer
 exact len_str (by omega) ⟨.int z.length,H,I.tok _,⟨_,rfl⟩,q⟩
theorem jbp:jdf X (.type "list") (λxs H Q=>∃p ys,xs=[.ref p]/\(SqL X.K H p ys\/SqT X.K H p ys)/\∀l,H l=none->Q (.ref l) (upd H l (.lst ys))):=by
 intro pins s σ H xs us Q I r h
 obtain⟨p,ys,rfl,hq,q⟩:=h
 obtain⟨u,rfl,rx⟩:=jd5 r
 cases rx
 have fin:∀(its:List Value),Vals ys its->ys.length<=sizeLine->∀(h':Heap)(c':Nat),(∀b o',s.heap.get? b=some o'->h'.get? b=some o') ->
   h'.get? s.heap.objs.size=some {cls:=.type "list",dict:=none,data:=.seq its.toArray c',slots:=#[]}->EP X pins σ Q (.ref s.heap.objs.size) {s with heap:=h'}:=λits r' hz h' c' kp e =>
  ⟨.ref s.heap.objs.size,_,I.laid (t':=s.toks) kp (Ag _) (show ObjOk X.prog X.w _ h' _ (.lst ys)from⟨hz,its,c',r',e⟩),rfl,q _ (I.hok.fresh (Ag _))⟩
 rcases hq with hq|hq
 ·obtain⟨its,r',pl,hz⟩:=I.list hq
  have hlen:=r'.length
  obtain⟨o,ho,hc,n,hd⟩:=pl.isList
  exact call_list_seq p (.inl rfl) ho hc hd (λh' c' kp e=>fin its r' hz h' c' kp e) (by simp only[Aj] <;> omega)
 ·obtain⟨its,r',pl,hz⟩:=I.tuple hq
  have hlen:=r'.length
  obtain⟨o,ho,hc,n,hd⟩:=pl
  exact call_list_seq p (.inr rfl) ho hc hd (λh' c' kp e=>fin its r' hz h' c' kp e) (by simp only[Aj] <;> omega)
theorem jbm:jdf X (.type "tuple") (λxs H Q=>∃p ys,xs=[.ref p]/\((SqL X.K H p ys/\∀l,H l=none->Q (.ref l) (upd H l (.tup ys)))\/(SqT X.K H p ys/\Q (.ref p) H))):=by
 intro pins s σ H xs us Q I r h
 obtain⟨p,ys,rfl,h⟩:=h
 obtain⟨u,rfl,rx⟩:=jd5 r
 cases rx
 rcases h with⟨hq,q⟩|⟨hq,q⟩
 ·obtain⟨its,r',pl,hz⟩:=I.list hq
  have hlen:=r'.length
  refine call_tuple_list pl.isList (λh' kp=>?_) (by simp only[Aj] <;> omega)
  have I1:Inv X pins σ H {s with heap:=h'}:=I.kept (t':=s.toks) kp
  have I2:Inv X pins σ (upd H h'.objs.size (.tup ys)) {s with heap:=h'.push {cls:=.type "tuple",data:=.seq its.toArray}} :=
   I1.laid (t':=s.toks) (λb o e=>Ac _ e) (Ag _) (show ObjOk X.prog X.w _ _ _ (.tup ys)from⟨hz,its,r',IsTup.new _ _⟩)
  exact⟨.ref h'.objs.size,_,I2,rfl,q _ (I1.hok.fresh (Ag _))⟩
 ·obtain⟨its,r',pl,hz⟩:=I.tuple hq
  exact call_tuple_same pl ⟨.ref p,H,I,rfl,q⟩
def tyV(K:PySem.W.Frag)(T:String)(x:V)(H:Hp):Prop:=match x with
 |.str _=>T="str"
 |.int _=>T="int"
 |.ref p=>(T="list"/\∃xs,SqL K H p xs)\/(T="tuple"/\∃o,K.lookup p=some o/\o.cls=.type "tuple"/\o.dict=none) \/
   (T="dict"/\((∃kvs,H p=some (.dK kvs))\/∃kvs,H p=some (.dT kvs)))\/(T="set"/\∃S n,H p=some (.set S n))
 |_=>False
theorem jp9{pins:List (Addr×Obj)}{σ:St}{H:Hp}{s:Shared}{T:String}{x:V}{v:Value}(I:Inv X pins σ H s)(r:RelV x v)(ty:tyV X.K T x H) :
  s.TypeIs v T/\∀a,v=.ref a->∃ob,s.heap.get? a=some ob/\ob.dict=none:=by
 cases x with
 |str z =>
  obtain⟨t,rfl⟩:=r
  cases(show T="str"from ty)
  exact⟨typeIs_str s z t,λ_ e=>nomatch e⟩
 |int i =>
  obtain⟨t,rfl⟩:=r
  cases(show T="int"from ty)
  exact⟨typeIs_int s i t,λ_ e=>nomatch e⟩
 |ref p =>
  cases r
  rcases ty with⟨rfl,xs,hq⟩|⟨rfl,o,hk,hc,hd⟩|⟨rfl,hk⟩|⟨rfl,S,n,hk⟩
  ·obtain⟨its,_,pl,_⟩:=I.list hq
   refine⟨pl.isList.typeIs,λa e=>?_⟩
   cases e
   obtain⟨o,n,e,c,hd,_⟩:=pl
   exact⟨o,e,hd⟩
  ·refine⟨⟨o,I.kIn p o hk,hc⟩,λa e=>?_⟩
   cases e
   exact⟨o,I.kIn _ o hk,hd⟩
  ·have z:∃o,s.heap.get? p=some o/\o.ExactDict:=by
    rcases hk with⟨kvs,hk⟩|⟨kvs,hk⟩
    ·obtain⟨_,_,_,_,o,_,_,e,ex,_⟩:=I.hok p _ hk
     exact⟨o,e,ex⟩
    ·obtain⟨_,_,_,_,o,_,_,e,ex,_⟩:=I.hok p _ hk
     exact⟨o,e,ex⟩
   obtain⟨o,e,ex⟩:=z
   refine⟨⟨o,e,ex.1⟩,λa e2=>?_⟩
   cases e2
   exact⟨o,e,ex.2.1⟩
  ·obtain⟨o,_,_,_,e,ex,_⟩:=I.hok p _ hk
   refine⟨⟨o,e,ex.1⟩,λa e2=>?_⟩
   cases e2
   exact⟨o,e,ex.2.1⟩
 |_=>exact False.elim ty
def tBM0(K:PySem.W.Frag)(T:String)(r:V->List V->Hp->VK->Prop)(to:TE):TE:=λσ H Q=>to σ H λx H1=>tyV K T x H1/\r x [] H1 Q
def tBM(K:PySem.W.Frag)(T:String)(r:V->List V->Hp->VK->Prop)(to:TE)(t:TA):TE:=λσ H Q=>to σ H λx H1=>tyV K T x H1/\t σ H1 λxs H2=>r x xs H2 Q
variable{o e:Expr}{es:List Expr}{to:TE}{t:TA}{name:Str}{apos cpos:Pos}{T id:String}{r:V->List V->Hp->VK->Prop}
theorem pe_bm0(pa:PlainAttrs T)(slot:Slot T name id)(hty:typeOf (.builtin id)=pure (.type "method_descriptor"))(hm:MtR X id r)(ho:PE X o to)
  (hbase:attributeBase o name X.env (eval o X.env)=eval o X.env:=by rfl) (hline:(apos.endLine == cpos.line)=true:=by rfl):PE X (.Call (.Attribute o name apos) [] [] cpos) (tBM0 X.K T r to):=by
 intro pins s σ H Q I h
 refine wpAny_Call_method0_late hbase hline (thn (ho pins s σ H _ I h) λv s1 ⟨x,H1,I1,r1,ty,q1⟩=>?_)
 obtain⟨h1,h2⟩:=jp9 I1 r1 ty
 exact⟨T,id,pa,slot,hty,h1,h2,Uy rfl (PySem.evalArgs_none (hm pins s1 σ H1 x [] v [] Q I1 r1 .nil q1))⟩
theorem jc7(pa:PlainAttrs T)(slot:Slot T name id)(hty:typeOf (.builtin id)=pure (.type "method_descriptor"))(hm:MtR X id r)(ho:PE X o to)(ha:PA X (e::es) t)
  (hbase:attributeBase o name X.env (eval o X.env)=eval o X.env:=by rfl)
  (hfew:((backTo cpos (starEach (e::es) X.env)).all (λx=>!x.1) && (backToKw cpos (keywordEach [] X.env)).all (λx=>x.1.isSome)
   && decide ((e::es).length+([]:List Keyword).length+(if([]:List Keyword).isEmpty then 0 else 1)<30))=true:=by rfl)
  (hline:(apos.endLine == cpos.line)=true:=by rfl) (hs:starEach (e::es) X.env=(false,eval e X.env)::starEach es X.env:=by rfl) (hplain:(backTo cpos (starEach es X.env)).any (·.1)=false:=by rfl) :
  PE X (.Call (.Attribute o name apos) (e::es) [] cpos) (tBM X.K T r to t):=by
 intro pins s σ H Q I h
 refine wpAny_Call_method_late hbase hfew hline rfl (thn (ho pins s σ H _ I h) λv s1 ⟨x,H1,I1,r1,ty,q1⟩=>?_)
 obtain⟨h1,h2⟩:=jp9 I1 r1 ty
 refine⟨T,id,pa,slot,hty,h1,h2,?_⟩
 have hA:=ha cpos pins s1 σ H1 _ I1 q1
 rw[hs]at hA⊢
 refine Uy (by show(false || (backTo cpos (starEach es X.env)).any (·.1))=false;rw[hplain] <;> rfl) (W6 ?_)
 exact thn hA λus s2 ⟨vs,H2,I2,r2,q2⟩=>hm pins s2 σ H2 x vs v us Q I2 r1 r2 q2
end
def MtM(X:Cx)(id:String)(r:V->List V->Hp->VK->Prop):Prop :=
 ∀(pins:List (Addr×Obj))(s:Shared)(σ:St)(H:Hp)(x:V)(xs:List V)(v:Value)(us:List Value)(Q:VK),Inv X pins σ H s->RelV x v->Vals xs us->r x xs H Q ->
  wpAny (model X.prog X.w) X.A (call (.builtin id) (v::us)) (EP X pins σ Q) X.xe s
theorem Vals.one{x:V}{us:List Value}(h:Vals [x] us):∃u,us=[u]/\RelV x u:=jd5 h
theorem Vals.zero:∀{us:List Value},Vals [] us->us=[]
 |_,.nil=>rfl
theorem Vals.dropLast{xs:List V}{us:List Value}(h:Vals xs us):Vals xs.dropLast us.dropLast:=by
 induction h with
 |nil=>exact .nil
 |cons r t ih =>
  cases t with
  |nil=>exact .nil
  |cons q t'=>exact .cons r ih
theorem Vals.eraseIdx:∀{xs:List V}{us:List Value}(i:Nat),Vals xs us->Vals (xs.eraseIdx i) (us.eraseIdx i)
 |_,_,_,.nil=>.nil
 |_,_,0,.cons _ t=>t
 |_,_,i+1,.cons r t=>.cons r (Vals.eraseIdx i t)
theorem Vals.rep{xs:List V}{us:List Value}(h:Vals xs us):∀k:Nat,Vals (List.replicate k xs).flatten (List.replicate k us).flatten
 |0=>.nil
 |k+1=>by
  rw[List.replicate_succ,List.replicate_succ,List.flatten_cons,List.flatten_cons]
  exact Vals.append h (Vals.rep h k)
theorem jn3{α:Type}(l:List α):l.eraseIdx (l.length-1)=l.dropLast:=by
 induction l with
 |nil=>rfl
 |cons a r ih =>
  cases r with
  |nil=>rfl
  |cons b r =>
   have e:(a::b::r).length-1=((b::r).length-1)+1:=by
    have h1:(a::b::r).length=r.length+2:=rfl
    have h2:(b::r).length=r.length+1:=rfl
    omega
   rw[e,List.eraseIdx_cons_succ,ih]
   all_goals rfl
theorem jjg{α:Type}:∀(l:List α)(i:Nat),(l.eraseIdx i).length<=l.length
 |[],_=>Ag _
 |_::_,0=>Nat.le_succ _
 |_::r,i+1=>Nat.succ_le_succ (jjg r i)
theorem jjb(its:List Value):∀(k:Nat)(acc:List Value),
  List.foldl (λx1 x2=>x1++x2) acc.toArray (List.replicate k its.toArray)=(acc++(List.replicate k its).flatten).toArray
 |0,acc=>by simp
 |k+1,acc=>by
  have e:acc.toArray++its.toArray=(acc++its).toArray:=by simp
  have e2:(acc++its)++(List.replicate k its).flatten=acc++(List.replicate (k+1) its).flatten:=by
   rw[List.replicate_succ,List.flatten_cons,A9]
  rw[<-e2,<-jjb its k (acc++its),<-e,List.replicate_succ,List.foldl_cons]
section
variable{X:Cx}{pins:List (Addr×Obj)}{σ:St}{H:Hp}{s:Shared}{l b:Addr}{xs ys zs:List V}
theorem Inv.lset{its its':List Value}{n:Nat}{f:Array Value->Array Value}{t':Nat}(I:Inv X pins σ H s)(hH:H l=some (.lst xs))
  (e:s.heap.get? l=some {cls:=.type "list",data:=.seq its.toArray n}) (hf:f its.toArray=its'.toArray) (hv:Vals ys its') (hz:ys.length<=sizeLine) :
  Inv X pins σ (upd H l (.lst ys)) {s with heap:=s.heap.update l (Obj.mapSeq f),toks:=t'}:=by
 have q:=PySem.IsL.update e f
 rw[hf]at q
 refine I.write (x:=l) (e:=l) (by rw[hH];exact trivial) (.inl rfl) (λb' u hb hu=>(Oa s.heap (Obj.mapSeq f) (Ol hb)).trans hu) ⟨_,q⟩ ?_
 exact⟨hz,its',_,hv,q⟩
theorem Inv.lnew{its:List Value}{t':Nat}(I:Inv X pins σ H s)(hv:Vals ys its)(hz:ys.length<=sizeLine) :
  Inv X pins σ (upd H s.heap.objs.size (.lst ys)) {s with heap:=s.heap.push {cls:=.type "list",data:=.seq its.toArray},toks:=t'} :=
 I.laid (λ_ _ q=>Ac _ q) (Ag _) ⟨hz,its,0,hv,At _ rfl⟩
theorem Inv.fresh(I:Inv X pins σ H s):H s.heap.objs.size=none:=I.hok.fresh (Ag _)
theorem Inv.lstM(I:Inv X pins σ H s)(hH:H l=some (.lst xs)):xs.length<=sizeLine/\∃(its:List Value)(n:Nat),Vals xs its/\xs.length=its.length/\s.heap.get? l=some {cls:=.type "list",data:=.seq its.toArray n}:=by
 obtain⟨z,its,n,r,e⟩:=I.hok l _ hH
 exact⟨z,its,n,r,r.length,e⟩
theorem jlg{n:Nat}(h:n<=sizeLine):Builtin.List.listTooLong n=false:=by
 unfold Builtin.List.listTooLong
 exact Ia (by omega)
end
section
variable{X:Cx}
def jsm:V->List V->Hp->VK->Prop:=λx vs H Q=>∃l xs y,x=.ref l/\vs=[y]/\H l=some (.lst xs)/\xs.length<sizeLine/\Q .non (upd H l (.lst (xs++[y])))
theorem jbq:MtM X "list.append" jsm:=by
 intro pins s σ H x vs v us Q I rx rv h
 obtain⟨l,xs,y,rfl,rfl,hH,hz,q⟩:=h
 cases rx
 obtain⟨u,rfl,ru⟩:=rv.one
 obtain⟨z,its,n,r,hl,e⟩:=I.lstM hH
 refine Wm F.slot_list_append ⟨_,e,rfl⟩ F.entry_list_append (F.args_list_append_2 _ _) (PySem.list_append l its.toArray n u (by rw[Aj];omega)) ⟨e,?_⟩
 refine⟨.non,_,I.lset (its':=its++[u]) hH e (by simp) (r.append (.cons ru .nil)) ?_,rfl,q⟩
 rw[Ap,List.length_singleton]
 omega
def jsn:V->List V->Hp->VK->Prop:=λx vs H Q=>∃l b xs zs,x=.ref l/\vs=[.ref b]/\H l=some (.lst xs)/\H b=some (.lst zs)/\xs.length+zs.length<=sizeLine/\Q .non (upd H l (.lst (xs++zs)))
theorem mt_extend:MtM X "list.extend" jsn:=by
 intro pins s σ H x vs v us Q I rx rv h
 obtain⟨l,b,xs,zs,rfl,rfl,hH,hB,hz,q⟩:=h
 cases rx
 obtain⟨u,rfl,ru⟩:=rv.one
 cases ru
 obtain⟨z,its,n,r,hl,e⟩:=I.lstM hH
 obtain⟨z2,its2,n2,r2,hl2,e2⟩:=I.lstM hB
 have hsz:its.toArray.size+its2.toArray.size<=sizeLine:=by rw[Aj,Aj];omega
 have hlong:¬(!its.toArray.isEmpty && Builtin.List.listTooLong (its.toArray.size+its2.toArray.size))=true:=by
  rw[jlg hsz,Bool.and_false]
  exact A2
 refine Wm F.slot_list_extend ⟨_,e,rfl⟩ F.entry_list_extend (F.args_list_extend_2 _ _)
  (AutoSeq1.list_extend_list_list_0 l its.toArray n b its2.toArray n2 hlong (by rw[Aj];omega) (by omega)) ⟨e,e2,?_⟩
 refine⟨.non,_,I.lset (its':=its++its2) hH e (by simp) (r.append r2) ?_,rfl,q⟩
 rw[Ap]
 omega
def rPop:V->List V->Hp->VK->Prop:=λx vs H Q=>∃l xs y,x=.ref l/\vs=[]/\H l=some (.lst xs)/\xs[xs.length-1]?=some y/\Q y (upd H l (.lst xs.dropLast))
theorem mt_pop:MtM X "list.pop" rPop:=by
 intro pins s σ H x vs v us Q I rx rv h
 obtain⟨l,xs,y,rfl,rfl,hH,hy,q⟩:=h
 cases rx
 have hus:=rv.zero
 subst hus
 obtain⟨z,its,n,r,hl,e⟩:=I.lstM hH
 obtain⟨u,hu,ru⟩:=r.get hy
 have hy':its.toArray[its.toArray.size-1]?=some u:=by
  show its.toArray[its.length-1]?=some u
  rw[<-Array.getElem?_toList,<-hl]
  exact hu
 refine Wm F.slot_list_pop ⟨_,e,rfl⟩ F.entry_list_pop (F.args_list_pop_1 _) (MeetsSeq.list_pop_last l its.toArray n u hy' (by rw[Aj];omega)) ⟨e,?_⟩
 refine⟨y,_,I.lset (its':=its.dropLast) hH e ?_ r.dropLast ?_,ru,q⟩
 ·show its.toArray.eraseIdxIfInBounds (its.toArray.size-1)=its.dropLast.toArray
  rw[Aj,List.eraseIdxIfInBounds_toArray,jn3]
 ·rw[List.length_dropLast]
  omega
def jtr:V->List V->Hp->VK->Prop:=λx vs H Q=>∃l xs i k y,x=.ref l/\vs=[.int i]/\H l=some (.lst xs)/\-(2^63)<=i/\i<2^63/\seqIndex? i xs.length=some k/\xs[k]?=some y/\Q y (upd H l (.lst (xs.eraseIdx k)))
theorem mt_popAt:MtM X "list.pop" jtr:=by
 intro pins s σ H x vs v us Q I rx rv h
 obtain⟨l,xs,i,k,y,rfl,rfl,hH,h1,h2,hk,hy,q⟩:=h
 cases rx
 obtain⟨u,rfl,ru⟩:=rv.one
 obtain⟨t,rfl⟩:=ru
 obtain⟨z,its,n,r,hl,e⟩:=I.lstM hH
 obtain⟨w,hw,rw'⟩:=r.get hy
 refine Wm F.slot_list_pop ⟨_,e,rfl⟩ F.entry_list_pop (F.args_list_pop_2 _ _)
  (MeetsSeq.list_pop_at l its.toArray n i t k w (fitsIndex_both h1 h2) (by rw[Aj,<-hl];exact hk) (by rw[<-Array.getElem?_toList];exact hw) (by rw[Aj];omega)) ⟨e,?_⟩
 refine⟨y,_,I.lset (its':=its.eraseIdx k) hH e ?_ (r.eraseIdx k) ?_,rw',q⟩
 ·show its.toArray.eraseIdxIfInBounds k=(its.eraseIdx k).toArray
  rw[List.eraseIdxIfInBounds_toArray]
 ·have:=jjg xs k
  omega
def rCat:R2:=λx y H Q=>∃l b xs zs,x=.ref l/\y=.ref b/\H l=some (.lst xs)/\H b=some (.lst zs)/\xs.length+zs.length<=sizeLine/\∀p,H p=none->Q (.ref p) (upd H p (.lst (xs++zs)))
theorem op_cat:OpR X (binaryOp .Add) rCat:=by
 intro pins s σ H x y v u Q I rx ry h
 obtain⟨l,b,xs,zs,rfl,rfl,hH,hB,hz,q⟩:=h
 cases rx
 cases ry
 obtain⟨z,its,n,r,hl,e⟩:=I.lstM hH
 obtain⟨z2,its2,n2,r2,hl2,e2⟩:=I.lstM hB
 refine PySem.P.add_list e e2 ?_ (by rw[Aj,Aj];omega)
 have ea:its.toArray++its2.toArray=(its++its2).toArray:=by simp
 rw[ea]
 exact⟨.ref _,_,I.lnew (t':=s.toks) (r.append r2) (by rw[Ap];omega),rfl,q _ I.fresh⟩
def rRep:R2:=λx y H Q=>∃l k xs,x=.ref l/\y=.int k/\H l=some (.lst xs)/\-(2^63)<=k/\k<2^63/\xs.length*k.toNat<=sizeLine /\
 ∀p,H p=none->Q (.ref p) (upd H p (.lst (List.replicate k.toNat xs).flatten))
theorem jsg{α:Type}(xs:List α)(k:Nat):(List.replicate k xs).flatten.length=k*xs.length:=by
 induction k with
 |zero=>simp
 |succ k ih=>rw[List.replicate_succ,List.flatten_cons,Ap,ih,Nat.succ_mul,Nat.add_comm]
theorem op_rep:OpR X (binaryOp .Mult) rRep:=by
 intro pins s σ H x y v u Q I rx ry h
 obtain⟨l,k,xs,rfl,rfl,hH,h1,h2,hz,q⟩:=h
 cases rx
 obtain⟨t,rfl⟩:=ry
 obtain⟨z,its,n,r,hl,e⟩:=I.lstM hH
 have hlen:its.toArray.size*k.toNat<=sizeLine:=by rw[Aj,<-hl];exact hz
 have hcap:¬its.toArray.size*k.toNat>(2^63-1) / 8:=by
  have:(sizeLine:Nat)<=(2^63-1) / 8:=by decide
  omega
 have hfit:¬(!Builtin.List.listFitsIndex k)=true:=by
  rw[fitsIndex_both h1 h2]
  exact A2
 have hlong:¬Builtin.List.listTooLong (its.toArray.size*k.toNat)=true:=by
  rw[jlg hlen]
  exact A2
 have hnew:List.foldl (λx1 x2=>x1++x2) #[] (List.replicate (if its.toArray.isEmpty=true then 0 else k.toNat) its.toArray)=(List.replicate k.toNat its).flatten.toArray:=by
  have f0:∀m:Nat,List.foldl (λx1 x2=>x1++x2) #[] (List.replicate m its.toArray)=(List.replicate m its).flatten.toArray:=λm=>by
   have:=jjb its m []
   rw[List.nil_append]at this
   exact this
  rw[f0]
  cases its with
  |nil=>simp
  |cons a r'=>rw[Aa (by simp)]
 refine wpAny_binaryOp_repeat_ref (T:="list") (U:="int") (by decide) ⟨_,e,rfl⟩ (λs'=>typeIs_int s' k t) noFill_list_mul F.fills_int_mul F.slot_int_rmul repeat_list F.slot_int_index.lookup
  (Wm F.slot_int_rmul (typeIs_int s k t) F.entry_int_rmul (F.args_int_rmul_2 _ _) (int___rmul___int_list k t l its.toArray n)
   ⟨e,rfl,⟨_,e,rfl⟩,Wm F.slot_list_mul ⟨_,e,rfl⟩ F.entry_list_mul (F.args_list_mul_2 _ _) (AutoListH.list___mul___list_int_3 l its.toArray n k t hfit hcap hlong) ⟨e,?_⟩⟩)
 rw[hnew]
 exact⟨.ref _,_,I.lnew (t':=s.toks) (r.rep k.toNat) (by rw[jsg,Nat.mul_comm];exact hz),rfl,q _ I.fresh⟩
end
end L2
namespace Att
open PySem PySem.W PySem.Calls PyProof.Rows
theorem jho{P:Params}{h:Heap}:∀(ns:List Int)(vs:List Value),WellAll P h vs (ns.map WData.int)->IntsAre vs ns:=by
 intro ns
 induction ns with
 |nil =>
  intro vs w
  rw[O8]at w
  cases w
  exact .nil
 |cons n ns ih =>
  intro vs w
  rw[Av]at w
  cases w with
  |cons a b =>
   cases a
   exact .cons _ _ (ih _ b)
theorem jpx{l:OpenLaw}{n:Nat}(hn:l.most=some n){P:Params}{h:Heap}{args:List WData}{vals:List Value}
  (hpre:l.row.toRowW.claim.pre args=true) (hwl:WellAll P h vals args) :
  ∃a vs ns,vals=[Value.ref a]/\args=[WData.list (ns.map WData.int)]/\h.get? a=some {cls:=.type "list",data:=.seq vs.toArray}/\IntsAre vs ns/\ns.length<=n:=by
 have hsh:WShape.hasAll [] args [.list .int]=true:=(pre_splitW hpre).1
 have hc:l.pre.holds [] {args:=args}=true:=(pre_splitW hpre).2
 obtain⟨d,r,rfl,h1,h2⟩:=hasAllW_cons hsh
 obtain rfl:=hasAllW_nil h2
 obtain⟨xs,rfl,h3⟩:=hasW_list h1
 obtain⟨ns,rfl⟩:=items_int h3
 have hlen:ns.length<=n:=by
  unfold OpenLaw.pre at hc
  have h4:(WTm.not (.lt (.lit (.int (n:Int))) (.len (.arg 0)))).holds [] {args:=[.list (ns.map .int)]}=true:=by
   have h4:=(holds_andW hc).1
   rw[hn]at h4
   exact h4
  have h5:=condW_of h4 (w_not (w_lt w_lit (w_len_list (w_arg rfl))))
  rw[Ae]at h5
  refine Nat.le_of_not_lt λq=>?_
  have q':(n:Int)<((ns.length:Nat):Int):=by omega
  first
   |(rw[Og q']at h5;exact absurd h5 (by decide))
   |(simp at h5;omega)
 cases hwl with
 |cons w1 w2 =>
  cases w2
  cases w1 with
  |list ho hall=>exact⟨_,_,ns,rfl,rfl,ho,jho ns _ hall,hlen⟩
theorem post_true(l:OpenLaw)(args:List WData):l.row.toRowW.claim.post args (.bool true) args=true :=
 postW_of (r:=l.row.toRowW) (X:=(true == true))
  (show WShape.has [] (.bool true) .bool=true by first|rfl|decide|simp[WShape.has,WShape.arms,WShape.armsAll])
  (show(WTm.eq .res (.lit (.bool true))).value [] {args:=args,res:=some (.bool true),after:=args}=some (.bool (true == true))from w_eq_bool (w_res rfl) w_lit) rfl
theorem attach_call{l:OpenLaw}{n:Nat}{q:Program}{loose:List Str}{XP:(Str->Option Value)->Heap->Prop}{YP:World->Heap->Prop}{d:DefRec}
  (hn:l.most=some n) (hdf:d.params.defaults=[])
  (call:∀(w:World)(s₀ s₁:Shared)(mg mb:Str->Option Value)(fa:Addr)(o:Obj)(pm cd doc:Value)(a:Addr)(vs:List Value)(ns:List Int),
   Ground q loose [] XP w s₀ mg mb s₁.heap->YP w s₁.heap ->
   s₁.heap.get? fa=some o->o.data=.func (docDef d.name d.params d.body d.scope pm cd doc)->s₁.heap.CodeRec cd d.name->mg d.name=some (.ref fa) ->
   s₁.heap.get? a=some {cls:=.type "list",data:=.seq vs.toArray}->IntsAre vs ns->ns.length<=n->s₁.gens=#[] ->
   codeAny (model l.prog w) callerA (.call (.ref fa) ⟨[.ref a],[]⟩) (λr s'=>r=.ok (.ret (.bool true))/\OldK s₁.heap s'.heap/\s'.os=s₁.os/\AllBare s'.gens) s₁) :
  WalkO q loose XP YP l.row.toRowW d [] (λf vs=>PySem.call f vs):=by
 intro w s₀ s₁ mg mb G Y fa o pm cd doc dV kV ho hd hcd hD hmg hg args vals as hpre hlay hrd hwl hlo
 obtain rfl:dV=.none:=Dflts.none hD hdf
 obtain rfl:kV=.none:=Dflts.noKw hD
 obtain⟨a,vs,ns,rfl,rfl,hobj,hints,hlen⟩:=jpx hn hpre hwl
 refine enter_call (U2 (call w s₀ s₁ mg mb fa o pm cd doc a vs ns G Y ho (fd_plain hd) hcd hmg hobj hints hlen hg) λr s' hq=>?_)
 obtain⟨rfl,h2,h3,h4⟩:=hq
 exact⟨.inl ⟨.bool true,.bool true,[],rfl,λ_=>rfl,.bool true,post_true l _,λ_=>⟨List.Pairwise.nil,λ_ hm=>(nomatch hm)⟩⟩,h2,h3,h4⟩
end Att
namespace L2
open PySem PySem.Spec PyProof.Rows
theorem jj5:∀{vs:List Value}{ns:List Int},IntsAre vs ns->Vals (ns.map V.int) vs
 |_,_,.nil=>.nil
 |_,_,.cons n t h=>.cons ⟨t,rfl⟩ (jj5 h)
def j8(s:Stmt):Arguments:=match s with
 |.FunctionDef _ a _ _ _ _ _ _ _ _=>a
 |_=>{posonlyargs:=[],args:=[],vararg:=none,kwonlyargs:=[],kw_defaults:=[],kwarg:=none,defaults:=[]}
def jy(s:Stmt):List Stmt:=match s with
 |.FunctionDef _ _ b _ _ _ _ _ _ _=>b
 |_=>[]
def jk(s:Stmt):Scope:=match s with
 |.FunctionDef _ _ _ _ _ _ sc _ _ _=>sc
 |_=>{kind:=.function,names:=[],isGenerator:=false,isCoroutine:=false}
abbrev CX0:CXT:=λ_ _ _ _ _ _=>False
abbrev E0:XK:=λ_ _ _=>False
theorem jw{X:Cx}:jdp CX0 X E0:=λ_ _ _ _ _ _ _ h=>h.elim
structure Fun(K:PySem.W.Frag)(x qual:Str)(st:Stmt)(f:Addr)(fd:FuncData):Prop where
 ex:∃(oc:Value)(od:Option Addr)(kV doc pm:Value)(an:Option Addr)(cdv ct:Value)(osl:Array (Option Value)),
  fd=PySem.W.fnOf x qual (j8 st) (jy st) (jk st) .none kV doc pm an cdv ct/\K.lookup f=some ⟨oc,od,.func fd,osl⟩/\PySem.W.codeIn K cdv qual=true
 kp:PySem.W.keepIn K (.ref f)=true
section
variable{P:Program}{w:World}{K:PySem.W.Frag}{mg:Str->Option Value}{base:Heap}
theorem Fun.ok{x qual:Str}{st:Stmt}{f:Addr}{fd:FuncData}{N ps:List Str}{k:Nat}{sp:Sp}(F:Fun K x qual st f fd)(S:FnScope N ps (jk st))(len:∀vs H Q E,sp vs H Q E->vs.length=ps.length)
  (hbody:∀(cdv:Value)(A:Around)(outer:List Env)(s:Shared)(H:Hp)(vs:List V)(Q:VK)(E:XK),Room k (A.deeper (envOfC qual (jk st) s.heap.objs.size f cdv))->sp vs H Q E ->
   ∃t,PSs (cxOf CX0 P w K mg base N qual (jk st) f cdv A outer s H E).nox (jy st) t/\t {nx:=λ_ H'=>Q .non H',rt:=Q} (start N vs) H):FnOk P w K mg base CX0 (k+1) f fd ps sp:=by
 obtain⟨oc,od,kV,doc,pm,an,cdv,ct,osl,rfl,lk,hcd⟩:=F.ex
 refine jn4 lk hcd S len λA outer s H vs Q E hr hsp=>?_
 obtain⟨t,h,q⟩:=hbody cdv A outer s H vs Q E hr hsp
 exact⟨t,h.nox,q⟩
theorem Fun.binds{x qual:Str}{st:Stmt}{f:Addr}{fd:FuncData}{ps:List Str}(F:Fun K x qual st f fd)
  (h:∀(kV doc pm:Value)(an:Option Addr)(cdv ct:Value)(us:List Value),us.length=ps.length->bindArgs (PySem.W.fnOf x qual (j8 st) (jy st) (jk st) .none kV doc pm an cdv ct) ⟨us,[]⟩=pure (ps.zip us)):Binds K fd ps []:=by
 obtain⟨oc,od,kV,doc,pm,an,cdv,ct,osl,rfl,lk,hcd⟩:=F.ex
 exact .all (h kV doc pm an cdv ct)
theorem jc9{x qual:Str}{st:Stmt}{f:Addr}{oc:Value}{od an:Option Addr}{osl:Array (Option Value)}{kV doc pm cdv ct:Value}(l:K.lookup f=some ⟨oc,od,.func (PySem.W.fnOf x qual (j8 st) (jy st) (jk st) .none kV doc pm an cdv ct),osl⟩)
  (c:PySem.W.codeIn K cdv qual=true) (k:PySem.W.keepIn K (.ref f)=true):Fun K x qual st f (PySem.W.fnOf x qual (j8 st) (jy st) (jk st) .none kV doc pm an cdv ct):=⟨⟨oc,od,kV,doc,pm,an,cdv,ct,osl,rfl,l,c⟩,k⟩
end
section
variable{X:Cx}
theorem pv(i:Nat){x:Str}{pos:Pos}(hN:X.N[i]?=some x:=by rfl)(hv:Vis X.env.scope x:=by first|exact Or.inl rfl|exact Or.inr (Or.inl rfl)|exact Or.inr (Or.inr rfl))(hd:(x == ("__debug__":Str))=false:=by decide)
  (hcd:(x == ("__classdict__":Str))=false:=by decide):PE X (.Name x pos) (tVar i):=jcu hN hv hd hcd
end
theorem ite2{c A B:Prop}[Decidable c](h1:c->A)(h2:¬c->B):if c then A else B:=by
 by_cases h:c
 ·rw[Af h]
  exact h1 h
 ·rw[Aa h]
  exact h2 h
section
variable{κ:Type}[DecidableEq κ]
def valV(kvs:List (κ×V))(k:κ):Option V:=(kvs.find? λkv=>decide (kv.1=k)).map (·.2)
def putK(kvs:List (κ×V))(k:κ)(v:V):List (κ×V) :=
 if(kvs.any λkv=>decide (kv.1=k))=true then kvs.map (λkv=>if kv.1=k then(kv.1,v)else kv)else kvs++[(k,v)]
theorem jdm{p:κ×V}{r:List (κ×V)}{k:κ}(e:p.1=k):valV (p::r) k=some p.2:=by simp[valV,List.find?_cons,e]
theorem jdl{p:κ×V}{r:List (κ×V)}{k:κ}(e:¬p.1=k):valV (p::r) k=valV r k:=by simp[valV,List.find?_cons,e]
theorem jfw(k:κ):∀kvs:List (κ×V),(kvs.any λkv=>decide (kv.1=k))=(valV kvs k).isSome
 |[]=>rfl
 |p::r=>by
  rw[List.any_cons]
  by_cases e:p.1=k
  ·simp only[jdm e,Og e,Bool.true_or,Option.isSome_some]
  ·rw[jdl e,Ia e,Bool.false_or];exact jfw k r
theorem jmf(k j:κ)(y:V):∀kvs:List (κ×V),valV (kvs.map λkv=>if kv.1=k then(kv.1,y)else kv) j=(valV kvs j).map λx=>if j=k then y else x
 |[]=>rfl
 |p::r=>by
  have ih:=jmf k j y r
  rw[Av]
  by_cases h:p.1=k
  ·rw[Af h]
   by_cases e:p.1=j
   ·rw[jdm (p:=(p.1,y)) e,jdm e,Option.map_some,Af (e.symm.trans h)]
   ·rw[jdl (p:=(p.1,y)) e,jdl e,ih]
  ·rw[Aa h]
   by_cases e:p.1=j
   ·rw[jdm (p:=p) e,jdm e,Option.map_some,Aa (λz=>h (e.trans z))]
   ·rw[jdl (p:=p) e,jdl e,ih]
theorem jj3(k j:κ)(y:V):∀kvs:List (κ×V),valV kvs k=none->valV (kvs++[(k,y)]) j=if j=k then some y else valV kvs j
 |[],_=>by
  by_cases e:k=j
  ·rw[Af e.symm];exact jdm (p:=(k,y)) e
  ·rw[Aa (λz=>e z.symm)];exact jdl (p:=(k,y)) e
 |p::r,hn=>by
  rw[List.cons_append]
  have hk:¬p.1=k:=λz=>by rw[jdm z]at hn;cases hn
  rw[jdl hk]at hn
  have ih:=jj3 k j y r hn
  by_cases e:p.1=j
  ·rw[jdm e,jdm e,Aa (λz=>hk (e.trans z))]
  ·rw[jdl e,jdl e,ih]
theorem jmg(kvs:List (κ×V))(k j:κ)(y:V):valV (putK kvs k y) j=if j=k then some y else valV kvs j:=by
 unfold putK
 by_cases a:(kvs.any λkv=>decide (kv.1=k))=true
 ·rw[Af a,jmf]
  rw[jfw]at a
  by_cases e:j=k
  ·obtain⟨x,hx⟩:=Option.isSome_iff_exists.mp a
   rw[Af e,e,hx,Option.map_some,Af rfl]
  ·rw[Aa e]
   cases valV kvs j with
   |none=>rfl
   |some x=>rw[Option.map_some,Aa e]
 ·rw[Aa a]
  refine jj3 k j y kvs ?_
  rw[jfw]at a
  cases q:valV kvs k with
  |none=>rfl
  |some x=>rw[q]at a;exact(a rfl).elim
theorem jd7(kvs:List (κ×V))(k:κ)(v:V):(putK kvs k v).length<=kvs.length+1:=by
 unfold putK
 split
 ·rw[Ae];omega
 ·rw[Ap,List.length_cons,List.length_nil];omega
theorem RelO.isSome_eq{o:Option V}{u:Option Value}(r:RelO o u):o.isSome=u.isSome:=by
 cases o with
 |none=>cases u with
  |none=>rfl
  |some _=>exact(show False from r).elim
 |some _=>cases u with
  |none=>exact(show False from r).elim
  |some _=>rfl
theorem KV.val{kvs:List (κ×V)}{vs:List (κ×Value)}(r:KV kvs vs)(k:κ):RelO (valV kvs k) (valueAt vs k):=by
 unfold KV at r
 induction r with
 |nil=>exact True.intro
 |@cons p q ps qs h t ih =>
  obtain⟨h1,h2⟩:=h
  by_cases e:p.1=k
  ·have e':q.1=k:=h1.symm.trans e
   have b:valueAt (q::qs) k=some q.2:=by simp[valueAt,List.find?_cons,e']
   rw[jdm e,b];exact h2
  ·have e':¬q.1=k:=λz=>e (h1.trans z)
   have b:valueAt (q::qs) k=valueAt qs k:=by simp[valueAt,List.find?_cons,e']
   rw[jdl e,b];exact ih
theorem KV.any{kvs:List (κ×V)}{vs:List (κ×Value)}(r:KV kvs vs)(k:κ):(kvs.any λkv=>decide (kv.1=k))=vs.any λkv=>decide (kv.1=k):=by
 unfold KV at r
 induction r with
 |nil=>rfl
 |cons h t ih=>rw[List.any_cons,List.any_cons,ih,h.1]
theorem KV.repl{kvs:List (κ×V)}{vs:List (κ×Value)}(r:KV kvs vs)(k:κ){y:V}{u:Value}(ry:RelV y u) :
  KV (kvs.map λkv=>if kv.1=k then(kv.1,y)else kv) (vs.map λkv=>if kv.1=k then(kv.1,u)else kv):=by
 unfold KV at r⊢
 induction r with
 |nil=>exact .nil
 |@cons p q ps qs h t ih =>
  rw[Av,Av]
  refine .cons ?_ ih
  obtain⟨h1,h2⟩:=h
  by_cases e:p.1=k
  ·rw[Af e,Af (h1.symm.trans e)];exact⟨h1,ry⟩
  ·rw[Aa e,Aa (λz=>e (h1.trans z))];exact⟨h1,h2⟩
theorem KV.put{kvs:List (κ×V)}{vs:List (κ×Value)}(r:KV kvs vs)(k:κ){y:V}{u:Value}(ry:RelV y u):KV (putK kvs k y) (stored vs k u):=by
 unfold putK stored
 rw[r.any k]
 by_cases e:(vs.any λkv=>decide (kv.1=k))=true
 ·rw[Af e,Af e];exact r.repl k ry
 ·rw[Aa e,Aa e];exact Uz r ⟨rfl,ry⟩
theorem KV.length{kvs:List (κ×V)}{vs:List (κ×Value)}(r:KV kvs vs):kvs.length=vs.length:=A5 r
end
theorem jkb{P:Program}{w:World}{k:Key}{u:Value}(r:RelV (kV k) u):(jdg P w).is k u=true:=by
 cases k with
 |inl i=>obtain⟨t,e⟩:=(show ∃t,u=Value.int i t from r);subst e;exact jmn P w i t
 |inr x=>obtain⟨t,e⟩:=(show ∃t,u=Value.str x t from r);subst e;exact jmo P w x t
theorem jjf{P:Program}{w:World}:∀{ks:List Key}{us:List Value},Vals (ks.map kV) us->ItemsAre (jdg P w) ks us
 |[],_,r=>by rw[O8]at r;cases r;exact .nil
 |k::ks,_,r=>by
  rw[Av]at r
  cases r with
  |cons h t=>exact .cons (jkb h) (jjf t)
abbrev KT(H:Hp):List (List Key×V)->List (List Key×Addr×Value)->Prop:=Paired λp q=>p.1=q.1/\H q.2.1=some (.tup (p.1.map kV))/\RelV p.2 q.2.2
theorem KT.val{H:Hp}{kvs:List (List Key×V)}{xs:List (List Key×Addr×Value)}(r:KT H kvs xs)(k:List Key):RelO (valV kvs k) ((atKey xs k).map (·.2)):=by
 induction r with
 |nil=>exact True.intro
 |@cons p q ps qs h t ih =>
  obtain⟨h1,_,h2⟩:=h
  by_cases e:p.1=k
  ·have e':q.1=k:=h1.symm.trans e
   have b:atKey (q::qs) k=some q.2:=by simp[atKey,List.find?_cons,e']
   rw[jdm e,b];exact h2
  ·have e':¬q.1=k:=λz=>e (h1.trans z)
   have b:atKey (q::qs) k=atKey qs k:=by simp[atKey,List.find?_cons,e']
   rw[jdl e,b];exact ih
theorem KT.repl{H:Hp}{kvs:List (List Key×V)}{xs:List (List Key×Addr×Value)}(r:KT H kvs xs)(k:List Key){y:V}{u:Value}(ry:RelV y u) :
  KT H (kvs.map λkv=>if kv.1=k then(kv.1,y)else kv) (xs.map (putAt k u)):=by
 induction r with
 |nil=>exact .nil
 |@cons p q ps qs h t ih =>
  rw[Av,Av]
  refine .cons ?_ ih
  obtain⟨h1,h2,h3⟩:=h
  unfold putAt
  by_cases e:p.1=k
  ·rw[Af e,Af (h1.symm.trans e)];exact⟨h1,h2,ry⟩
  ·rw[Aa e,Aa (λz=>e (h1.trans z))];exact⟨h1,h2,h3⟩
theorem KT.put{H:Hp}{kvs:List (List Key×V)}{xs:List (List Key×Addr×Value)}(r:KT H kvs xs)(k:List Key){b:Addr}{y:V}{u:Value}(hb:H b=some (.tup (k.map kV)))(ry:RelV y u) :
  KT H (putK kvs k y) (storedH xs k b u):=by
 have e:(kvs.any λkv=>decide (kv.1=k))=(atKey xs k).isSome:=by
  rw[jfw,(r.val k).isSome_eq,Option.isSome_map]
 unfold putK storedH
 rw[e]
 by_cases q:(atKey xs k).isSome=true
 ·rw[Af q,Af q];exact r.repl k ry
 ·rw[Aa q,Aa q];exact Uz r ⟨rfl,hb,ry⟩
theorem KT.keeps{H H':Hp}{kvs:List (List Key×V)}{xs:List (List Key×Addr×Value)}(r:KT H kvs xs)(ht:∀b ys,H b=some (.tup ys)->H' b=some (.tup ys)):KT H' kvs xs :=
 Paired.mapP r λ_ _ z=>⟨z.1,ht _ _ z.2.1,z.2.2⟩
section
variable{P:Program}{w:World}{H:Hp}{h:Heap}{a:Addr}
theorem jrv{u:HO}(ok:HOk P w H h)(e:Rd H a u):ObjOk P w H h a u:=e.ok ok
theorem jhf{kvs:List (Key×V)}(ok:HOk P w H h)(e:Rd H a (.dK kvs)):kvs.length<=sizeLine/\(a == sysModules)=false/\∃vs,KV kvs vs/\h.DictOf (jdg P w) a vs :=
 show ObjOk P w H h a (.dK kvs)from jrv ok e
theorem jt9{kvs:List (Key×V)}(ok:HOk P w H h)(e:H a=some (.dK kvs)):kvs.length<=sizeLine/\(a == sysModules)=false/\∃vs,KV kvs vs/\h.DictOf (jdg P w) a vs:=jhf ok (.inl e)
theorem jfz{ks:List Key}(ok:HOk P w H h)(e:H a=some (.tup (ks.map kV))):(tupleKind (jdg P w)).is h ks a:=by
 obtain⟨_,its,r,o,h1,h2,n,h3⟩:=(show ObjOk P w H h a (.tup (ks.map kV))from ok a _ e)
 exact⟨o,its.toArray,n,h1,h2,h3,by simpa using jjf r⟩
theorem jhh{kvs:List (List Key×V)}(ok:HOk P w H h)(e:Rd H a (.dT kvs)):kvs.length<=sizeLine/\(a == sysModules)=false /\
  ∃xs,KT H kvs xs/\h.DictOfH (tupleKind (jdg P w)) a xs:=by
 obtain⟨z,y,xs,r,o,es,ep,h1,h2,h3,h4,h5⟩:=(show ObjOk P w H h a (.dT kvs)from jrv ok e)
 refine⟨z,y,xs,r,o,es,ep,h1,h2,h3,h4,λx hx=>?_,h5⟩
 have all:∀{l:List (List Key×V)}{m:List (List Key×Addr×Value)},KT H l m->∀x∈m,(tupleKind (jdg P w)).is h x.1 x.2.1:=by
  intro l m q
  induction q with
  |nil=>intro x hx;exact nomatch hx
  |@cons p q ps qs hq t ih =>
   intro x hx
   rcases Al.mp hx with e|hx
   ·subst e
    exact jfz ok (by rw[<-hq.1];exact hq.2.1)
   ·exact ih x hx
 exact all r x hx
theorem jrj{kvs:List (List Key×V)}(ok:HOk P w H h)(e:H a=some (.dT kvs)):kvs.length<=sizeLine/\(a == sysModules)=false /\
  ∃xs,KT H kvs xs/\h.DictOfH (tupleKind (jdg P w)) a xs:=jhh ok (.inl e)
end
def DGet(H:Hp)(a:Addr)(y:V)(r:Option V):Prop :=
 (∃kvs k,Rd H a (.dK kvs)/\y=kV k/\r=valV kvs k)\/∃kvs k b,Rd H a (.dT kvs)/\y=.ref b/\H b=some (.tup (k.map kV))/\r=valV kvs k
def DPut(H:Hp)(a:Addr)(y v:V)(H':Hp):Prop :=
 (∃kvs k,H a=some (.dK kvs)/\y=kV k/\kvs.length<sizeLine/\H'=upd H a (.dK (putK kvs k v))) \/
 ∃kvs k b,H a=some (.dT kvs)/\y=.ref b/\H b=some (.tup (k.map kV))/\kvs.length<sizeLine/\H'=upd H a (.dT (putK kvs k v))
theorem DGet.k{H:Hp}{a:Addr}{kvs:List (Key×V)}{k:Key}(e:H a=some (.dK kvs)):DGet H a (kV k) (valV kvs k):=.inl ⟨kvs,k,.inl e,rfl,rfl⟩
theorem DPut.k{H:Hp}{a:Addr}{kvs:List (Key×V)}{k:Key}{v:V}(e:H a=some (.dK kvs))(hl:kvs.length<sizeLine):DPut H a (kV k) v (upd H a (.dK (putK kvs k v))):=.inl ⟨kvs,k,e,rfl,hl,rfl⟩
section
variable{X:Cx}{pins:List (Addr×Obj)}{σ:St}{H:Hp}{s:Shared}{a:Addr}{y v:V}{u r:Value}{o:Option V}{A:Around}{E:Value->Shared->Prop}
theorem Inv.big(I:Inv X pins σ H s):sysModules<s.heap.objs.size:=by
 have h:mainGlobals<s.heap.objs.size:=(I.mod.glob.keeps I.bk).lt
 exact Nat.lt_trans (by decide) h
theorem joz{Q:Value->Shared->Prop}(hu:A.units+1<cLine)(I:Inv X pins σ H s)(g:DGet H a y (some v))(ry:RelV y u)(h:∀w' s',Inv X pins σ H s'->RelV v w'->Q w' s') :
  wpAny (model X.prog X.w) A (getItem (.ref a) u) Q E s:=by
 rcases g with⟨kvs,k,e,ey,l⟩|⟨kvs,k,b,e,ey,eb,l⟩
 ·subst ey
  obtain⟨z,hd,vs,rel,dd⟩:=jhf I.hok e
  obtain⟨w',hw,rw'⟩:=RelO.some_of (v:=v) (o:=valueAt vs k) (by rw[l];exact rel.val k)
  exact wpAny_getItem_of (jkb ry) dd.mapOf hw (h w' _ (I.tok _) rw')
 ·subst ey
  cases(show u=Value.ref b from ry)
  obtain⟨z,hd,xs,rel,dd⟩:=jhh I.hok e
  obtain⟨w',hw,rw'⟩:=RelO.some_of (v:=v) (o:=(atKey xs k).map (·.2)) (by rw[l];exact rel.val k)
  obtain⟨p,hp,hp2⟩:=O7.mp hw
  refine wpAny_getItem_heap (Wi hu) (jfz I.hok eb) dd hp ?_
  rw[hp2]
  exact h w' _ (I.tok _) rw'
theorem jr7{Q:Value->Shared->Prop}(hu:A.units+1<cLine)(I:Inv X pins σ H s)(g:DGet H a y o)(ry:RelV y u)(h:∀s',Inv X pins σ H s'->Q (.bool (!o.isSome)) s') :
  wpAny (model X.prog X.w) A (compareOp .NotIn u (.ref a)) Q E s:=by
 rcases g with⟨kvs,k,e,ey,l⟩|⟨kvs,k,b,e,ey,eb,l⟩
 ·subst ey
  obtain⟨z,hd,vs,rel,dd⟩:=jhf I.hok e
  refine wpAny_notIn_of (jkb ry) hd dd.mapOf ?_
  rw[<-(rel.val k).isSome_eq,<-l]
  exact h _ (I.tok _)
 ·subst ey
  cases(show u=Value.ref b from ry)
  obtain⟨z,hd,xs,rel,dd⟩:=jhh I.hok e
  refine wpAny_notIn_heap (Wi hu) (jfz I.hok eb) hd dd ?_
  have q:=(rel.val k).isSome_eq
  rw[Option.isSome_map]at q
  rw[<-q,<-l]
  exact h _ (I.tok _)
theorem jig{h':Heap}{t':Nat}{ob:HO}(I:Inv X pins σ H s)(mu:Mut (H a))(hs:Heap.SameBut a s.heap h')(he:∃q,h'.get? a=some q)(new:ObjOk X.prog X.w (upd H a ob) h' a ob) :
  Inv X pins σ (upd H a ob) {s with heap:=h',toks:=t'} :=
 I.write (x:=a) (e:=a) mu (.inl rfl) (λb q hb z=>(hs.2 b hb).trans z) he new
theorem js5{P:Program}{w:World}{H':Hp}{h':Heap}{kvs:List (Key×V)}{vs:List (Key×Value)}(z:kvs.length<=sizeLine)(hd:(a == sysModules)=false)(rel:KV kvs vs)(dd:h'.DictOf (jdg P w) a vs) :
  ObjOk P w H' h' a (.dK kvs):=⟨z,hd,vs,rel,dd⟩
theorem jo0{H':Hp}{Q:Unit->Shared->Prop}(hu:A.units+1<cLine)(I:Inv X pins σ H s)(g:DPut H a y v H')(ry:RelV y u)(rv:RelV v r)(h:∀s',Inv X pins σ H' s'->Q () s') :
  wpAny (model X.prog X.w) A (setItem (.ref a) u r) Q E s:=by
 rcases g with⟨kvs,k,e,ey,l,eH⟩|⟨kvs,k,b,e,ey,eb,l,eH⟩
 ·subst ey eH
  obtain⟨z,hd,vs,rel,dd⟩:=jt9 I.hok e
  have hz:vs.length<=sizeLine:=by rw[<-rel.length];exact z
  have hl:(putK kvs k v).length<=sizeLine:=by have:=jd7 kvs k v;omega
  refine wpAny_setItem_pairs (hsz:=hz) (jkb ry) dd λh' dd' hs=>h _ ?_
  have he:∃q,h'.get? a=some q:=let⟨q,_,_,hq,_⟩:=dd';⟨q,hq⟩
  exact jig I (by rw[e];exact True.intro) hs he (js5 hl hd (rel.put k rv) dd')
 ·subst ey eH
  cases(show u=Value.ref b from ry)
  obtain⟨z,hd,xs,rel,dd⟩:=jrj I.hok e
  have hz:xs.length<=sizeLine:=by rw[<-A5 rel];exact z
  have hl:(putK kvs k v).length<=sizeLine:=by have:=jd7 kvs k v;omega
  refine wpAny_setItem_heap (hsz:=hz) (Wi hu) (jfz I.hok eb) dd λh' dd' hs=>h _ ?_
  obtain⟨q,es,ep,hq,h2,h3,h4,_,h5⟩:=dd'
  refine jig I (by rw[e];exact True.intro) hs ⟨q,hq⟩ ⟨hl,hd,_,(rel.put k eb rv).keeps λc ys ec=>?_,q,es,ep,hq,h2,h3,h4,h5⟩
  rw[jf (jkd ec e (λz=>nomatch z))]
  exact ec
end
theorem jmj{X:Cx}{pins:List (Addr×Obj)}{σ:St}{H:Hp}{s:Shared}{a:Addr}{y:V}{o:Option V}(I:Inv X pins σ H s)(g:DGet H a y o):s.TypeIs (.ref a) "dict":=by
 rcases g with⟨kvs,k,e,_,_⟩|⟨kvs,k,b,e,_,_,_⟩
 ·obtain⟨_,_,vs,_,dd⟩:=jhf I.hok e
  exact dd.typeIs
 ·obtain⟨_,_,xs,_,dd⟩:=jhh I.hok e
  exact dd.typeIs
def jgl(ty td:TE):TE:=λσ H Q=>ty σ H λy H1=>td σ H1 λx H2=>∃a o,x=.ref a/\DGet H2 a y o/\Q (.bl (!o.isSome)) H2
def jkg(td ty tv:TE):TS:=λD σ H=>tv σ H λv H1=>td σ H1 λx H2=>ty σ H2 λy H3=>∃a H4,x=.ref a/\DPut H3 a y v H4/\D.nx σ H4
section
variable{X:Cx}{o i e value:Expr}{pos pos' tpos:Pos}{td ty tv:TE}
theorem pc_dnotin(hu:X.A.units+1<cLine)(hi:PE X i ty)(ho:PE X o td):PC X .NotIn i o (jgl ty td):=by
 intro pins s σ H Q I h
 refine thn (hi pins s σ H _ I h) λiv s1 ⟨y,H1,I1,ry,q1⟩=>thn (ho pins s1 σ H1 _ I1 q1) λu s2 ⟨x,H2,I2,rx,a,ov,ex,g,q2⟩=>?_
 subst ex
 obtain rfl:u=Value.ref a:=rx
 exact jr7 hu I2 g ry λs3 I3=>⟨.bl (!ov.isSome),H2,I3,rfl,q2⟩
theorem ps_dput(hu:X.A.units+1<cLine)(ho:PE X o td)(hi:PE X i ty)(hv:PE X value tv)(hs:swapsWith value (some (.Subscript o i pos')) pos.line X.env=pure false) :
  PS X (.Assign [.Subscript o i pos'] value pos) (jkg td ty tv):=by
 intro pins s σ H D I h
 refine wpAny_Assign_Subscript (thn (hv pins s σ H _ I h) λr s1 ⟨v,H1,I1,rv,q1⟩=>thn (ho pins s1 σ H1 _ I1 q1) λu s2 ⟨x,H2,I2,rx,q2⟩=>thn (hi pins s2 σ H2 _ I2 q2) λiv s3 ⟨y,H3,I3,ry,a,H4,ex,g,q3⟩=>?_) hs
 subst ex
 obtain rfl:u=Value.ref a:=rx
 exact jo0 hu I3 g ry rv λs4 I4=>⟨σ,H4,I4,q3⟩
end
theorem jqf{P:Program}{w:World}{H:Hp}(h:Heap)(hb:sysModules<h.objs.size):ObjOk P w H (h.push {cls:=.type "dict",data:=.dict #[]}) h.objs.size (.dK []) :=
 ⟨Ix _,O2.mpr (Ol (Ar hb)),[],.nil,Heap.DictOf.new h⟩
theorem jqh{P:Program}{w:World}{H:Hp}(h:Heap)(hb:sysModules<h.objs.size):ObjOk P w H (h.push {cls:=.type "dict",data:=.dict #[]}) h.objs.size (.dT []) :=
 ⟨Ix _,O2.mpr (Ol (Ar hb)),[],.nil,_,#[],0,At _ rfl,⟨rfl,rfl,rfl⟩,rfl,rfl,Ye⟩
def jh6:TE:=λ_ H Q=>∀p,H p=none->Q (.ref p) (upd H p (.dT []))
section
variable{X:Cx}{pos:Pos}
theorem pe_dnewT:PE X (.Dict [] [] pos) jh6:=λpins s σ H Q I h =>
 wpAny_Dict_empty ⟨.ref s.heap.objs.size,_,I.laid (a:=s.heap.objs.size) (o:=.dT []) (t':=s.toks) (λ_ _ q=>Ac _ q) (Ag _) (jqh s.heap I.big),rfl,h _ (I.hok.fresh (Ag _))⟩
end
structure M2(X:Cx)(o:Expr)(m:Str)(apos:Pos)(e f:Expr)(cpos:Pos):Prop where
 base:attributeBase o m X.env (eval o X.env)=eval o X.env
 few:((backTo cpos (starEach [e,f] X.env)).all (λx=>!x.1) && (backToKw cpos (keywordEach [] X.env)).all (λx=>x.1.isSome)
  && decide (([e,f]:List Expr).length+([]:List Keyword).length+(if([]:List Keyword).isEmpty then 0 else 1)<30))=true
 line:(apos.endLine == cpos.line)=true
 trees:backTo cpos (starEach [e,f] X.env)=[(false,eval e X.env),(false,eval f X.env)]
def IsD(H:Hp)(a:Addr):Prop:=(∃kvs,Rd H a (.dK kvs))\/∃kvs,Rd H a (.dT kvs)
theorem jtc{X:Cx}{pins:List (Addr×Obj)}{σ:St}{H:Hp}{s:Shared}{a:Addr}(I:Inv X pins σ H s)(d:IsD H a) :
  s.TypeIs (.ref a) "dict"/\(∀b,Value.ref a=.ref b->∃ob,s.heap.get? b=some ob/\ob.dict=none)/\(a == sysModules)=false:=by
 rcases d with⟨kvs,e⟩|⟨kvs,e⟩
 ·obtain⟨_,hd,vs,_,dd⟩:=jhf I.hok e
  refine⟨dd.typeIs,λb q=>?_,hd⟩
  cases q
  obtain⟨ob,_,_,h1,h2,_⟩:=dd
  exact⟨ob,h1,h2.2.1⟩
 ·obtain⟨_,hd,xs,_,dd⟩:=jhh I.hok e
  refine⟨dd.typeIs,λb q=>?_,hd⟩
  cases q
  obtain⟨ob,_,_,h1,h2,_⟩:=dd
  exact⟨ob,h1,h2.2.1⟩
structure Kp(S:List Addr)(H H':Hp):Prop where
 old:∀a o,H a=some o->a∉S->H' a=some o
 tup:∀a xs,H a=some (.tup xs)->H' a=some (.tup xs)
 dom:∀a o,H a=some o->∃o',H' a=some o'
theorem Kp.refl(S:List Addr)(H:Hp):Kp S H H:=⟨λ_ _ e _=>e,λ_ _ e=>e,λ_ o e=>⟨o,e⟩⟩
theorem Kp.trans{S:List Addr}{H H1 H2:Hp}(a:Kp S H H1)(b:Kp S H1 H2):Kp S H H2 :=
 ⟨λc o e n=>b.old c o (a.old c o e n) n,λc xs e=>b.tup c xs (a.tup c xs e),λc o e=>let⟨o',e'⟩:=a.dom c o e;b.dom c o' e'⟩
theorem Kp.mono{S S':List Addr}{H H1:Hp}(a:Kp S H H1)(h:∀x∈S,x∈S'):Kp S' H H1:=⟨λc o e n=>a.old c o e λz=>n (h c z),a.tup,a.dom⟩
theorem Kp.free{S:List Addr}{H H1:Hp}(k:Kp S H H1){p:Addr}(h:H1 p=none):H p=none:=by
 cases e:H p with
 |none=>rfl
 |some o=>obtain⟨o',e'⟩:=k.dom p o e;rw[h]at e';cases e'
theorem Kp.trans'{S S':List Addr}{H H1 H2:Hp}(a:Kp S H H1)(b:Kp S' H1 H2)(h:∀x∈S',x∈S\/H x=none):Kp S H H2 :=
 ⟨λc o e n=>b.old c o (a.old c o e n) λz=>by
  rcases h c z with q|q
  ·exact n q
  ·(rw[q]at e;exact nomatch e),λc xs e=>b.tup c xs (a.tup c xs e),λc o e=>let⟨o',e'⟩:=a.dom c o e;b.dom c o' e'⟩
theorem Kp.new{S:List Addr}{H H1:Hp}(k:Kp S H H1){p:Addr}{o:HO}(h:H1 p=none):Kp S H (upd H1 p o) :=
 ⟨λc u e n=>by rw[jf (jl (k.old c u e n) h)];exact k.old c u e n,λc xs e=>by rw[jf (jl (k.tup c xs e) h)];exact k.tup c xs e,
  λc u e=>by
   obtain⟨o',e'⟩:=k.dom c u e
   exact⟨o',by rw[jf (jl e' h)];exact e'⟩⟩
theorem Kp.set{S:List Addr}{H H1:Hp}(k:Kp S H H1){b:Addr}{xs:List V}{o:HO}(hb:H1 b=some (.lst xs))(h:b∈S\/H b=none):Kp S H (upd H1 b o) :=
 ⟨λc u e n=>by
  have:c≠b:=by
   rintro rfl
   rcases h with h|h
   ·exact n h
   ·rw[h]at e;cases e
  rw[jf this];exact k.old c u e n,
 λc ys e=>by
  have e1:=k.tup c ys e
  rw[jf (jkd e1 hb (by intro z;cases z))];exact e1,
 λc u e=>by
  obtain⟨o',e'⟩:=k.dom c u e
  by_cases q:c=b
  ·subst q;exact⟨o,je⟩
  ·exact⟨o',by rw[jf q];exact e'⟩⟩
def jdc:Option HO->Option (List V)
 |some (.lst xs)=>some xs
 |_=>none
def jgq:Option HO->Option (List V)
 |some (.tup xs)=>some xs
 |_=>none
def jea:Option HO->Option (List V)
 |some (.lst xs)=>some xs
 |some (.tup xs)=>some xs
 |_=>none
theorem jjh(xs:List V):jdc (some (.lst xs))=some xs:=rfl
theorem jj1(xs:List V):jgq (some (.tup xs))=some xs:=rfl
theorem jjx(xs:List V):jea (some (.lst xs))=some xs:=rfl
theorem jjy(xs:List V):jea (some (.tup xs))=some xs:=rfl
theorem jde{o:Option HO}{xs:List V}(h:jdc o=some xs):o=some (.lst xs):=by
 unfold jdc at h
 split at h
 ·cases h;rfl
 ·cases h
theorem jg5{o:Option HO}{xs:List V}(h:jgq o=some xs):o=some (.tup xs):=by
 unfold jgq at h
 split at h
 ·cases h;rfl
 ·cases h
theorem jfj{o:Option HO}{xs:List V}(h:jea o=some xs):o=some (.lst xs)\/o=some (.tup xs):=by
 unfold jea at h
 split at h
 ·cases h;exact .inl rfl
 ·cases h;exact .inr rfl
 ·cases h
section
variable{X:Cx}
def rLtU:R2:=λx y H Q=>match x,y with
 |.int i,.int j=>Q (.bl (decide (i<j))) H
 |.str i,.str j=>Q (.bl (decide (i.cps.toList<j.cps.toList))) H
 |_,_=>False
theorem jau:OpR X (compareOp .Lt) rLtU:=by
 intro pins s σ H x y v u Q I rx ry h
 cases x with
 |int i=>cases y with
  |int j=>exact op_lt pins s σ H _ _ v u Q I rx ry ⟨i,j,rfl,rfl,h⟩
  |_=>exact False.elim h
 |str i=>cases y with
  |str j=>exact op_lt_str pins s σ H _ _ v u Q I rx ry ⟨i,j,rfl,rfl,h⟩
  |_=>exact False.elim h
 |_=>exact False.elim h
def rLeU:R2:=λx y H Q=>match x,y with
 |.int i,.int j=>Q (.bl (decide (i<=j))) H
 |.str i,.str j=>Q (.bl (!decide (j.cps.toList<i.cps.toList))) H
 |_,_=>False
theorem jbc:OpR X (compareOp .LtE) rLeU:=by
 intro pins s σ H x y v u Q I rx ry h
 cases x with
 |int i=>cases y with
  |int j=>exact op_le pins s σ H _ _ v u Q I rx ry ⟨i,j,rfl,rfl,h⟩
  |_=>exact False.elim h
 |str i=>cases y with
  |str j =>
   obtain⟨t,rfl⟩:=rx
   obtain⟨t',rfl⟩:=ry
   exact PySem.P.le_str (jdb I h (by rfl))
  |_=>exact False.elim h
 |_=>exact False.elim h
def rIxU:R2:=λx y H Q=>match x,y with
 |.str z,.int i=>z.length<=sizeLine/\∃c,atI z.cps.toList i=some c/\Q (.str ⟨#[c]⟩) H
 |.ref p,.int i=>∃xs,jea (H p)=some xs/\∃v,atI xs i=some v/\Q v H
 |_,_=>False
theorem ix_U:IxR X rIxU:=by
 intro value slice pins s σ H x y v u Q I rx ry h hs
 cases x with
 |str z=>cases y with
  |int i=>obtain⟨h1,c,h2,h3⟩:=h;exact ix_str value slice pins s σ H _ _ v u Q I rx ry ⟨z,i,c,rfl,rfl,h1,h2,h3⟩ hs
  |_=>exact False.elim h
 |ref p=>cases y with
  |int i =>
   obtain⟨xs,e,w,h2,h3⟩:=h
   rcases jfj e with e|e
   ·exact jca value slice pins s σ H _ _ v u Q I rx ry ⟨p,xs,i,w,rfl,rfl,SqL.of e,h2,h3⟩ hs
   ·exact jc4 value slice pins s σ H _ _ v u Q I rx ry ⟨p,xs,i,w,rfl,rfl,SqT.of e,h2,h3⟩ hs
  |_=>exact False.elim h
 |_=>exact False.elim h
theorem jn0{α:Type}(x:α)(r:List α):atI (x::r) 0=some x:=jfa (j:=0) rfl
theorem jn1{α:Type}(x y:α)(r:List α):atI (x::y::r) 1=some y:=jfa (j:=1) rfl
theorem jre{α:Type}(x y z:α)(r:List α):atI (x::y::z::r) 2=some z:=jfa (j:=2) rfl
theorem jc8{α:Type}{xs:List α}{i:Int}{v:α}(h0:0<=i)(h:xs[i.toNat]?=some v):atI xs i=some v:=by
 have:=jfa (xs:=xs) (j:=i.toNat) h
 rwa[Int.toNat_of_nonneg h0]at this
def jru:V->V->V->Hp->(Hp->Prop)->Prop:=λo i v H Q=>match o,i with
 |.ref p,.int k=>∃xs,jdc (H p)=some xs/\∃j,ixN xs.length k=some j/\Q (upd H p (.lst (xs.set j v)))
 |_,_=>False
theorem joj:PSet X jru:=by
 intro pins s σ H o i v ov iv u Q I ro ri rv h
 cases o with
 |ref p=>cases i with
  |int k =>
   obtain⟨xs,e,j,h1,h2⟩:=h
   exact jq6 pins s σ H _ _ v ov iv u Q I ro ri rv ⟨p,xs,k,j,rfl,rfl,jde e,h1,h2⟩
  |_=>exact False.elim h
 |_=>exact False.elim h
def jkf:List V->Hp->VK->Prop:=λxs H Q=>match xs with
 |[.str z]=>z.length<=sizeLine/\Q (.int z.length) H
 |[.ref p]=>∃ys,jea (H p)=some ys/\Q (.int ys.length) H
 |_=>False
theorem kh:jdf X (.builtin "len") jkf:=by
 intro pins s σ H xs us Q I r h
 unfold jkf at h
 split at h
 ·rename_i z;exact call_len_str pins s σ H _ us Q I r ⟨z,rfl,h⟩
 ·rename_i p
  obtain⟨ys,e,h⟩:=h
  rcases jfj e with e|e
  ·exact zw pins s σ H _ us Q I r ⟨p,ys,rfl,.inl (SqL.of e),h⟩
  ·exact zw pins s σ H _ us Q I r ⟨p,ys,rfl,.inr (SqT.of e),h⟩
 ·exact h.elim
def joe:List V->Hp->VK->Prop:=λxs H Q=>match xs with
 |[.int i,.int j]=>Q (.int (if j<i then j else i)) H
 |_=>False
theorem jci(hc:X.calm=true):jdf X (.builtin "min") joe:=by
 intro pins s σ H xs us Q I r h
 unfold joe at h
 split at h
 ·rename_i i j;exact call_min2 hc pins s σ H _ us Q I r ⟨i,j,rfl,h⟩
 ·exact h.elim
def jod:List V->Hp->VK->Prop:=λxs H Q=>match xs with
 |[.int i,.int j]=>Q (.int (if j>i then j else i)) H
 |_=>False
theorem call_maxU(hc:X.calm=true):jdf X (.builtin "max") jod:=by
 intro pins s σ H xs us Q I r h
 unfold jod at h
 split at h
 ·rename_i i j;exact call_max2 hc pins s σ H _ us Q I r ⟨i,j,rfl,h⟩
 ·exact h.elim
def jke:List V->Hp->VK->Prop:=λxs H Q=>match xs with
 |[.int i]=>Q (.int i) H
 |[.bl k]=>Q (.int (if k then 1 else 0)) H
 |_=>False
theorem jch:jdf X (.type "int") jke:=by
 intro pins s σ H xs us Q I r h
 unfold jke at h
 split at h
 ·rename_i i;exact jcg pins s σ H _ us Q I r (.inl ⟨i,rfl,h⟩)
 ·rename_i k;exact jcg pins s σ H _ us Q I r (.inr ⟨k,rfl,h⟩)
 ·exact h.elim
def sgn(z:Str):List V:=z.cps.toList.map λc=>V.str ⟨#[c]⟩
theorem jsv(z:Str):(sgn z).length=z.length:=by simp[sgn,Str.length]
theorem jq9{z:Str}{acc:Array Value}(h:ItemsOf (SignAt z) acc z.cps.size):Vals (sgn z) acc.toList:=by
 obtain⟨h1,h2⟩:=h
 have hl:(sgn z).length=acc.toList.length:=by simp[sgn,h1]
 have gen:∀(xs:List V)(us:List Value),xs.length=us.length->(∀(i:Nat)(x:V)(u:Value),xs[i]?=some x->us[i]?=some u->RelV x u)->Vals xs us:=by
  intro xs
  induction xs with
  |nil=>intro us hl _;cases us with
   |nil=>exact .nil
   |cons _ _=>simp at hl
  |cons x xs ih=>intro us hl h;cases us with
   |nil=>simp at hl
   |cons u us=>exact .cons (h 0 x u rfl rfl) (ih us (by simpa using hl) λi a b e1 e2=>h (i+1) a b (by simpa using e1) (by simpa using e2))
 refine gen _ _ hl λi x u e1 e2=>?_
 obtain⟨c,t,hc,hu⟩:=h2 i u (by simpa using e2)
 subst hu
 simp only[sgn,A3]at e1
 have:z.cps.toList[i]?=some c:=by simpa using hc
 rw[this]at e1
 have e1':V.str ⟨#[c]⟩=x:=Az e1
 subst e1'
 exact⟨t,rfl⟩
def jhw:List V->Hp->VK->Prop:=λxs H Q=>match xs with
 |[.str z]=>z.length<=sizeLine/\∀l,H l=none->Q (.ref l) (upd H l (.lst (sgn z)))
 |[.ref p]=>∃ys,jea (H p)=some ys/\∀l,H l=none->Q (.ref l) (upd H l (.lst ys))
 |_=>False
theorem jb3(hc:X.calm=true):jdf X (.type "list") jhw:=by
 intro pins s σ H xs us Q I r h
 unfold jhw at h
 split at h
 ·rename_i z
  obtain⟨u,rfl,t,rfl⟩:=jd5 r
  obtain⟨hz,q⟩:=h
  refine call_list_str (I.ok.hd hc) z t (λh' tk acc c hk hn hi=>?_) hz
  have hf:=I.hok.fresh (Ag s.heap.objs.size)
  refine⟨.ref s.heap.objs.size,upd H s.heap.objs.size (.lst (sgn z)),I.laid hk (Ag _) ⟨by rw[jsv];exact hz,acc.toList,c,jq9 hi,by simpa using hn⟩,rfl,q _ hf⟩
 ·rename_i p
  obtain⟨ys,e,h⟩:=h
  rcases jfj e with e|e
  ·exact jbp pins s σ H _ us Q I r ⟨p,ys,rfl,.inl (SqL.of e),h⟩
  ·exact jbp pins s σ H _ us Q I r ⟨p,ys,rfl,.inr (SqT.of e),h⟩
 ·exact h.elim
def jog:V->List V->Hp->VK->Prop:=λx vs H Q=>match x,vs with
 |.ref l,[.int i]=>∃xs,jdc (H l)=some xs/\0<=i/\∃y,xs[i.toNat]?=some y/\Q y (upd H l (.lst (xs.eraseIdx i.toNat)))
 |_,_=>False
theorem mt_popU:MtM X "list.pop" jog:=by
 intro pins s σ H x vs v us Q I rx rv h
 unfold jog at h
 split at h
 ·rename_i l i
  obtain⟨xs,e,h0,y,hy,q⟩:=h
  have e:=jde e
  have hz:=(I.lstM e).1
  have hlt:i.toNat<xs.length:=(Ab.mp hy).1
  have hs:sizeLine=16777216:=Yf
  refine mt_popAt pins s σ H _ _ v us Q I rx rv ⟨l,xs,i,i.toNat,y,rfl,rfl,e,by omega,by omega,?_,hy,q⟩
  exact seqIndex_of h0 (by omega)
 ·exact h.elim
def rIsU(K:PySem.W.Frag):List V->Hp->VK->Prop:=λxs H Q=>match xs with
 |[x,.ty c]=>∃t b,TyOf K H x t/\PySem.W.kitOne K t (.type c)=some b/\Q (.bl b) H
 |_=>False
theorem call_isinstanceU:jdf X (.builtin "isinstance") (rIsU X.K):=by
 intro pins s σ H xs us Q I r h
 unfold rIsU at h
 split at h
 ·rename_i x c
  obtain⟨t,b,ty,e,q⟩:=h
  obtain⟨u,w',rfl,rx,rc⟩:=jgr r
  cases rc
  exact jpi I rx ty e λtk=>⟨.bl b,H,I.tok tk,rfl,q⟩
 ·exact h.elim
def ItS(z:Str):It:=⟨λi _=>i<z.length,λi H x H'=>H'=H/\∃c,z.cps.toList[i]?=some c/\x=.str ⟨#[c]⟩,λi _=>z.length<=i⟩
theorem jp7{P:Program}{w:World}{K:PySem.W.Frag}{tg:Expr}(z:Str)(t:Tok)(it:Addr):Turn P w K tg (ItS z) [it] it (λi h=>h.IsStrIter it "str_ascii_iterator" z t i) where
 mem:=by simp
 obj:=λi h st b hb=>by
  have e:b=it:=by simpa using hb
  subst e
  obtain⟨o,e,c,d⟩:=st
  exact⟨o,e,λv z=>by rw[d]at z;cases z⟩
 keep:=λi h h' st k=>let⟨o,ho,r⟩:=st;⟨o,k it (by simp) o ho,r⟩
 item:=by
  intro X hP hw hK hc i pins s σ H E I hf st hg
  subst hP hw hK
  obtain⟨f0,f1,f2,f3,f4,f5⟩:=hf it (by simp)
  have hi:i<z.cps.size:=hg
  refine wpAny_pyNext_ascii_item st (c:=z.cps[i]) (by simp[hi]) λh' st' sb=>?_
  have I1:Inv X pins σ H {s with heap:=h',toks:=s.toks+1}:=I.turned (t':=s.toks+1) (λb o hb e=>(sb.2 b hb).trans e) f0 f1 f3 f4 f5
  obtain⟨o,e,c,d⟩:=id st'
  exact⟨_,rfl,jhm (s:={s with heap:=h',toks:=s.toks+1}) e c d (by decide) ⟨.str ⟨#[z.cps[i]]⟩,H,I1,⟨_,rfl⟩,⟨rfl,_,by simp[hi],rfl⟩,st',λb hb=>(hf b hb).1⟩⟩
 done:=by
  intro X hP hw hK hc i pins s σ H E I hf st hg
  subst hP hw hK
  obtain⟨f0,f1,f2,f3,f4,f5⟩:=hf it (by simp)
  have hi:z.cps.size<=i:=hg
  exact wpAny_pyNext_ascii_end (I.ok.hd hc) st (by simp[hi]) λh' eb=>⟨rfl,I.turned (t':=s.toks) (λb o hb e=>eb b o hb e) f0 f1 f3 f4 f5⟩
 self:=λ_ _ _ _ _ st h=>wpAny_pyIter_striter_ascii st h
theorem jp8{P:Program}{w:World}{K:PySem.W.Frag}{tg:Expr}(z:Str)(t:Tok)(it:Addr):Turn P w K tg (ItS z) [it] it (λi h=>h.IsStrIter it "str_iterator" z t i) where
 mem:=by simp
 obj:=λi h st b hb=>by
  have e:b=it:=by simpa using hb
  subst e
  obtain⟨o,e,c,d⟩:=st
  exact⟨o,e,λv z=>by rw[d]at z;cases z⟩
 keep:=λi h h' st k=>let⟨o,ho,r⟩:=st;⟨o,k it (by simp) o ho,r⟩
 item:=by
  intro X hP hw hK hc i pins s σ H E I hf st hg
  subst hP hw hK
  obtain⟨f0,f1,f2,f3,f4,f5⟩:=hf it (by simp)
  have hi:i<z.cps.size:=hg
  refine wpAny_pyNext_wide_item st (c:=z.cps[i]) (by simp[hi]) λh' st' sb=>?_
  have I1:Inv X pins σ H {s with heap:=h',toks:=s.toks+1}:=I.turned (t':=s.toks+1) (λb o hb e=>(sb.2 b hb).trans e) f0 f1 f3 f4 f5
  obtain⟨o,e,c,d⟩:=id st'
  exact⟨_,rfl,jhm (s:={s with heap:=h',toks:=s.toks+1}) e c d (by decide) ⟨.str ⟨#[z.cps[i]]⟩,H,I1,⟨_,rfl⟩,⟨rfl,_,by simp[hi],rfl⟩,st',λb hb=>(hf b hb).1⟩⟩
 done:=by
  intro X hP hw hK hc i pins s σ H E I hf st hg
  subst hP hw hK
  obtain⟨f0,f1,f2,f3,f4,f5⟩:=hf it (by simp)
  have hi:z.cps.size<=i:=hg
  exact wpAny_pyNext_wide_end (I.ok.hd hc) st (by simp[hi]) λh' eb=>⟨rfl,I.turned (t':=s.toks) (λb o hb e=>eb b o hb e) f0 f1 f3 f4 f5⟩
 self:=λ_ _ _ _ _ st h=>wpAny_pyIter_striter_wide st h
def iAny(K:PySem.W.Frag)(t:TE):TI:=λσ H R=>t σ H λx H1=>match x with
 |.str z=>R (ItS z) H1
 |.ref a=>match H1 a with
  |some (.lst _)=>R (Itl K a) H1
  |some (.tup _)=>R (Itt K a) H1
  |_=>False
 |_=>False
theorem pi_any{tg l:Expr}{tl:TE}(hl:PE X l tl):PI X tg l (iAny X.K tl):=by
 intro pins s σ H R I h
 refine thn (hl pins s σ H _ I h) λv s1 ⟨x,H1,I1,r1,q1⟩=>?_
 cases x with
 |str z =>
  obtain⟨t,rfl⟩:=r1
  have fr:∀b∈[s1.heap.objs.size],FpOk X pins H1 b:=λb hb=>by
   have e:b=s1.heap.objs.size:=by simpa using hb
   subst e
   exact I1.fpOk (Ag _) (I1.hok.fresh (Ag _))
  cases ha:z.cps.all (·<128)
  ·exact wpAny_pyIter_wide ha ⟨s1.heap.objs.size,[s1.heap.objs.size],_,_,H1,rfl,I1.kept (t':=s1.toks) λb o e=>Ac _ e,jp8 z t _,⟨_,At _ rfl,rfl,rfl⟩,fr,q1⟩
  ·exact wpAny_pyIter_ascii ha ⟨s1.heap.objs.size,[s1.heap.objs.size],_,_,H1,rfl,I1.kept (t':=s1.toks) λb o e=>Ac _ e,jp7 z t _,⟨_,At _ rfl,rfl,rfl⟩,fr,q1⟩
 |ref a =>
  cases r1
  have fr:∀b∈[s1.heap.objs.size],FpOk X pins H1 b:=λb hb=>by
   have e:b=s1.heap.objs.size:=by simpa using hb
   subst e
   exact I1.fpOk (Ag _) (I1.hok.fresh (Ag _))
  simp only at q1
  split at q1
  ·rename_i xs e
   obtain⟨its,rv,p,hz⟩:=I1.list (SqL.of e)
   exact wpAny_pyIter_list p.isList ⟨s1.heap.objs.size,[s1.heap.objs.size],_,_,H1,rfl,I1.kept (t':=s1.toks) λb o e=>Ac _ e,jp6 a _,⟨_,At _ rfl,rfl,rfl⟩,fr,q1⟩
  ·rename_i xs e
   obtain⟨its,rv,p,hz⟩:=I1.tuple (SqT.of e)
   exact wpAny_pyIter_tuple (show s1.heap.IsTuple a its.toArray from p) ⟨s1.heap.objs.size,[s1.heap.objs.size],_,_,H1,rfl,I1.kept (t':=s1.toks) λb o e=>Ac _ e,joo a _,⟨_,At _ rfl,rfl,rfl⟩,fr,q1⟩
  ·exact q1.elim
 |_=>exact False.elim q1
theorem jsb{z:Str}{g:TG}{tb:TS}{D:Ends}{σ:St}{H:Hp}(Pv:Nat->St->Hp->Prop)(h0:Pv 0 σ H)
  (hs:∀i c σ H,z.cps.toList[i]?=some c->Pv i σ H->g (.str ⟨#[c]⟩) σ H λσ2 H2=>tb {D with nx:=Pv (i+1),ct:=Pv (i+1),bk:=D.nx} σ2 H2) (hd:∀σ H,Pv z.length σ H->D.nx σ H) :
  ∃W:Nat->Nat->St->Hp->Prop,(∃m,W 0 m σ H)/\∀i m σ H,W i m σ H ->
   ((ItS z).stop i H/\D.nx σ H)\/((ItS z).go i H/\∃N:St->Hp->Prop,(∀σ' H',N σ' H'->∃m',m'<m/\W (i+1) m' σ' H')/\∀x H',(ItS z).yld i H x H'->g x σ H' λσ2 H2=>tb {D with nx:=N,ct:=N,bk:=D.nx} σ2 H2):=by
 refine⟨λi m σ H=>m=z.length-i/\i<=z.length/\Pv i σ H,⟨z.length,by simp,Ix _,h0⟩,?_⟩
 rintro i m σ H ⟨rfl,hi,p⟩
 by_cases hlt:i<z.length
 ·refine .inr ⟨hlt,Pv (i+1),λσ' H' p'=>⟨z.length-(i+1),by omega,rfl,hlt,p'⟩,λx H' y=>?_⟩
  obtain⟨e,c,e1,e2⟩:=y
  subst e e2
  exact hs i c σ _ e1 p
 ·have e:i=z.length:=by omega
  subst e
  exact .inl ⟨Ag _,hd σ H p⟩
mutual
def Rep(H:Hp):V->PyData->Prop
 |v,.none=>v=.non
 |v,.bool b=>v=.bl b
 |v,.int i=>v=.int i
 |v,.str x=>v=.str x
 |v,.list ds=>∃a vs,v=.ref a/\H a=some (.lst vs)/\Reps H vs ds
 |v,.tuple ds=>∃a vs,v=.ref a/\H a=some (.tup vs)/\Reps H vs ds
 |_,.dict _=>False
def Reps(H:Hp):List V->List PyData->Prop
 |[],[]=>True
 |v::vs,d::ds=>Rep H v d/\Reps H vs ds
 |_,_=>False
end
section
variable{pins:List (Addr×Obj)}{σ:L2.St}{H:Hp}{s:Shared}
mutual
theorem Rep.reads(I:Inv X pins σ H s):∀{d:PyData}{v:V}{u:Value},Rep H v d->RelV v u->∃as,Reads s.heap u d as
 |.none,v,u,h,r=>by simp only[Rep]at h;subst h;cases r;exact⟨_,.none⟩
 |.bool b,v,u,h,r=>by simp only[Rep]at h;subst h;cases r;exact⟨_,.bool b⟩
 |.int i,v,u,h,r=>by simp only[Rep]at h;subst h;obtain⟨t,rfl⟩:=r;exact⟨_,.int i t⟩
 |.str x,v,u,h,r=>by simp only[Rep]at h;subst h;obtain⟨t,rfl⟩:=r;exact⟨_,.str x t⟩
 |.list ds,v,u,h,r=>by
  simp only[Rep]at h
  obtain⟨a,vs,rfl,e,h⟩:=h
  cases r
  obtain⟨its,rv,⟨o,n,e1,e2,e3,e4⟩,hz⟩:=I.list (SqL.of e)
  obtain⟨as,q⟩:=Reps.reads I h rv
  exact⟨_,reads_list_at e1 e2 e4 (by simpa using q)⟩
 |.tuple ds,v,u,h,r=>by
  simp only[Rep]at h
  obtain⟨a,vs,rfl,e,h⟩:=h
  cases r
  obtain⟨its,rv,⟨o,e1,e2,n,e4⟩,hz⟩:=I.tuple (SqT.of e)
  obtain⟨as,q⟩:=Reps.reads I h rv
  exact⟨_,reads_tuple_at e1 e2 e4 (by simpa using q)⟩
 |.dict _,v,u,h,r=>by simp only[Rep]at h
theorem Reps.reads(I:Inv X pins σ H s):∀{ds:List PyData}{vs:List V}{us:List Value},Reps H vs ds->Vals vs us->∃as,ReadsAll s.heap us ds as
 |[],[],us,h,r=>by cases r;exact⟨_,.nil⟩
 |[],v::vs,us,h,r=>by simp only[Reps]at h
 |d::ds,[],us,h,r=>by simp only[Reps]at h
 |d::ds,v::vs,us,h,r=>by
  simp only[Reps]at h
  cases r with
  |cons r1 r2 =>
   obtain⟨as,q⟩:=Rep.reads I h.1 r1
   obtain⟨bs,q2⟩:=Reps.reads I h.2 r2
   exact⟨_,.cons q q2⟩
end
end
def rEqD:R2:=λx y H Q=>∃d e,Rep H x d/\Rep H y e/\SeqAt.shaped d=true/\SeqAt.shaped e=true/\Q (.bl (PyData.eqv d e)) H
theorem op_eqD(hu:X.A.units+64<cLine):OpR X (compareOp .Eq) rEqD:=by
 intro pins s σ H x y v u Q I rx ry h
 obtain⟨d,e,hd,he,sd,se,q⟩:=h
 obtain⟨as,r1⟩:=hd.reads I rx
 obtain⟨bs,r2⟩:=he.reads I ry
 exact eq_dataH r1 r2 sd se hu ⟨.bl _,H,I,rfl,q⟩
def rNeD:R2:=λx y H Q=>∃d e,Rep H x d/\Rep H y e/\SeqAt.shaped d=true/\SeqAt.shaped e=true/\Q (.bl (!PyData.eqv d e)) H
theorem op_neD(hu:X.A.units+64<cLine):OpR X (compareOp .NotEq) rNeD:=by
 intro pins s σ H x y v u Q I rx ry h
 obtain⟨d,e,hd,he,sd,se,q⟩:=h
 obtain⟨as,r1⟩:=hd.reads I rx
 obtain⟨bs,r2⟩:=he.reads I ry
 exact ne_dataH r1 r2 sd se hu ⟨.bl _,H,I,rfl,q⟩
end
theorem km:bootBuiltins "len"=some (.builtin "len"):=by decide +kernel
theorem jc2:bootBuiltins "min"=some (.builtin "min"):=by decide +kernel
theorem bt_max:bootBuiltins "max"=some (.builtin "max"):=by decide +kernel
theorem yp:bootBuiltins "isinstance"=some (.builtin "isinstance"):=by decide +kernel
theorem jc1:bootBuiltins "all"=some (.builtin "all"):=by decide +kernel
theorem bt_sum:bootBuiltins "sum"=some (.builtin "sum"):=by decide +kernel
theorem jbo:bootBuiltins "int"=some (.type "int"):=by decide +kernel
theorem jb9:bootBuiltins "list"=some (.type "list"):=by decide +kernel
theorem jbe:bootBuiltins "tuple"=some (.type "tuple"):=by decide +kernel
theorem jc3:bootBuiltins "str"=some (.type "str"):=by decide +kernel
theorem bt_bool:bootBuiltins "bool"=some (.type "bool"):=by decide +kernel
theorem jbn:bootBuiltins "enumerate"=some (.type "enumerate"):=by decide +kernel
section
variable{X:Cx}
def isL(x:V)(H:Hp):Prop:=match x with
 |.ref p=>(jdc (H p)).isSome=true
 |_=>False
def tBML(r:V->List V->Hp->VK->Prop)(to:TE)(t:TA):TE:=λσ H Q=>to σ H λx H1=>isL x H1/\t σ H1 λxs H2=>r x xs H2 Q
theorem isL.ty{K:PySem.W.Frag}{x:V}{H:Hp}(h:isL x H):tyV K "list" x H:=by
 unfold isL at h
 split at h
 ·rename_i p
  cases e:jdc (H p)with
  |none=>rw[e]at h;cases h
  |some ys=>exact .inl ⟨rfl,ys,SqL.of (jde e)⟩
 ·exact h.elim
variable{o e:Expr}{es:List Expr}{to:TE}{t:TA}{name:Str}{apos cpos:Pos}{id:String}{r:V->List V->Hp->VK->Prop}
theorem PE.imp{e:Expr}{t t':TE}(h:PE X e t)(hi:∀σ H Q,t' σ H Q->t σ H Q):PE X e t':=λpins s σ H Q I hw=>h pins s σ H Q I (hi σ H Q hw)
theorem pe_bmL(slot:Slot "list" name id)(hty:typeOf (.builtin id)=pure (.type "method_descriptor"))(hm:MtM X id r)(ho:PE X o to)(ha:PA X (e::es) t)(mono:∀σ H Q Q',(∀v H',Q v H'->Q' v H')->to σ H Q->to σ H Q')
  (hbase:attributeBase o name X.env (eval o X.env)=eval o X.env:=by rfl)
  (hfew:((backTo cpos (starEach (e::es) X.env)).all (λx=>!x.1) && (backToKw cpos (keywordEach [] X.env)).all (λx=>x.1.isSome)
   && decide ((e::es).length+([]:List Keyword).length+(if([]:List Keyword).isEmpty then 0 else 1)<30))=true:=by rfl)
  (hline:(apos.endLine == cpos.line)=true:=by rfl) (hs:starEach (e::es) X.env=(false,eval e X.env)::starEach es X.env:=by rfl) (hplain:(backTo cpos (starEach es X.env)).any (·.1)=false:=by rfl) :
  PE X (.Call (.Attribute o name apos) (e::es) [] cpos) (tBML r to t) :=
 (jc7 PySem.F.plainAttrs_list slot hty hm ho ha hbase hfew hline hs hplain).imp λσ H Q h=>mono σ H _ _ (λv H' q=>⟨q.1.ty,q.2⟩) h
def jkj(r:V->List V->Hp->VK->Prop)(to:TE):TE:=λσ H Q=>to σ H λx H1=>isL x H1/\r x [] H1 Q
theorem pe_bmL0(slot:Slot "list" name id)(hty:typeOf (.builtin id)=pure (.type "method_descriptor"))(hm:MtM X id r)(ho:PE X o to)(mono:∀σ H Q Q',(∀v H',Q v H'->Q' v H')->to σ H Q->to σ H Q')
  (hbase:attributeBase o name X.env (eval o X.env)=eval o X.env:=by rfl) (hline:(apos.endLine == cpos.line)=true:=by rfl):PE X (.Call (.Attribute o name apos) [] [] cpos) (jkj r to) :=
 (pe_bm0 PySem.F.plainAttrs_list slot hty hm ho hbase hline).imp λσ H Q h=>mono σ H _ _ (λv H' q=>⟨q.1.ty,q.2⟩) h
theorem jdd{i:Nat}:∀σ H Q Q',(∀v H',Q v H'->Q' v H')->tVar i σ H Q->tVar i σ H Q':=λ_ _ _ _ h ⟨v,e,q⟩=>⟨v,e,h v _ q⟩
def jfm:V->List V->Hp->VK->Prop:=λx vs H Q=>match x,vs with
 |.ref l,[y]=>∃xs,jdc (H l)=some xs/\xs.length<sizeLine/\Q .non (upd H l (.lst (xs++[y])))
 |_,_=>False
theorem ki:MtM X "list.append" jfm:=by
 intro pins s σ H x vs v us Q I rx rv h
 unfold jfm at h
 split at h
 ·rename_i l y
  obtain⟨xs,e,h⟩:=h
  exact jbq pins s σ H _ _ v us Q I rx rv ⟨l,xs,y,rfl,rfl,jde e,h⟩
 ·exact h.elim
def jg6:V->List V->Hp->VK->Prop:=λx vs H Q=>match x,vs with
 |.ref l,[.ref b]=>∃xs,jdc (H l)=some xs/\∃zs,jdc (H b)=some zs/\xs.length+zs.length<=sizeLine/\Q .non (upd H l (.lst (xs++zs)))
 |_,_=>False
theorem mt_extendU:MtM X "list.extend" jg6:=by
 intro pins s σ H x vs v us Q I rx rv h
 unfold jg6 at h
 split at h
 ·rename_i l b
  obtain⟨xs,e1,zs,e2,h⟩:=h
  exact mt_extend pins s σ H _ _ v us Q I rx rv ⟨l,b,xs,zs,rfl,rfl,jde e1,jde e2,h⟩
 ·exact h.elim
def rEqU:R2:=λx y H Q=>match x,y with
 |.int i,.int j=>Q (.bl (decide (i=j))) H
 |.bl i,.bl j=>Q (.bl (decide (i=j))) H
 |.str i,.str j=>Q (.bl (decide (i=j))) H
 |.ref a,.ref b=>rEqD (.ref a) (.ref b) H Q
 |x,y=>scal x y=true/\Q (.bl (decide (x=y))) H
def rNeU:R2:=λx y H Q=>match x,y with
 |.int i,.int j=>Q (.bl (!decide (i=j))) H
 |.bl i,.bl j=>Q (.bl (!decide (i=j))) H
 |.str i,.str j=>Q (.bl (!decide (i=j))) H
 |.ref a,.ref b=>rNeD (.ref a) (.ref b) H Q
 |x,y=>scal x y=true/\Q (.bl (!decide (x=y))) H
theorem j9(hu:X.A.units+64<cLine):OpR X (compareOp .Eq) rEqU:=by
 intro pins s σ H x y v u Q I rx ry h
 unfold rEqU at h
 split at h
 ·exact jcq pins s σ H _ _ v u Q I rx ry ⟨rfl,by simpa using h⟩
 ·exact jcq pins s σ H _ _ v u Q I rx ry ⟨rfl,by simpa using h⟩
 ·exact jcq pins s σ H _ _ v u Q I rx ry ⟨rfl,by simpa using h⟩
 ·exact op_eqD hu pins s σ H _ _ v u Q I rx ry h
 ·exact jcq pins s σ H _ _ v u Q I rx ry h
theorem jb6(hu:X.A.units+64<cLine):OpR X (compareOp .NotEq) rNeU:=by
 intro pins s σ H x y v u Q I rx ry h
 unfold rNeU at h
 split at h
 ·exact jcr pins s σ H _ _ v u Q I rx ry ⟨rfl,by simpa using h⟩
 ·exact jcr pins s σ H _ _ v u Q I rx ry ⟨rfl,by simpa using h⟩
 ·exact jcr pins s σ H _ _ v u Q I rx ry ⟨rfl,by simpa using h⟩
 ·exact op_neD hu pins s σ H _ _ v u Q I rx ry h
 ·exact jcr pins s σ H _ _ v u Q I rx ry h
theorem jls(H:Hp)(Q:VK)(i j:Int):rLtU (.int i) (.int j) H Q=(Q (.bl (decide (i<j))) H):=rfl
theorem jlt(H:Hp)(Q:VK)(i j:Str):rLtU (.str i) (.str j) H Q=(Q (.bl (decide (i.cps.toList<j.cps.toList))) H):=rfl
theorem jlq(H:Hp)(Q:VK)(i j:Int):rLeU (.int i) (.int j) H Q=(Q (.bl (decide (i<=j))) H):=rfl
theorem jlr(H:Hp)(Q:VK)(i j:Str):rLeU (.str i) (.str j) H Q=(Q (.bl (!decide (j.cps.toList<i.cps.toList))) H):=rfl
theorem jg7(H:Hp)(Q:VK)(z:Str)(i:Int):rIxU (.str z) (.int i) H Q=(z.length<=sizeLine/\∃c,atI z.cps.toList i=some c/\Q (.str ⟨#[c]⟩) H):=rfl
theorem jd0(H:Hp)(Q:VK)(p:Addr)(i:Int):rIxU (.ref p) (.int i) H Q=(∃xs,jea (H p)=some xs/\∃v,atI xs i=some v/\Q v H):=rfl
theorem jjn(H:Hp)(Q:VK)(z:Str):jkf [.str z] H Q=(z.length<=sizeLine/\Q (.int z.length) H):=rfl
theorem jee(H:Hp)(Q:VK)(p:Addr):jkf [.ref p] H Q=(∃ys,jea (H p)=some ys/\Q (.int ys.length) H):=rfl
theorem jjp(H:Hp)(Q:VK)(i j:Int):joe [.int i,.int j] H Q=(Q (.int (if j<i then j else i)) H):=rfl
theorem jjo(H:Hp)(Q:VK)(i j:Int):jod [.int i,.int j] H Q=(Q (.int (if j>i then j else i)) H):=rfl
theorem jjm(H:Hp)(Q:VK)(i:Int):jke [.int i] H Q=(Q (.int i) H):=rfl
theorem jlo(H:Hp)(Q:VK)(k:Bool):jke [.bl k] H Q=(Q (.int (if k then 1 else 0)) H):=rfl
theorem jhy(H:Hp)(Q:VK)(z:Str):jhw [.str z] H Q=(z.length<=sizeLine/\∀l,H l=none->Q (.ref l) (upd H l (.lst (sgn z)))):=rfl
theorem jhx(H:Hp)(Q:VK)(p:Addr):jhw [.ref p] H Q=(∃ys,jea (H p)=some ys/\∀l,H l=none->Q (.ref l) (upd H l (.lst ys))):=rfl
theorem jjs(H:Hp)(Q:VK)(l:Addr)(i:Int):jog (.ref l) [.int i] H Q=(∃xs,jdc (H l)=some xs/\0<=i/\∃y,xs[i.toNat]?=some y/\Q y (upd H l (.lst (xs.eraseIdx i.toNat)))):=rfl
theorem jdk(H:Hp)(Q:VK)(l:Addr)(y:V):jfm (.ref l) [y] H Q=(∃xs,jdc (H l)=some xs/\xs.length<sizeLine/\Q .non (upd H l (.lst (xs++[y])))):=rfl
theorem jf8(H:Hp)(Q:VK)(l b:Addr):jg6 (.ref l) [.ref b] H Q=(∃xs,jdc (H l)=some xs/\∃zs,jdc (H b)=some zs/\xs.length+zs.length<=sizeLine/\Q .non (upd H l (.lst (xs++zs)))):=rfl
theorem jlk(H:Hp)(Q:VK)(i j:Int):rEqU (.int i) (.int j) H Q=(Q (.bl (decide (i=j))) H):=rfl
theorem jnb(H:Hp)(Q:VK)(i j:Bool):rEqU (.bl i) (.bl j) H Q=(Q (.bl (decide (i=j))) H):=rfl
theorem jlm(H:Hp)(Q:VK)(i j:Str):rEqU (.str i) (.str j) H Q=(Q (.bl (decide (i=j))) H):=rfl
theorem jll(H:Hp)(Q:VK)(i j:Addr):rEqU (.ref i) (.ref j) H Q=(rEqD (.ref i) (.ref j) H Q):=rfl
theorem jlu(H:Hp)(Q:VK)(i j:Int):rNeU (.int i) (.int j) H Q=(Q (.bl (!decide (i=j))) H):=rfl
theorem jne(H:Hp)(Q:VK)(i j:Bool):rNeU (.bl i) (.bl j) H Q=(Q (.bl (!decide (i=j))) H):=rfl
theorem jlv(H:Hp)(Q:VK)(i j:Str):rNeU (.str i) (.str j) H Q=(Q (.bl (!decide (i=j))) H):=rfl
theorem jfn(H:Hp)(Q:VK)(i j:Addr):rNeU (.ref i) (.ref j) H Q=(rNeD (.ref i) (.ref j) H Q):=rfl
theorem jnc(K:PySem.W.Frag)(x:V)(c:String)(H:Hp)(Q:VK):rIsU K [x,.ty c] H Q=(∃t b,TyOf K H x t/\PySem.W.kitOne K t (.type c)=some b/\Q (.bl b) H):=rfl
theorem jjt(p:Addr)(k:Int)(v:V)(H:Hp)(Q:Hp->Prop):jru (.ref p) (.int k) v H Q=(∃xs,jdc (H p)=some xs/\∃j,ixN xs.length k=some j/\Q (upd H p (.lst (xs.set j v)))):=rfl
theorem jm4(p:Addr)(H:Hp):isL (.ref p) H=((jdc (H p)).isSome=true):=rfl
def jdn(J:It)(g:TG)(tb:TS)(D:Ends)(σ:L2.St)(H1:Hp):Prop:=∃W:Nat->Nat->L2.St->Hp->Prop,(∃m,W 0 m σ H1)/\∀i m σ H,W i m σ H ->
 (J.stop i H/\D.nx σ H)\/(J.go i H/\∃N:L2.St->Hp->Prop,(∀σ' H',N σ' H'->∃m',m'<m/\W (i+1) m' σ' H')/\∀x H',J.yld i H x H'->g x σ H' λσ2 H2=>tb {D with nx:=N,ct:=N,bk:=D.nx} σ2 H2)
theorem jnp(wi:TI)(g:TG)(tb:TS)(D:Ends)(σ:L2.St)(H:Hp):tFor wi g tb D σ H=wi σ H λJ H1=>jdn J g tb D σ H1:=rfl
theorem jd3{lo:Int}{n:Nat}{g:TG}{tb:TS}{D:Ends}{σ:L2.St}{H:Hp}(Pv:Nat->L2.St->Hp->Prop)(h0:Pv 0 σ H)
  (hs:∀i σ H,i<n->Pv i σ H->g (.int (lo+i)) σ H λσ2 H2=>tb {D with nx:=Pv (i+1),ct:=Pv (i+1),bk:=D.nx} σ2 H2) (hd:∀σ H,Pv n σ H->D.nx σ H):jdn (Itr lo n) g tb D σ H:=jpc Pv h0 hs hd
theorem jqr{z:Str}{g:TG}{tb:TS}{D:Ends}{σ:L2.St}{H:Hp}(Pv:Nat->L2.St->Hp->Prop)(h0:Pv 0 σ H)
  (hs:∀i c σ H,z.cps.toList[i]?=some c->Pv i σ H->g (.str ⟨#[c]⟩) σ H λσ2 H2=>tb {D with nx:=Pv (i+1),ct:=Pv (i+1),bk:=D.nx} σ2 H2) (hd:∀σ H,Pv z.length σ H->D.nx σ H):jdn (ItS z) g tb D σ H:=jsb Pv h0 hs hd
theorem jf2{K:PySem.W.Frag}{a:Addr}{xs:List V}{g:TG}{tb:TS}{D:Ends}{σ:L2.St}{H:Hp}(Pv:Nat->L2.St->Hp->Prop)(h0:Pv 0 σ H)(hl:∀i σ H,i<=xs.length->Pv i σ H->H a=some (.lst xs))
  (hs:∀i x σ H,xs[i]?=some x->Pv i σ H->g x σ H λσ2 H2=>tb {D with nx:=Pv (i+1),ct:=Pv (i+1),bk:=D.nx} σ2 H2) (hd:∀σ H,Pv xs.length σ H->D.nx σ H):jdn (Itl K a) g tb D σ H :=
 jql Pv h0 (λi σ H h p=>SqL.of (hl i σ H h p)) hs hd
theorem jfi{K:PySem.W.Frag}{a:Addr}{xs:List V}{g:TG}{tb:TS}{D:Ends}{σ:L2.St}{H:Hp}(Pv:Nat->L2.St->Hp->Prop)(h0:Pv 0 σ H)(hl:∀i σ H,i<=xs.length->Pv i σ H->H a=some (.tup xs))
  (hs:∀i x σ H,xs[i]?=some x->Pv i σ H->g x σ H λσ2 H2=>tb {D with nx:=Pv (i+1),ct:=Pv (i+1),bk:=D.nx} σ2 H2) (hd:∀σ H,Pv xs.length σ H->D.nx σ H):jdn (Itt K a) g tb D σ H :=
 jsc Pv h0 (λi σ H h p=>SqT.of (hl i σ H h p)) hs hd
end
def clOf(env:Env):List (Str×NameKind)->List (Str×Addr)->List (Str×Addr)
 |[],cs=>cs
 |(n,k)::r,cs=>clOf env r (if k == .free then(n,(env.cells.lookup n).getD 0)::cs else cs)
theorem jek{env:Env}{scope:Scope}(h:∀y∈scope.names,y.2=.free->∃c,env.cells.lookup y.1=some c):closureFor scope env=pure (clOf env scope.names []):=by
 have gen:∀(l:List (Str×NameKind))(cs:List (Str×Addr)),(∀y∈l,y.2=.free->∃c,env.cells.lookup y.1=some c) ->
   (forIn l cs λx r=>(match x with|(name,kind)=>if(kind == NameKind.free)=true then do let c <-cellOf env name;pure (ForInStep.yield ((name,c)::r))else pure (ForInStep.yield r)):Sem (List (Str×Addr)))=pure (clOf env l cs):=by
  intro l
  induction l with
  |nil=>intro cs _;rfl
  |cons y l ih =>
   intro cs hy
   obtain⟨n,k⟩:=y
   rw[W7]
   have hr:=λz hz=>hy z (Ip _ hz)
   by_cases hk:k=.free
   ·subst hk
    obtain⟨c,hc⟩:=hy _ (Ow ..) rfl
    have hc':env.cells.lookup n=some c:=hc
    have e:cellOf env n=pure c:=by unfold cellOf;rw[hc']
    simp only[U8,O5,e,pure_bind]
    rw[ih _ hr]
    simp[clOf,hc']
   ·have hb:(k == NameKind.free)=false:=by simpa using hk
    simp only[hb,Ih,Oi,pure_bind]
    rw[ih _ hr]
    simp[clOf,hb]
 exact(Om (· >>= λs=>pure s) (gen scope.names [] h)).trans (by rfl)
theorem jg1{env:Env}:∀(l:List (Str×NameKind))(cs:List (Str×Addr))(x:Str)(c:Addr),(∀y∈l,y.2=.free->∃c,env.cells.lookup y.1=some c)->(∀x c,cs.lookup x=some c->env.cells.lookup x=some c) ->
  (clOf env l cs).lookup x=some c->env.cells.lookup x=some c
 |[],cs,x,c,_,hc,h=>hc x c h
 |(n,k)::r,cs,x,c,hl,hc,h=>by
  unfold clOf at h
  refine jg1 r _ x c (λy hy=>hl y (Ip _ hy)) (λz d hz=>?_) h
  split at hz
  ·rename_i hk
   rw[List.lookup_cons]at hz
   cases hzn:z == n with
   |true =>
    rw[hzn]at hz
    obtain⟨c',hc'⟩:=hl _ (Ow ..) (by simpa using hk)
    have hc'':env.cells.lookup n=some c':=hc'
    have ez:z=n:=by simpa using hzn
    subst ez
    rw[hc'']at hz
    rw[hc'']
    exact hz
   |false=>rw[hzn]at hz;exact hc z d hz
  ·exact hc z d hz
theorem ji6{env:Env}:∀(l:List (Str×NameKind))(cs:List (Str×Addr))(x:Str),(∃c,cs.lookup x=some c)->∃c,(clOf env l cs).lookup x=some c
 |[],cs,x,h=>h
 |(n,k)::r,cs,x,h=>by
  unfold clOf
  refine ji6 r _ x ?_
  split
  ·rw[List.lookup_cons]
   cases x == n with
   |true=>exact⟨_,rfl⟩
   |false=>exact h
  ·exact h
theorem jg0{env:Env}:∀(l:List (Str×NameKind))(cs:List (Str×Addr))(x:Str),(x,NameKind.free)∈l->∃c,(clOf env l cs).lookup x=some c
 |(n,k)::r,cs,x,h=>by
  unfold clOf
  rcases Al.mp h with h|h
  ·cases h
   refine ji6 r _ _ ?_
   simp[List.lookup_cons]
  ·exact jg0 r _ x h
abbrev Cx.comp(X:Cx)(scope:Scope)(C:Addr)(Nc:List Str)(s3:Shared)(H3:Hp)(fp:List Addr):Cx :=
 {X with N:=Nc,s₀:=s3,H₀:=H3,env:=compEnvC scope (clOf X.env scope.names []) C X.env,outer:=X.stack,stack:=X.stack,ex:=fp,fn:=λ_=>false,pn:=[],xe:=λ_ _=>False}
def jd6(js:List (Option Nat))(σ:L2.St):L2.St:=js.map λo=>o.bind λj=>(σ[j]?).getD none
def jfq(D:Addr)(te:TE):TS:=λE σ H=>te σ H λv H1=>∃ys,jdc (H1 D)=some ys/\ys.length<sizeLine/\E.nx σ (upd H1 D (.lst (ys++[v])))
def jgk(wi:TI)(g:TG)(js:List (Option Nat))(te:TE):TE:=λσ H Q=>wi σ H λJ H1=>∀D,H1 D=none ->
 jdn J g (jfq D te) {nx:=λ_ H'=>Q (.ref D) H',rt:=λ_ _=>False} (jd6 js σ) (upd H1 D (.lst []))
structure CompOk(X:Cx)(scope:Scope)(Nc:List Str)(js:List (Option Nat)):Prop where
 kind:scope.kind=.function
 nocell:∀y∈scope.names,y.2≠.cell
 loc:∀y∈scope.names,y.2=.local->scope.names.lookup y.1=some .local
 free:∀y∈scope.names,y.2=.free->X.env.kindOf y.1=some .cell\/X.env.kindOf y.1=some .free
 len:js.length=Nc.length
 nol:∀x,(x,NameKind.free)∈scope.names->scope.names.lookup x≠some .local
 see:∀(i j:Nat)(x:Str),js[i]?=some (some j)->Nc[i]?=some x->X.N[j]?=some x/\(x,NameKind.free)∈scope.names
section
variable{X:Cx}{pins:List (Addr×Obj)}{σ:L2.St}{H:Hp}{s:Shared}{scope:Scope}{Nc:List Str}{js:List (Option Nat)}{fp:List Addr}
theorem CompOk.has(c:CompOk X scope Nc js)(I:Inv X pins σ H s):∀y∈scope.names,y.2=.free->∃a,X.env.cells.lookup y.1=some a:=λy hy hf=>I.ok.has _ (c.free y hy hf)
theorem jf9{env:Env}{x:Str}:∀{l:List (Str×NameKind)},(∀y∈l,y.2≠.cell) ->
  ((l.map fun(n,k)=>if(k == NameKind.free && env.scope.kind == .function && env.kindOf n == some .cell)then(n,NameKind.cell)else(n,k)).lookup x=some .cell \/
   (l.map fun(n,k)=>if(k == NameKind.free && env.scope.kind == .function && env.kindOf n == some .cell)then(n,NameKind.cell)else(n,k)).lookup x=some .free)->(x,NameKind.free)∈l
 |[],_,h=>by simp at h
 |(n,k)::r,hc,h=>by
  rw[Av]at h
  by_cases hx:x=n
  ·subst hx
   have hk:k=.free:=by
    have hk':k≠.cell:=hc _ (Ow ..)
    by_cases hcond:(k == NameKind.free && env.scope.kind == .function && env.kindOf x == some .cell)=true
    ·rw[On,On]at hcond
     simpa using hcond.1.1
    ·simp only[hcond,Ih,Oi,List.lookup_cons,U8]at h
     rcases h with h|h
     ·exact absurd (Az h) hk'
     ·exact Az h
   subst hk
   exact Ow ..
  ·refine Ip _ (jf9 (env:=env) (λy hy=>hc y (Ip _ hy)) ?_)
   have hxn:(x == n)=false:=by simpa using hx
   by_cases hcond:(k == NameKind.free && env.scope.kind == .function && env.kindOf n == some .cell)=true
   ·simpa only[hcond,O5,List.lookup_cons,hxn]using h
   ·simpa only[hcond,Ih,Oi,List.lookup_cons,hxn]using h
theorem jgx{env:Env}{x:Str}:∀{l:List (Str×NameKind)},
  (l.map fun(n,k)=>if(k == NameKind.free && env.scope.kind == .function && env.kindOf n == some .cell)then(n,NameKind.cell)else(n,k)).lookup x=some .local->l.lookup x=some .local
 |[],h=>by simp at h
 |(n,k)::r,h=>by
  rw[Av]at h
  by_cases hx:x=n
  ·subst hx
   by_cases hcond:(k == NameKind.free && env.scope.kind == .function && env.kindOf x == some .cell)=true
   ·simp only[hcond,O5,List.lookup_cons,U8]at h
    cases h
   ·simp only[hcond,Ih,Oi,List.lookup_cons,U8]at h
    simp only[List.lookup_cons,U8]
    exact h
  ·have hxn:(x == n)=false:=by simpa using hx
   rw[List.lookup_cons,hxn]
   refine jgx (env:=env) ?_
   by_cases hcond:(k == NameKind.free && env.scope.kind == .function && env.kindOf n == some .cell)=true
   ·simpa only[hcond,O5,List.lookup_cons,hxn]using h
   ·simpa only[hcond,Ih,Oi,List.lookup_cons,hxn]using h
theorem jr6(c:CompOk X scope Nc js)(I:Inv X pins σ H s)(hf:∀b∈fp,FpOk X pins H b)(ho:∀b∈fp,∃o,s.heap.get? b=some o):(X.comp scope s.heap.objs.size Nc s H fp).Ok:=by
 have hs:=c.has I
 have sub:∀x a,(clOf X.env scope.names []).lookup x=some a->X.env.cells.lookup x=some a:=λx a=>jg1 _ _ x a hs (λ_ _ z=>nomatch z)
 refine⟨I.ok.mod,c.kind,I.ok.glob,I.ok.blt,Ag _,λx y a e1 e2=>I.ok.inj x y a (sub x a e1) (sub y a e2),λx h=>jg0 _ _ x (jf9 (env:=X.env) c.nocell h),(λx a h=>nomatch h),I.ok.hd,I.ok.frames,.inl rfl,λb hb=>⟨?_,λx a e=>?_⟩,I.bs,
  A7 I.ok.bsz I.sz,λb o e hb=>?_,λb hb hb'=>?_,I.stack,I.stkFree⟩
 ·obtain⟨o,e⟩:=ho b hb
  exact Ar (Ai e)
 ·exact(hf b hb).2.2.2.2.1 x a (sub x a e)
 ·rcases(hf b hb).2.2.2.1 with z|z
  ·exact I.ok.noex b o e z
  ·exact absurd (Aw (Ai (I.ok.bs b o e).1) z) (O1 _)
 ·rcases Al.mp (I.stkSub b hb')with z|z
  ·exact(hf b hb).2.1 z
  ·exact(hf b hb).2.2.1 z
theorem jk0(c:CompOk X scope Nc js)(I:Inv X pins σ H s)(hf:∀b∈fp,FpOk X pins H b)(ho:∀b∈fp,∃o,s.heap.get? b=some o){h':Heap}{m:Str->Option Value}{tk:Nat}(hn:h'.Ns s.heap.objs.size m)
  (hk:∀b o,s.heap.get? b=some o->h'.get? b=some o):Inv (X.comp scope s.heap.objs.size Nc s H fp) [] (jd6 js σ) H {s with heap:=h',toks:=tk}:=by
 have hs:=c.has I
 have sub:∀x a,(clOf X.env scope.names []).lookup x=some a->X.env.cells.lookup x=some a:=λx a=>jg1 _ _ x a hs (λ_ _ z=>nomatch z)
 refine⟨jr6 c I hf ho,rfl,I.bare,Un.kept hk,⟨m,hn,λi x v e1 e2 e3=>?_⟩,λx a e=>?_,I.hok.fresh (Ag _),λx a e=>I.freeC x a (sub x a e),(λp hp=>nomatch hp),I.hok.kept hk,by simp only[jd6,Ae];exact c.len⟩
 ·have e2':(jd6 js σ)[i]?=some (some v):=e2
  unfold jd6 at e2'
  rw[A3]at e2'
  cases ej:js[i]? with
  |none=>rw[ej]at e2';cases e2'
  |some o =>
   rw[ej]at e2'
   cases o with
   |none=>cases e2'
   |some j =>
    have e4:(σ[j]?).getD none=some v:=Az e2'
    have e5:σ[j]?=some (some v):=by
     cases q:σ[j]? with
     |none=>rw[q]at e4;cases e4
     |some w=>rw[q]at e4;exact Om some e4
    obtain⟨n1,n2⟩:=c.see i j x ej e1
    have hkd:=c.free _ n2 rfl
    obtain⟨a,ha⟩:=jg0 (env:=X.env) scope.names [] x n2
    obtain⟨m0,_,hl⟩:=I.loc
    obtain⟨u,r,l⟩:=hl j x v n1 e5 (by
     rcases hkd with z|z
     ·exact .inr (.inl z)
     ·exact .inr (.inr z))
    refine⟨u,r,?_⟩
    rcases l with⟨k,_⟩|⟨_,a',ha',hcell⟩
    ·rcases hkd with z|z
     ·rw[z]at k;cases k
     ·rw[z]at k;cases k
    ·have:a'=a:=Az (ha'.symm.trans (sub x a ha))
     subst this
     refine .inr ⟨?_,a',ha,?_⟩
     ·rcases e3 with z|z|z
      ·exfalso
       have q:(relabel scope X.env).names.lookup x=some .local:=z
       exact c.nol x n2 (jgx q)
      ·exact .inl z
      ·exact .inr z
     ·obtain⟨o,q,d⟩:=hcell
      exact⟨o,hk _ o q,d⟩
 ·obtain⟨v,o,q,d⟩:=I.cell x a (sub x a e)
  exact⟨v,o,hk _ o q,d⟩
theorem jel(I:Inv X pins σ H s)(hf:∀b∈fp,FpOk X pins H b){σ':L2.St}{H':Hp}{s':Shared}{h'':Heap}(J:Inv (X.comp scope s.heap.objs.size Nc s H fp) [] σ' H' s')(hs:Heap.SameBut s.heap.objs.size s'.heap h'') :
  Inv X pins σ H' {s' with heap:=h''}:=by
 have ne:∀b o,s.heap.get? b=some o->b≠s.heap.objs.size:=λb o e=>Ar (Ai e)
 have u:Un (frs X.stack) fp H H' s.heap s'.heap:=J.base
 refine I.call' (s':={s' with heap:=h''}) (ch:=fp) J.os ⟨λb o e n hb hx=>?_,λb o e n hb hx=>?_,u.free,λb o e hx=>?_,u.tups,u.frzs,u.tbls⟩ (λb o e=>?_) J.bare λb hb=>?_
 ·exact(hs.2 b (ne b o e)).trans (u.keep b o e n hb hx)
 ·obtain⟨sl,q⟩:=u.slot b o e n hb hx
  exact⟨sl,(hs.2 b (ne b o e)).trans q⟩
 ·obtain⟨o',q⟩:=u.there b o e hx
  exact⟨o',(hs.2 b (ne b o e)).trans q⟩
 ·have hC:H' s.heap.objs.size=none:=J.free
  refine(J.hok b o e).stay (λd v hd q=>(hs.2 d ?_).trans q) (λ_ q=>q) λ_ _ q=>q
  rintro rfl
  rcases hd with z|z
  ·rw[<-z,hC]at e;cases e
  ·rw[hC]at z;cases z
 ·obtain⟨_,f1,_,f3,f4,f5⟩:=hf b hb
  exact⟨f3,f1,f4,f5⟩
end
section
variable{X:Cx}{scope:Scope}{Nc:List Str}{js:List (Option Nat)}{elt tg iter:Expr}{pos:Pos}{wi:TI}{g:TG}{te:TE}
theorem ji7(hc:X.calm=true)(c:CompOk X scope Nc js)(hi:PI X tg iter wi)(hg:∀C s3 H3 fp,PG (X.comp scope C Nc s3 H3 fp) tg g)(he:∀C s3 H3 fp,PE (X.comp scope C Nc s3 H3 fp) elt te)
  {pins:List (Addr×Obj)}{s:Shared}{σ:L2.St}{H:Hp} (I:Inv X pins σ H s) {RR:Value->Addr->Result->Shared->Prop}{NX:Addr->Hp->Prop}
  (h:wi σ H λJ H1=>∀D,H1 D=none->jdn J g (jfq D te) {nx:=λ_ H'=>NX D H',rt:=λ_ _=>False} (jd6 js σ) (upd H1 D (.lst [])))
  (fin:∀D H3 s3 fp σ5 H5 s6,Inv X pins σ H3 s3->(∀b∈fp,FpOk X pins H3 b)->Inv (X.comp scope s3.heap.objs.size Nc s3 H3 fp) [] σ5 H5 s6->NX D H5->RR (.ref D) s3.heap.objs.size (.ok .next) s6) :
  wpAny (model X.prog X.w) X.A (eval iter X.env) (λx s₁=>wpAny (model X.prog X.w) X.A (pyIter x) (λit s₂=>wpAny (model X.prog X.w) X.A (newList []) (λacc s₃ =>
   wpAny (model X.prog X.w) X.A (newFunctionEnv scope X.env.globals (clOf X.env scope.names []) [] X.env.qual none .none (some X.env)) (λcenv s₄ =>
    codeAny (model X.prog X.w) X.A (.compStart (.ListComp elt [⟨tg,iter,[],0⟩] scope pos) 0 it acc {cenv with scope:=relabel scope X.env}) (RR acc cenv.locals) s₄) X.xe s₃) X.xe s₂) X.xe s₁) X.xe s:=by
 refine thn (hi pins s σ H _ I h) λv s1 h1=>thn h1 λitv s2 h2=>?_
 obtain⟨it,fp,tn,J,H2,rfl,I2,T,st2,f2,h2⟩:=h2
 refine O0 ?_ (by show 0<=sizeLine;decide)
 have hD:H2 s2.heap.objs.size=none:=I2.hok.fresh (Ag _)
 have I3:Inv X pins σ (upd H2 s2.heap.objs.size (.lst [])) {s2 with heap:=s2.heap.push {cls:=.type "list",data:=.seq ([]:List Value).toArray}} :=
  I2.laid (t':=s2.toks) (λb u e=>Ac _ e) (Ag _) ⟨by show 0<=sizeLine;decide,[],0,.nil,At _ rfl⟩
 have f3:∀b∈fp,FpOk X pins (upd H2 s2.heap.objs.size (.lst [])) b:=λb hb=>by
  obtain⟨q0,q⟩:=f2 b hb
  obtain⟨o,e,_⟩:=T.obj _ _ st2 b hb
  exact⟨by rw[jf (Ar (Ai e))];exact q0,q⟩
 have o3:∀b∈fp,∃o,(s2.heap.push {cls:=.type "list",data:=.seq ([]:List Value).toArray}).get? b=some o:=λb hb=>by
  obtain⟨o,e,_⟩:=T.obj _ _ st2 b hb
  exact⟨o,Ac _ e⟩
 have st3:tn 0 (s2.heap.push {cls:=.type "list",data:=.seq ([]:List Value).toArray}):=T.keep _ _ _ st2 λb _ o e=>Ac _ e
 generalize hh3:s2.heap.push {cls:=.type "list",data:=.seq ([]:List Value).toArray}=h3 at I3 o3 st3⊢
 refine W8 c.nocell (by intro y hy;simp at hy) (λh4 hn4 hs4=>?_) c.kind
 have k4:∀b o,h3.get? b=some o->h4.get? b=some o:=λb o e=>(hs4.2 b (Ar (Ai e))).trans (Ac _ e)
 have I4:=jk0 (tk:=s2.toks+([]:List (Str×Value)).length) c I3 f3 o3 hn4 k4
 have st4:tn 0 h4:=T.keep _ _ _ st3 λb _ o e=>k4 b o e
 obtain⟨W,⟨m0,w0⟩,turn⟩:=h2 _ hD
 let s3:Shared:={s2 with heap:=h3}
 let Y:Cx:=X.comp scope h3.objs.size Nc s3 (upd H2 s2.heap.objs.size (.lst [])) fp
 have stat:∀{H':Hp},(∀b∈fp,H' b=none)->∀b∈fp,FpOk Y [] H' b:=λhn b hb=>⟨hn b hb,(I4.ok.exf b hb).1,I4.ok.exfs b hb,.inl hb,(I4.ok.exf b hb).2,(λp hp=>nomatch hp)⟩
 have loop:codeAny (model X.prog X.w) X.A (.compLoop (.ListComp elt [⟨tg,iter,[],0⟩] scope pos) 0 (.ref it) (.ref s2.heap.objs.size) Y.env)
   (RR (.ref s2.heap.objs.size) h3.objs.size) {s2 with heap:=h4,toks:=s2.toks+([]:List (Str×Value)).length}:=by
  refine codeAny_loop rfl (λn s'=>∃i σ' H',Inv Y [] σ' H' s'/\tn i s'.heap/\(∀b∈fp,H' b=none)/\W i n σ' H') (λn s5 hI=>?_) m0 ⟨0,_,_,I4,st4,λb hb=>(f3 b hb).1,w0⟩
  obtain⟨i,σ5,H5,I5,st5,fr5,w5⟩:=hI
  show wpAny _ X.A ((compTurn (.ListComp elt [⟨tg,iter,[],0⟩] scope pos) 0 (.ref it) (.ref s2.heap.objs.size) Y.env).onRaise (λx=>do noteFrame x Y.env;theTreesLotGoes x)) _ _ s5
  refine wpAny_noted (Iy (E:=λ_ _=>False) ?_ (λ_ _ q=>q) λ_ _ z=>z.elim)
  rw[compTurn_list1]
  refine Ad (Us (Ad ?_))
  rcases turn i n σ5 H5 w5 with⟨stop,qn⟩|⟨go,N,hN,step⟩
  ·refine thn (T.done Y rfl rfl rfl hc i [] s5 σ5 H5 _ I5 (stat fr5) st5 stop) λr s6 ⟨hr,I6⟩=>?_
   subst hr
   refine Am ?_
   exact fin _ _ s3 fp σ5 H5 s6 I3 f3 I6 qn
  ·refine thn (T.item Y rfl rfl rfl hc i [] s5 σ5 H5 _ I5 (stat fr5) st5 go) λr s6 ⟨u,hr,h6⟩=>?_
   subst hr
   refine Ad (thn h6 λ_ s7 ⟨x,H7,I7,r7,y7,st7,fr7⟩=>?_)
   have I7':=I7.pinned (stat fr7) (T.obj _ _ st7)
   refine Ad (thn (hg _ _ _ _ _ s7 σ5 H7 x u _ I7' r7 (step x H7 y7)) λ_ s8 ⟨σ8,H8,I8,q8⟩=>?_)
   refine Ad (Ad (thn (he _ _ _ _ _ s8 σ8 H8 _ I8 q8) λv s9 ⟨y,H9,I9,r9,ys,e9,z9,n9⟩=>?_))
   refine Ad (thn (jbq (X:=Y) _ s9 σ8 H9 (.ref s2.heap.objs.size) [y] (.ref s2.heap.objs.size) [v] (λw H'=>N σ8 H') I9 rfl (.cons r9 .nil) ⟨_,ys,y,rfl,rfl,jde e9,z9,n9⟩) λw s10 ⟨_,H10,I10,_,n10⟩=>?_)
   refine Am (Am ⟨rfl,?_⟩)
   obtain⟨m',hm,w10⟩:=hN σ8 H10 n10
   refine⟨m',hm,i+1,σ8,H10,I10.unpinned,T.keep _ _ _ st7 λb hb o e=>(I10.pin (b,o) (A8 _ (A8 _ (jd4 hb e)))).1,λb hb=>?_,w10⟩
   obtain⟨o,e,d⟩:=T.obj _ _ st7 b hb
   exact(I10.pin (b,o) (A8 _ (A8 _ (jd4 hb e)))).2.1
 exact codeAny_compStart_list loop (T.self _ 0 _ _ _ st4 loop)
theorem pe_comp(hc:X.calm=true)(c:CompOk X scope Nc js)(hi:PI X tg iter wi)(hg:∀C s3 H3 fp,PG (X.comp scope C Nc s3 H3 fp) tg g)(he:∀C s3 H3 fp,PE (X.comp scope C Nc s3 H3 fp) elt te)
  (hs:∀x,foldedSetIterable iter X.env x=pure x:=by intro _;rfl):PE X (.ListComp elt [⟨tg,iter,[],0⟩] scope pos) (jgk wi g js te):=by
 intro pins s σ H Q I h
 rw[eval_ListComp]
 refine Ul (use:=none) (g:=⟨tg,iter,[],0⟩) (gs:=[]) rfl hs (jek (c.has I)) c.kind c.loc
  (ji7 (RR:=λacc C=>compPost (model X.prog X.w) X.A X.xe none (EP X pins σ Q) acc C) (NX:=λD H'=>Q (.ref D) H') hc c hi hg he I h λD H3 s3 fp σ5 H5 s6 I3 f3 I6 qn=>?_)
 obtain⟨m,hn,_⟩:=I6.loc
 exact⟨m,hn,λh' hs'=>⟨.ref D,H5,jel I3 f3 I6 hs',rfl,qn⟩⟩
theorem ps_setc{i:Nat}{y:Str}{py spos:Pos}(hN:X.N.Nodup)(hiN:X.N[i]?=some y)(hy:Loc X.env.scope y)(hc:X.calm=true)(c:CompOk X scope Nc js)(hi:PI X tg iter wi)(hg:∀C s3 H3 fp,PG (X.comp scope C Nc s3 H3 fp) tg g)
  (he:∀C s3 H3 fp,PE (X.comp scope C Nc s3 H3 fp) elt te) (hsw:swapsWith (.ListComp elt [⟨tg,iter,[],0⟩] scope pos) (some (.Name y py)) spos.line X.env=pure true:=by rfl)
  (hs:∀x,foldedSetIterable iter X.env x=pure x:=by intro _;rfl) (hf:X.fn y=true\/X.env.scope.names.lookup y=some .local:=by first|exact .inl rfl|exact .inr rfl|assumption) :
  PS X (.Assign [.Name y py] (.ListComp elt [⟨tg,iter,[],0⟩] scope pos) spos) (tAsg (jgk wi g js te) (jdo i)):=by
 intro pins s σ H D I h
 rw[exec_Assign_Name_used _ _ _ _ hsw]
 refine Ad (Us (Ad ?_))
 show wpAny _ X.A (do let _ <-comprehension (.ListComp elt [⟨tg,iter,[],0⟩] scope pos) scope X.env _ (newList []) false (eval iter X.env) (some (assign (.Name y py) X.env))) _ _ s
 refine Ad (Iy (Ul (use:=some (assign (.Name y py) X.env)) (g:=⟨tg,iter,[],0⟩) (gs:=[]) (Q:=λ_ s'=>SP X pins D .next s') rfl hs (jek (c.has I)) c.kind c.loc
  (ji7 (RR:=λacc C=>compPost (model X.prog X.w) X.A X.xe (some (assign (.Name y py) X.env)) (λ_ s'=>SP X pins D .next s') acc C) (NX:=λDa H'=>D.nx (σ.set i (some (.ref Da))) H') hc c hi hg he I h λDa H3 s3 fp σ5 H5 s6 I3 f3 I6 qn=>?_))
  (λ_ s' hq=>Am (Am hq)) λ_ _ e=>e)
 obtain⟨m,hn,_⟩:=id I6.loc
 have I7:Inv X pins σ H5 s6:=jel I3 f3 I6 (.refl ..)
 have hC:H5 s3.heap.objs.size=none:=I6.free
 have nL:s3.heap.objs.size≠X.env.locals:=Wg I3.lt
 have nc:∀x a,X.env.cells.lookup x=some a->a≠s3.heap.objs.size:=λx a e=>by
  obtain⟨v,q⟩:=I3.cell x a e
  exact Ar q.lt
 have np:∀p∈X.pn++pins,p.1≠s3.heap.objs.size:=λp hp=>Ar (Ai (I3.pin p hp).1)
 show wpAny _ _ (assign (.Name y py) X.env (.ref Da)) _ _ _
 refine wpAny_assign_Name (jgb (v:=.ref Da) I7 hN hiN hy rfl (λs8 I8 hb=>?_) hf)
 obtain⟨a,hs8,ha⟩:=hb
 have nCa:s3.heap.objs.size≠a:=by
  rcases ha with z|z
  ·rw[z];exact nL
  ·exact(nc y a z).symm
 refine⟨m,hn.sameBut hs8 nCa,λh9 hs9=>?_⟩
 exact⟨_,H5,I8.turned (t':=s8.toks) (λb o hb e=>(hs9.2 b hb).trans e) hC nL (.inr (A7 I3.sz (Ag _))) nc np,qn⟩
end
section
variable{X:Cx}
def jiu:List V->Hp->VK->Prop:=λxs H Q=>match xs with
 |[.ref p]=>(∃ys,jdc (H p)=some ys/\∀l,H l=none->Q (.ref l) (upd H l (.tup ys)))\/(∃ys,jgq (H p)=some ys/\Q (.ref p) H)
 |_=>False
theorem jaz:jdf X (.type "tuple") jiu:=by
 intro pins s σ H xs us Q I r h
 unfold jiu at h
 split at h
 ·rename_i p
  rcases h with⟨ys,e,h⟩|⟨ys,e,h⟩
  ·exact jbm pins s σ H _ us Q I r ⟨p,ys,rfl,.inl ⟨SqL.of (jde e),h⟩⟩
  ·exact jbm pins s σ H _ us Q I r ⟨p,ys,rfl,.inr ⟨SqT.of (jg5 e),h⟩⟩
 ·exact h.elim
theorem jei{p:Addr}{H:Hp}{Q:VK}{ys:List V}(e:H p=some (.lst ys))(h:∀l,H l=none->Q (.ref l) (upd H l (.tup ys))):jiu [.ref p] H Q:=.inl ⟨ys,by rw[e];rfl,h⟩
def jof:R2:=λx y H Q=>match x,y with
 |.int i,.int j=>CMul i j/\Q (.int (i*j)) H
 |.ref l,.int k=>∃xs,jdc (H l)=some xs/\0<=k/\k<2^62/\xs.length*k.toNat<=sizeLine/\∀p,H p=none->Q (.ref p) (upd H p (.lst (List.replicate k.toNat xs).flatten))
 |_,_=>False
theorem jaj:OpR X (binaryOp .Mult) jof:=by
 intro pins s σ H x y v u Q I rx ry h
 cases x with
 |int i=>cases y with
  |int j=>exact op_mul pins s σ H _ _ v u Q I rx ry ⟨i,j,rfl,rfl,h⟩
  |_=>exact False.elim h
 |ref l=>cases y with
  |int k =>
   obtain⟨xs,e,k0,k1,h⟩:=h
   exact op_rep pins s σ H _ _ v u Q I rx ry ⟨l,k,xs,rfl,rfl,jde e,by omega,by omega,h⟩
  |_=>exact False.elim h
 |_=>exact False.elim h
theorem jjq(H:Hp)(Q:VK)(i j:Int):jof (.int i) (.int j) H Q=(CMul i j/\Q (.int (i*j)) H):=rfl
theorem jjr(H:Hp)(Q:VK)(l:Addr)(k:Int):jof (.ref l) (.int k) H Q=(∃xs,jdc (H l)=some xs/\0<=k/\k<2^62/\xs.length*k.toNat<=sizeLine/\∀p,H p=none->Q (.ref p) (upd H p (.lst (List.replicate k.toNat xs).flatten))):=rfl
def isS(x:V):Prop:=match x with
 |.str _=>True
 |_=>False
def tBMS(r:V->List V->Hp->VK->Prop)(to:TE)(t:TA):TE:=λσ H Q=>to σ H λx H1=>isS x/\t σ H1 λxs H2=>r x xs H2 Q
theorem isS.ty{K:PySem.W.Frag}{x:V}{H:Hp}(h:isS x):tyV K "str" x H:=by
 unfold isS at h
 split at h
 ·rfl
 ·exact h.elim
theorem jm5(z:Str):isS (.str z)=True:=rfl
theorem jf3{v:V}:∀σ H Q Q',(∀v H',Q v H'->Q' v H')->tC v σ H Q->tC v σ H Q':=λ_ _ _ _ h q=>h _ _ q
variable{o e:Expr}{es:List Expr}{to:TE}{t:TA}{name:Str}{apos cpos:Pos}{id:String}{r:V->List V->Hp->VK->Prop}
theorem pe_bmS(slot:Slot "str" name id)(hty:typeOf (.builtin id)=pure (.type "method_descriptor"))(hm:MtM X id r)(ho:PE X o to)(ha:PA X (e::es) t)(mono:∀σ H Q Q',(∀v H',Q v H'->Q' v H')->to σ H Q->to σ H Q')
  (hbase:attributeBase o name X.env (eval o X.env)=eval o X.env:=by rfl)
  (hfew:((backTo cpos (starEach (e::es) X.env)).all (λx=>!x.1) && (backToKw cpos (keywordEach [] X.env)).all (λx=>x.1.isSome)
   && decide ((e::es).length+([]:List Keyword).length+(if([]:List Keyword).isEmpty then 0 else 1)<30))=true:=by rfl)
  (hline:(apos.endLine == cpos.line)=true:=by rfl) (hs:starEach (e::es) X.env=(false,eval e X.env)::starEach es X.env:=by rfl) (hplain:(backTo cpos (starEach es X.env)).any (·.1)=false:=by rfl) :
  PE X (.Call (.Attribute o name apos) (e::es) [] cpos) (tBMS r to t) :=
 (jc7 PySem.F.plainAttrs_str slot hty hm ho ha hbase hfew hline hs hplain).imp λσ H Q h=>mono σ H _ _ (λv H' q=>⟨q.1.ty,q.2⟩) h
theorem jh3:∀{ys:List Str}{us:List Value},Vals (ys.map V.str) us->StrsAre us ys
 |[],us,r=>by rw[O8]at r;cases r;exact .nil
 |y::ys,us,r=>by
  rw[Av]at r
  cases r with
  |cons r1 r2 =>
   obtain⟨t,rfl⟩:=r1
   exact .cons y t (jh3 r2)
def jpu:V->List V->Hp->VK->Prop:=λx vs H Q=>match x,vs with
 |.str z,[.ref p]=>∃ys:List Str,H p=some (.lst (ys.map V.str))/\(ys.map (·.length)).sum+ys.length*z.length<=16777216/\Q (.str (Txt.join z ys)) H
 |_,_=>False
theorem ja7:MtM X "str.join" jpu:=by
 intro pins s σ H x vs v us Q I rx rv h
 unfold jpu at h
 split at h
 ·rename_i z p
  obtain⟨ys,e,hz,q⟩:=h
  obtain⟨t,rfl⟩:=rx
  obtain⟨u,rfl,ru⟩:=rv.one
  cases ru
  obtain⟨its,rr,pl,_⟩:=I.list (SqL.of e)
  exact join_list pl.isList (by simpa using jh3 rr) hz λt' k=>⟨.str _,H,I.tok k,⟨_,rfl⟩,q⟩
 ·exact h.elim
def cutS(z:Str)(lo hi:Option Int):Str:=⟨((z.cps.toList.drop (HT.sIx z.length 0 lo)).take (HT.sIx z.length z.length hi-HT.sIx z.length 0 lo)).toArray⟩
theorem jl7(lo hi:Option Int)(n:Nat):Builtin.Str.strSliceIndices lo hi 1 n=(List.range (HT.sIx n n hi-HT.sIx n 0 lo)).map (HT.sIx n 0 lo+·):=by
 rw[<-sliceRange_one]
 unfold Builtin.Str.strSliceIndices
 have e1:(match lo with|none=>(if(1:Int)>0 then(0:Int)else(n:Int)-1)|some i=>let i:=if i<0 then i+(n:Int)else i;if(1:Int)>0 then max 0 (min i (n:Int))else max (-1) (min i ((n:Int)-1)))=((HT.sIx n 0 lo:Nat):Int):=by
  cases lo with
  |none=>simp[HT.sIx]
  |some v =>
   simp only[show(1:Int)>0 by decide,O5,HT.sIx]
   by_cases h:v<0
   ·simp only[h,O5];omega
   ·simp only[h,Oi];omega
 have e2:(match hi with|none=>(if(1:Int)>0 then(n:Int)else -1)|some i=>let i:=if i<0 then i+(n:Int)else i;if(1:Int)>0 then max 0 (min i (n:Int))else max (-1) (min i ((n:Int)-1)))=((HT.sIx n n hi:Nat):Int):=by
  cases hi with
  |none=>simp[HT.sIx]
  |some v =>
   simp only[show(1:Int)>0 by decide,O5,HT.sIx]
   by_cases h:v<0
   ·simp only[h,O5];omega
   ·simp only[h,Oi];omega
 have key:∀a b a' b':Int,a=a'->b=b'->sliceRange a b 1=sliceRange a' b' 1:=by
  intro a b a' b' h1 h2
  rw[h1,h2]
 exact key _ _ _ _ e1 e2
theorem jmy(z:Str)(lo hi:Option Int):Txt.slice z lo hi=cutS z lo hi:=by
 have e:(Builtin.Str.strSliceIndices lo hi 1 z.length).filterMap (z.cps[·]?)=(z.cps.toList.drop (HT.sIx z.length 0 lo)).take (HT.sIx z.length z.length hi-HT.sIx z.length 0 lo):=by
  rw[jl7,pick_run]
 unfold Txt.slice cutS
 split
 ·rename_i h
  have h2:((Builtin.Str.strSliceIndices lo hi 1 z.length).length == z.length)=true:=by simpa using h
  have h3:(Builtin.Str.strSliceIndices lo hi 1 z.length).length=z.length:=eq_of_beq h2
  rw[jl7,Ae,U0]at h3
  have hl:z.cps.toList.length=z.length:=by simp[Str.length]
  have q:((z.cps.toList.drop (HT.sIx z.length 0 lo)).take (HT.sIx z.length z.length hi-HT.sIx z.length 0 lo))=z.cps.toList:=by
   have hb:HT.sIx z.length z.length hi<=z.length:=by
    cases hi with
    |none=>exact Ag _
    |some v=>simp only[HT.sIx];split <;> omega
   by_cases h0:z.length=0
   ·have:z.cps.toList=[]:=List.length_eq_zero_iff.mp (by omega)
    rw[this];simp
   ·have ha:HT.sIx z.length 0 lo=0:=by omega
    rw[h3,ha,Wn]
    exact Ou (by omega)
  rw[q]
 ·rw[e]
def rSlS:V->Option Int->Option Int->Hp->VK->Prop:=λx lo hi H Q=>∃z,x=.str z/\z.length<=sizeLine/\Q (.str (cutS z lo hi)) H
theorem sl_str:SlR X rSlS:=by
 intro pins s σ H x v vl vu lo hi sl Q I rx hs pl pu h
 obtain⟨z,rfl,hz,q⟩:=h
 obtain⟨t,rfl⟩:=rx
 have gen:∀(l u:Option (Int×Tok)),vl=partValue l->vu=partValue u->lo=l.map (·.1)->hi=u.map (·.1) ->
   wpAny (model X.prog X.w) X.A (getItem (.str z t) (.ref sl)) (EP X pins σ Q) X.xe s:=by
  intro l u e1 e2 e3 e4
  subst e1 e2 e3 e4
  refine wpAny_getItem_str_slice (l:=l) (u:=u) (st:=none) hs (by rfl) ?_
  have e:(if((((none:Option (Int×Tok)).map (·.1)).getD 1 == 1 && (slicePicked z l u none).length == z.length)=true)then z else⟨((slicePicked z l u none).filterMap (z.cps[·]?)).toArray⟩)=cutS z (l.map (·.1)) (u.map (·.1)):=by
   rw[<-jmy];rfl
  refine post_val_or_str ⟨?_,λt' c=>⟨.str (cutS z (l.map (·.1)) (u.map (·.1))),H,I.tok c,⟨t',Om (Value.str · t') e⟩,q⟩⟩
  rw[e,<-jmy]
  exact A7 (Txt.slice_le _ _ _) hz
 refine⟨"str",_,F.slot_str_getitem.lookup,typeIs_str _ _ _,?_⟩
 cases pl with
 |none=>cases pu with
  |none=>exact gen none none rfl rfl rfl rfl
  |int j tj=>exact gen none (some (j,tj)) rfl rfl rfl rfl
 |int i ti=>cases pu with
  |none=>exact gen (some (i,ti)) none rfl rfl rfl rfl
  |int j tj=>exact gen (some (i,ti)) (some (j,tj)) rfl rfl rfl rfl
def jmx(sc:Scope)(N:List Str)(scope:Scope)(Nc:List Str)(js:List (Option Nat)):Bool :=
 (scope.kind == .function) && scope.names.all (λy=>!(y.2 == .cell)) && scope.names.all (λy=>!(y.2 == .local) || scope.names.lookup y.1 == some .local) &&
 scope.names.all (λy=>!(y.2 == .free) || ((sc.names.lookup y.1 == some .cell || sc.names.lookup y.1 == some .free) && !(scope.names.lookup y.1 == some .local))) && (js.length == Nc.length) &&
 (List.range js.length).all (λi=>match js[i]? with
  |some (some j)=>(N[j]? == Nc[i]?) && (match Nc[i]? with|some x=>scope.names.any (λy=>y.1 == x && y.2 == .free)|none=>true)
  |_=>true)
theorem jdq{sc scope:Scope}{N Nc:List Str}{js:List (Option Nat)}(hd:jmx sc N scope Nc js=true)(hsc:X.env.scope=sc:=by rfl)(hN:X.N=N:=by rfl):CompOk X scope Nc js:=by
 simp only[jmx,On,Oo,Bool.or_eq_true,Bool.not_eq_true',U7,Wk]at hd
 obtain⟨⟨⟨⟨⟨h1,h2⟩,h3⟩,h4⟩,h5⟩,h6⟩:=hd
 have kk:∀x,X.env.kindOf x=sc.names.lookup x:=λx=>by rw[<-hsc];rfl
 refine⟨h1,λy hy e=>?_,λy hy e=>?_,λy hy e=>?_,h5,λx hx=>?_,λi j x e1 e2=>?_⟩
 ·have:=h2 y hy
  rw[e]at this;cases this
 ·rcases h3 y hy with q|q
  ·rw[e]at q;cases q
  ·exact q
 ·rcases h4 y hy with q|q
  ·rw[e]at q;cases q
  ·rw[kk]
   exact q.1
 ·rcases h4 _ hx with q|q
  ·cases q
  ·intro z
   have q2:=q.2
   rw[z]at q2
   cases q2
 ·have hi:i<js.length:=(Ab.mp e1).1
  have q:=h6 i hi
  rw[e1,e2]at q
  simp only[On,U7,List.any_eq_true]at q
  refine⟨by rw[hN];exact q.1,?_⟩
  obtain⟨y,hy,hy1,hy2⟩:=q.2
  obtain⟨a,b⟩:=y
  simp only at hy1 hy2
  subst hy1 hy2
  exact hy
end
theorem Inv.turnedNew{X:Cx}{pins:List (Addr×Obj)}{σ:L2.St}{H:Hp}{s:Shared}{h':Heap}{t':Nat}{fp wr:List Addr}{T:Addr}{xs:List V}{vs:List Value}(I:Inv X pins σ H s)(hf:∀b∈wr,FpOk X pins H b)
  (k:∀b o,b∉wr->s.heap.get? b=some o->h'.get? b=some o) (hT:s.heap.objs.size<=T) (tup:IsTup h' T vs.toArray) (r:Vals xs vs) (hz:xs.length<=sizeLine) (there:∀b∈wr,∃o,h'.get? b=some o) :
  Inv X pins σ (upd H T (.tup xs)) {s with heap:=h',toks:=t'}:=by
 have neT:∀b u,H b=some u->b≠T:=λb u e=>Ar (Aw (I.hok.lt e) hT)
 have nw:∀b u,H b=some u->b∉wr:=λb u e hb=>by rw[(hf b hb).1]at e;cases e
 refine I.step (g':=s.gens) (d':=s.drawn) (ch:=wr) (λb hb=>?_) (λb o _ _ hc e _=>k b o hc e) (λb o _ _ hc e _=>⟨o.slots,k b o hc e⟩) (λb o hc e n=>?_) (λb o hc e=>⟨o,k b o hc e⟩)
  (λb ys e=>by rw[jf (neT b _ e)];exact e) (λb o u e=>by rw[jf (neT b _ e)];exact e) (λb ps e=>⟨#[],by rw[jf (neT b _ e),e];simp⟩) (λm hm=>?_) (λb u e=>?_) I.bare
 ·obtain⟨_,f1,_,f3,f4,f5⟩:=hf b hb
  exact⟨f3,f1,f4,f5⟩
 ·rw[jf (Ar (Aw (Ai e) hT))];exact n
 ·obtain⟨o,es,ep,ho,rr⟩:=hm
  exact⟨o,es,ep,k _ o (λz=>(hf _ z).2.1 rfl) ho,rr⟩
 ·by_cases hb:b=T
  ·subst hb
   rw[je]at e
   cases e
   exact⟨hz,vs,r,tup⟩
  ·rw[jf hb]at e
   refine(I.hok b u e).stay (λd v hd q=>k d v ?_ q) (λd q=>by rw[jf (neT d _ q)];exact q) λd ys q=>by rw[jf (neT d _ q)];exact q
   rcases hd with rfl|hd
   ·exact nw _ _ e
   ·exact nw _ _ hd
section
variable{X:Cx}
theorem jsz{xs:List V}{us:List Value}(hl:xs.length=us.length)(h:∀(i:Nat) (x:V) (u:Value),xs[i]?=some x->us[i]?=some u->RelV x u):Vals xs us:=by
 induction xs generalizing us with
 |nil=>cases us with
  |nil=>exact .nil
  |cons _ _=>simp at hl
 |cons x xs ih=>cases us with
  |nil=>simp at hl
  |cons u us=>exact .cons (h 0 x u rfl rfl) (ih (by simpa using hl) λi a b e1 e2=>h (i+1) a b (by simpa using e1) (by simpa using e2))
def rAddW:R2:=λx y H Q=>match x,y with
 |.int i,.int j=>Q (.int (i+j)) H
 |.str i,.str j=>i.length+j.length<=sizeLine/\Q (.str (i++j)) H
 |.ref l,.ref b=>(∃xs zs,jdc (H l)=some xs/\jdc (H b)=some zs/\xs.length+zs.length<=sizeLine/\∀p,H p=none->Q (.ref p) (upd H p (.lst (xs++zs)))) \/
   (∃xs zs,jgq (H l)=some xs/\jgq (H b)=some zs/\xs≠[]/\zs≠[]/\xs.length+zs.length<=sizeLine/\∀p,H p=none->Q (.ref p) (upd H p (.tup (xs++zs))))
 |_,_=>False
theorem jz:OpR X (binaryOp .Add) rAddW:=by
 intro pins s σ H x y v u Q I rx ry h
 cases x with
 |int i=>cases y with
  |int j=>exact op_add pins s σ H _ _ v u Q I rx ry ⟨i,j,rfl,rfl,h⟩
  |_=>exact False.elim h
 |str i=>cases y with
  |str j=>exact op_add_str pins s σ H _ _ v u Q I rx ry ⟨i,j,rfl,rfl,h⟩
  |_=>exact False.elim h
 |ref l=>cases y with
  |ref b =>
   rcases h with⟨xs,zs,e1,e2,h⟩|⟨xs,zs,e1,e2,n1,n2,hz,h⟩
   ·exact op_cat pins s σ H _ _ v u Q I rx ry ⟨l,b,xs,zs,rfl,rfl,jde e1,jde e2,h⟩
   ·exact op_catT pins s σ H _ _ v u Q I rx ry ⟨l,b,xs,zs,rfl,rfl,SqT.of (jg5 e1),SqT.of (jg5 e2),n1,hz,λz=>absurd z n2,λ_=>h⟩
  |_=>exact False.elim h
 |_=>exact False.elim h
theorem je2(H:Hp)(Q:VK)(i j:Int):rAddW (.int i) (.int j) H Q=(Q (.int (i+j)) H):=rfl
theorem je3(H:Hp)(Q:VK)(i j:Str):rAddW (.str i) (.str j) H Q=(i.length+j.length<=sizeLine/\Q (.str (i++j)) H):=rfl
theorem rAddW.tup{H:Hp}{Q:VK}{l b:Addr}{xs zs:List V}(e1:H l=some (.tup xs))(e2:H b=some (.tup zs))(n1:xs≠[])(n2:zs≠[])(hz:xs.length+zs.length<=sizeLine)
  (h:∀p,H p=none->Q (.ref p) (upd H p (.tup (xs++zs)))):rAddW (.ref l) (.ref b) H Q:=.inr ⟨xs,zs,by rw[e1];rfl,by rw[e2];rfl,n1,n2,hz,h⟩
theorem rAddW.lst{H:Hp}{Q:VK}{l b:Addr}{xs zs:List V}(e1:H l=some (.lst xs))(e2:H b=some (.lst zs))(hz:xs.length+zs.length<=sizeLine)
  (h:∀p,H p=none->Q (.ref p) (upd H p (.lst (xs++zs)))):rAddW (.ref l) (.ref b) H Q:=.inl ⟨xs,zs,by rw[e1];rfl,by rw[e2];rfl,hz,h⟩
end
section
variable{X:Cx}
def rSlU(K:PySem.W.Frag):V->Option Int->Option Int->Hp->VK->Prop:=λx lo hi H Q=>match x with
 |.str z=>z.length<=sizeLine/\Q (.str (cutS z lo hi)) H
 |.ref a=>(∃xs,SqL K H a xs/\∀p,H p=none->Q (.ref p) (upd H p (.lst (cutV xs lo hi)))) \/
   ∃xs,SqT K H a xs/\¬(HT.sIx xs.length 0 lo=0/\HT.sIx xs.length xs.length hi=xs.length)/\∀p,H p=none->Q (.ref p) (upd H p (.tup (cutV xs lo hi)))
 |_=>False
theorem sl_U:SlR X (rSlU X.K):=by
 intro pins s σ H x v vl vu lo hi sl Q I rx hs pl pu h
 unfold rSlU at h
 split at h
 ·rename_i z
  exact sl_str pins s σ H (.str z) v vl vu lo hi sl Q I rx hs pl pu ⟨z,rfl,h⟩
 ·rename_i a
  rcases h with⟨xs,hx,q⟩|⟨xs,hx,nw,q⟩
  ·exact sl_list pins s σ H (.ref a) v vl vu lo hi sl Q I rx hs pl pu ⟨a,xs,rfl,hx,q⟩
  ·exact sl_tup pins s σ H (.ref a) v vl vu lo hi sl Q I rx hs pl pu ⟨a,xs,rfl,hx,nw,q⟩
 ·exact h.elim
theorem jly(K:PySem.W.Frag)(H:Hp)(Q:VK)(z:Str)(lo hi:Option Int):rSlU K (.str z) lo hi H Q=(z.length<=sizeLine/\Q (.str (cutS z lo hi)) H):=rfl
theorem rSlU.lst{K:PySem.W.Frag}{H:Hp}{Q:VK}{a:Addr}{xs:List V}{lo hi:Option Int}(e:H a=some (.lst xs))(h:∀p,H p=none->Q (.ref p) (upd H p (.lst (cutV xs lo hi)))):rSlU K (.ref a) lo hi H Q:=.inl ⟨xs,SqL.of e,h⟩
theorem jqe{xs:List V}{lo hi:Option Int}{x:V}(h:x∈cutV xs lo hi):x∈xs:=Oz (Op h)
end
section
variable{X:Cx}
def hasS(z y:Str):Bool:=!(Builtin.Str.occurrences z y 0 z.length 1).isEmpty
def rInU(K:PySem.W.Frag)(neg:Bool):R2:=λx y H Q=>match x,y with
 |.str i,.str j=>Q (.bl (if neg then !hasS j i else hasS j i)) H
 |x,.ref p=>∃xs,(SqL K H p xs\/SqT K H p xs)/\jdx x=true/\xs.all jdx=true/\Q (.bl (if neg then !inV x xs else inV x xs)) H
 |_,_=>False
theorem jln(K:PySem.W.Frag)(neg:Bool)(H:Hp)(Q:VK)(i j:Str):rInU K neg (.str i) (.str j) H Q=Q (.bl (if neg then !hasS j i else hasS j i)) H:=rfl
theorem zf{K:PySem.W.Frag}(hK:X.K=K):OpR X (compareOp .In) (rInU K false):=by
 subst hK
 intro pins s σ H x y v u Q I rx ry h
 unfold rInU at h
 split at h
 ·rename_i i j
  exact op_in_str pins s σ H _ _ v u Q I rx ry ⟨i,j,rfl,rfl,h⟩
 ·rename_i p
  obtain⟨xs,h⟩:=h
  exact op_in_seq pins s σ H _ _ v u Q I rx ry ⟨p,xs,rfl,h⟩
 ·exact h.elim
theorem op_notinU{K:PySem.W.Frag}(hK:X.K=K):OpR X (compareOp .NotIn) (rInU K true):=by
 subst hK
 intro pins s σ H x y v u Q I rx ry h
 unfold rInU at h
 split at h
 ·rename_i i j
  exact op_notIn_str pins s σ H _ _ v u Q I rx ry ⟨i,j,rfl,rfl,h⟩
 ·rename_i p
  obtain⟨xs,h⟩:=h
  exact op_notIn_seq pins s σ H _ _ v u Q I rx ry ⟨p,xs,rfl,h⟩
 ·exact h.elim
theorem jk9(z:Str)(c:Nat):hasS z ⟨#[c]⟩=decide (c∈z.cps.toList):=PySem.StrLaws.found_one z c
theorem rInU.lst{K:PySem.W.Frag}{neg:Bool}{H:Hp}{Q:VK}{x:V}{p:Addr}{xs:List V}(e:H p=some (.lst xs))(fx:jdx x=true)(fs:xs.all jdx=true)(q:Q (.bl (if neg then !inV x xs else inV x xs)) H):rInU K neg x (.ref p) H Q:=by
 cases x <;> exact⟨xs,.inl (SqL.of e),fx,fs,q⟩
theorem rInU.tupS{K:PySem.W.Frag}{neg:Bool}{H:Hp}{Q:VK}{x:V}{p:Addr}{xs:List V}(e:SqT K H p xs)(fx:jdx x=true)(fs:xs.all jdx=true)(q:Q (.bl (if neg then !inV x xs else inV x xs)) H):rInU K neg x (.ref p) H Q:=by
 cases x <;> exact⟨xs,.inr e,fx,fs,q⟩
theorem lt1(a b:Nat):([a]<[b])=(a<b):=by simp[List.cons_lt_cons_iff]
theorem joi(bs:List Bool)(d:Bool):(List.range bs.length).map (λi=>(bs[i]?).getD d)=bs:=by
 apply List.ext_getElem?
 intro i
 by_cases h:i<bs.length
 ·simp[h]
 ·rw[Wd.mpr (by simp;omega),Wd.mpr (by omega)]
theorem jid:∀{bs:List Bool}{us:List Value},Vals (bs.map V.bl) us->∀(i:Nat)(v:Value),us[i]?=some v->∃b,bs[i]?=some b/\v=.bool b
 |[],us,r,i,v,e=>by rw[O8]at r;cases r;simp at e
 |b::bs,us,r,i,v,e=>by
  rw[Av]at r
  cases r with
  |cons r1 r2 =>
   cases i with
   |zero=>cases r1;simp at e;exact⟨b,rfl,e.symm⟩
   |succ i=>simp at e;obtain⟨b',e1,e2⟩:=jid r2 i v e;exact⟨b',by simpa using e1,e2⟩
def joc:List V->Hp->VK->Prop:=λxs H Q=>match xs with
 |[.ref p]=>∃bs:List Bool,H p=some (.lst (bs.map V.bl))/\Q (.bl (bs.all id)) H
 |_=>False
theorem jm7{s:Shared}{h':Heap}{o:Obj}(hk:∀b x,b∉[s.heap.objs.size]->(s.heap.push o).get? b=some x->h'.get? b=some x):∀b x,s.heap.get? b=some x->h'.get? b=some x :=
 λb x e=>hk b x (λhm=>by rw[Ao.mp hm]at e;exact O1 _ (Ai e)) (Ac _ e)
theorem jcf(hc:X.calm=true):jdf X (.builtin "all") joc:=by
 intro pins s σ H xs us Q I r h
 unfold joc at h
 split at h
 ·rename_i p
  obtain⟨bs,e,q⟩:=h
  obtain⟨u,rfl,ru⟩:=jd5 r
  cases ru
  obtain⟨its,rr,pl,_⟩:=I.list (SqL.of e)
  have isl:=pl.isList
  have plt:p<s.heap.objs.size:=by obtain⟨_,e,_⟩:=isl;exact Ai e
  refine call_all_walk (wpAny_pyIter_list isl ?_)
  refine⟨s.heap.objs.size,[s.heap.objs.size,p],[s.heap.objs.size],its.toArray.size,_,_,λi=>(bs[i]?).getD true,rfl,Walks.list (A:=X.A.in1) (I.ok.hd hc) _ p (Ar plt) its.toArray,
   ⟨⟨_,At _ rfl,rfl,rfl⟩,isl.push _⟩,λi v s' Q' E' hp hq=>?_,λh' tk hk=>?_⟩
  ·obtain⟨b,e,rfl⟩:=jid rr i v (by simpa using hp)
   simp only[Option.getD_some,e]at hq
   exact Ob hq
  ·have e:((List.range its.toArray.size).all λi=>(bs[i]?).getD true)=bs.all id:=by
    have hlen:its.length=bs.length:=by have:=rr.length;simpa using this.symm
    rw[Aj,hlen]
    conv=>rhs;rw[<-joi bs true,List.all_map]
    rfl
   rw[e]
   exact⟨.bl _,H,I.kept (jm7 hk),rfl,q⟩
 ·exact h.elim
theorem jjl(p:Addr)(H:Hp)(Q:VK):joc [.ref p] H Q=(∃bs:List Bool,H p=some (.lst (bs.map V.bl))/\Q (.bl (bs.all id)) H):=rfl
end
theorem jic{H:Hp}{D:Addr}{a b:HO}:upd (upd H D a) D b=upd H D b:=jep
section
variable{D:Addr}{te:TE}{E:Ends}{r:L2.St}{H:Hp}
theorem jk1{z:Str}(f:Nat->V)(hz:z.length<=sizeLine)(he:∀c∈z.cps.toList,∀l Q,Q (f c) (upd H D (.lst l))->te (some (.str ⟨#[c]⟩)::r) (upd H D (.lst l)) Q)
  (hn:∀v,E.nx (v::r) (upd H D (.lst (z.cps.toList.map f)))):jdn (ItS z) (jdo 0) (jfq D te) E (none::r) (upd H D (.lst [])):=by
 have hzl:z.cps.toList.length=z.length:=by simp[Str.length]
 refine jqr (λi σ H'=>∃v:Option V,σ=v::r/\H'=upd H D (.lst ((z.cps.toList.take i).map f))) ⟨none,rfl,rfl⟩ ?_ ?_
 ·rintro i c σ H' hc ⟨v,rfl,rfl⟩
  have hl:i<z.cps.toList.length:=(Ab.mp hc).1
  refine he c (A0 hc) _ _ ⟨_,by rw[je];rfl,by simp;omega,some (.str ⟨#[c]⟩),rfl,?_⟩
  rw[jic,O6,hc]
  simp
 ·rintro σ H' ⟨v,rfl,rfl⟩
  rw[Ou (by omega)]
  exact hn v
theorem joy{K:PySem.W.Frag}{a:Addr}{xs:List V}(f:V->V)(ha:H a=some (.lst xs))(hD:H D=none)(hz:xs.length<=sizeLine)(he:∀x∈xs,∀l Q,Q (f x) (upd H D (.lst l))->te (some x::r) (upd H D (.lst l)) Q)
  (hn:∀v,E.nx (v::r) (upd H D (.lst (xs.map f)))):jdn (Itl K a) (jdo 0) (jfq D te) E (none::r) (upd H D (.lst [])):=by
 have ne:a≠D:=jl ha hD
 refine jf2 (xs:=xs) (λi σ H'=>∃v:Option V,σ=v::r/\H'=upd H D (.lst ((xs.take i).map f))) ⟨none,rfl,rfl⟩ ?_ ?_ ?_
 ·rintro i σ H' _ ⟨v,_,rfl⟩
  rw[jf ne];exact ha
 ·rintro i x σ H' hx ⟨v,rfl,rfl⟩
  have hl:i<xs.length:=(Ab.mp hx).1
  refine he x (A0 hx) _ _ ⟨_,by rw[je];rfl,by simp;omega,some x,rfl,?_⟩
  rw[jic,O6,hx]
  simp
 ·rintro σ H' ⟨v,rfl,rfl⟩
  rw[Ou (Ag _)]
  exact hn v
theorem jqd{K:PySem.W.Frag}{a:Addr}{xs:List V}(f:V->V)(ha:H a=some (.tup xs))(hD:H D=none)(hz:xs.length<=sizeLine)(he:∀x∈xs,∀l Q,Q (f x) (upd H D (.lst l))->te (some x::r) (upd H D (.lst l)) Q)
  (hn:∀v,E.nx (v::r) (upd H D (.lst (xs.map f)))):jdn (Itt K a) (jdo 0) (jfq D te) E (none::r) (upd H D (.lst [])):=by
 have ne:a≠D:=jl ha hD
 refine jfi (xs:=xs) (λi σ H'=>∃v:Option V,σ=v::r/\H'=upd H D (.lst ((xs.take i).map f))) ⟨none,rfl,rfl⟩ ?_ ?_ ?_
 ·rintro i σ H' _ ⟨v,_,rfl⟩
  rw[jf ne];exact ha
 ·rintro i x σ H' hx ⟨v,rfl,rfl⟩
  have hl:i<xs.length:=(Ab.mp hx).1
  refine he x (A0 hx) _ _ ⟨_,by rw[je];rfl,by simp;omega,some x,rfl,?_⟩
  rw[jic,O6,hx]
  simp
 ·rintro σ H' ⟨v,rfl,rfl⟩
  rw[Ou (Ag _)]
  exact hn v
end
end L2
set_option autoImplicit true
set_option relaxedAutoImplicit true
namespace L2
open PySem PySem.Spec PyProof.Rows
structure QE(X:Cx)(e:Expr)(t:TE):Prop where
 h:PE X e t
structure QT(X:Cx)(e:Expr)(t:TT):Prop where
 h:PT X e t
structure QW(X:Cx)(e:Expr)(t:TT):Prop where
 h:PW X e t
structure QA(X:Cx)(es:List Expr)(t:TA):Prop where
 h:PA X es t
structure QS(X:Cx)(st:Stmt)(t:TS):Prop where
 h:PS X st t
structure QSs(X:Cx)(st:List Stmt)(t:TS):Prop where
 h:PSs X st t
structure QG(X:Cx)(e:Expr)(t:TG):Prop where
 h:PG X e t
structure QGs(X:Cx)(es:List Expr)(t:TGs):Prop where
 h:PGs X es t
structure QI(X:Cx)(tg iter:Expr)(wi:TI):Prop where
 h:PI X tg iter wi
structure QO(X:Cx)(e:Option Expr)(t:TO):Prop where
 h:PO X e t
structure QC(X:Cx)(op:CmpOp)(a b:Expr)(t:TE):Prop where
 h:PC X op a b t
theorem jx:QSs X [] jks:=⟨pss_nil⟩
theorem jj(h1:QS X stm t):QSs X [stm] t:=⟨pss_one h1.h⟩
theorem jh(h1:QS X stm t)(h2:QSs X rst u):QSs X (stm::rst) (tSeq t u):=⟨pss_cons h1.h h2.h⟩
theorem qpv(i:Nat){x:Str}{pos:Pos}(hN:X.N[i]?=some x:=by rfl)(hv:Vis X.env.scope x:=by first|exact Or.inl rfl|exact Or.inr (Or.inl rfl)|exact Or.inr (Or.inr rfl))
  (hd:(x == ("__debug__":Str))=false:=by decide) (hcd:(x == ("__classdict__":Str))=false:=by decide):QE X (.Name x pos) (tVar i):=⟨pv i hN hv hd hcd⟩
theorem ji:QE X (.Constant (.int i) j pos) (tC (.int i)):=⟨pe_int⟩
theorem jbr:QE X (.Constant (.bool b) j pos) (tC (.bl b)):=⟨pe_bl⟩
theorem zx:QE X (.Constant .none j pos) (tC .non):=⟨pe_non⟩
theorem jg:QE X (.Constant (.str x) j pos) (tC (.str x)):=⟨pe_str⟩
theorem yu{x:Str}{v:V}{u:Value}{pos:Pos}(hg:Gl X x)(hm:X.mg x=some u)(r:RelV v u)(hd:(x == ("__debug__":Str))=false:=by decide):QE X (.Name x pos) (tC v):=⟨pe_glob hg hm r hd⟩
theorem jap{x:Str}{v:V}{u:Value}{pos:Pos}(hg:Gl X x)(hm:X.mg x=none)(hv:bootBuiltins x=some u)(r:RelV v u)(hn:x≠"__name__":=by decide)(hd:(x == ("__debug__":Str))=false:=by decide) :
  QE X (.Name x pos) (tC v):=⟨pe_bltn hg hm hv r hn hd⟩
theorem jq(ho:OpR X (binaryOp op) r)(ha:QE X a ta)(hb:QE X b tb):QE X (.BinOp a op b pos) (tOp r ta tb):=⟨pe_op ho ha.h hb.h⟩
theorem jb8(ho:UnR X (unaryOp op) r)(ha:QE X a ta):QE X (.UnaryOp op a pos) (tUn r ta):=⟨pe_un ho ha.h⟩
theorem yr(ho:OpR X (compareOp op) r)(ha:QE X a ta)(hb:QE X b tb)(hm:behindInMarks op b=false):QE X (.Compare a [op] [b] pos) (tOp r ta tb):=⟨pe_cmpR ho ha.h hb.h hm⟩
theorem jp(ho:OpR X (compareOp op) r)(ha:QE X a ta)(hb:QE X b tb)(hm:behindInMarks op b=false):QT X (.Compare a [op] [b] pos) (jfu (tOp r ta tb)):=⟨pt_cmpR ho ha.h hb.h hm⟩
theorem jcm(ho:OpR X (compareOp op) r)(ho':OpR X (compareOp op') r')(ha:QE X a ta)(hb:QE X b tb)(hc:QE X c tc)(hm:lastMarks [op,op'] [b,c]=false:=by with_unfolding_all rfl) :
  QE X (.Compare a [op,op'] [b,c] pos) (jfe r r' ta tb tc):=⟨pe_chain ho ho' ha.h hb.h hc.h hm⟩
theorem qpt_chain(ho:OpR X (compareOp op) r)(ho':OpR X (compareOp op') r')(ha:QE X a ta)(hb:QE X b tb)(hc:QE X c tc)(hm:lastMarks [op,op'] [b,c]=false:=by with_unfolding_all rfl) :
  QT X (.Compare a [op,op'] [b,c] pos) (jfu (jfe r r' ta tb tc)):=⟨pt_chain ho ho' ha.h hb.h hc.h hm⟩
theorem qpt_cmp(h:QC X op a b t)(h1:behindInMarks op b=false:=by first|exact nobehind _ (by decide) (by decide)|rfl):QT X (.Compare a [op] [b] pos) (tB t):=⟨pt_cmp h.h h1⟩
theorem qpc_dnotin(hu:X.A.units+1<cLine)(hi:QE X i ty)(ho:QE X o td):QC X .NotIn i o (jgl ty td):=⟨pc_dnotin hu hi.h ho.h⟩
theorem jbd(ha:QT X a tA):QT X (.UnaryOp .Not a pos) (tNot tA):=⟨pt_not ha.h⟩
theorem QW.pt(h:QW X e t):QT X e t:=⟨PW.pt h.h⟩
theorem ja6(ha:QT X a tA)(hb:QW X (.BoolOp .And (b::rst) pos) tB'):QW X (.BoolOp .And (a::b::rst) pos) (tAnd tA tB'):=⟨pw_and ha.h hb.h⟩
theorem jag(ha:QT X a tA)(hb:QW X (.BoolOp .Or (b::rst) pos) tB'):QW X (.BoolOp .Or (a::b::rst) pos) (tOr tA tB'):=⟨pw_or ha.h hb.h⟩
theorem jbl(ha:QT X a tA):QW X (.BoolOp .And [a] pos) tA:=⟨pw_and1 ha.h⟩
theorem jad(ha:QT X a tA):QW X (.BoolOp .Or [a] pos) tA:=⟨pw_or1 ha.h⟩
theorem zd{e:Expr}(h:QE X e t)(he:∀whole,isTrue e X.env whole=(do let v <-whole;standAt e.pos;holding [v] (truthy v)):=by intro _;rfl):QT X e (tB t):=⟨pt_val h.h he⟩
theorem jax(h:QE X a t):QE X (.BoolOp op [a] pos) t:=⟨pe_one h.h⟩
theorem jbt(ha:QE X a ta)(hb:QE X (.BoolOp .And (b::rst) pos) tb):QE X (.BoolOp .And (a::b::rst) pos) (jki ta tb):=⟨pe_and ha.h hb.h⟩
theorem jb7(ha:QE X a ta)(hb:QE X (.BoolOp .Or (b::rst) pos) tb):QE X (.BoolOp .Or (a::b::rst) pos) (tOrV ta tb):=⟨pe_or ha.h hb.h⟩
theorem jcn(hc:QT X c tA)(ha:QE X a ta)(hb:QE X b tb):QE X (.IfExp c a b pos) (tIf tA ta tb):=⟨pe_ifExp hc.h ha.h hb.h⟩
theorem j6(h:QA X es t):QE X (.List es pos) (tLst t):=⟨pe_lst h.h⟩
theorem kf(h:QA X es t):QE X (.Tuple es x1 pos) (tTup t):=⟨pe_tup h.h⟩
theorem yf(hr:SlR X r)(he:QE X e te)(hl:QO X lw tl)(hu:QO X hi th):QE X (.Subscript e (.Slice lw hi none p2) pos) (tSl r te tl th):=⟨pe_slice hr he.h hl.h hu.h⟩
theorem yz:QO X none jgn:=⟨po_none⟩
theorem yg(h:QE X e te):QO X (some e) (jkt te):=⟨po_some h.h⟩
theorem ju(hr:IxR X r)(ha:QE X a ta)(hb:QE X b tb)(hs:jmr b):QE X (.Subscript a b pos) (tOp r ta tb):=⟨pe_ix hr ha.h hb.h hs⟩
theorem jbh(hc:X.calm=true)(c:CompOk X scope Nc js)(hi:QI X tg iter wi)(hg:∀C s3 H3 fp,QG (X.comp scope C Nc s3 H3 fp) tg g)(he:∀C s3 H3 fp,QE (X.comp scope C Nc s3 H3 fp) elt te)
  (hs:∀x,foldedSetIterable iter X.env x=pure x:=by intro _;rfl):QE X (.ListComp elt [⟨tg,iter,[],0⟩] scope pos) (jgk wi g js te):=⟨pe_comp hc c hi.h (λC s H f=>(hg C s H f).h) (λC s H f=>(he C s H f).h) hs⟩
theorem qps_setc{i:Nat}{y:Str}{py spos:Pos}(hN:X.N.Nodup)(hiN:X.N[i]?=some y)(hy:Loc X.env.scope y)(hc:X.calm=true)(c:CompOk X scope Nc js)(hi:QI X tg iter wi)(hg:∀C s3 H3 fp,QG (X.comp scope C Nc s3 H3 fp) tg g)
  (he:∀C s3 H3 fp,QE (X.comp scope C Nc s3 H3 fp) elt te) (hsw:swapsWith (.ListComp elt [⟨tg,iter,[],0⟩] scope pos) (some (.Name y py)) spos.line X.env=pure true:=by rfl)
  (hs:∀x,foldedSetIterable iter X.env x=pure x:=by intro _;rfl) (hf:X.fn y=true\/X.env.scope.names.lookup y=some .local:=by first|exact .inl rfl|exact .inr rfl|assumption) :
  QS X (.Assign [.Name y py] (.ListComp elt [⟨tg,iter,[],0⟩] scope pos) spos) (tAsg (jgk wi g js te) (jdo i)):=⟨ps_setc hN hiN hy hc c hi.h (λC s H f=>(hg C s H f).h) (λC s H f=>(he C s H f).h) hsw hs hf⟩
theorem jo(F:FnOk X.prog X.w X.K X.mg X.base CX k f fd ps sp)(hr:Room k X.A)(hg:Gl X x)(hm:X.mg x=some (.ref f))(hk:PySem.W.keepIn X.K (.ref f)=true)(hb:Binds X.K fd ps ds)(hd:Vals dvs ds)(hx:jdp CX X E)
  (ha:QA X (e::es) t) (hdb:(x == ("__debug__":Str))=false:=by decide) (he:starEach (e::es) X.env=(false,eval e X.env)::starEach es X.env:=by rfl) (hpl:(backTo pos (starEach es X.env)).any (·.1)=false:=by rfl) :
  QE X (.Call (.Name x p) (e::es) [] pos) (jkk sp dvs E t):=⟨pe_call F hr hg hm hk hb hd hx ha.h hdb he hpl⟩
theorem zi(hc:jdf X (.type T) r)(hg:Gl X x)(hm:X.mg x=none)(hv:bootBuiltins x=some (.type T))(ha:QA X (e::es) t)(hn:x≠"__name__":=by decide)(hdb:(x == ("__debug__":Str))=false:=by decide)
  (he:starEach (e::es) X.env=(false,eval e X.env)::starEach es X.env:=by rfl) (hpl:(backTo pos (starEach es X.env)).any (·.1)=false:=by rfl):QE X (.Call (.Name x p) (e::es) [] pos) (tCB r t):=⟨pe_callTy hc hg hm hv ha.h hn hdb he hpl⟩
theorem jv(hc:jdf X (.builtin idn) r)(hg:Gl X x)(hm:X.mg x=none)(hv:bootBuiltins x=some (.builtin idn))(ha:QA X (e::es) t)(hn:x≠"__name__":=by decide)(hdb:(x == ("__debug__":Str))=false:=by decide)
  (he:starEach (e::es) X.env=(false,eval e X.env)::starEach es X.env:=by rfl) (hpl:(backTo pos (starEach es X.env)).any (·.1)=false:=by rfl):QE X (.Call (.Name x p) (e::es) [] pos) (tCB r t):=⟨pe_callB hc hg hm hv ha.h hn hdb he hpl⟩
theorem yd(slot:Slot "list" name idn)(hty:typeOf (.builtin idn)=pure (.type "method_descriptor"))(hm:MtM X idn r)(ho:QE X o to)(ha:QA X (e::es) t)(mono:∀σ H Q Q',(∀v H',Q v H'->Q' v H')->to σ H Q->to σ H Q')
  (hbase:attributeBase o name X.env (eval o X.env)=eval o X.env:=by rfl)
  (hfew:((backTo cpos (starEach (e::es) X.env)).all (λx=>!x.1) && (backToKw cpos (keywordEach [] X.env)).all (λx=>x.1.isSome)
   && decide ((e::es).length+([]:List Keyword).length+(if([]:List Keyword).isEmpty then 0 else 1)<30))=true:=by rfl)
  (hline:(apos.endLine == cpos.line)=true:=by rfl) (hs:starEach (e::es) X.env=(false,eval e X.env)::starEach es X.env:=by rfl) (hplain:(backTo cpos (starEach es X.env)).any (·.1)=false:=by rfl) :
  QE X (.Call (.Attribute o name apos) (e::es) [] cpos) (tBML r to t):=⟨pe_bmL slot hty hm ho.h ha.h mono hbase hfew hline hs hplain⟩
theorem ja5(slot:Slot "str" name idn)(hty:typeOf (.builtin idn)=pure (.type "method_descriptor"))(hm:MtM X idn r)(ho:QE X o to)(ha:QA X (e::es) t)(mono:∀σ H Q Q',(∀v H',Q v H'->Q' v H')->to σ H Q->to σ H Q')
  (hbase:attributeBase o name X.env (eval o X.env)=eval o X.env:=by rfl)
  (hfew:((backTo cpos (starEach (e::es) X.env)).all (λx=>!x.1) && (backToKw cpos (keywordEach [] X.env)).all (λx=>x.1.isSome)
   && decide ((e::es).length+([]:List Keyword).length+(if([]:List Keyword).isEmpty then 0 else 1)<30))=true:=by rfl)
  (hline:(apos.endLine == cpos.line)=true:=by rfl) (hs:starEach (e::es) X.env=(false,eval e X.env)::starEach es X.env:=by rfl) (hplain:(backTo cpos (starEach es X.env)).any (·.1)=false:=by rfl) :
  QE X (.Call (.Attribute o name apos) (e::es) [] cpos) (tBMS r to t):=⟨pe_bmS slot hty hm ho.h ha.h mono hbase hfew hline hs hplain⟩
theorem jbg(slot:Slot "list" name idn)(hty:typeOf (.builtin idn)=pure (.type "method_descriptor"))(hm:MtM X idn r)(ho:QE X o to)(mono:∀σ H Q Q',(∀v H',Q v H'->Q' v H')->to σ H Q->to σ H Q')
  (hbase:attributeBase o name X.env (eval o X.env)=eval o X.env:=by rfl) (hline:(apos.endLine == cpos.line)=true:=by rfl):QE X (.Call (.Attribute o name apos) [] [] cpos) (jkj r to):=⟨pe_bmL0 slot hty hm ho.h mono hbase hline⟩
theorem jd:QA X [] tNil:=⟨jc5⟩
theorem jc(ha:QE X e te)(hr:QA X es t)(hs:starEach (e::es) X.env=(false,eval e X.env)::starEach es X.env:=by rfl):QA X (e::es) (je4 te t):=⟨jcy ha.h hr.h hs⟩
theorem kr{i:Nat}{x:Str}(hN:X.N.Nodup)(hi:X.N[i]?=some x)(hx:Loc X.env.scope x)(hf:X.fn x=true\/X.env.scope.names.lookup x=some .local:=by first|exact .inl rfl|exact .inr rfl|assumption):QG X (.Name x pos) (jdo i):=⟨pg_name hN hi hx hf⟩
theorem jc0{es:List Expr}{t:TGs}{n:Nat}{K:PySem.W.Frag}(hc:X.calm=true)(h:QGs X es t)(hK:X.K=K)(hn:(assignEach es X.env).length=n:=by rfl)(hst:(assignEach es X.env).findIdx? (·.1)=none:=by rfl) :
  QG X (.Tuple es k pos) (gTup K n t):=by subst hK;exact⟨pg_tup hc h.h hn hst⟩
theorem jcw:QGs X [] gNil:=⟨pgs_nil⟩
theorem ja9{e:Expr}{es:List Expr}(h1:QG X e t)(h2:QGs X es u)(hs:(assignEach (e::es) X.env).map (·.2)=assign e X.env::(assignEach es X.env).map (·.2):=by rfl):QGs X (e::es) (jrk t u):=⟨pgs_cons h1.h h2.h hs⟩
theorem jcc{o i:Expr}(ho:QE X o to)(hi:QE X i ti)(hs:PSet X t)
  (ha:∀v,assign (.Subscript o i pos) X.env v=(do
   let ov <-holding [v] (eval o X.env)
   let iv <-holding [v,ov] (eval i X.env)
   standAt pos
   holding [v,ov,iv] (setItem ov iv v)
   release [v,ov,iv] []):=by intro _;rfl):QG X (.Subscript o i pos) (gSub to ti t):=⟨pg_sub ho.h hi.h hs ha⟩
theorem jm{i:Nat}{x:Str}{e:Expr}{te:TE}{pos':Pos}(hN:X.N.Nodup)(hi:X.N[i]?=some x)(hx:Loc X.env.scope x)(he:QE X e te)(hs:swapsWith e (some (.Name x pos')) pos.line X.env=pure false:=by rfl)
  (hf:X.fn x=true\/X.env.scope.names.lookup x=some .local:=by first|exact .inl rfl|exact .inr rfl|assumption):QS X (.Assign [.Name x pos'] e pos) (tAsg te (jdo i)):=⟨ps_set hN hi hx he.h hs hf⟩
theorem jce{tg e:Expr}(he:QE X e te)(hg:QG X tg g)(hs:swapsWithSole [tg] e pos.line X.env=pure false:=by rfl)(hw:swappedStores [tg] e X.env=pure none:=by rfl)
  (h1:(assignEach [tg] X.env).map (·.2)=[assign tg X.env]:=by rfl):QS X (.Assign [tg] e pos) (tAsg te g):=⟨ps_asg he.h hg.h hs hw h1⟩
theorem qps_dput(hu:X.A.units+1<cLine)(ho:QE X o td)(hi:QE X i ty)(hv:QE X value tv)(hs:swapsWith value (some (.Subscript o i pos')) pos.line X.env=pure false) :
  QS X (.Assign [.Subscript o i pos'] value pos) (jkg td ty tv):=⟨ps_dput hu ho.h hi.h hv.h hs⟩
theorem jr(he:QE X e te):QS X (.Return (some e) pos) (tRet te):=⟨ps_ret he.h⟩
theorem kj(he:QE X e te)(hs:swapsWith e none pos.line X.env=pure false:=by rfl):QS X (.Expr e pos) (jkm te):=⟨ps_expr he.h hs⟩
theorem j7(hc:QT X c tc)(ha:QSs X a t)(hb:QSs X b u):QS X (.If c a b pos) (tIfS tc t u):=⟨ps_if hc.h ha.h hb.h⟩
theorem jac{iter:Expr}(hp:PassesOwn (model X.prog X.w) X.A X.env X.xe)(hc:X.calm=true)(hi:QI X tg iter wi)(hg:QG X tg g)(hb:QSs X body tb)(hs:∀x,foldedSetIterable iter X.env x=pure x:=by intro _;rfl) :
  QS X (.For tg iter body [] pos) (tFor wi g tb):=⟨ps_for hp hc hi.h hg.h hb.h hs⟩
theorem ja1(hp:PassesOwn (model X.prog X.w) X.A X.env X.xe)(hc:QT X c tc)(hb:QSs X body tb):QS X (.While c body [] pos) (jma tc tb):=⟨ps_while hp hc.h hb.h⟩
theorem qps_continue:QS X (.Continue pos) jkl:=⟨ps_continue⟩
theorem jav{a:Expr}{ta:TA}{p pos:Pos}(hg:Gl X "range")(hm:X.mg "range"=none)(ha:QA X [a] ta)(hs:starEach [a] X.env=[(false,eval a X.env)]:=by rfl):QI X tg (.Call (.Name "range" p) [a] [] pos) (jj9 ta):=⟨pi_range1 hg hm ha.h hs⟩
theorem qpi_range2{a b:Expr}{ta:TA}{p pos:Pos}(hg:Gl X "range")(hm:X.mg "range"=none)(ha:QA X [a,b] ta)(hs:starEach [a,b] X.env=[(false,eval a X.env),(false,eval b X.env)]:=by rfl)(hs2:starEach [b] X.env=[(false,eval b X.env)]:=by rfl) :
  QI X tg (.Call (.Name "range" p) [a,b] [] pos) (jka ta):=⟨pi_range2 hg hm ha.h hs hs2⟩
theorem zy{K:PySem.W.Frag}(hl:QE X l tl)(hK:X.K=K):QI X tg l (iAny K tl):=by subst hK;exact⟨pi_any hl.h⟩
def jff(D:Addr)(tt:TT)(te:TE):TS:=λE σ H=>tt σ H λb H1=>if b=true then jfq D te E σ H1 else E.nx σ H1
def jeo(wi:TI)(g:TG)(js:List (Option Nat))(tt:TT)(te:TE):TE:=λσ H Q=>wi σ H λJ H1=>∀D,H1 D=none ->
 jdn J g (jff D tt te) {nx:=λ_ H'=>Q (.ref D) H',rt:=λ_ _=>False} (jd6 js σ) (upd H1 D (.lst []))
theorem jkz(elt target iter cd:Expr)(scope:Scope)(pos:Pos)(it acc:Value)(env:Env) :
  compTurn (.ListComp elt [⟨target,iter,[cd],0⟩] scope pos) 0 it acc env=(standAt iter.pos >>= λ_=>pyNext it >>= λr=>match r with
   |none=>pure (.done .next)
   |some v=>letOwnedTupleGo target it v >>= λ_=>assign target env v >>= λ_ =>
    (forIn [cd] true λc ok=>if ok=true then(isTrue c env (eval c env) >>= λb=>pure (ForInStep.yield b))else pure (ForInStep.yield ok)) >>= λok =>
    if ok=true then((eval elt env >>= λx=>call (.builtin "list.append") [acc,x] >>= λ_=>pure ()) >>= λ_=>again (.compLoop (.ListComp elt [⟨target,iter,[cd],0⟩] scope pos) 0 it acc env))
    else again (.compLoop (.ListComp elt [⟨target,iter,[cd],0⟩] scope pos) 0 it acc env)):=by rfl
section
variable{X:Cx}{scope:Scope}{Nc:List Str}{js:List (Option Nat)}{elt tg iter cd:Expr}{pos:Pos}{wi:TI}{g:TG}{te:TE}{tt:TT}
theorem jgs(hc:X.calm=true)(c:CompOk X scope Nc js)(hi:PI X tg iter wi)(hg:∀C s3 H3 fp,PG (X.comp scope C Nc s3 H3 fp) tg g)(ht:∀C s3 H3 fp,PT (X.comp scope C Nc s3 H3 fp) cd tt)(he:∀C s3 H3 fp,PE (X.comp scope C Nc s3 H3 fp) elt te)
  {pins:List (Addr×Obj)}{s:Shared}{σ:L2.St}{H:Hp} (I:Inv X pins σ H s) {RR:Value->Addr->Result->Shared->Prop}{NX:Addr->Hp->Prop}
  (h:wi σ H λJ H1=>∀D,H1 D=none->jdn J g (jff D tt te) {nx:=λ_ H'=>NX D H',rt:=λ_ _=>False} (jd6 js σ) (upd H1 D (.lst [])))
  (fin:∀D H3 s3 fp σ5 H5 s6,Inv X pins σ H3 s3->(∀b∈fp,FpOk X pins H3 b)->Inv (X.comp scope s3.heap.objs.size Nc s3 H3 fp) [] σ5 H5 s6->NX D H5->RR (.ref D) s3.heap.objs.size (.ok .next) s6) :
  wpAny (model X.prog X.w) X.A (eval iter X.env) (λx s₁=>wpAny (model X.prog X.w) X.A (pyIter x) (λit s₂=>wpAny (model X.prog X.w) X.A (newList []) (λacc s₃ =>
   wpAny (model X.prog X.w) X.A (newFunctionEnv scope X.env.globals (clOf X.env scope.names []) [] X.env.qual none .none (some X.env)) (λcenv s₄ =>
    codeAny (model X.prog X.w) X.A (.compStart (.ListComp elt [⟨tg,iter,[cd],0⟩] scope pos) 0 it acc {cenv with scope:=relabel scope X.env}) (RR acc cenv.locals) s₄) X.xe s₃) X.xe s₂) X.xe s₁) X.xe s:=by
 refine thn (hi pins s σ H _ I h) λv s1 h1=>thn h1 λitv s2 h2=>?_
 obtain⟨it,fp,tn,J,H2,rfl,I2,T,st2,f2,h2⟩:=h2
 refine O0 ?_ (by show 0<=sizeLine;decide)
 have hD:H2 s2.heap.objs.size=none:=I2.hok.fresh (Ag _)
 have I3:Inv X pins σ (upd H2 s2.heap.objs.size (.lst [])) {s2 with heap:=s2.heap.push {cls:=.type "list",data:=.seq ([]:List Value).toArray}} :=
  I2.laid (t':=s2.toks) (λb u e=>Ac _ e) (Ag _) ⟨by show 0<=sizeLine;decide,[],0,.nil,At _ rfl⟩
 have f3:∀b∈fp,FpOk X pins (upd H2 s2.heap.objs.size (.lst [])) b:=λb hb=>by
  obtain⟨q0,q⟩:=f2 b hb
  obtain⟨o,e,_⟩:=T.obj _ _ st2 b hb
  exact⟨by rw[jf (Ar (Ai e))];exact q0,q⟩
 have o3:∀b∈fp,∃o,(s2.heap.push {cls:=.type "list",data:=.seq ([]:List Value).toArray}).get? b=some o:=λb hb=>by
  obtain⟨o,e,_⟩:=T.obj _ _ st2 b hb
  exact⟨o,Ac _ e⟩
 have st3:tn 0 (s2.heap.push {cls:=.type "list",data:=.seq ([]:List Value).toArray}):=T.keep _ _ _ st2 λb _ o e=>Ac _ e
 generalize hh3:s2.heap.push {cls:=.type "list",data:=.seq ([]:List Value).toArray}=h3 at I3 o3 st3⊢
 refine W8 c.nocell (by intro y hy;simp at hy) (λh4 hn4 hs4=>?_) c.kind
 have k4:∀b o,h3.get? b=some o->h4.get? b=some o:=λb o e=>(hs4.2 b (Ar (Ai e))).trans (Ac _ e)
 have I4:=jk0 (tk:=s2.toks+([]:List (Str×Value)).length) c I3 f3 o3 hn4 k4
 have st4:tn 0 h4:=T.keep _ _ _ st3 λb _ o e=>k4 b o e
 obtain⟨W,⟨m0,w0⟩,turn⟩:=h2 _ hD
 let s3:Shared:={s2 with heap:=h3}
 let Y:Cx:=X.comp scope h3.objs.size Nc s3 (upd H2 s2.heap.objs.size (.lst [])) fp
 have stat:∀{H':Hp},(∀b∈fp,H' b=none)->∀b∈fp,FpOk Y [] H' b:=λhn b hb=>⟨hn b hb,(I4.ok.exf b hb).1,I4.ok.exfs b hb,.inl hb,(I4.ok.exf b hb).2,(λp hp=>nomatch hp)⟩
 have loop:codeAny (model X.prog X.w) X.A (.compLoop (.ListComp elt [⟨tg,iter,[cd],0⟩] scope pos) 0 (.ref it) (.ref s2.heap.objs.size) Y.env)
   (RR (.ref s2.heap.objs.size) h3.objs.size) {s2 with heap:=h4,toks:=s2.toks+([]:List (Str×Value)).length}:=by
  refine codeAny_loop rfl (λn s'=>∃i σ' H',Inv Y [] σ' H' s'/\tn i s'.heap/\(∀b∈fp,H' b=none)/\W i n σ' H') (λn s5 hI=>?_) m0 ⟨0,_,_,I4,st4,λb hb=>(f3 b hb).1,w0⟩
  obtain⟨i,σ5,H5,I5,st5,fr5,w5⟩:=hI
  show wpAny _ X.A ((compTurn (.ListComp elt [⟨tg,iter,[cd],0⟩] scope pos) 0 (.ref it) (.ref s2.heap.objs.size) Y.env).onRaise (λx=>do noteFrame x Y.env;theTreesLotGoes x)) _ _ s5
  refine wpAny_noted (Iy (E:=λ_ _=>False) ?_ (λ_ _ q=>q) λ_ _ z=>z.elim)
  rw[jkz]
  refine Ad (Us (Ad ?_))
  rcases turn i n σ5 H5 w5 with⟨stop,qn⟩|⟨go,N,hN,step⟩
  ·refine thn (T.done Y rfl rfl rfl hc i [] s5 σ5 H5 _ I5 (stat fr5) st5 stop) λr s6 ⟨hr,I6⟩=>?_
   subst hr
   refine Am ?_
   exact fin _ _ s3 fp σ5 H5 s6 I3 f3 I6 qn
  ·refine thn (T.item Y rfl rfl rfl hc i [] s5 σ5 H5 _ I5 (stat fr5) st5 go) λr s6 ⟨u,hr,h6⟩=>?_
   subst hr
   refine Ad (thn h6 λ_ s7 ⟨x,H7,I7,r7,y7,st7,fr7⟩=>?_)
   have I7':=I7.pinned (stat fr7) (T.obj _ _ st7)
   refine Ad (thn (hg _ _ _ _ _ s7 σ5 H7 x u _ I7' r7 (step x H7 y7)) λ_ s8 ⟨σ8,H8,I8,q8⟩=>?_)
   have fin2:∀{H':Hp}{s':Shared},Inv Y ([]++jf6 fp s7.heap) σ8 H' s'->N σ8 H'->∃m,m<n/\∃i σ1 H1,Inv Y [] σ1 H1 s'/\tn i s'.heap/\(∀b∈fp,H1 b=none)/\W i m σ1 H1:=fun{H'}{s'} I10 n10=>by
    obtain⟨m',hm,w10⟩:=hN σ8 H' n10
    refine⟨m',hm,i+1,σ8,H',I10.unpinned,T.keep _ _ _ st7 λb hb o e=>(I10.pin (b,o) (A8 _ (A8 _ (jd4 hb e)))).1,λb hb=>?_,w10⟩
    obtain⟨o,e,d⟩:=T.obj _ _ st7 b hb
    exact(I10.pin (b,o) (A8 _ (A8 _ (jd4 hb e)))).2.1
   rw[W7,Af rfl]
   refine Ad (Ad (Ad (thn (ht _ _ _ _ _ s8 σ8 H8 _ I8 q8) λok s9 ⟨H9,I9,q9⟩=>Am ?_)))
   simp only[List.forIn_nil]
   refine Am ?_
   cases ok with
   |false =>
    simp only[Ih,Oi]at q9⊢
    exact Am ⟨rfl,fin2 I9 q9⟩
   |true =>
    simp only[O5]at q9⊢
    refine Ad (Ad (thn (he _ _ _ _ _ s9 σ8 H9 _ I9 q9) λv s10 ⟨y,H10,I10,r10,ys,e10,z10,n10⟩=>?_))
    refine Ad (thn (jbq (X:=Y) _ s10 σ8 H10 (.ref s2.heap.objs.size) [y] (.ref s2.heap.objs.size) [v] (λw H'=>N σ8 H') I10 rfl (.cons r10 .nil) ⟨_,ys,y,rfl,rfl,jde e10,z10,n10⟩) λw s11 ⟨_,H11,I11,_,n11⟩=>?_)
    exact Am (Am ⟨rfl,fin2 I11 n11⟩)
 exact codeAny_compStart_list loop (T.self _ 0 _ _ _ st4 loop)
theorem pe_compIf(hc:X.calm=true)(c:CompOk X scope Nc js)(hi:PI X tg iter wi)(hg:∀C s3 H3 fp,PG (X.comp scope C Nc s3 H3 fp) tg g)(ht:∀C s3 H3 fp,PT (X.comp scope C Nc s3 H3 fp) cd tt)(he:∀C s3 H3 fp,PE (X.comp scope C Nc s3 H3 fp) elt te)
  (hs:∀x,foldedSetIterable iter X.env x=pure x:=by intro _;rfl):PE X (.ListComp elt [⟨tg,iter,[cd],0⟩] scope pos) (jeo wi g js tt te):=by
 intro pins s σ H Q I h
 rw[eval_ListComp]
 refine Ul (use:=none) (g:=⟨tg,iter,[cd],0⟩) (gs:=[]) rfl hs (jek (c.has I)) c.kind c.loc
  (jgs (RR:=λacc C=>compPost (model X.prog X.w) X.A X.xe none (EP X pins σ Q) acc C) (NX:=λD H'=>Q (.ref D) H') hc c hi hg ht he I h λD H3 s3 fp σ5 H5 s6 I3 f3 I6 qn=>?_)
 obtain⟨m,hn,_⟩:=I6.loc
 exact⟨m,hn,λh' hs'=>⟨.ref D,H5,jel I3 f3 I6 hs',rfl,qn⟩⟩
theorem ps_setcIf{i:Nat}{y:Str}{py spos:Pos}(hN:X.N.Nodup)(hiN:X.N[i]?=some y)(hy:Loc X.env.scope y)(hc:X.calm=true)(c:CompOk X scope Nc js)(hi:PI X tg iter wi)(hg:∀C s3 H3 fp,PG (X.comp scope C Nc s3 H3 fp) tg g)
  (ht:∀C s3 H3 fp,PT (X.comp scope C Nc s3 H3 fp) cd tt) (he:∀C s3 H3 fp,PE (X.comp scope C Nc s3 H3 fp) elt te) (hsw:swapsWith (.ListComp elt [⟨tg,iter,[cd],0⟩] scope pos) (some (.Name y py)) spos.line X.env=pure true:=by rfl)
  (hs:∀x,foldedSetIterable iter X.env x=pure x:=by intro _;rfl) (hf:X.fn y=true\/X.env.scope.names.lookup y=some .local:=by first|exact .inl rfl|exact .inr rfl|assumption) :
  PS X (.Assign [.Name y py] (.ListComp elt [⟨tg,iter,[cd],0⟩] scope pos) spos) (tAsg (jeo wi g js tt te) (jdo i)):=by
 intro pins s σ H D I h
 rw[exec_Assign_Name_used _ _ _ _ hsw]
 refine Ad (Us (Ad ?_))
 show wpAny _ X.A (do let _ <-comprehension (.ListComp elt [⟨tg,iter,[cd],0⟩] scope pos) scope X.env _ (newList []) false (eval iter X.env) (some (assign (.Name y py) X.env))) _ _ s
 refine Ad (Iy (Ul (use:=some (assign (.Name y py) X.env)) (g:=⟨tg,iter,[cd],0⟩) (gs:=[]) (Q:=λ_ s'=>SP X pins D .next s') rfl hs (jek (c.has I)) c.kind c.loc
  (jgs (RR:=λacc C=>compPost (model X.prog X.w) X.A X.xe (some (assign (.Name y py) X.env)) (λ_ s'=>SP X pins D .next s') acc C) (NX:=λDa H'=>D.nx (σ.set i (some (.ref Da))) H') hc c hi hg ht he I h λDa H3 s3 fp σ5 H5 s6 I3 f3 I6 qn=>?_))
  (λ_ s' hq=>Am (Am hq)) λ_ _ e=>e)
 obtain⟨m,hn,_⟩:=id I6.loc
 have I7:Inv X pins σ H5 s6:=jel I3 f3 I6 (.refl ..)
 have hC:H5 s3.heap.objs.size=none:=I6.free
 have nL:s3.heap.objs.size≠X.env.locals:=Wg I3.lt
 have nc:∀x a,X.env.cells.lookup x=some a->a≠s3.heap.objs.size:=λx a e=>by
  obtain⟨v,q⟩:=I3.cell x a e
  exact Ar q.lt
 have np:∀p∈X.pn++pins,p.1≠s3.heap.objs.size:=λp hp=>Ar (Ai (I3.pin p hp).1)
 show wpAny _ _ (assign (.Name y py) X.env (.ref Da)) _ _ _
 refine wpAny_assign_Name (jgb (v:=.ref Da) I7 hN hiN hy rfl (λs8 I8 hb=>?_) hf)
 obtain⟨a,hs8,ha⟩:=hb
 have nCa:s3.heap.objs.size≠a:=by
  rcases ha with z|z
  ·rw[z];exact nL
  ·exact(nc y a z).symm
 refine⟨m,hn.sameBut hs8 nCa,λh9 hs9=>?_⟩
 exact⟨_,H5,I8.turned (t':=s8.toks) (λb o hb e=>(hs9.2 b hb).trans e) hC nL (.inr (A7 I3.sz (Ag _))) nc np,qn⟩
theorem jbi(hc:X.calm=true)(c:CompOk X scope Nc js)(hi:QI X tg iter wi)(hg:∀C s3 H3 fp,QG (X.comp scope C Nc s3 H3 fp) tg g)(ht:∀C s3 H3 fp,QT (X.comp scope C Nc s3 H3 fp) cd tt)(he:∀C s3 H3 fp,QE (X.comp scope C Nc s3 H3 fp) elt te)
  (hs:∀x,foldedSetIterable iter X.env x=pure x:=by intro _;rfl):QE X (.ListComp elt [⟨tg,iter,[cd],0⟩] scope pos) (jeo wi g js tt te) :=
 ⟨pe_compIf hc c hi.h (λC s H f=>(hg C s H f).h) (λC s H f=>(ht C s H f).h) (λC s H f=>(he C s H f).h) hs⟩
theorem qps_setcIf{i:Nat}{y:Str}{py spos:Pos}(hN:X.N.Nodup)(hiN:X.N[i]?=some y)(hy:Loc X.env.scope y)(hc:X.calm=true)(c:CompOk X scope Nc js)(hi:QI X tg iter wi)(hg:∀C s3 H3 fp,QG (X.comp scope C Nc s3 H3 fp) tg g)
  (ht:∀C s3 H3 fp,QT (X.comp scope C Nc s3 H3 fp) cd tt) (he:∀C s3 H3 fp,QE (X.comp scope C Nc s3 H3 fp) elt te) (hsw:swapsWith (.ListComp elt [⟨tg,iter,[cd],0⟩] scope pos) (some (.Name y py)) spos.line X.env=pure true:=by rfl)
  (hs:∀x,foldedSetIterable iter X.env x=pure x:=by intro _;rfl) (hf:X.fn y=true\/X.env.scope.names.lookup y=some .local:=by first|exact .inl rfl|exact .inr rfl|assumption) :
  QS X (.Assign [.Name y py] (.ListComp elt [⟨tg,iter,[cd],0⟩] scope pos) spos) (tAsg (jeo wi g js tt te) (jdo i)) :=
 ⟨ps_setcIf hN hiN hy hc c hi.h (λC s H f=>(hg C s H f).h) (λC s H f=>(ht C s H f).h) (λC s H f=>(he C s H f).h) hsw hs hf⟩
end
section
variable{D:Addr}{te:TE}{tt:TT}{E:Ends}{r:L2.St}{H:Hp}
theorem jez{α:Type}(p:α->Bool)(f:α->V)(xs:List α)(i:Nat)(x:α)(h:xs[i]?=some x):((xs.take (i+1)).filter p).map f=((xs.take i).filter p).map f++(if p x=true then[f x]else[]):=by
 rw[O6,h]
 simp only[Option.toList_some,O9,Od]
 congr 1
 by_cases q:p x=true
 ·simp[q]
 ·simp[q]
theorem je6{K:PySem.W.Frag}{a:Addr}{xs:List V}(p:V->Bool)(f:V->V)(ha:H a=some (.lst xs))(hD:H D=none)(hz:xs.length<=sizeLine)
  (ht:∀x∈xs,∀l Q,Q (p x) (upd H D (.lst l))->tt (some x::r) (upd H D (.lst l)) Q) (he:∀x∈xs,p x=true->∀l Q,Q (f x) (upd H D (.lst l))->te (some x::r) (upd H D (.lst l)) Q)
  (hn:∀v,E.nx (v::r) (upd H D (.lst ((xs.filter p).map f)))):jdn (Itl K a) (jdo 0) (jff D tt te) E (none::r) (upd H D (.lst [])):=by
 have ne:a≠D:=jl ha hD
 refine jf2 (xs:=xs) (λi σ H'=>∃v:Option V,σ=v::r/\H'=upd H D (.lst (((xs.take i).filter p).map f))) ⟨none,rfl,rfl⟩ ?_ ?_ ?_
 ·rintro i σ H' _ ⟨v,_,rfl⟩
  rw[jf ne];exact ha
 ·rintro i x σ H' hx ⟨v,rfl,rfl⟩
  have hl:i<xs.length:=(Ab.mp hx).1
  have hm:=A0 hx
  have hf:(((xs.take i).filter p).map f).length<=i:=by
   rw[Ae]
   exact A7 (Oy _ _) (by rw[Il];omega)
  refine ht x hm _ _ ?_
  by_cases q:p x=true
  ·rw[q,Af rfl]
   refine he x hm q _ _ ⟨_,by rw[je];rfl,by omega,some x,rfl,?_⟩
   rw[jic,jez p f xs i x hx,Af q]
  ·rw[Aa q]
   refine⟨some x,rfl,?_⟩
   rw[jez p f xs i x hx,Aa q,Ib]
 ·rintro σ H' ⟨v,rfl,rfl⟩
  rw[Ou (Ag _)]
  exact hn v
theorem jn2{K:PySem.W.Frag}{a:Addr}{xs:List V}(p:V->Bool)(f:V->V)(ha:H a=some (.tup xs))(hD:H D=none)(hz:xs.length<=sizeLine)
  (ht:∀x∈xs,∀l Q,Q (p x) (upd H D (.lst l))->tt (some x::r) (upd H D (.lst l)) Q) (he:∀x∈xs,p x=true->∀l Q,Q (f x) (upd H D (.lst l))->te (some x::r) (upd H D (.lst l)) Q)
  (hn:∀v,E.nx (v::r) (upd H D (.lst ((xs.filter p).map f)))):jdn (Itt K a) (jdo 0) (jff D tt te) E (none::r) (upd H D (.lst [])):=by
 have ne:a≠D:=jl ha hD
 refine jfi (xs:=xs) (λi σ H'=>∃v:Option V,σ=v::r/\H'=upd H D (.lst (((xs.take i).filter p).map f))) ⟨none,rfl,rfl⟩ ?_ ?_ ?_
 ·rintro i σ H' _ ⟨v,_,rfl⟩
  rw[jf ne];exact ha
 ·rintro i x σ H' hx ⟨v,rfl,rfl⟩
  have hl:i<xs.length:=(Ab.mp hx).1
  have hm:=A0 hx
  have hf:(((xs.take i).filter p).map f).length<=i:=by
   rw[Ae]
   exact A7 (Oy _ _) (by rw[Il];omega)
  refine ht x hm _ _ ?_
  by_cases q:p x=true
  ·rw[q,Af rfl]
   refine he x hm q _ _ ⟨_,by rw[je];rfl,by omega,some x,rfl,?_⟩
   rw[jic,jez p f xs i x hx,Af q]
  ·rw[Aa q]
   refine⟨some x,rfl,?_⟩
   rw[jez p f xs i x hx,Aa q,Ib]
 ·rintro σ H' ⟨v,rfl,rfl⟩
  rw[Ou (Ag _)]
  exact hn v
end
section
variable{X:Cx}
def jh5(i:Nat)(f:Addr)(sp:Sp)(dvs:List V)(E:XK)(t:TA):TE:=λσ H Q=>σ[i]?=some (some (.ref f))/\t σ H λvs H1=>sp (vs++dvs) H1 Q E
theorem pe_callV{CX:CXT}{k:Nat}{f:Addr}{fd:FuncData}{ps:List Str}{sp:Sp}{dvs:List V}{ds:List Value}{E:XK}{x:Str}{p pos:Pos}{e:Expr}{es:List Expr}{t:TA}(i:Nat)
  (F:FnOk X.prog X.w X.K X.mg X.base CX k f fd ps sp) (hr:Room k X.A) (hk:PySem.W.keepIn X.K (.ref f)=true) (hb:Binds X.K fd ps ds) (hd:Vals dvs ds) (hx:jdp CX X E) (ha:PA X (e::es) t)
  (hN:X.N[i]?=some x:=by rfl) (hv:Vis X.env.scope x:=by first|exact Or.inl rfl|exact Or.inr (Or.inl rfl)|exact Or.inr (Or.inr rfl))
  (hdb:(x == ("__debug__":Str))=false:=by decide) (hcd:(x == ("__classdict__":Str))=false:=by decide) (he:starEach (e::es) X.env=(false,eval e X.env)::starEach es X.env:=by rfl) (hpl:(backTo pos (starEach es X.env)).any (·.1)=false:=by rfl) :
  PE X (.Call (.Name x p) (e::es) [] pos) (jh5 i f sp dvs E t):=by
 intro pins s σ H Q I h
 obtain⟨e0,h⟩:=h
 refine Ir (thn (jcu hN hv hdb hcd pins s σ H (λv H'=>v=.ref f/\t σ H' λvs H1=>sp (vs++dvs) H1 Q E) I ⟨_,e0,rfl,h⟩) λu s1 ⟨v,H1,I1,r,hv1,h1⟩=>?_)
 subst hv1
 cases r
 refine Ox (h₀:=X.base) I1.ok.mod.kin hk (thn (ha pos pins s1 σ H1 _ I1 h1) λus s2 ⟨vs,H2,I2,r2,q⟩=>⟨I2.kIn,?_⟩) he hpl
 exact jga F hr hb hd hx I2 r2 q
def rTru(x:V)(H:Hp)(Q:Bool->Hp->Prop):Prop:=match x with
 |.bl b=>Q b H
 |.int i=>Q (i != 0) H
 |.non=>Q false H
 |.str y=>y.length<=sizeLine/\Q ((y.length:Int) != 0) H
 |.ref p=>∃xs,jea (H p)=some xs/\Q (!xs.isEmpty) H
 |_=>False
def tTru(ta:TE):TT:=λσ H Q=>ta σ H λx H1=>rTru x H1 Q
theorem jeu(p:Addr)(H:Hp)(Q:Bool->Hp->Prop):rTru (.ref p) H Q=(∃xs,jea (H p)=some xs/\Q (!xs.isEmpty) H):=rfl
theorem jnf(b:Bool)(H:Hp)(Q:Bool->Hp->Prop):rTru (.bl b) H Q=Q b H:=rfl
theorem jlz(y:Str)(H:Hp)(Q:Bool->Hp->Prop):rTru (.str y) H Q=(y.length<=sizeLine/\Q ((y.length:Int) != 0) H):=rfl
theorem pt_tru{a:Expr}{ta:TE}(ha:PE X a ta)(he:∀whole,isTrue a X.env whole=(do let v <-whole;standAt a.pos;holding [v] (truthy v)):=by intro _;rfl):PT X a (tTru ta):=by
 intro pins s σ H Q I h
 refine isTrue_plain (thn (ha pins s σ H _ I h) λv s1 ⟨x,H1,I1,r1,q1⟩=>jt3 pins s1 σ H1 x v Q I1 r1 ?_) (he _)
 replace q1:rTru x H1 Q:=q1
 unfold rTru at q1
 split at q1
 ·exact⟨_,rfl,q1⟩
 ·exact⟨_,rfl,q1⟩
 ·exact⟨_,rfl,q1⟩
 ·exact⟨_,⟨q1.1,rfl⟩,q1.2⟩
 ·obtain⟨xs,e,q⟩:=q1
  rcases jfj e with e|e
  ·exact⟨_,.inl ⟨xs,SqL.of e,rfl⟩,q⟩
  ·exact⟨_,.inr (.inl ⟨xs,SqT.of e,rfl⟩),q⟩
 ·exact q1.elim
def jlw:V->List V->Hp->VK->Prop:=λx vs H Q=>match x,vs with
 |.ref l,[]=>∃xs,jdc (H l)=some xs/\∃y,xs[xs.length-1]?=some y/\Q y (upd H l (.lst xs.dropLast))
 |_,_=>False
theorem jfo(l:Addr)(H:Hp)(Q:VK):jlw (.ref l) [] H Q=(∃xs,jdc (H l)=some xs/\∃y,xs[xs.length-1]?=some y/\Q y (upd H l (.lst xs.dropLast))):=rfl
theorem jbf:MtM X "list.pop" jlw:=by
 intro pins s σ H x vs v us Q I rx rv h
 unfold jlw at h
 split at h
 ·rename_i l
  obtain⟨xs,e,y,hy,q⟩:=h
  exact mt_pop pins s σ H _ _ v us Q I rx rv ⟨l,xs,y,rfl,rfl,jde e,hy,q⟩
 ·exact h.elim
theorem je7(ns:List Int):∀k,k<=ns.length->preSum (λi=>(ns[i]?).getD 0) k=(ns.take k).sum
 |0,_=>by simp[preSum]
 |k+1,h=>by
  have ih:=je7 ns k (by omega)
  show preSum _ k+(ns[k]?).getD 0=_
  have e:ns[k]?=some (ns[k]'(by omega)):=by simp
  rw[ih,O6,e,Option.getD_some,List.sum_append]
  simp
def joh:List V->Hp->VK->Prop:=λxs H Q=>match xs with
 |[.ref p]=>∃ns:List Int,H p=some (.lst (ns.map V.int))/\(∀n∈ns,0<=n)/\ns.sum<1073741824/\Q (.int ns.sum) H
 |_=>False
theorem jjv(p:Addr)(H:Hp)(Q:VK):joh [.ref p] H Q=(∃ns:List Int,H p=some (.lst (ns.map V.int))/\(∀n∈ns,0<=n)/\ns.sum<1073741824/\Q (.int ns.sum) H):=rfl
theorem jie:∀{ns:List Int}{us:List Value},Vals (ns.map V.int) us->∀(i:Nat)(v:Value),us[i]?=some v->∃n t,ns[i]?=some n/\v=.int n t
 |[],us,r,i,v,e=>by rw[O8]at r;cases r;simp at e
 |n::ns,us,r,i,v,e=>by
  rw[Av]at r
  cases r with
  |cons r1 r2 =>
   cases i with
   |zero=>obtain⟨t,rfl⟩:=r1;simp at e;exact⟨n,t,rfl,e.symm⟩
   |succ i=>simp at e;obtain⟨n',t,e1,e2⟩:=jie r2 i v e;exact⟨n',t,by simpa using e1,e2⟩
theorem jh4:∀{l:List Int},(∀n∈l,0<=n)->0<=l.sum
 |[],_=>by simp
 |x::l,h=>by
  rw[List.sum_cons]
  have:=h x (.head _)
  have:=jh4 λn hn=>h n (.tail _ hn)
  omega
theorem jmp(l:List Int)(h:∀n∈l,0<=n)(k:Nat):(l.take k).sum<=l.sum:=by
 have e:l.sum=(l.take k).sum+(l.drop k).sum:=by rw[<-List.sum_append,U3]
 have:=jh4 λn hn=>h n (Oz (i:=k) hn)
 omega
theorem jhr:∀{l:List Int},(∀n∈l,0<=n)->∀x∈l,x<=l.sum
 |[],_,x,h=>nomatch h
 |y::l,h,x,hx=>by
  rw[List.sum_cons]
  have h0:=h y (.head _)
  have h1:=jh4 λn hn=>h n (.tail _ hn)
  rcases Al.mp hx with rfl|hx
  ·omega
  ·have:=jhr (λn hn=>h n (.tail _ hn)) x hx
   omega
theorem call_sumU(hc:X.calm=true):jdf X (.builtin "sum") joh:=by
 intro pins s σ H xs us Q I r h
 unfold joh at h
 split at h
 ·rename_i p
  obtain⟨ns,e,nn,hs,q⟩:=h
  obtain⟨u,rfl,ru⟩:=jd5 r
  cases ru
  obtain⟨its,rr,pl,_⟩:=I.list (SqL.of e)
  have isl:=pl.isList
  have plt:p<s.heap.objs.size:=by obtain⟨_,e,_⟩:=isl;exact Ai e
  have hlen:its.length=ns.length:=by have:=rr.length;simpa using this.symm
  refine call_sum_walk (wpAny_pyIter_list isl ?_)
  refine⟨s.heap.objs.size,[s.heap.objs.size,p],[s.heap.objs.size],its.toArray.size,_,_,λi=>(ns[i]?).getD 0,rfl,Walks.list (A:=X.A.in1) (I.ok.hd hc) _ p (Ar plt) its.toArray,
   ⟨⟨_,At _ rfl,rfl,rfl⟩,isl.push _⟩,?_,λi v hp=>?_,λj hj=>?_,λh' tk t' hk=>?_⟩
  ·intro b hb
   show b<(s.heap.objs.push _).size
   rw[Array.size_push]
   rcases Al.mp hb with rfl|hb
   ·exact Nat.lt_succ_self _
   ·rw[Ao.mp hb];exact Nat.lt_succ_of_lt plt
  ·obtain⟨n,t,e1,rfl⟩:=jie rr i v (by simpa using hp)
   exact⟨t,by show Value.int n t=Value.int ((ns[i]?).getD 0) t;rw[e1];rfl⟩
  ·have hj':j<ns.length:=by rw[Aj,hlen]at hj;exact hj
   have e1:ns[j]?=some (ns[j]'hj'):=by simp
   have m1:=jhr nn _ (Of hj')
   have m0:=nn _ (Of hj')
   refine⟨?_,?_⟩
   ·show InLong ((ns[j]?).getD 0)
    rw[e1]
    show InLong (ns[j]'hj')
    unfold InLong
    omega
   ·rw[je7 ns (j+1) (by omega)]
    have:=jmp ns nn (j+1)
    have:=jh4 λn hn=>nn n (Op (i:=j+1) hn)
    unfold InLong
    omega
  ·rw[Aj,hlen,je7 ns ns.length (Ag _),Um]
   exact⟨.int _,H,I.kept (jm7 hk),⟨_,rfl⟩,q⟩
 ·exact h.elim
end
theorem jq5:typeLookup (.type "list_reverseiterator") "__len__"=pure none:=by rw[typeLookup_type,builtinLookup_eq_fast];kernel_rfl
theorem jsp:typeLookup (.type "list_reverseiterator") "__length_hint__"=pure (some (.builtin "list_reverseiterator.__length_hint__")):=by rw[typeLookup_type,builtinLookup_eq_fast];kernel_rfl
section
variable{P:Program}{w:World}{A:Around}{E:Value->Shared->Prop}{s:Shared}
theorem jpw{R:Result->Shared->Prop}{it l:Addr}{items:Array Value}(hh:A.handled=none)(hne:l≠it)(hit:s.heap.IsRevIter it l ((items.size:Int)-1))(hl:s.heap.IsList l items)(D:Addr)(res:Value)(c0:Nat)
  (hD:s.heap.get? D=some {cls:=.type "list",data:=.seq #[] c0}) (h1:D≠it) (h2:D≠l)
  (hR:∀h' tk acc c',(∀b o,b≠D->b≠it->s.heap.get? b=some o->h'.get? b=some o)->h'.get? D=some {cls:=.type "list",dict:=none,data:=.seq acc c',slots:=#[]} ->
   ItemsOf (λi v=>items[items.size-1-i]?=some v) acc items.size->R (.ok (.ret res)) {s with heap:=h',toks:=tk}) (hn:items.size<=sizeLine) :
  wpAny (model P w) A.in1 (Builtin.List.listExtendWith (.ref D) (.ref it) res)
   (λfin s'=>match fin with|.done f=>R (.ok f) s'|.again c'=>c'.quiet=true/\codeAny (model P w) A c' R s') (λe s'=>R (.error e) s') s:=by
 have hDf:D∉[it,l]:=λhm=>by
  rcases Al.mp hm with e|hm
  ·exact h1 e
  ·exact h2 (Ao.mp hm)
 have W:=(Walks.listRev (prog:=P) (w:=w) (A:=A.in1) hh it l hne items).toS
 have st0:(0:Nat)<=items.size/\s.heap.IsRevIter it l ((items.size:Int)-1-((0:Nat):Int))/\s.heap.IsList l items:=⟨Ix _,by simpa using hit,hl⟩
 have q1:Builtin.List.listSameRef (.ref D) (.ref it)=false:=by simp[Builtin.List.listSameRef,h1]
 unfold Builtin.List.listExtendWith
 refine Ad (wpAny_typeOf (T:="list_reverseiterator") hit.typeIs ?_)
 rw[Aa (by rw[q1];decide)]
 refine Ad (wpAny_pyIter_revIter hit ?_)
 refine Ad (Ur ?_)
 unfold Builtin.List.listLengthHint
 refine Ad (wpAny_specialOf (T:="list_reverseiterator") hit.typeIs jq5 ?_)
 show wpAny _ A.in1 ((specialOf (Value.ref it) (Str.ofString "__length_hint__")) >>= _) _ _ _
 refine Ad (wpAny_specialOf (T:="list_reverseiterator") hit.typeIs jsp ?_)
 generalize hid:("list_reverseiterator.__length_hint__":String)=idh
 wp_delta
 rw[show splitId idh=some ("list_reverseiterator","__length_hint__")from by subst hid;decide +kernel]
 subst hid
 refine Ad (wpAny_isInstance (b:=true) (T:="list_reverseiterator") hit.typeIs (by rw[isSubtype_type];kernel_rfl) (Am ?_))
 rw[Aa (by decide)]
 refine Am ⟨plainId_quiet F.plain_extend_loop _,codeAny_extend_loopS W hn _ hDf _ items.size 0 _ _ _ rfl (Ix _) st0 hD (ItemsOf.nil _) λs' acc' c' hm hS' hacc=>?_⟩
 rw[Moved.eq_with hm]
 refine hR s'.heap s'.toks acc' c' (λb o hb hb2 e=>hm.heap b o (λhmem=>?_) e) hS' hacc
 rcases Al.mp hmem with e'|hmem
 ·exact hb e'
 ·exact hb2 (Ao.mp hmem)
theorem jsq{Q:Value->Shared->Prop}{it l:Addr}{items:Array Value}(hh:A.handled=none)(hne:l≠it)(hit:s.heap.IsRevIter it l ((items.size:Int)-1))(hl:s.heap.IsList l items)(hn:items.size<=sizeLine)
  (hQ:∀h' tk acc c',(∀b o,b≠it->s.heap.get? b=some o->h'.get? b=some o)->h'.get? s.heap.objs.size=some {cls:=.type "list",dict:=none,data:=.seq acc c',slots:=#[]} ->
   ItemsOf (λi v=>items[items.size-1-i]?=some v) acc items.size->Q (.ref s.heap.objs.size) {s with heap:=h',toks:=tk}) :
  wpAny (model P w) A (call (.type "list") [.ref it]) Q E s:=by
 refine callType_codes (Q₁:=λobj s1=>obj=.ref s.heap.objs.size/\s1={s with heap:=s.heap.push {cls:=.type "list",data:=.seq #[]}}) F.called_list (F.typeCall_list_1 _) F.entry_list_init (code_list_new _ ⟨rfl,rfl⟩) λobj s1 hs1=>?_
 obtain⟨rfl,rfl⟩:=hs1
 have hS:(s.heap.push {cls:=.type "list",data:=.seq #[]}).get? s.heap.objs.size=some {cls:=.type "list",data:=.seq #[]}:=(At _ rfl)
 have ni:s.heap.objs.size≠it:=λe=>by obtain⟨o,ho,_⟩:=hit;rw[<-e]at ho;exact O1 _ (Ai ho)
 have nl:s.heap.objs.size≠l:=λe=>by obtain⟨o,ho,_⟩:=hl;rw[<-e]at ho;exact O1 _ (Ai ho)
 refine⟨⟨_,hS,rfl⟩,F.args_list_init_2 _ _,?_⟩
 show wpAny _ _ (do let was <-Builtin.List.listItems (.ref s.heap.objs.size);Builtin.List.listUpdate (.ref s.heap.objs.size) (λ_=>#[]);letGo was.toList.reverse;Builtin.List.listExtendWith (.ref s.heap.objs.size) (.ref it) .none) _ _ _
 refine Ad ?_
 unfold Builtin.List.listItems
 refine Ad (wpAny_seqItems hS rfl (Am ?_))
 show wpAny _ _ (updateSeq s.heap.objs.size (λ_=>#[]) >>= λ_=>letGo (#[]:Array Value).toList.reverse >>= λ_=>Builtin.List.listExtendWith (.ref s.heap.objs.size) (.ref it) .none) _ _ _
 refine Ad (wpAny_updateSeq hS rfl ?_)
 have hS2:=Oc (Obj.mapSeq (λ_=>(#[]:Array Value))) hS rfl
 have oth:∀b o,b≠s.heap.objs.size->s.heap.get? b=some o->((s.heap.push {cls:=.type "list",data:=.seq #[]}).update s.heap.objs.size (Obj.mapSeq (λ_=>(#[]:Array Value)))).get? b=some o :=
  λb o hb e=>(Oa _ _ (Ol hb)).trans (Ac _ e)
 refine Ad (wpAny_letGo ?_)
 refine jpw (A:=A.in1) hh hne (hit.at λo e=>oth it o ni.symm e) (hl.at λo e=>oth l o nl.symm e) _ .none _ hS2 ni nl (λh' tk acc c' hk hS' hacc=>?_) hn
 exact⟨rfl,hQ h' tk acc c' (λb o hb e=>hk b o (Ar (Ai e)) hb (oth b o (Ar (Ai e)) e)) hS' hacc⟩
end
section
variable{X:Cx}
def rRev:List V->Hp->VK->Prop:=λvs H Q=>match vs with
 |[.ref p]=>∃xs,jdc (H p)=some xs/\∀l,H l=none->Q (.ref l) (upd H l (.lst xs.reverse))
 |_=>False
theorem jlx(p:Addr)(H:Hp)(Q:VK):rRev [.ref p] H Q=(∃xs,jdc (H p)=some xs/\∀l,H l=none->Q (.ref l) (upd H l (.lst xs.reverse))):=rfl
def jft(ta:TE):TE:=tCB rRev (je4 ta tNil)
theorem bt_reversed:bootBuiltins "reversed"=some (.type "reversed"):=by decide +kernel
theorem pe_listRev{a:Expr}{ta:TE}{p1 p2 q1 q2:Pos}(hc:X.calm=true)(hg:Gl X "list")(hm:X.mg "list"=none)(hg2:Gl X "reversed")(hm2:X.mg "reversed"=none)(ha:PE X a ta)
  (hs:starEach [(.Call (.Name "reversed" p2) [a] [] q2)] X.env=[(false,eval (.Call (.Name "reversed" p2) [a] [] q2) X.env)]:=by rfl) (hs2:starEach [a] X.env=[(false,eval a X.env)]:=by rfl) :
  PE X (.Call (.Name "list" p1) [.Call (.Name "reversed" p2) [a] [] q2] [] q1) (jft ta):=by
 intro pins s σ H Q I h
 refine Ir (jef I hg hm jb9 ?_)
 refine Iw ?_ hs rfl
 rw[hs]
 show wpAny _ _ (spliced ((false,eval (.Call (.Name "reversed" p2) [a] [] q2) X.env)::[])) _ _ s
 refine Oe ?_
 refine Ir (jef I hg2 hm2 bt_reversed ?_)
 have hA:PA X [a] (je4 ta tNil):=jcy ha jc5 hs2
 refine Iw (thn (hA q2 pins s σ H (λvs H1=>rRev vs H1 Q) I h) λus s1 ⟨vs,H1,I1,r1,q1⟩=>?_) hs2 rfl
 replace q1:rRev vs H1 Q:=q1
 unfold rRev at q1
 split at q1
 ·rename_i p
  obtain⟨xs,e,q⟩:=q1
  replace e:=jde e
  obtain⟨u,rfl,ru⟩:=jd5 r1
  cases ru
  obtain⟨its,rr,pl,hz⟩:=I1.list (SqL.of e)
  have isl:=pl.isList
  have hlen:its.length=xs.length:=by have:=rr.length;simpa using this.symm
  refine call_reversed_list isl (Ui ?_)
  have plt:p<s1.heap.objs.size:=by obtain⟨_,e,_⟩:=isl;exact Ai e
  refine jsq (I1.ok.hd hc) (Ar plt) ⟨_,At _ rfl,rfl,rfl⟩ (isl.push _) (by rw[Aj];omega) λh' tk acc c' hk hS' hacc=>?_
  have hD:s1.heap.objs.size<=(s1.heap.push (revObj p ((its.toArray.size:Int)-1))).objs.size:=by
   show _<=(s1.heap.objs.push _).size
   rw[Array.size_push];exact Nat.le_succ _
  obtain⟨a1,a2⟩:=hacc
  refine⟨.ref _,_,I1.laid (o:=.lst xs.reverse) (t':=tk) (λb o eb=>hk b o (Ar (Ai eb)) (Ac _ eb)) hD ⟨by rw[List.length_reverse];exact hz,acc.toList,c',?_,by simpa using hS'⟩,rfl,q _ (I1.hok.fresh hD)⟩
  refine jsz (by simp[a1,hlen]) λi x u e1 e2=>?_
  have hi:i<xs.length:=by have:=(Ab.mp e1).1;simpa using this
  have h2:=a2 i u (by simpa using e2)
  rw[List.getElem?_reverse hi]at e1
  obtain⟨u',hu,ruu⟩:=rr.get e1
  have e3:its[xs.length-1-i]?=some u:=by
   have:its.toArray.size=xs.length:=by simp[hlen]
   rw[this]at h2
   simpa using h2
  rw[e3]at hu
  cases hu
  exact ruu
 ·exact q1.elim
end
section
variable{X:Cx}
def jhz(x:V)(k:Str->Prop):Prop:=match x with
 |.str y=>k y
 |_=>False
theorem jju(y:Str)(k:Str->Prop):jhz (.str y) k=k y:=rfl
def tFmt(te:TE):TE:=λσ H Q=>te σ H λx H1=>jhz x λy=>y.length<=sizeLine/\Q (.str y) H1
theorem pe_fmt{a:Expr}{te:TE}{pos:Pos}(ha:PE X a te):PE X (.FormattedValue a (-1) none pos) (tFmt te):=by
 intro pins s σ H Q I h
 refine FormattedValue_plain (thn (ha pins s σ H _ I h) λv s1 ⟨x,H1,I1,r1,q1⟩=>?_)
 replace q1:jhz x λy=>y.length<=sizeLine/\Q (.str y) H1:=q1
 cases x with
 |str y=>obtain⟨t,rfl⟩:=r1;exact formatField_str (λt' tk=>⟨.str y,H1,I1.tok tk,⟨t',rfl⟩,q1.2⟩) q1.1
 |_=>exact q1.elim
abbrev TJ:=L2.St->Hp->Str->VK->Prop
def PJ(X:Cx)(es:List Expr)(t:TJ):Prop:=∀(pins:List (Addr×Obj))(s:Shared)(σ:L2.St)(H:Hp)(out:Str)(Q:VK),Inv X pins σ H s->t σ H out Q->wpAny (model X.prog X.w) X.A (joinParts out (evalEach es X.env)) (EP X pins σ Q) X.xe s
def jkp:TJ:=λ_ H out Q=>out.length<=sizeLine/\Q (.str out) H
def jh9(te:TE)(t:TJ):TJ:=λσ H out Q=>te σ H λx H1=>jhz x λy=>(out++y).length<=sizeLine/\t σ H1 (out++y) Q
theorem pj_nil:PJ X [] jkp:=λpins s σ H out Q I h=>joinParts_nil ⟨.str out,H,I.tok _,⟨_,rfl⟩,h.2⟩ h.1
theorem pj_cons{a:Expr}{es:List Expr}{te:TE}{t:TJ}(ha:PE X a te)(hr:PJ X es t):PJ X (a::es) (jh9 te t):=by
 intro pins s σ H out Q I h
 show wpAny _ _ (joinParts out (eval a X.env::evalEach es X.env)) _ _ s
 refine joinParts_cons (thn (ha pins s σ H _ I h) λv s1 ⟨x,H1,I1,r1,q1⟩=>?_)
 replace q1:jhz x λy=>(out++y).length<=sizeLine/\t σ H1 (out++y) Q:=q1
 cases x with
 |str y=>obtain⟨u,rfl⟩:=r1;exact⟨q1.1,hr pins s1 σ H1 _ Q I1 q1.2⟩
 |_=>exact q1.elim
def jkq(t:TJ):TE:=λσ H Q=>t σ H Str.empty Q
theorem pe_joined{a b:Expr}{es:List Expr}{t:TJ}{pos:Pos}(h:PJ X (a::b::es) t):PE X (.JoinedStr (a::b::es) pos) (jkq t):=λpins s σ H Q I hw=>JoinedStr_many (h pins s σ H _ Q I hw)
end
def tMid(t u:TS):TS:=λD σ H=>∃J:L2.St->Hp->Prop,t {D with nx:=J} σ H/\∀σ H,J σ H->u D σ H
theorem pss_mid{X:Cx}{st:Stmt}{rest:List Stmt}{t u:TS}(h1:PS X st t)(h2:PSs X rest u):PSs X (st::rest) (tMid t u):=by
 intro pins s σ H D I h
 obtain⟨J,h,hJ⟩:=h
 refine O4 (thn (h1 pins s σ H {D with nx:=J} I h) λf s1 q=>?_)
 cases f with
 |next =>
  obtain⟨σ1,H1,I1,q1⟩:=q
  exact h2 pins s1 σ1 H1 D I1 (hJ _ _ q1)
 |ret v=>exact q
 |brk=>exact q
 |cont=>exact q
theorem y0{X:Cx}{st:Stmt}{rest:List Stmt}{t u:TS}(h1:QS X st t)(h2:QSs X rest u):QSs X (st::rest) (tMid t u):=⟨pss_mid h1.h h2.h⟩
structure QJ(X:Cx)(es:List Expr)(t:TJ):Prop where
 h:PJ X es t
section
variable{X:Cx}
theorem jcd:QJ X [] jkp:=⟨pj_nil⟩
theorem jaq{a:Expr}{es:List Expr}{te:TE}{t:TJ}(ha:QE X a te)(hr:QJ X es t):QJ X (a::es) (jh9 te t):=⟨pj_cons ha.h hr.h⟩
theorem jcz{a:Expr}{te:TE}{pos:Pos}(ha:QE X a te):QE X (.FormattedValue a (-1) none pos) (tFmt te):=⟨pe_fmt ha.h⟩
theorem jbj{a b:Expr}{es:List Expr}{t:TJ}{pos:Pos}(h:QJ X (a::b::es) t):QE X (.JoinedStr (a::b::es) pos) (jkq t):=⟨pe_joined h.h⟩
theorem qps_never{st:Stmt}:QS X st jp1:=⟨ps_never⟩
theorem jbv{a:Expr}{ta:TE}(ha:QE X a ta)(he:∀whole,isTrue a X.env whole=(do let v <-whole;standAt a.pos;holding [v] (truthy v)):=by intro _;rfl):QT X a (tTru ta):=⟨pt_tru ha.h he⟩
theorem qpe_listRev{a:Expr}{ta:TE}{p1 p2 q1 q2:Pos}(hc:X.calm=true)(hg:Gl X "list")(hm:X.mg "list"=none)(hg2:Gl X "reversed")(hm2:X.mg "reversed"=none)(ha:QE X a ta)
  (hs:starEach [(.Call (.Name "reversed" p2) [a] [] q2)] X.env=[(false,eval (.Call (.Name "reversed" p2) [a] [] q2) X.env)]:=by rfl) (hs2:starEach [a] X.env=[(false,eval a X.env)]:=by rfl) :
  QE X (.Call (.Name "list" p1) [.Call (.Name "reversed" p2) [a] [] q2] [] q1) (jft ta):=⟨pe_listRev hc hg hm hg2 hm2 ha.h hs hs2⟩
theorem jcl{CX:CXT}{k:Nat}{f:Addr}{fd:FuncData}{ps:List Str}{sp:Sp}{dvs:List V}{ds:List Value}{E:XK}{x:Str}{p pos:Pos}{e:Expr}{es:List Expr}{t:TA}(i:Nat)
  (F:FnOk X.prog X.w X.K X.mg X.base CX k f fd ps sp) (hr:Room k X.A) (hk:PySem.W.keepIn X.K (.ref f)=true) (hb:Binds X.K fd ps ds) (hd:Vals dvs ds) (hx:jdp CX X E) (ha:QA X (e::es) t)
  (hN:X.N[i]?=some x:=by rfl) (hv:Vis X.env.scope x:=by first|exact Or.inl rfl|exact Or.inr (Or.inl rfl)|exact Or.inr (Or.inr rfl))
  (hdb:(x == ("__debug__":Str))=false:=by decide) (hcd:(x == ("__classdict__":Str))=false:=by decide) (he:starEach (e::es) X.env=(false,eval e X.env)::starEach es X.env:=by rfl) (hpl:(backTo pos (starEach es X.env)).any (·.1)=false:=by rfl) :
  QE X (.Call (.Name x p) (e::es) [] pos) (jh5 i f sp dvs E t):=⟨pe_callV i F hr hk hb hd hx ha.h hN hv hdb hcd he hpl⟩
theorem yy{K:PySem.W.Frag}(hK:X.K=K):jdf X (.builtin "isinstance") (rIsU K):=by
 subst hK
 exact call_isinstanceU
end
theorem Kp.setD{S:List Addr}{H H1:Hp}(k:Kp S H H1){b:Addr}{kvs:List (List Key×V)}{o:HO}(hb:H1 b=some (.dT kvs))(h:b∈S\/H b=none):Kp S H (upd H1 b o) :=
 ⟨λc u e n=>by
  have:c≠b:=by
   rintro rfl
   rcases h with h|h
   ·exact n h
   ·rw[h]at e;cases e
  rw[jf this];exact k.old c u e n,
 λc ys e=>by
  have e1:=k.tup c ys e
  rw[jf (jkd e1 hb (by intro z;cases z))];exact e1,
 λc u e=>by
  obtain⟨o',e'⟩:=k.dom c u e
  by_cases q:c=b
  ·subst q;exact⟨o,je⟩
  ·exact⟨o',by rw[jf q];exact e'⟩⟩
theorem jaa{X:Cx}{K:PySem.W.Frag}(hK:X.K=K):SlR X (rSlU K):=by
 subst hK
 exact sl_U
section
variable{prog:Program}{w:World}{A:Around}{E:Value->Shared->Prop}{h:Heap}{g:Array GenState}{d:Drawn}{t:Nat}{os:OsState}
variable{nm q:Str}{C N:Addr}{bs bm bmB:List Value}{hdct:Bool}{sn:List Str}{sub:List Value}{ab:Bool}{col:Option Bool}{dd:Option Addr}{k0 k1 k2 k3 k5:Option Value}{B newId initId:String}
theorem jo6(F:ExcBaseFacts B newId initId bmB)(T:OwnTail h bmB bm){mN:Str->Option Value}{rest:List Value}{fI:Addr}{oI:Obj}{Q:Fin->Shared->Prop}
  (hC:h.get? C=some (excClassObj nm q C N bs bm hdct sn sub ab col dd k0 k1 k2 k3 k5 newId)) (hn:h.Ns N mN) (hi:mN "__init__"=some (.ref fI)) (hfI:h.get? fI=some oI) (hfc:oI.cls=.type "function")
  (hq:wpAny (model prog w) A (call (.ref fI) (.ref (h.objs.size+1)::rest)) (λr s'=>r=.none/\Q (.done (.ret (.ref (h.objs.size+1)))) s') E
   ⟨(h.push {cls:=.type "tuple",data:=.seq rest.toArray}).push {cls:=.ref C,data:=.fields #[.ref h.objs.size,.none,.none,.none,.bool false,.none]},g,d,t,os⟩) (hrest:rest.length<=sizeLine) :
  wpAny (model prog w) A (Builtin.«type.__call__» ⟨.ref C::rest,[]⟩) Q E ⟨h,g,d,t,os⟩:=by
 repeat (first|with_reducible refine A4 hC ?_|with_reducible refine wpAny_madeBy_exc hC ?_|wp_step)
 refine codeAny_call_builtin_code (Code.quiet_builtin _ F.quiet) (wpAny_check_new_subT F T hC ?_)
 refine codeAny_exc_new_subT F T hC ?_ hrest
 show wpAny _ _ _ _ _ _
 have kp:∀b o,h.get? b=some o->((h.push {cls:=.type "tuple",data:=.seq rest.toArray}).push {cls:=.ref C,data:=.fields #[.ref h.objs.size,.none,.none,.none,.bool false,.none]}).get? b=some o:=λb o e=>Ac _ (Ac _ e)
 have hget:((h.push {cls:=.type "tuple",data:=.seq rest.toArray}).push
   {cls:=.ref C,data:=.fields #[.ref h.objs.size,.none,.none,.none,.bool false,.none]}).get? (h.objs.size+1)=some
   {cls:=.ref C,data:=.fields #[.ref h.objs.size,.none,.none,.none,.bool false,.none]}:=by heap_get
 have hcC:(Value.ref C::bm).contains (.ref C)=true:=by simp
 unfold isInstance
 repeat (first|with_reducible refine A4 hget ?_|(with_reducible refine O3 (kp _ _ hC) ?_;rw[hcC])|wp_step)
 show wpAny _ _ (typeLookup (.ref C) _) _ _ _
 refine wpAny_typeLookup_tail (kp _ _ hC) (hn.keeps kp) (T.keeps kp) F.mroIs F.init.lookup ?_
 rw[hi]
 refine Ur (Ad ?_)
 unfold bindSpecial
 refine Ad (wpAny_typeOf (T:="function") ⟨_,kp _ _ hfI,hfc⟩ ?_)
 rw[Af (by decide)]
 refine Am (Ad (Iy hq (λr s' hr=>?_) λ_ _ x=>x))
 obtain⟨rfl,hQ⟩:=hr
 wp_walk
 exact hQ
theorem call_exc_initT(F:ExcBaseFacts B newId initId bmB)(T:OwnTail h bmB bm){mN:Str->Option Value}{rest:List Value}{fI:Addr}{oI:Obj}{Q:Value->Shared->Prop}
  (hC:h.get? C=some (excClassObj nm q C N bs bm hdct sn sub ab col dd k0 k1 k2 k3 k5 newId)) (hn:h.Ns N mN) (hi:mN "__init__"=some (.ref fI)) (hfI:h.get? fI=some oI) (hfc:oI.cls=.type "function")
  (hq:wpAny (model prog w) (A.under (.builtin "type.__call__" ⟨.ref C::rest,[]⟩)) (call (.ref fI) (.ref (h.objs.size+1)::rest)) (λr s'=>r=.none/\Q (.ref (h.objs.size+1)) s') E
   ⟨(h.push {cls:=.type "tuple",data:=.seq rest.toArray}).push {cls:=.ref C,data:=.fields #[.ref h.objs.size,.none,.none,.none,.bool false,.none]},g,d,t,os⟩) (hrest:rest.length<=sizeLine) :
  wpAny (model prog w) A (call (.ref C) rest) Q E ⟨h,g,d,t,os⟩:=by
 have f1:=tc_lookup
 have f2:=tc_bind (.ref C)
 have hT:(⟨h,g,d,t,os⟩:Shared).TypeIs (.ref C) "type":=⟨_,hC,rfl⟩
 refine Wl (codeAny_of_tree ?_)
 show wpAny _ _ (callAny (.ref C) _) _ _ _
 repeat (any_goals (first|assumption|with_reducible refine A4 hC ?_|wp_step))
 refine⟨rfl,?_⟩
 exact codeAny_call_builtin_at (Code.quiet_builtin _ (by decide +kernel)) entry_typeCall (wpAny_check_type_call_sub hC (jo6 F T hC hn hi hfI hfc hq hrest))
end
open Builtin Builtin.ObjectAttr
section
variable{prog:Program}{w:World}{A:Around}{E:Value->Shared->Prop}{h:Heap}{g:Array GenState}{d:Drawn}{t:Nat}{os:OsState}
variable{nm q:Str}{C D N x:Addr}{bs bmB:List Value}{sn:List Str}{sub:List Value}{ab:Bool}{col:Option Bool}{dd:Option Addr}{k0 k1 k2 k3 k5:Option Value}{newId name:Str}{nid sa owner B:String}{v:Value}
def Finds(M:Model)(h:Heap)(C:Addr)(name:Str)(r:Option Value):Prop:=∀(A:Around)(E:Value->Shared->Prop)(g:Array GenState)(d:Drawn)(t:Nat)(os:OsState)(Q:Option Value->Shared->Prop),Q r ⟨h,g,d,t,os⟩->wpAny M A (typeLookup (.ref C) name) Q E ⟨h,g,d,t,os⟩
theorem Finds.go{M:Model}{r:Option Value}{Q:Option Value->Shared->Prop}(f:Finds M h C name r)(q:Q r ⟨h,g,d,t,os⟩):wpAny M A (typeLookup (.ref C) name) Q E ⟨h,g,d,t,os⟩:=f _ _ _ _ _ _ _ q
theorem Finds.of{M:Model}{K:PySem.W.Frag}{r:Option Value}(X:K.In h)(e:PySem.W.findIn K (.ref C) name=some r):Finds M h C name r:=λA E g d t os Q q=>(PySem.W.looks_findIn X e).at q
theorem jo7{tk:Tok}{o:Obj}{Q:Fin->Shared->Prop}(SF:StoreFacts B bmB sa owner)(hC:h.get? C=some (excClassObj nm q C N bs (.ref D::bmB) true sn sub ab col dd k0 k1 k2 k3 k5 nid))
  (hl:Finds (model prog w) h C name none) (hx:h.get? x=some o) (hc:o.cls=.ref C) (hnc:∀c,o.data≠.cls c) (hdn:o.dict=none)
  (hq:∀h' tk',h'.get? x=some {o with dict:=some h.objs.size}->h'.Ns1 h.objs.size (λy=>if y=name then some v else none)->(∀b u,b≠x->h.get? b=some u->h'.get? b=some u)->Q (.done (.ret .none)) ⟨h',g,d,tk',os⟩) :
  wpAny (model prog w) A (Builtin.«object.__setattr__» ⟨[.ref x,.str name tk,v],[]⟩) Q E ⟨h,g,d,t,os⟩:=by
 have hpass:=SF.passes (.ref x)
 unfold Builtin.«object.__setattr__»
 repeat (first|rw[refuse_eq]|(rw[refuseLoop_ref,refuseLoop_ref,hpass])|(with_reducible refine A4 hx ?_;rw[hc])|with_reducible refine wpAny_mroOf_exc hC ?_|(with_reducible refine Finds.go hl ?_)|wp_step)
 rw[hdn,Aa (by simp[typeHasDict])]
 split
 ·rename_i hcd
  cases hcd
 split
 ·rename_i c hcd
  exact absurd hcd (hnc c)
 ·have hx₁:(h.push {cls:=.type "dict",data:=.dict #[]}).get? x=some o:=Ac _ hx
  have hxs:x≠h.objs.size:=Ar (Ai hx)
  refine Ad (wpAny_alloc' ?_)
  refine Ad (wpAny_update' hx₁ ?_)
  refine Am ?_
  have hgd:((h.push {cls:=.type "dict",data:=.dict #[]}).update x λo=>{cls:=o.cls,dict:=some h.objs.size,data:=o.data,slots:=o.slots}).get? h.objs.size
    = some {cls:=.type "dict",data:=.dict #[]} :=
   (Heap.get?_update_ne _ _ _ _ hxs.symm).trans (Heap.get?_push_at rfl rfl)
  have hnd:((h.push {cls:=.type "dict",data:=.dict #[]}).update x λo=>{cls:=o.cls,dict:=some h.objs.size,data:=o.data,slots:=o.slots}).Ns h.objs.size (λ_=>none) :=
   ⟨_,#[],_,hgd,rfl,λe he=>absurd he (by simp),λ_=>rfl⟩
  show wpAny _ _ (storeInDict h.objs.size (.str name tk) name v) _ _ _
  unfold storeInDict newKeyGuard
  refine Ad (Am (Ad (wpAny_nsSet1 (Heap.Ns1.of_empty hnd) λh' hn' hs=>?_)))
  obtain⟨oD,esD,epD,hoD,hdD,hcD⟩:=hn'.count (Within.cons name v Within.nil)
  refine Ad (wpAny_lookBehind hoD (by rw[hdD];exact pastItsLine_dict (A7 hcD (by rw[List.length_cons,List.length_nil,Yf];omega))) ?_)
  wp_walk
  refine hq h' _ ?_ hn' λb ob hbx hb=>?_
  ·refine(hs.2 x hxs).trans (Oc _ hx₁ ?_)
   have hfr:=(Heap.get?_some_iff.mp hx).2
   obtain⟨oc,od,odt,osl⟩:=o
   cases odt <;> first|rfl|exact hfr
  ·exact(hs.2 b (Ar (Ai hb))).trans ((Heap.get?_update_ne _ _ _ _ hbx).trans (Ac _ hb))
theorem jk4{M:Model}{o:Obj}{nameV:Value}{Q:Unit->Shared->Prop}(SF:StoreFacts B bmB sa owner)
  (hC:h.get? C=some (excClassObj nm q C N bs (.ref D::bmB) true sn sub ab col dd k0 k1 k2 k3 k5 nid)) (hx:h.get? x=some o) (hc:o.cls=.ref C) (hq:Q () ⟨h,g,d,t,os⟩) :
  wpAny M A (checkBuiltinCall sa ⟨[.ref x,nameV,v],[]⟩) Q E ⟨h,g,d,t,os⟩:=by
 have hcB:(Value.ref C::.ref D::bmB).contains (.type owner)=true:=by rw[Uw,Uw,SF.hasOwner,W9,W9]
 have ha:=SF.args (.ref x) nameV v
 simp only[checkBuiltinCall,SF.kind,SF.split]
 refine Ad ?_
 ·unfold isInstance
  repeat (first|(with_reducible refine A4 hx ?_;rw[hc])|(with_reducible refine O3 hC ?_;rw[hcB])|wp_step)
  cases hsig:Manifest.signature? sa with
  |none=>exact Am hq
  |some sig =>
   simp only[argsOk,hsig]at ha
   have h2:Bind.checkArgs sa sig ⟨[.ref x,nameV,v],[]⟩=pure ():=ha
   show wpAny M A (Bind.checkArgs sa sig ⟨[.ref x,nameV,v],[]⟩) Q E _
   rw[h2];exact Am hq
theorem jml{o:Obj}{Q:Unit->Shared->Prop}(SF:StoreFacts B bmB sa owner)(hC:h.get? C=some (excClassObj nm q C N bs (.ref D::bmB) true sn sub ab col dd k0 k1 k2 k3 k5 nid))
  (hs:Finds (model prog w) h C "__setattr__" (some (.builtin sa))) (hl:Finds (model prog w) h C name none) (hx:h.get? x=some o) (hc:o.cls=.ref C) (hnc:∀c,o.data≠.cls c) (hdn:o.dict=none)
  (hq:∀h' tk',h'.get? x=some {o with dict:=some h.objs.size}->h'.Ns1 h.objs.size (λy=>if y=name then some v else none)->(∀b u,b≠x->h.get? b=some u->h'.get? b=some u)->Q () ⟨h',g,d,tk',os⟩) :
  wpAny (model prog w) A (setAttr (.ref x) name v) Q E ⟨h,g,d,t,os⟩:=by
 have f3:=SF.slot.bind (.ref x)
 unfold setAttr callSpecial? specialOf
 repeat (any_goals (first|assumption|(with_reducible refine A4 hx ?_;rw[hc])|(with_reducible refine Finds.go hs ?_)|wp_step))
 refine U9 SF.slot.plain SF.entry (jk4 SF hC hx hc (jo7 SF hC hl hx hc hnc hdn λh' tk' a1 a2 a3=>?_))
 repeat (any_goals (first|assumption|wp_step))
 exact hq h' tk' a1 a2 a3
end
open Builtin Builtin.ObjectAttr
section
variable{prog:Program}{w:World}{A:Around}{E:Value->Shared->Prop}{h:Heap}{g:Array GenState}{d:Drawn}{t:Nat}{os:OsState}
variable{nm q:Str}{C D N x dx:Addr}{bs bmB:List Value}{sn:List Str}{sub:List Value}{ab:Bool}{col:Option Bool}{dd:Option Addr}{k0 k1 k2 k3 k5:Option Value}{name:Str}{nid B:String}{v:Value}{mA:Str->Option Value}
theorem jij{tk:Tok}{o:Obj}{Q:Fin->Shared->Prop}(hC:h.get? C=some (excClassObj nm q C N bs (.ref D::bmB) true sn sub ab col dd k0 k1 k2 k3 k5 nid))
  (hl:Finds (model prog w) h C name none) (hx:h.get? x=some o) (hc:o.cls=.ref C) (hnc:∀c,o.data≠.cls c) (hdx:o.dict=some dx) (hns:h.Ns1 dx mA) (hv:mA name=some v) (hq:Q (.done (.ret v)) ⟨h,g,d,t,os⟩) :
  wpAny (model prog w) A (Builtin.«object.__getattribute__» ⟨[.ref x,.str name tk],[]⟩) Q E ⟨h,g,d,t,os⟩:=by
 unfold Builtin.«object.__getattribute__»
 repeat (first|(with_reducible refine A4 hx ?_;rw[hc])|(with_reducible refine Finds.go hl ?_)|wp_step)
 split
 ·rename_i c hcd
  exact absurd hcd (hnc c)
 unfold instanceDict
 repeat (first|(with_reducible refine A4 hx ?_;rw[hc])|with_reducible refine A4 hC ?_|wp_step)
 rw[hdx]
 repeat (first|(with_reducible refine wpAny_nsGet hns.ns ?_;rw[hv])|wp_step)
 exact hq
theorem jfy{M:Model}{o:Obj}{nameV:Value}{Q:Unit->Shared->Prop}(hB:bmB.contains (.type "BaseException")=true)(hC:h.get? C=some (excClassObj nm q C N bs (.ref D::bmB) true sn sub ab col dd k0 k1 k2 k3 k5 nid))
  (hx:h.get? x=some o) (hc:o.cls=.ref C) (hq:Q () ⟨h,g,d,t,os⟩):wpAny M A (checkBuiltinCall "BaseException.__getattribute__" ⟨[.ref x,nameV],[]⟩) Q E ⟨h,g,d,t,os⟩:=by
 have hk:builtinKind "BaseException.__getattribute__"=some .slot:=by decide +kernel
 have hsplit:splitId "BaseException.__getattribute__"=some ("BaseException","__getattribute__"):=by decide +kernel
 have hcB:(Value.ref C::.ref D::bmB).contains (.type "BaseException")=true:=by rw[Uw,Uw,hB,W9,W9]
 have ha:=PySem.F.args_bexc_ga (.ref x) nameV
 simp only[checkBuiltinCall,hk,hsplit]
 refine Ad ?_
 ·unfold isInstance
  repeat (first|(with_reducible refine A4 hx ?_;rw[hc])|(with_reducible refine O3 hC ?_;rw[hcB])|wp_step)
  exact hq
theorem jmk{o:Obj}{expr:Bool}{Q:Value->Shared->Prop}(hB:bmB.contains (.type "BaseException")=true)(hC:h.get? C=some (excClassObj nm q C N bs (.ref D::bmB) true sn sub ab col dd k0 k1 k2 k3 k5 nid))
  (hg:Finds (model prog w) h C "__getattribute__" (some (.builtin "BaseException.__getattribute__"))) (hh:Finds (model prog w) h C "__getattr__" none)
  (hl:Finds (model prog w) h C name none) (hx:h.get? x=some o) (hc:o.cls=.ref C) (hnc:∀c,o.data≠.cls c) (hdx:o.dict=some dx) (hns:h.Ns1 dx mA) (hv:mA name=some v) (ho:handedOut v=pure v)
  (hq:∀tk,Q v ⟨h,g,d,tk,os⟩):wpAny (model prog w) A (getAttr (.ref x) name expr) Q E ⟨h,g,d,t,os⟩:=by
 have f3:=Ua.ga.bind (.ref x)
 have hx0:(expr && onTheHeap (Value.builtin "BaseException.__getattribute__"))=false:=by cases expr <;> rfl
 have hx2:(Value.builtin "BaseException.__getattribute__" == Value.builtin "object.__getattribute__")=false:=by decide +kernel
 have hx1:(onTheHeap (Value.ref C) && Value.builtin "BaseException.__getattribute__" == Value.builtin "object.__getattribute__")=false:=by rw[hx2];rfl
 unfold getAttr getAttrBy
 repeat (any_goals (first|assumption|(with_reducible refine A4 hx ?_;rw[hc])|(with_reducible refine Finds.go hg ?_)|(with_reducible refine Finds.go hh ?_)|wp_step))
 refine U9 Ua.ga.plain PySem.F.entry_bexc_ga (jfy hB hC hx hc (jij hC hl hx hc hnc hdx hns hv ?_))
 show wpAny _ _ (handedOut v) _ _ _
 rw[ho]
 exact Am (hq _)
end
section
variable{prog:Program}{w:World}{A:Around}{E:Value->Shared->Prop}{h:Heap}{g:Array GenState}{d:Drawn}{t:Nat}{os:OsState}
variable{nm q:Str}{C N:Addr}{bs bm bmB:List Value}{hdct:Bool}{sn:List Str}{sub:List Value}{ab:Bool}{col:Option Bool}{dd:Option Addr}{k0 k1 k2 k3 k5:Option Value}{B newId initId:String}
theorem call_exc_init(F:ExcBaseFacts B newId initId bmB)(T:OwnTail h bmB bm){rest:List Value}{e:Addr}{oe:Obj}{vs:Array Value}{Q:Value->Shared->Prop}
  (hC:h.get? C=some (excClassObj nm q C N bs bm hdct sn sub ab col dd k0 k1 k2 k3 k5 newId)) (he:h.get? e=some oe) (hcls:oe.cls=.ref C) (hd:oe.data=.fields vs) (hs:0<vs.size)
  (hq:∀h',(∀b o,b≠e->h.get? b=some o->h'.get? b=some o)->h'.get? e=some {oe with data:=.fields (vs.setIfInBounds 0 (.ref h.objs.size))}->Q .none ⟨h',g,d,t,os⟩) (hrest:rest.length<=sizeLine) :
  wpAny (model prog w) A (call (.builtin initId) (.ref e::rest)) Q E ⟨h,g,d,t,os⟩:=by
 refine Wl (U9 F.init.plain F.initEntry (wpAny_check_init_subT F T hC he hcls ?_))
 have h0:vs[0]?=some vs[0]:=by simp[hs]
 have he1:(h.push {cls:=.type "tuple",data:=.seq rest.toArray}).get? e=some oe:=Ac _ he
 show wpAny _ _ (newTuple rest >>= λv=>Builtin.BaseException.bexcPut (.ref e) 0 v >>= λ_=>ret .none) _ _ _
 refine Ad (wpAny_newTuple ?_)
 show wpAny _ _ (Builtin.BaseException.bexcPut (.ref e) 0 (.ref h.objs.size) >>= λ_=>ret .none) _ _ _
 refine Ad ?_
 unfold Builtin.BaseException.bexcPut
 refine Ad (Ux he1 hd h0 (Ad (U4 he1 hd hs ?_)))
 have hd3:=Yh hd (·.setIfInBounds 0 (Value.ref h.objs.size))
 have he3:=Oc (Obj.mapFields (·.setIfInBounds 0 (Value.ref h.objs.size))) he1 (Obj.isFreed_of_fields hd3)
 have fin:wpAny (model prog w) A.in1 (ret Value.none) (λfin s'=>match fin with
   |.done f=>(match(Except.ok f:Result)with|.ok (.ret v)=>Q v s'|.ok a=>False|.error e=>E e s')
   |.again c'=>c'.quiet=true/\codeAny (model prog w) A c' (λr s'=>match r with|.ok (.ret v)=>Q v s'|.ok a=>False|.error e=>E e s') s') (λe s'=>E e s')
   {heap:=(h.push {cls:=.type "tuple",data:=.seq rest.toArray}).update e (Obj.mapFields (·.setIfInBounds 0 (Value.ref h.objs.size))),gens:=g,drawn:=d,toks:=t,os:=os}:=by
  refine Am (hq _ (λb o hb ho=>?_) ?_)
  ·rw[Oa _ _ (Ol hb)]
   exact Ac _ ho
  ·rw[he3]
   obtain⟨oc,od,odt,osl⟩:=oe
   dsimp only at hd
   subst hd
   rfl
 split
 ·exact wpAny_letGo fin
 ·exact Am fin
end
abbrev bmVE:List Value:=[.type "ValueError",.type "Exception",.type "BaseException",.type "object"]
def excφ(a C:Addr)(dx:Option Addr)(h:Heap):Prop:=∃t,h.get? a=some {cls:=.ref C,dict:=dx,data:=.fields #[.ref t,.none,.none,.none,.bool false,.none]}
def ExO(a C:Addr)(dx:Option Addr):HO:=.ext (excφ a C dx)
theorem jk3{P:Program}{w:World}{H:Hp}{h:Heap}{a C:Addr}{dx:Option Addr}{t:Addr}(e:h.get? a=some {cls:=.ref C,dict:=dx,data:=.fields #[.ref t,.none,.none,.none,.bool false,.none]}):ObjOk P w H h a (ExO a C dx) :=
 ⟨⟨t,e⟩,⟨_,e⟩,λh1 h2 ⟨t',e1⟩ k=>⟨t',k _ e1⟩⟩
structure XC(K:PySem.W.Frag)(C D N:Addr):Prop where
 sh:∃nm q bs sn sub ab col dd k0 k1 k2 k3 k5,K.lookup C=some (excClassObj nm q C N bs (.ref D::bmVE) true sn sub ab col dd k0 k1 k2 k3 k5 "ValueError.__new__")
 tl:PySem.W.tailIn K bmVE (.ref D::bmVE)=true
 ns:PySem.W.nsOkIn K N=true
 sa:PySem.W.findIn K (.ref C) "__setattr__"=some (some (.builtin "object.__setattr__"))
 ga:PySem.W.findIn K (.ref C) "__getattribute__"=some (some (.builtin "BaseException.__getattribute__"))
 gx:PySem.W.findIn K (.ref C) "__getattr__"=some none
 kp:PySem.W.keepIn K (.ref C)=true
theorem jsi{K:PySem.W.Frag}{h:Heap}{N:Addr}{mg:Str->Option Value}{n:Str}{v:Value}(X:K.In h)(G:h.Ns N mg)(e:PySem.W.nsIn K N n=some (some v)):mg n=some v:=by
 obtain⟨o,es,ep,ho,hd,_,hf⟩:=G
 unfold PySem.W.nsIn at e
 split at e
 ·rename_i c d es' n' sl q
  have:=X _ _ q
  rw[ho]at this
  cases this
  cases hd
  split at e
  ·rename_i en he
   rw[<-hf]
   unfold nsFind findBy
   rw[<-Array.find?_toList,he]
   simpa using e
  ·split at e <;> cases e
 ·cases e
section
variable{X:Cx}{pins:List (Addr×Obj)}{σ:St}{H:Hp}{s:Shared}{C D N:Addr}
theorem Inv.rewrite{a:Addr}{o:HO}(e:H a=some o):upd H a o=H:=by
 funext b
 by_cases h:b=a
 ·subst h;rw[je,e]
 ·rw[jf h]
def jkn(C:Addr)(sp:Sp)(t:TA):TE:=λσ H Q=>t σ H λvs H1=>∀e,H1 e=none->sp (.ref e::vs) (upd H1 e (ExO e C none)) (λv H2=>v=.non/\Q (.ref e) H2) E0
theorem pe_excI{x:Str}{p pos:Pos}{k:Nat}{f:Addr}{fd:FuncData}{ps:List Str}{sp:Sp}{e:Expr}{es:List Expr}{t:TA}(c:XC X.K C D N)(hi:PySem.W.nsIn X.K N "__init__"=some (some (.ref f)))(hf:∃o,X.K.lookup f=some o/\o.cls=.type "function")
  (F:FnOk X.prog X.w X.K X.mg X.base CX0 k f fd ps sp) (hr:Room (k+1) X.A) (hb:Binds X.K fd ps []) (hg:Gl X x) (hm:X.mg x=some (.ref C)) (ha:PA X (e::es) t) (hps:ps.length<=sizeLine:=by decide)
  (hdb:(x == ("__debug__":Str))=false:=by decide) (he:starEach (e::es) X.env=(false,eval e X.env)::starEach es X.env:=by rfl) (hpl:(backTo pos (starEach es X.env)).any (·.1)=false:=by rfl) :
  PE X (.Call (.Name x p) (e::es) [] pos) (jkn C sp t):=by
 intro pins s σ H Q I h
 refine Ir (jed I hg hm ?_ hdb)
 refine Ox (h₀:=X.base) I.ok.mod.kin c.kp (thn (ha pos pins s σ H _ I h) λus s1 ⟨vs,H1,I1,r,q1⟩=>⟨I1.kIn,?_⟩) he hpl
 obtain⟨nm,q,bs,sn,sub,ab,col,dd,k0,k1,k2,k3,k5,lk⟩:=c.sh
 obtain⟨oI,lkf,hfc⟩:=hf
 have hC:=I1.kIn _ _ lk
 have hn:=Heap.Ns.of_isNs (PySem.W.isNs_of_in I1.kIn c.ns)
 have hin:=jsi I1.kIn hn hi
 have T:=PySem.W.tail_of_in I1.kIn c.tl
 have hz:s1.heap.objs.size<=s1.heap.objs.size+1:=Nat.le_succ _
 have q2:=q1 (s1.heap.objs.size+1) (I1.hok.fresh hz)
 have r2:Vals (V.ref (s1.heap.objs.size+1)::vs) (Value.ref (s1.heap.objs.size+1)::us):=.cons rfl r
 have hl:(Value.ref (s1.heap.objs.size+1)::us++[]).length=ps.length:=by
  have e:=r2.length
  rw[F.len _ _ _ _ q2]at e
  rw[Ib]
  exact e.symm
 obtain⟨hh,g,d,tk,os⟩:=s1
 have hrest:us.length<=sizeLine:=by
  simp only[Ib,List.length_cons]at hl
  omega
 refine call_exc_initT PySem.F.excBase_ValueError T hC hn hin (I1.kIn _ _ lkf) hfc ?_ hrest
 have I2:Inv X pins σ (upd H1 (hh.objs.size+1) (ExO (hh.objs.size+1) C none)) ⟨(hh.push {cls:=.type "tuple",data:=.seq us.toArray}).push {cls:=.ref C,data:=.fields #[.ref hh.objs.size,.none,.none,.none,.bool false,.none]},g,d,tk,os⟩ :=
  I1.laid (t':=tk) (λb o e=>Ac _ (Ac _ e)) hz (jk3 (t:=hh.objs.size) (by heap_get))
 refine Wl (U2 (F.run _ X.stack _ _ ⟨Value.ref (hh.objs.size+1)::us,[]⟩ (Value.ref (hh.objs.size+1)::us) _ _ E0 (hr.make C us []) (I2.env0.make C us []) (by
  have:=hb _ (Value.ref (hh.objs.size+1)::us) I2.kIn hl
  rwa[Ib]at this) r2 q2) λr s' hq'=>?_)
 cases r with
 |error e=>exact False.elim hq'
 |ok fl =>
  cases fl with
  |ret u =>
   obtain⟨v,H',I3,rv,ev,q3⟩:=I2.after hq'
   subst ev
   exact⟨rv,⟨V.ref (hh.objs.size+1),H',I3,rfl,q3⟩⟩
  |next=>exact False.elim hq'
  |brk=>exact False.elim hq'
  |cont=>exact False.elim hq'
structure XD(K:PySem.W.Frag)(D:Addr):Prop where
 sp:PySem.W.specialIn K (.ref D) "__getattribute__"=some (some (.builtin "type.__getattribute__"))
 rd:PySem.W.readsIn K D (.type "type")=true
 fc:PySem.W.findCls K (.ref D) (.type "type") "__init__"=some (.val (.builtin "ValueError.__init__"))
def jfs(K:PySem.W.Frag)(t:TA):TE:=λσ H Q=>t σ H λvs H1=>∃e y C D N,vs=[.ref e,y]/\H1 e=some (ExO e C none)/\XC K C D N/\Q .non H1
theorem pe_excInit{x:Str}{p pos apos:Pos}{e:Expr}{es:List Expr}{t:TA}(xd:XD X.K D)(hg:Gl X x)(hm:X.mg x=some (.ref D))(ha:PA X (e::es) t)(hdb:(x == ("__debug__":Str))=false:=by decide)
  (he:starEach (e::es) X.env=(false,eval e X.env)::starEach es X.env:=by rfl) (hpl:(backTo pos (starEach es X.env)).any (·.1)=false:=by rfl) {pl:Sem Bool}
  (ht:eval (.Call (.Attribute (.Name x p) "__init__" apos) (e::es) [] pos) X.env=(do
   let ov <-eval (.Name x p) X.env
   standAt apos.atName
   let(f,first) <-holding [ov] (getMethod ov "__init__" pl)
   callWith pos f first (backTo pos (starEach (e::es) X.env)) (backToKw pos (keywordEach [] X.env))):=by rfl) :
  PE X (.Call (.Attribute (.Name x p) "__init__" apos) (e::es) [] pos) (jfs X.K t):=by
 intro pins s σ H Q I h
 refine Wy (pl:=pl) (jed I hg hm ?_ hdb) ht
 refine PySem.W.method_cls I.kIn xd.sp (PySem.W.cls_value I.kIn xd.rd xd.fc rfl ?_)
 have I':Inv X pins σ H {s with toks:=s.toks+1}:=I.tok _
 refine PyProof.Rows.callWith_builtin1 (thn (ha pos pins _ σ H _ I' h) λus s1 ⟨vs,H1,I1,r1,a,y,C,D',N,ev,ea,c,q1⟩=>?_) he hpl
 subst ev
 obtain⟨u1,u2,rfl,ru1,ru2⟩:=jgr r1
 cases ru1
 obtain⟨nm,q,bs,sn,sub,ab,col,dd,k0,k1,k2,k3,k5,lk⟩:=c.sh
 have hC:=I1.kIn _ _ lk
 have T:=PySem.W.tail_of_in I1.kIn c.tl
 obtain⟨⟨t0,eo⟩,_,_⟩:=(show ObjOk X.prog X.w H1 s1.heap a (ExO a C none)from I1.hok a _ ea)
 obtain⟨hh,g,d,tk,os⟩:=s1
 refine call_exc_init PySem.F.excBase_ValueError T hC eo rfl rfl (by simp) (λh' k e'=>?_) (by show 1<=sizeLine;decide)
 have I3:=I1.write (t':=tk) (x:=a) (e:=a) (o:=ExO a C none) (h':=h') (by rw[ea];exact True.intro) (.inl rfl) k ⟨_,e'⟩ (jk3 (t:=hh.objs.size) (by simpa using e'))
 rw[Inv.rewrite ea]at I3
 exact⟨.non,H1,I3,rfl,q1⟩
def jgj(K:PySem.W.Frag)(ta tv:TE)(f:Str):TS:=λD σ H=>tv σ H λy H1=>ta σ H1 λx H2=>∃a C D' N,x=.ref a/\H2 a=some (ExO a C none)/\XC K C D' N/\PySem.W.findIn K (.ref C) f=some none /\
 ∀dx,H2 dx=none->D.nx σ (upd (upd H2 dx (.xd [(f,y)])) a (ExO a C (some dx)))
theorem ps_excSet{o value:Expr}{f:Str}{pos pos':Pos}{ta tv:TE}(ha:PE X o ta)(hv:PE X value tv)(hs:swapsWith value (some (.Attribute o f pos')) pos.line X.env=pure false):PS X (.Assign [.Attribute o f pos'] value pos) (jgj X.K ta tv f):=by
 intro pins s σ H En I h
 refine plainObj_wpAny_Assign_Attribute (thn (hv pins s σ H _ I h) λu s1 ⟨y,H1,I1,ry,q⟩=>thn (ha pins s1 σ H1 _ I1 q) λov s2 ⟨x,H2,I2,rx,a,C,D',N,ex,ea,c,nf,q2⟩=>?_) hs
 subst ex
 obtain rfl:ov=Value.ref a:=rx
 obtain⟨nm,qn,bs,sn,sub,ab,col,dd,k0,k1,k2,k3,k5,lk⟩:=c.sh
 have hC:=I2.kIn _ _ lk
 obtain⟨⟨t0,eo⟩,_,_⟩:=(show ObjOk X.prog X.w H2 s2.heap a (ExO a C none)from I2.hok a _ ea)
 have F1:=Finds.of (M:=model X.prog X.w) I2.kIn c.sa
 have F2:=Finds.of (M:=model X.prog X.w) I2.kIn nf
 obtain⟨hh,g,d,tk,os⟩:=s2
 refine jml PySem.F.store_ValueError hC F1 F2 eo rfl (λc e=>by cases e) rfl λh' tk' a1 a2 a3=>?_
 have hdx:H2 hh.objs.size=none:=I2.hok.fresh (Ag _)
 have lta:a<hh.objs.size:=Ai eo
 have nda:hh.objs.size≠a:=Wg lta
 have hok:HOk X.prog X.w (upd (upd H2 hh.objs.size (.xd [(f,y)])) a (ExO a C (some hh.objs.size))) h':=by
  intro b u e
  by_cases hb:b=a
  ·subst hb
   rw[je]at e
   cases e
   exact jk3 a1
  ·rw[jf hb]at e
   by_cases hb2:b=hh.objs.size
   ·subst hb2
    rw[je]at e
    cases e
    refine⟨_,a2,λf'=>?_⟩
    by_cases hf:f'=f
    ·subst hf
     simpa[List.lookup,RelO]using ry
    ·have:(f' == f)=false:=by simpa using hf
     simp[List.lookup,this,hf,RelO]
   ·rw[jf hb2]at e
    refine(I2.hok b u e).stay (λd' v' hd q'=>a3 d' v' ?_ q') (λd' q'=>?_) λd' ys q'=>?_
    ·rcases hd with rfl|hd
     ·exact hb
     ·exact λz=>by subst z;rw[ea]at hd;cases hd
    ·rw[jf (λz=>by subst z;rw[ea]at q';cases q'),jf (λz=>by subst z;rw[hdx]at q';cases q')];exact q'
    ·rw[jf (λz=>by subst z;rw[ea]at q';cases q'),jf (λz=>by subst z;rw[hdx]at q';cases q')];exact q'
 have ne:∀b v',H2 b=v'->v'≠some (ExO a C none)->b≠a:=λb v' e1 e2 z=>by subst z;rw[ea]at e1;exact e2 e1.symm
 have un:Un X.fs [] H2 (upd (upd H2 hh.objs.size (.xd [(f,y)])) a (ExO a C (some hh.objs.size))) hh h':=by
  refine⟨λb o e n _ _=>a3 b o (ne b _ n (by simp)) e,λb o e n _ _=>⟨o.slots,a3 b o (ne b _ n (by simp)) e⟩,λb o e n _=>?_,λb o e _=>?_,λb xs e=>?_,λb o u e=>?_,λb ps e=>⟨#[],?_⟩⟩
  ·rw[jf (ne b _ n (by simp)),jf (Ar (Ai e))];exact n
  ·by_cases hb:b=a
   ·subst hb;exact⟨_,a1⟩
   ·exact⟨_,a3 b o hb e⟩
  ·rw[jf (ne b _ e (by simp[ExO])),jf (jl e hdx)];exact e
  ·rw[jf (ne b _ e (by simp[ExO])),jf (jl e hdx)];exact e
  ·rw[jf (ne b _ e (by simp[ExO])),jf (jl e hdx),e];simp
 exact⟨σ,_,I2.un (t':=tk') un hok,q2 _ hdx⟩
end
open Builtin Builtin.ObjectAttr
section
variable{prog:Program}{w:World}{A:Around}{E:Value->Shared->Prop}{h:Heap}{g:Array GenState}{d:Drawn}{t:Nat}{os:OsState}
variable{nm q:Str}{C D N x:Addr}{bs bmB:List Value}{sn:List Str}{sub:List Value}{ab:Bool}{col:Option Bool}{dd:Option Addr}{k0 k1 k2 k3 k5:Option Value}{nid:String}{K:PySem.W.Frag}
theorem jhj{tk:Tok}{o:Obj}{od:Option Obj}{Q:Fin->Shared->Prop}(X:K.In h)(hC:h.get? C=some (excClassObj nm q C N bs (.ref D::bmB) true sn sub ab col dd k0 k1 k2 k3 k5 nid))
  (hl:Finds (model prog w) h C "__class__" (some (.builtin "object.__class__"))) (I:PySem.W.InstAt h x o C od) (hm:PySem.W.mroIn K C (.type "object")=some true) (hq:Q (.done (.ret (.ref C))) ⟨h,g,d,t,os⟩) :
  wpAny (model prog w) A (Builtin.«object.__getattribute__» ⟨[.ref x,.str "__class__" tk],[]⟩) Q E ⟨h,g,d,t,os⟩:=by
 have hx:=I.at_
 have hc:o.cls=.ref C:=I.cls
 have f5:=PySem.F.typeOf_object_class
 have f6:=PySem.F.slot_gs_get.lookup
 have f7:=PySem.F.slot_gs_set.lookup
 have hT5:(⟨h,g,d,t,os⟩:Shared).TypeIs (.builtin "object.__class__") "getset_descriptor":=f5
 unfold Builtin.«object.__getattribute__»
 repeat (any_goals (first|assumption|(with_reducible refine A4 hx ?_;rw[hc])|(with_reducible refine Finds.go hl ?_)|wp_step))
 refine PySem.W.class_get (K:=K) (s:=⟨h,g,d,t,os⟩) X I hm ?_
 repeat (any_goals (first|assumption|wp_step))
theorem jii{o:Obj}{od:Option Obj}{Q:Option Value->Shared->Prop}(X:K.In h)(hB:bmB.contains (.type "BaseException")=true)(hC:h.get? C=some (excClassObj nm q C N bs (.ref D::bmB) true sn sub ab col dd k0 k1 k2 k3 k5 nid))
  (hg:Finds (model prog w) h C "__getattribute__" (some (.builtin "BaseException.__getattribute__"))) (hh:Finds (model prog w) h C "__getattr__" none)
  (hl:Finds (model prog w) h C "__class__" (some (.builtin "object.__class__"))) (I:PySem.W.InstAt h x o C od) (hm:PySem.W.mroIn K C (.type "object")=some true)
  (hq:Q (some (.ref C)) ⟨h,g,d,t+1,os⟩):wpAny (model prog w) A (getAttr? (.ref x) "__class__") Q E ⟨h,g,d,t,os⟩:=by
 have hx:=I.at_
 have hc:o.cls=.ref C:=I.cls
 have f3:=Ua.ga.bind (.ref x)
 have hx2:(Value.builtin "BaseException.__getattribute__" == Value.builtin "object.__getattribute__")=false:=by decide +kernel
 have hx1:(onTheHeap (Value.ref C) && Value.builtin "BaseException.__getattribute__" == Value.builtin "object.__getattribute__")=false:=by rw[hx2];rfl
 unfold getAttr? getAttrBy? getAttrBy
 repeat (any_goals (first|assumption|(with_reducible refine A4 hx ?_;rw[hc])|(with_reducible refine Finds.go hg ?_)|(with_reducible refine Finds.go hh ?_)|wp_step))
 refine U9 Ua.ga.plain PySem.F.entry_bexc_ga (jfy hB hC hx hc (jhj X hC hl I hm ?_))
 show wpAny _ _ (handedOut (.ref C)) _ _ _
 rw[PySem.W.handedOut_of rfl]
 exact Am (Am hq)
end
structure XI(K:PySem.W.Frag)(C:Addr):Prop where
 cl:PySem.W.findIn K (.ref C) "__class__"=some (some (.builtin "object.__class__"))
 ob:PySem.W.mroIn K C (.type "object")=some true
theorem jg2{K:PySem.W.Frag}{C D N x:Addr}(c:XC K C D N)(xi:XI K C):PySem.W.KitX K (.ref x) (.ref C) (λh=>∃o od,PySem.W.InstAt h x o C od) where
 ty:=λM h X ⟨o,od,I⟩=>I.type
 it:=λM h X _=>by
  obtain⟨nm,q,bs,sn,sub,ab,col,dd,k0,k1,k2,k3,k5,lk⟩:=c.sh
  intro A' Q' E' s' k q
  unfold isType loadHead
  exact Ad (wpAny_loadPart (k _ _ (X _ _ lk)) (Am q))
 ne:=λh tp dd its n sl X htp=>by
  obtain⟨nm,q,bs,sn,sub,ab,col,dd,k0,k1,k2,k3,k5,lk⟩:=c.sh
  refine Bool.eq_false_iff.mpr λq=>?_
  have e:C=tp:=Value.ref.inj (U7.mp q)
  subst e
  have z:=(X _ _ lk).symm.trans htp
  simp at z
 ca:=fun{prog w A E Q s} X ⟨o,od,I⟩ k=>by
  obtain⟨nm,q,bs,sn,sub,ab,col,dd,k0,k1,k2,k3,k5,lk⟩:=c.sh
  obtain⟨hh,g,d,tk,os⟩:=s
  exact jii X (by decide) (X _ _ lk) (Finds.of X c.ga) (Finds.of X c.gx) (Finds.of X xi.cl) I xi.ob k
section
variable{X:Cx}
def jko(te:TE):TE:=λσ H Q=>te σ H λx H1=>∃i:Int,x=.int i/\i.natAbs<10^20/\∀z:Str,z.length<=21->Q (.str z) H1
theorem pe_fmtI{a:Expr}{te:TE}{pos:Pos}(ha:PE X a te):PE X (.FormattedValue a (-1) none pos) (jko te):=by
 intro pins s σ H Q I h
 refine FormattedValue_plain (thn (ha pins s σ H _ I h) λv s1 ⟨x,H1,I1,r1,i,ex,hi,q1⟩=>?_)
 subst ex
 obtain⟨t,rfl⟩:=r1
 have hl:i.natAbs.log2<1920:=by
  by_cases h0:i.natAbs=0
  ·rw[h0];decide
  ·have h1:(10:Nat)^20<2^70:=by decide
   have:=(Nat.log2_lt h0).mpr (Nat.lt_trans hi h1)
   omega
 have hz:(Str.ofString (toString i)).length<=21:=by
  have e:=int_text_length_le10 (a:=i) (k:=20) (by decide) hi
  rw[PySem.ofString_length]
  omega
 exact formatField_int_small hl ⟨.str _,H1,I1.tok _,⟨_,rfl⟩,q1 _ hz⟩
end
end L2
set_option autoImplicit true
set_option relaxedAutoImplicit true
namespace L2
open PySem PySem.Spec PyProof.Rows
section
variable{X:Cx}{K:PySem.W.Frag}
theorem bt_ValueError:bootBuiltins "ValueError"=some (.type "ValueError"):=by decide +kernel
theorem jcv{x:Str}{p pos:Pos}{k:Nat}{f C D N:Addr}{fd:FuncData}{ps:List Str}{sp:Sp}{e:Expr}{es:List Expr}{t:TA}(hK:X.K=K)(c:XC K C D N)(hi:PySem.W.nsIn K N "__init__"=some (some (.ref f)))(hf:∃o,K.lookup f=some o/\o.cls=.type "function")
  (F:FnOk X.prog X.w K X.mg X.base CX0 k f fd ps sp) (hr:Room (k+1) X.A) (hb:Binds K fd ps []) (hg:Gl X x) (hm:X.mg x=some (.ref C)) (ha:QA X (e::es) t) (hps:ps.length<=sizeLine:=by decide)
  (hdb:(x == ("__debug__":Str))=false:=by decide) (he:starEach (e::es) X.env=(false,eval e X.env)::starEach es X.env:=by rfl) (hpl:(backTo pos (starEach es X.env)).any (·.1)=false:=by rfl) :
  QE X (.Call (.Name x p) (e::es) [] pos) (jkn C sp t):=by subst hK;exact⟨pe_excI c hi hf F hr hb hg hm ha.h hps hdb he hpl⟩
theorem qpe_excInit{x:Str}{p pos apos:Pos}{e:Expr}{es:List Expr}{t:TA}{D:Addr}(hK:X.K=K)(xd:XD K D)(hg:Gl X x)(hm:X.mg x=some (.ref D))(ha:QA X (e::es) t)(hdb:(x == ("__debug__":Str))=false:=by decide)
  (he:starEach (e::es) X.env=(false,eval e X.env)::starEach es X.env:=by rfl) (hpl:(backTo pos (starEach es X.env)).any (·.1)=false:=by rfl) {pl:Sem Bool}
  (ht:eval (.Call (.Attribute (.Name x p) "__init__" apos) (e::es) [] pos) X.env=(do
   let ov <-eval (.Name x p) X.env
   standAt apos.atName
   let(f,first) <-holding [ov] (getMethod ov "__init__" pl)
   callWith pos f first (backTo pos (starEach (e::es) X.env)) (backToKw pos (keywordEach [] X.env))):=by rfl) :
  QE X (.Call (.Attribute (.Name x p) "__init__" apos) (e::es) [] pos) (jfs K t):=by subst hK;exact⟨pe_excInit xd hg hm ha.h hdb he hpl ht⟩
theorem qps_excSet{o value:Expr}{f:Str}{pos pos':Pos}{ta tv:TE}(hK:X.K=K)(ha:QE X o ta)(hv:QE X value tv)(hs:swapsWith value (some (.Attribute o f pos')) pos.line X.env=pure false):QS X (.Assign [.Attribute o f pos'] value pos) (jgj K ta tv f):=by
 subst hK;exact⟨ps_excSet ha.h hv.h hs⟩
theorem qpe_fmtI{a:Expr}{te:TE}{pos:Pos}(ha:QE X a te):QE X (.FormattedValue a (-1) none pos) (jko te):=⟨pe_fmtI ha.h⟩
end
theorem jqo{K:PySem.W.Frag}{C:Addr}:PySem.W.kitOne K (.ref C) (.ref C)=some true:=Af (by simp)
end L2
set_option autoImplicit true
set_option relaxedAutoImplicit true
namespace L2
open PySem PySem.Spec PyProof.Rows
theorem jrs{K:PySem.W.Frag}{N:Addr}{no:Value}{nd:Option Addr}{es:Array DictEntry}{en:Nat}{nl:Array (Option Value)}(l:K.lookup N=some ⟨no,nd,.dict es en,nl⟩)(e:(es.all λe=>match e.key with|.str _ _=>true|_=>false)=true):PySem.W.nsOkIn K N=true:=by
 unfold PySem.W.nsOkIn
 rw[l]
 exact e
section
variable{K:PySem.W.Frag}{C C' D N N':Addr}{nm q nm' q':Str}{bs bm bs' bm':List Value}{sn sn':List Str}{sub sub':List Value}{ab ab' hd hd':Bool}{col col':Option Bool}{dd dd':Option Addr}{k0 k1 k2 k3 k5 j0 j1 j2 j3 j5:Option Value}{nid nid':String}
theorem jsw(l:K.lookup D=some (excClassObj nm q D N bs bm hd sn sub ab col dd k0 k1 k2 k3 k5 nid))(ns:PySem.W.nsOkIn K N=true)(i:PySem.W.nsIn K N "__init__"=some none):PySem.W.tailIn K bmVE (.ref D::bmVE)=true:=by
 unfold PySem.W.tailIn
 dsimp only
 rw[l]
 dsimp only
 rw[ns,i]
 have:PySem.W.tailIn K bmVE bmVE=true:=by
  unfold PySem.W.tailIn
  simp
 rw[this]
 simp
theorem jm8{c:Value}(l:K.lookup C=some (excClassObj nm q C N bs bm hd sn sub ab col dd k0 k1 k2 k3 k5 nid)):PySem.W.subIn K (.ref C) c=some ((Value.ref C::bm).contains c):=by
 unfold PySem.W.subIn PySem.W.mroIn PySem.W.clsIn
 dsimp only
 rw[l]
 rfl
theorem jf1(l:K.lookup C=some (excClassObj nm q C N bs (.ref D::bmVE) hd sn sub ab col dd k0 k1 k2 k3 k5 nid))(l':K.lookup C'=some (excClassObj nm' q' C' N' bs' bm' hd' sn' sub' ab' col' dd' j0 j1 j2 j3 j5 nid'))(ty:PySem.W.typeIn K (.ref C')=some (.type "type"))(n:C≠C')(nD:C'≠D) :
  PySem.W.kitOne K (.ref C) (.ref C')=some false:=by
 unfold PySem.W.kitOne
 rw[Aa (by simpa using n)]
 unfold PySem.W.kitCls
 have:((PySem.W.clsIn K C').isSome && PySem.W.typeIn K (.ref C') == some (.type "type"))=true:=by
  rw[ty]
  unfold PySem.W.clsIn
  rw[l']
  rfl
 dsimp only
 rw[Af this,jm8 l]
 simp[Ol n,nD]
theorem jue(l:K.lookup C=some (excClassObj nm q C N bs (.ref D::bmVE) hd sn sub ab col dd k0 k1 k2 k3 k5 nid)):PySem.W.kitOne K (.ref C) (.type "ValueError")=some true:=by
 unfold PySem.W.kitOne
 rw[Aa (by simp)]
 unfold PySem.W.kitCls
 dsimp only
 rw[Af (by decide +kernel),jm8 l]
 simp
end
section
variable{M:Model}{A:Around}{E:Value->Shared->Prop}{s:Shared}
theorem jck{base:Heap}{env:Env}{outer:List Env}{L e:Addr}{c:Value}{dx:Option Addr}{sl:Array (Option Value)}{vs:Array Value}{head:Value}{hn:Bool}{Q:Unit->Shared->Prop}
  (fr:A.frames=some (env::outer)) (ff:s.heap.FunFrames base (env::outer)) (ef:env.frame=some L) (he:s.heap.get? e=some ⟨c,dx,.fields vs,sl⟩) (ne:e∉frs (env::outer)) (hsz:1<vs.size)
  (q:∀h' T oT ts,(∀b o,b≠e->b∉frs (env::outer)->s.heap.get? b=some o->h'.get? b=some o)->(∀b o,b≠e->s.heap.get? b=some o->∃sl',h'.get? b=some {o with slots:=sl'}) ->
   h'.get? e=some ⟨c,dx,.fields (vs.setIfInBounds 1 (.ref T)),sl⟩->s.heap.objs.size<=T->T≠e->h'.get? T=some oT->oT.data=.fields ts->ts[3]?=some (rawInt L)->Q () {s with heap:=h'}) :
  wpAny M A (do let a <-frameOf env;let pl <-entryPlaceOf L hn;let b <-EntryCells.newEntry head a .none (rawInt L) .none pl;setField (.ref e) 1 b) Q E s:=by
 refine Ad (wpAny_frameOf_fun fr ff ef λh1 so=>?_)
 refine Ad (wpAny_entryPlaceOf λpl ip=>?_)
 unfold EntryCells.newEntry newFields
 refine Ad (O0 ?_ (ip.sizeOk5 _ _ _ _ _))
 have e1:h1.get? e=some ⟨c,dx,.fields vs,sl⟩:=(so.2.1 e ne).trans he
 have e2:=Ac (h:=h1) (⟨.type "traceback",none,.fields ([head,.ref L,.none,rawInt L,.none]++(if pl.isEmpty then List.replicate 6 Value.none else pl)).toArray,#[]⟩:Obj) e1
 refine U4 e2 rfl hsz ?_
 have nT:h1.objs.size≠e:=Wg (Ai e1)
 have kp:∀b o,b≠e->h1.get? b=some o->((h1.push (⟨.type "traceback",none,.fields ([head,.ref L,.none,rawInt L,.none]++(if pl.isEmpty then List.replicate 6 Value.none else pl)).toArray,#[]⟩:Obj)).update e (Obj.mapFields (·.setIfInBounds 1 (Value.ref h1.objs.size)))).get? b=some o:=λb o hb ho=>by
  rw[Oa _ _ (Ol hb)]
  exact Ac _ ho
 refine q _ h1.objs.size _ _ (λb o hb hf ho=>kp b o hb ((so.2.1 b hf).trans ho)) (λb o hb ho=>?_) ?_ (Uj so.1.symm) nT ((Oa _ _ (Ol nT)).trans (At h1 rfl)) rfl ?_
 ·obtain⟨sl',e3⟩:=so.2.2 b o ho
  exact⟨sl',kp b _ hb e3⟩
 ·rw[Oc _ e2 rfl]
  rfl
 ·first
   |(simp;done)
   |(rcases ip with rfl|⟨_,_,_,_,_,_,_,rfl⟩ <;> simp)
end
section
variable{X:Cx}{pins:List (Addr×Obj)}{σ:St}{H H':Hp}{s:Shared}{a C T:Addr}{dx:Option Addr}{fl:Option Value}
structure Own(X:Cx)(pins:List (Addr×Obj))(H:Hp)(b:Addr):Prop where
 new:X.s₀.heap.get? b=none
 free:H b=none
 loc:b≠X.env.locals
 cell:∀x c,X.env.cells.lookup x=some c->c≠b
 pin:∀p∈X.pn++pins,p.1≠b
 fr:b∉frs X.stack
theorem Inv.frThere(I:Inv X pins σ H s){b:Addr}(hb:b∈frs X.stack):∃o,s.heap.get? b=some o:=by
 obtain⟨_,o,ho,_⟩:=I.stack.mem hb
 exact⟨o,ho⟩
theorem Inv.own(I:Inv X pins σ H s)(hx:X.ex=[]){b:Addr}(n:s.heap.get? b=none)(hf:H' b=none):Own X pins H' b:=by
 refine⟨?_,hf,?_,λx c e z=>?_,λp hp z=>?_,λhb=>?_⟩
 ·cases e:X.s₀.heap.get? b with
  |none=>rfl
  |some o =>
   obtain⟨o',e'⟩:=I.base.there b o e (by rw[hx];simp)
   rw[n]at e';cases e'
 ·rintro rfl
  obtain⟨m,⟨o,_,_,ho,_⟩,_⟩:=I.loc
  rw[n]at ho;cases ho
 ·subst z
  obtain⟨v,o,ho,_⟩:=I.cell x c e
  rw[n]at ho;cases ho
 ·have:=(I.pin p hp).1
  rw[z,n]at this;cases this
 ·obtain⟨o,ho⟩:=I.frThere hb
  rw[n]at ho;cases ho
theorem Inv.fly{h':Heap}{t':Nat}{φ:Addr->Prop}(I:Inv X pins σ H s)(hφ:∀b,φ b->Own X pins H b)
  (k:∀b o,¬φ b->b∉frs X.stack->s.heap.get? b=some o->h'.get? b=some o) (ks:∀b o,¬φ b->s.heap.get? b=some o->∃sl,h'.get? b=some {o with slots:=sl}):Inv X pins σ H {s with heap:=h',toks:=t'}:=by
 have old:∀b o,X.s₀.heap.get? b=some o->¬φ b:=λb o e z=>by rw[(hφ b z).new]at e;cases e
 have trd:∀b u,H b=some u->¬φ b/\b∉frs X.stack:=λb u e=>⟨λz=>(by rw[(hφ b z).free]at e;cases e),λz=>(by rw[I.stkFree b z]at e;cases e)⟩
 have cel:∀x c,X.env.cells.lookup x=some c->∀v,s.heap.IsCell c v->h'.IsCell c v:=λx c e v ⟨o,ho,hd⟩=>by
  obtain⟨sl,q⟩:=ks c o (λz=>(hφ c z).cell x c e rfl) ho
  exact⟨_,q,hd⟩
 refine⟨I.ok,I.os,I.bare,⟨λb o e n hb hx=>?_,λb o e n hb hx=>?_,I.base.free,λb o e hx=>?_,I.base.tups,I.base.frzs,I.base.tbls⟩,?_,λx c e=>?_,I.free,I.freeC,λp hp=>?_,λb u e=>?_,I.len⟩
 ·refine k b o (old b o e) (λz=>?_) (I.base.keep b o e n hb hx)
  rcases Al.mp (I.stkSub b z)with r|r
  ·exact absurd (r▸Ai e) (Nat.not_lt.mpr I.ok.above)
  ·exact hb r
 ·obtain⟨sl,e1⟩:=I.base.slot b o e n hb hx
  obtain⟨sl',e2⟩:=ks b _ (old b o e) e1
  exact⟨sl',e2⟩
 ·obtain⟨o',e1⟩:=I.base.there b o e hx
  obtain⟨sl,e2⟩:=ks b o' (old b o e) e1
  exact⟨_,e2⟩
 ·obtain⟨m,⟨o,es,ep,ho,r⟩,hl⟩:=I.loc
  obtain⟨sl,e2⟩:=ks _ o (λz=>(hφ _ z).loc rfl) ho
  refine⟨m,⟨_,es,ep,e2,r⟩,λi x v e1 e3 e4=>?_⟩
  obtain⟨u,ru,l⟩:=hl i x v e1 e3 e4
  refine⟨u,ru,?_⟩
  rcases l with l|⟨kk,c,e,z⟩
  ·exact .inl l
  ·exact .inr ⟨kk,c,e,cel x c e _ z⟩
 ·obtain⟨v,z⟩:=I.cell x c e
  exact⟨v,cel x c e v z⟩
 ·obtain⟨e,n,ne,nf,d⟩:=I.pin p hp
  refine⟨k p.1 p.2 (λz=>(hφ _ z).pin p hp rfl) (λz=>?_) e,n,ne,nf,d⟩
  rcases Al.mp (I.stkSub _ z)with r|r
  ·exact ne r
  ·exact nf r
 ·refine(I.hok b u e).stay (λc v hc q=>?_) (λ_ q=>q) λ_ _ q=>q
  rcases hc with rfl|hc
  ·exact k c v (trd c u e).1 (trd c u e).2 q
  ·exact k c v (trd c _ hc).1 (trd c _ hc).2 q
structure FlS(X:Cx)(pins:List (Addr×Obj))(H:Hp)(h:Heap)(a C:Addr)(dx:Option Addr)(fl:Option Value):Prop where
 own:Own X pins H a
 ex:∃vs sl,h.get? a=some ⟨.ref C,dx,.fields vs,sl⟩/\match fl with
  |none=>vs[1]?=some .none
  |some f=>∃T oT ts,vs[1]?=some (.ref T)/\Own X pins H T/\T≠a/\h.get? T=some oT/\oT.data=.fields ts/\ts[3]?=some f
theorem jnm{M:Model}{A:Around}{E:Value->Shared->Prop}{Q:Unit->Shared->Prop}(I:Inv X pins σ H s)(hA:A.frames=X.A.frames)(hs:X.stack=X.env::X.outer/\X.env.frame=some X.env.locals)(hx:X.ex=[])(f:FlS X pins H s.heap a C dx fl)(hfl:fl=none\/fl=some .none)
  (q:∀s',Inv X pins σ H s'->FlS X pins H s'.heap a C dx (some (rawInt X.env.locals))->Q () s'):wpAny M A (noteFrame (.ref a) X.env) Q E s:=by
 obtain⟨own,vs,sl,ea,r⟩:=f
 have fr:A.frames=some (X.env::X.outer):=by rw[hA,I.ok.frames,hs.1]
 have ff:=I.stack
 rw[hs.1]at ff
 have nf:a∉frs (X.env::X.outer):=by rw[<-hs.1];exact own.fr
 unfold noteFrame
 simp only[hs.2]
 rcases hfl with rfl|rfl
 ·have hsz:1<vs.size:=(Uh.mp r).1
  refine Ad (Ux ea rfl r ?_)
  rw[Aa (by decide)]
  refine jck fr ff hs.2 ea nf hsz λh' T oT ts k ks e1 zT nT eT dT fT=>q _ (I.fly (t':=s.toks) (φ:=λb=>b=a) (λb e=>e▸own) (λb o e hb ho=>k b o e (by rw[<-hs.1];exact hb) ho) λb o e ho=>ks b o e ho) ?_
  exact⟨own,_,sl,e1,T,oT,ts,by simp[hsz],I.own hx (Wz zT) (I.hok.fresh zT),nT,eT,dT,fT⟩
 ·obtain⟨T0,o0,t0,v1,ow0,n0,e0,d0,f0⟩:=r
  have hsz:1<vs.size:=(Uh.mp v1).1
  refine Ad (Ux ea rfl v1 ?_)
  rw[Af (show(Value.ref T0 != Value.none)=true from by simp)]
  refine Ad (Ux e0 d0 f0 ?_)
  rw[Aa (show ¬((Value.none == rawInt X.env.locals)=true)from by simp[rawInt])]
  refine Ad (U4 e0 d0 (Uh.mp f0).1 ?_)
  have oth:∀b,b≠T0->(s.heap.update T0 (Obj.mapFields (·.setIfInBounds 3 Value.none))).get? b=s.heap.get? b:=λb hb=>Oa _ _ (Ol hb)
  have I1:Inv X pins σ H {s with heap:=s.heap.update T0 (Obj.mapFields (·.setIfInBounds 3 Value.none))} :=
   I.fly (t':=s.toks) (φ:=λb=>b=T0) (λb e=>e▸ow0) (λb o e _ ho=>(oth b e).trans ho) λb o e ho=>⟨o.slots,(oth b e).trans ho⟩
  have ff1:=I1.stack
  rw[hs.1]at ff1
  refine jck (s:={s with heap:=s.heap.update T0 (Obj.mapFields (·.setIfInBounds 3 Value.none))}) fr ff1 hs.2 ((oth a (Ol n0)).trans ea) nf hsz λh' T oT ts k ks e1 zT nT eT dT fT=>q _ (I1.fly (t':=s.toks) (φ:=λb=>b=a) (λb e=>e▸own) (λb o e hb ho=>k b o e (by rw[<-hs.1];exact hb) ho) λb o e ho=>ks b o e ho) ?_
  exact⟨own,_,sl,e1,T,oT,ts,by simp[hsz],I1.own hx (Wz zT) (I1.hok.fresh zT),nT,eT,dT,fT⟩
theorem land{M:Model}{A:Around}{E:Value->Shared->Prop}{Q:Unit->Shared->Prop}{fv:Value}(I:Inv X pins σ H s)(f:FlS X pins H s.heap a C dx (some fv))
  (q:∀s',Inv X pins σ H s'->FlS X pins H s'.heap a C dx (some .none)->Q () s'):wpAny M A (setFlight (.ref a) none) Q E s:=by
 obtain⟨own,vs,sl,ea,T0,o0,t0,v1,ow0,n0,e0,d0,f0⟩:=f
 have h3:3<t0.size:=(Uh.mp f0).1
 have oth:∀b,b≠T0->(s.heap.update T0 (Obj.mapFields (·.setIfInBounds 3 ((none:Option Addr).elim Value.none λf=>rawInt f)))).get? b=s.heap.get? b:=λb hb=>Oa _ _ (Ol hb)
 unfold setFlight
 refine Ad (Ux ea rfl v1 ?_)
 rw[Af (show(Value.ref T0 != Value.none)=true from by simp)]
 refine U4 e0 d0 h3 (q _ (I.fly (t':=s.toks) (φ:=λb=>b=T0) (λb e=>e▸ow0) (λb o e _ ho=>(oth b e).trans ho) λb o e ho=>⟨o.slots,(oth b e).trans ho⟩) ?_)
 exact⟨own,vs,sl,(oth a (Ol n0)).trans ea,T0,_,_,v1,ow0,n0,Oc _ e0 (Obj.isFreed_of_fields (Yh d0 _)),Yh d0 _,by simp[h3]⟩
end
def CXE(P:Program)(w:World):CXT:=λouter H s E e s'=>∃a C dx H',e=.ref a/\s'.os=s.os/\AllBare s'.gens/\Un (frs outer) [] H H' s.heap s'.heap/\HOk P w H' s'.heap/\(s.heap.get? a=none/\H' a=none) /\
 (∃vs sl T oT ts,s'.heap.get? a=some ⟨.ref C,dx,.fields vs,sl⟩/\vs[1]?=some (.ref T)/\(s.heap.get? T=none/\H' T=none)/\T≠a/\s'.heap.get? T=some oT/\oT.data=.fields ts/\ts[3]?=some .none)/\E (.ref C) dx H'
def Leaves(X:Cx)(E:XK):Prop:=∀(pins:List (Addr×Obj))(σ:St)(H:Hp)(s:Shared)(a C:Addr)(dx:Option Addr)(fl:Option Value),Inv X pins σ H s->FlS X pins H s.heap a C dx fl->(fl=none\/fl=some .none)->E (.ref C) dx H->X.xe (.ref a) s
section
variable{X:Cx}{E:XK}
theorem jri{pins:List (Addr×Obj)}{σ:St}{H H1:Hp}{s s':Shared}{P:Program}{w:World}(I:Inv X pins σ H s)(hP:X.prog=P)(hw:X.w=w)(hx:X.ex=[]){e:Value}(h:CXE P w X.stack H s E e s') :
  ∃a C dx H',e=.ref a/\Inv X pins σ H' s'/\FlS X pins H' s'.heap a C dx (some .none)/\E (.ref C) dx H':=by
 subst hP hw
 obtain⟨a,C,dx,H',rfl,os,bare,un,hok,⟨na,fa⟩,⟨vs,sl,T,oT,ts,ea,v1,⟨nT,fT⟩,nTa,eT,dT,f3⟩,hE⟩:=h
 have I':Inv X pins σ H' s':=I.call' os un hok bare (λb z=>absurd z (by simp))
 exact⟨a,C,dx,H',rfl,I',⟨I.own hx na fa,vs,sl,ea,T,oT,ts,v1,I.own hx nT fT,nTa,eT,dT,f3⟩,hE⟩
theorem Leaves.passes(l:Leaves X E)(hx:X.ex=[]):jdp (CXE X.prog X.w) X E:=λpins σ H s e s' I h=>by
 obtain⟨a,C,dx,H',rfl,I',f,hE⟩:=jri (H1:=H) I rfl rfl hx h
 exact l pins σ H' s' a C dx _ I' f (.inr rfl) hE
theorem leaves_of{P:Program}{w:World}{K:PySem.W.Frag}{mg:Str->Option Value}{base:Heap}{N:List Str}{qual:Str}{scope:Scope}{f:Addr}{cd:Value}{A:Around}{outer:List Env}{s:Shared}{H:Hp} :
  Leaves (cxOf (CXE P w) P w K mg base N qual scope f cd A outer s H E) E:=by
 intro pins σ H1 s1 a C dx fl I fS hfl hE
 show wpAny _ _ (leaving _ _) _ _ _
 unfold leaving
 refine Ad (jnm I rfl ⟨rfl,rfl⟩ rfl fS hfl λs2 I2 f2=>land I2 f2 λs3 I3 f3=>?_)
 obtain⟨own,vs,sl,ea,T,oT,ts,v1,ow,nT,eT,dT,f3⟩:=f3
 exact⟨a,C,dx,H1,rfl,I3.os,I3.bare,I3.base,I3.hok,⟨own.new,own.free⟩,⟨vs,sl,T,oT,ts,ea,v1,⟨ow.new,ow.free⟩,nT,eT,dT,f3⟩,hE⟩
theorem jfk{P:Program}{w:World}{K:PySem.W.Frag}{mg:Str->Option Value}{base:Heap}{N:List Str}{qual:Str}{scope:Scope}{f:Addr}{cd:Value}{A:Around}{outer:List Env}{s:Shared}{H:Hp}{CX:CXT} :
  PassesOwn (model P w) (cxOf CX P w K mg base N qual scope f cd A outer s H E).A (cxOf CX P w K mg base N qual scope f cd A outer s H E).env (cxOf CX P w K mg base N qual scope f cd A outer s H E).xe:=PassesOwn.leaving
end
section
variable{M:Model}{A:Around}{E:Value->Shared->Prop}{s:Shared}{env:Env}
variable{nm q:Str}{C N:Addr}{bs bm:List Value}{hdct:Bool}{sn:List Str}{sub:List Value}{ab:Bool}{col:Option Bool}{dd:Option Addr}{k0 k1 k2 k3 k5:Option Value}{newId:String}
theorem jmm{h:Heap}{g:Array GenState}{d:Drawn}{t:Nat}{os:OsState}{e D N':Addr}{oe:Obj}{nm' q':Str}{bs' bm':List Value}{hd':Bool}{sn':List Str}{sub':List Value}{ab':Bool}{col':Option Bool}{dd':Option Addr}{j0 j1 j2 j3 j5:Option Value}{nid':String}{Q:Bool->Shared->Prop}
  (hC:h.get? C=some (excClassObj nm q C N bs bm hdct sn sub ab col dd k0 k1 k2 k3 k5 newId)) (hD:h.get? D=some (excClassObj nm' q' D N' bs' bm' hd' sn' sub' ab' col' dd' j0 j1 j2 j3 j5 nid')) (ee:h.get? e=some oe) (ec:oe.cls=.ref C) (hb:(Value.ref D::bm').contains (.type "BaseException")=true)
  (hi:(Value.ref C::bm).contains (.ref D)=true) (hq:Q true ⟨h,g,d,t,os⟩):wpAny M A (excMatches (.ref e) (.ref D)) Q E ⟨h,g,d,t,os⟩:=by
 have f:=tc_notTuple
 unfold excMatches
 repeat (first|(with_reducible refine A4 ee ?_;rw[ec])|with_reducible refine A4 hD ?_|with_reducible refine A4 hC ?_|(with_reducible refine O3 hD ?_;rw[hb])|(with_reducible refine O3 hC ?_;rw[hi])|wp_step)
 exact hq
end
section
variable{X:Cx}{pins:List (Addr×Obj)}{σ:St}{H H':Hp}{s:Shared}{a C D N:Addr}{dx:Option Addr}
def jd9(H:Hp)(a:Addr):Hp:=λb=>if b=a then none else H b
theorem jhg{H:Hp}{a:Addr}:jd9 H a a=none:=Af rfl
theorem jdz{H:Hp}{a b:Addr}(h:b≠a):jd9 H a b=H b:=Aa h
theorem Inv.dropX(I:Inv X pins σ H s){φ:Heap->Prop}(e:H a=some (.ext φ)):Inv X pins σ (jd9 H a) s:=by
 have nn:∀b,H b=none->jd9 H a b=none:=λb n=>by unfold jd9;split <;> first|rfl|exact n
 have ne:∀b u,H b=some u->(∀φ,u≠.ext φ)->b≠a:=λb u q n z=>by subst z;rw[e]at q;cases q;exact n _ rfl
 refine⟨I.ok,I.os,I.bare,⟨I.base.keep,I.base.slot,λb o q n hx=>nn b (I.base.free b o q n hx),I.base.there,λb xs q=>?_,λb o u q=>?_,λb ps q=>?_⟩,I.loc,I.cell,nn _ I.free,λx c q=>nn c (I.freeC x c q),λp hp=>?_,λb u q=>?_,I.len⟩
 ·have:=I.base.tups b xs q
  rw[jdz (ne b _ this λ_ z=>by cases z)];exact this
 ·have:=I.base.frzs b o u q
  rw[jdz (ne b _ this λ_ z=>by cases z)];exact this
 ·obtain⟨more,e1⟩:=I.base.tbls b ps q
  exact⟨more,by rw[jdz (ne b _ e1 λ_ z=>by cases z)];exact e1⟩
 ·obtain⟨e1,n,r⟩:=I.pin p hp
  exact⟨e1,nn _ n,r⟩
 ·have hb:b≠a:=λz=>by rw[z,jhg]at q;cases q
  rw[jdz hb]at q
  exact(I.hok b u q).stay (λ_ _ _ z=>z) (λc z=>by rw[jdz (ne c _ z λ_ r=>by cases r)];exact z) λc xs z=>by rw[jdz (ne c _ z λ_ r=>by cases r)];exact z
def jia(K:PySem.W.Frag)(H₀:Hp)(E:XK)(te:TE):TS:=λD σ H=>te σ H λv H1=>∃a C D' N dx,v=.ref a/\H1 a=some (ExO a C dx)/\XC K C D' N/\H₀ a=none/\E (.ref C) dx (jd9 H1 a)
theorem ps_raise{e:Expr}{te:TE}{pos:Pos}{E:XK}(hc:X.calm=true)(hx:X.ex=[])(l:Leaves X E)(he:PE X e te):PS X (.Raise (some e) none pos) (jia X.K X.H₀ E te):=by
 intro pins s σ H En I h
 rw[arm_exec_Raise]
 refine Ad (Us ?_)
 show wpAny _ _ (raiseStmt X.env (some (do let v <-eval e X.env;standAt pos;pure v)) none) _ _ s
 unfold raiseStmt
 refine Ad (Ad (thn (he pins s σ H _ I h) λv s1 ⟨x,H1,I1,rx,a,C,D',N,dx,ex,ea,c,n0,q⟩=>Ad (Us (Am ?_))))
 subst ex
 obtain rfl:v=Value.ref a:=rx
 obtain⟨nm,qn,bs,sn,sub,ab,col,dd,k0,k1,k2,k3,k5,lk⟩:=c.sh
 have hC:=I1.kIn _ _ lk
 obtain⟨⟨t0,eo⟩,_,_⟩:=(show ObjOk X.prog X.w H1 s1.heap a (ExO a C dx)from I1.hok a _ ea)
 have hh:=I1.ok.hd hc
 have I2:=I1.dropX ea
 have nloc:∀b,H1 b=none->b≠a:=λb n z=>by subst z;rw[ea]at n;cases n
 have own:Own X pins (jd9 H1 a) a:=by
  refine⟨?_,jhg,Ol (nloc _ I1.free),λx c e=>nloc c (I1.freeC x c e),λp hp=>nloc _ (I1.pin p hp).2.1,λhb=>nloc a (I1.stkFree a hb) rfl⟩
  cases e1:X.s₀.heap.get? a with
  |none=>rfl
  |some o =>
   have:=I1.base.free a o e1 n0 (by rw[hx];simp)
   rw[ea]at this;cases this
 have hE:X.xe (.ref a) s1:=l pins σ (jd9 H1 a) s1 a C dx none I2 ⟨own,_,_,eo,rfl⟩ (.inl rfl) q
 have inB:(Value.ref C::.ref D'::bmVE).contains (.type "BaseException")=true:=by simp
 obtain⟨hp,g,d,tk,os⟩:=s1
 repeat (first|with_reducible refine A4 eo ?_|with_reducible refine A4 hC ?_|(with_reducible refine O3 hC ?_;rw[inB])|wp_step)
 exact wpAny_raiseNew_none hh hE
end
def excW(a C:Addr)(dx:Option Addr)(h:Heap):Prop:=∃vs sl,h.get? a=some ⟨.ref C,dx,.fields vs,sl⟩
def ExW(a C:Addr)(dx:Option Addr):HO:=.ext (excW a C dx)
theorem js8{P:Program}{w:World}{H:Hp}{h:Heap}{a C:Addr}{dx:Option Addr}{vs:Array Value}{sl:Array (Option Value)}(e:h.get? a=some ⟨.ref C,dx,.fields vs,sl⟩):ObjOk P w H h a (ExW a C dx) :=
 ⟨⟨vs,sl,e⟩,⟨_,e⟩,λh1 h2 ⟨v,l,e1⟩ k=>⟨v,l,k _ e1⟩⟩
section
variable{X:Cx}{pins:List (Addr×Obj)}{σ:St}{H H':Hp}{s:Shared}{a C D N:Addr}{dx:Option Addr}{A':Around}
theorem Inv.track(I:Inv X pins σ H s)(o:Own X pins H a){vs:Array Value}{sl:Array (Option Value)}(e:s.heap.get? a=some ⟨.ref C,dx,.fields vs,sl⟩):Inv X pins σ (upd H a (ExW a C dx)) s:=by
 have nn:∀b,b≠a->H b=none->upd H a (ExW a C dx) b=none:=λb h n=>by rw[jf h];exact n
 have tr:∀b u,H b=some u->upd H a (ExW a C dx) b=some u:=λb u q=>by rw[jf (jl q o.free)];exact q
 refine⟨I.ok,I.os,I.bare,⟨I.base.keep,I.base.slot,λb ob q n hx=>nn b (λz=>by subst z;rw[o.new]at q;cases q) (I.base.free b ob q n hx),I.base.there,λb xs q=>tr _ _ (I.base.tups b xs q),λb ob u q=>tr _ _ (I.base.frzs b ob u q),λb ps q=>?_⟩,I.loc,I.cell,nn _ (Ol o.loc) I.free,λx c q=>nn c (o.cell x c q) (I.freeC x c q),λp hp=>?_,λb u q=>?_,I.len⟩
 ·obtain⟨more,e1⟩:=I.base.tbls b ps q
  exact⟨more,tr _ _ e1⟩
 ·obtain⟨e1,n,r⟩:=I.pin p hp
  exact⟨e1,nn _ (o.pin p hp) n,r⟩
 ·by_cases hb:b=a
  ·subst hb
   rw[je]at q
   cases q
   exact js8 e
  ·rw[jf hb]at q
   exact(I.hok b u q).stay (λ_ _ _ z=>z) (λc z=>tr _ _ z) λc xs z=>tr _ _ z
abbrev Cx.late(X:Cx)(A':Around):Cx:={X with A:=A',calm:=false}
theorem Cx.Ok.late(ok:X.Ok)(hA:A'.frames=X.A.frames):(X.late A').Ok :=
 ⟨ok.mod,ok.kind,ok.glob,ok.blt,ok.above,ok.inj,ok.has,ok.cab,λz=>(nomatch z),hA.trans ok.frames,ok.stk,ok.exf,ok.bs,ok.bsz,ok.noex,ok.exfs,ok.funs,ok.frf⟩
theorem Inv.late(I:Inv X pins σ H s)(hA:A'.frames=X.A.frames):Inv (X.late A') pins σ H s:=⟨I.ok.late hA,I.os,I.bare,I.base,I.loc,I.cell,I.free,I.freeC,I.pin,I.hok,I.len⟩
theorem Inv.unlate(ok:X.Ok)(I:Inv (X.late A') pins σ H s):Inv X pins σ H s:=⟨ok,I.os,I.bare,I.base,I.loc,I.cell,I.free,I.freeC,I.pin,I.hok,I.len⟩
def XT(K:PySem.W.Frag)(T:Addr):Prop:=∃nm q N bs bm hd sn sub ab col dd k0 k1 k2 k3 k5 nid,K.lookup T=some (excClassObj nm q T N bs bm hd sn sub ab col dd k0 k1 k2 k3 k5 nid)/\bm.contains (.type "BaseException")=true
def hdl(K:PySem.W.Frag)(T:Addr)(j:Nat)(ts:TS)(En:Ends)(σ:St):XK:=λc dx H=>∃C D N,c=.ref C/\XC K C D N/\(T=D\/T=C) /\
 ∀a,H a=none->ts {nx:=λσ' H'=>En.nx (σ'.set j none) H',rt:=En.rt} (σ.set j (some (.ref a))) (upd H a (ExW a C dx))
theorem Inv.goes{E:Value->Shared->Prop}{M:Model}{A:Around}{j:Nat}{n:Str}{pos:Pos}{Q:Unit->Shared->Prop}(I:Inv X pins σ H s)(hN:X.N.Nodup)(hj:X.N[j]?=some n)(hl:X.env.scope.names.lookup n=some .local)
  (q:∀s',Inv X pins (σ.set j none) H s'->Q () s'):wpAny M A (do bindName X.env n .none;unbindBehindTheSuite X.env n pos) Q E s:=by
 obtain⟨m,hn,hlk⟩:=I.loc
 refine wpAny_nameGoes_keeps hl hn (by rw[I.ok.kind];rfl) λh' v hn' hs=>q _ ?_
 have oth:∀b,b≠X.env.locals->h'.get? b=s.heap.get? b:=λb hb=>hs.2 b hb
 have old:∀b o,X.s₀.heap.get? b=some o->b≠X.env.locals:=λb o e=>Ar (Aw (Ai e) I.ok.above)
 refine⟨I.ok,I.os,I.bare,⟨λb o e n' hb hx=>(oth b (old b o e)).trans (I.base.keep b o e n' hb hx),λb o e n' hb hx=>?_,I.base.free,λb o e hx=>?_,I.base.tups,I.base.frzs,I.base.tbls⟩,⟨_,hn',λi x u e1 e2 e3=>?_⟩,λx c e=>?_,I.free,I.freeC,λp hp=>?_,λb u e=>?_,by simpa using I.len⟩
 ·obtain⟨sl,z⟩:=I.base.slot b o e n' hb hx
  exact⟨sl,(oth b (old b o e)).trans z⟩
 ·obtain⟨o',z⟩:=I.base.there b o e hx
  exact⟨o',(oth b (old b o e)).trans z⟩
 ·have hij:i≠j:=λz=>by
   subst z
   rw[List.getElem?_set]at e2
   simp at e2
  rw[W0 (Ol hij)]at e2
  obtain⟨u',r,l⟩:=hlk i x u e1 e2 e3
  refine⟨u',r,?_⟩
  rcases l with⟨k,z⟩|⟨k,c,e,z⟩
  ·refine .inl ⟨k,?_⟩
   have:x≠n:=λz=>hij (jg4 hN e1 (z▸hj))
   simp[this,z]
  ·exact .inr ⟨k,c,e,z.sameBut hs (I.cne x c e)⟩
 ·obtain⟨w',z⟩:=I.cell x c e
  exact⟨w',z.sameBut hs (I.cne x c e)⟩
 ·obtain⟨e,n',ne,nf,d⟩:=I.pin p hp
  exact⟨(oth p.1 ne).trans e,n',ne,nf,d⟩
 ·refine(I.hok b u e).stay (λc v hc z=>(oth c ?_).trans z) (λ_ z=>z) λ_ _ z=>z
  rintro rfl
  rcases hc with rfl|hc
  ·rw[I.free]at e;cases e
  ·rw[I.free]at hc;cases hc
theorem jq7{T:Addr}{j:Nat}{n tn:Str}{p5 p6 p7:Pos}{body suite:List Stmt}{b₀:Stmt}{ts:TS}{En:Ends}{σ₀:St}(hs:X.stack=X.env::X.outer/\X.env.frame=some X.env.locals)(hx:X.ex=[])(hxe:∀e s,¬X.xe e s)(hN:X.N.Nodup)(hj:X.N[j]?=some n)(hl:X.env.scope.names.lookup n=some .local)
  (xt:XT X.K T) (hg:Gl X tn) (hm:X.mg tn=some (.ref T)) (hd:(tn == ("__debug__":Str))=false) (hst:∀A',A'.frames=X.A.frames->A'.depth=X.A.depth->A'.units=X.A.units->A'.guards=X.A.guards->PSs (X.late A') (b₀::suite) ts) (I:Inv X pins σ₀ H s)
  (hb:wpAny (model X.prog X.w) X.A (execs body X.env) (SP X pins En) (λe s'=>∃a C dx H' σ,e=.ref a/\Inv X pins σ H' s'/\FlS X pins H' s'.heap a C dx (some .none)/\hdl X.K T j ts En σ (.ref C) dx H') s) :
  wpAny (model X.prog X.w) X.A (exec (.Try body [.ExceptHandler (some (.Name tn p5)) (some n) (b₀::suite) p6] [] [] p7) X.env) (SP X pins En) X.xe s:=by
 refine wpAny_Try_except (Iy hb (λf s1 q=>?_) λe s1 ⟨a,C,dx,H1,σ,ee,I1,f1,C',D,N,ec,c,ht,q⟩=>?_)
 ·cases f with
  |next=>exact Uu q
  |ret v=>exact q
  |brk=>exact q
  |cont=>exact q
 subst ee
 cases ec
 refine jnm I1 rfl hs hx f1 (.inr rfl) λs2 I2 f2=>land I2 f2 λs3 I3 f3=>?_
 have fr:∀h:Option Value,(X.A.mark h).frames=X.A.frames:=λh=>rfl
 have I3':=I3.late (A':=X.A.mark (some (.ref a))) (fr _)
 refine wpAny_handleBy_cons (codeAny_handlers_test (jed (X:=X.late (X.A.mark (some (.ref a)))) I3' hg hm ?_ hd)) (by intro z;cases z)
 obtain⟨nm,qn,bs,sn,sub,ab,col,dd,k0,k1,k2,k3,k5,lk⟩:=c.sh
 obtain⟨nm',q',N',bs',bm',hd',sn',sub',ab',col',dd',j0,j1,j2,j3,j5,nid',lkT,hbT⟩:=xt
 obtain⟨own,vs,sl,ea,r3⟩:=f3
 have hC:=I3.kIn _ _ lk
 have hT:=I3.kIn _ _ lkT
 have hin:(Value.ref C::.ref D::bmVE).contains (.ref T)=true:=by rcases ht with rfl|rfl <;> simp
 obtain⟨hh,g,d,tk,os⟩:=s3
 refine jmm hC hT ea rfl (by rw[Uw,hbT,W9]) hin (codeAny_handlers_suite_as ?_)
 refine land I3 ⟨own,vs,sl,ea,r3⟩ λs4 I4 f4=>?_
 obtain⟨own4,vs4,sl4,ea4,r4⟩:=f4
 have I5:=(I4.track own4 ea4).late (A':=X.A.mark (some (.ref a))) (fr _)
 refine jew (X:=X.late (X.A.mark (some (.ref a)))) I5 hN hj (.inl hl) (v:=.ref a) rfl (λs5 I6=>?_) (.inr hl)
 refine Iy (hst _ (fr _) rfl rfl rfl pins s5 _ _ _ I6 (q a own4.free)) (λf s6 z=>?_) λe s6 z=>absurd z (hxe e s6)
 show wpAny _ _ (do bindName X.env n .none;unbindBehindTheSuite X.env n p6) _ _ _
 cases f with
 |next =>
  obtain⟨σ',H',I7,q7⟩:=z
  exact(I7.unlate I.ok).goes hN hj hl λs7 I8=>⟨_,_,I8,q7⟩
 |ret v =>
  obtain⟨v',σ',H',I7,rv,q7⟩:=z
  exact(I7.unlate I.ok).goes hN hj hl λs7 I8=>⟨v',_,_,I8,rv,q7⟩
 |brk =>
  obtain⟨σ',H',I7,q7⟩:=z
  exact q7.elim
 |cont =>
  obtain⟨σ',H',I7,q7⟩:=z
  exact q7.elim
theorem call_at{k:Nat}{f:Addr}{fd:FuncData}{ps:List Str}{sp:Sp}{dvs:List V}{ds:List Value}{EK:XK}{x:Str}{p pos:Pos}{e:Expr}{es:List Expr}{t:TA}{Q:VK}{E':Value->Shared->Prop}(F:FnOk X.prog X.w X.K X.mg X.base (CXE X.prog X.w) k f fd ps sp)(hr:Room k X.A)(hg:Gl X x)(hm:X.mg x=some (.ref f))(hk:PySem.W.keepIn X.K (.ref f)=true)(hb:Binds X.K fd ps ds)(hd:Vals dvs ds)
  (ha:PA X (e::es) t) (hx:X.ex=[]) (hxe:∀e s,¬X.xe e s) (I:Inv X pins σ H s) (h:t σ H λvs H1=>sp (vs++dvs) H1 Q EK)
  (hE:∀a C dx H' s',Inv X pins σ H' s'->FlS X pins H' s'.heap a C dx (some .none)->EK (.ref C) dx H'->E' (.ref a) s')
  (hdb:(x == ("__debug__":Str))=false:=by decide) (he:starEach (e::es) X.env=(false,eval e X.env)::starEach es X.env:=by rfl) (hpl:(backTo pos (starEach es X.env)).any (·.1)=false:=by rfl) :
  wpAny (model X.prog X.w) X.A (eval (.Call (.Name x p) (e::es) [] pos) X.env) (EP X pins σ Q) E' s:=by
 refine Ir (jed I hg hm ?_ hdb)
 refine Ox (h₀:=X.base) I.ok.mod.kin hk (Iy (ha pos pins s σ H _ I h) (λus s1 ⟨vs,H1,I1,r,q⟩=>⟨I1.kIn,?_⟩) λe s z=>absurd z (hxe e s)) he hpl
 have r2:Vals (vs++dvs) (us++ds):=r.append hd
 have hl:(us++ds).length=ps.length:=by rw[<-r2.length];exact F.len _ _ _ _ q
 refine Wl (U2 (F.run X.A X.stack s1 H1 ⟨us,[]⟩ (us++ds) (vs++dvs) Q EK hr I1.env0 (hb s1 us I1.kIn hl) r2 q) λr s' hq=>?_)
 cases r with
 |error e =>
  obtain⟨a,C,dx,H',rfl,I',f',hE'⟩:=jri (H1:=H1) I1 rfl rfl hx hq
  exact hE a C dx H' s' I' f' hE'
 |ok fl =>
  cases fl with
  |ret u=>exact I1.after hq
  |next=>exact False.elim hq
  |brk=>exact False.elim hq
  |cont=>exact False.elim hq
end
section
variable{P:Program}{w:World}{K:PySem.W.Frag}{mg:Str->Option Value}{base:Heap}
theorem Fun.okE{x qual:Str}{st:Stmt}{f:Addr}{fd:FuncData}{N ps:List Str}{k:Nat}{sp:Sp}(F:Fun K x qual st f fd)(S:FnScope N ps (jk st))(len:∀vs H Q E,sp vs H Q E->vs.length=ps.length)
  (hbody:∀(cdv:Value)(A:Around)(outer:List Env)(s:Shared)(H:Hp)(vs:List V)(Q:VK)(E:XK),Room k (A.deeper (envOfC qual (jk st) s.heap.objs.size f cdv))->sp vs H Q E ->
   ∃t,PSs (cxOf (CXE P w) P w K mg base N qual (jk st) f cdv A outer s H E) (jy st) t/\t {nx:=λ_ H'=>Q .non H',rt:=Q} (start N vs) H):FnOk P w K mg base (CXE P w) (k+1) f fd ps sp:=by
 obtain⟨oc,od,kV,doc,pm,an,cdv,ct,osl,rfl,lk,hcd⟩:=F.ex
 exact jn4 lk hcd S len λA outer s H vs Q E hr hsp=>hbody cdv A outer s H vs Q E hr hsp
end
section
variable{X:Cx}
def ExAtW(H:Hp)(a C:Addr):Prop:=∃dx,H a=some (ExW a C dx)/\∀d,dx=some d->∃fs,H d=some (.xd fs)
theorem ExAtW.inst{pins:List (Addr×Obj)}{σ:St}{H:Hp}{s:Shared}{a C:Addr}(I:Inv X pins σ H s)(e:ExAtW H a C):∃o od,PySem.W.InstAt s.heap a o C od:=by
 obtain⟨dx,ea,ed⟩:=e
 obtain⟨⟨vs,sl,eo⟩,_,_⟩:=(show ObjOk X.prog X.w H s.heap a (ExW a C dx)from I.hok a _ ea)
 cases dx with
 |none=>exact⟨_,none,eo,rfl,rfl,True.intro⟩
 |some d =>
  obtain⟨fs,e⟩:=ed d rfl
  obtain⟨mA,⟨od,es,ep,h1,_⟩,_⟩:=(show ObjOk X.prog X.w H s.heap d (.xd fs)from I.hok d _ e)
  exact⟨_,some od,eo,rfl,rfl,h1⟩
def jiz(H:Hp)(c:Addr)(cs:List Addr):Prop:=H c=some (.tup (cs.map V.ref))
def rIsW(K:PySem.W.Frag):List V->Hp->VK->Prop:=λxs H Q=>match xs with
 |[.ref a,.ty n]=>∃C D N b,ExAtW H a C/\XC K C D N/\XI K C/\PySem.W.kitOne K (.ref C) (.type n)=some b/\Q (.bl b) H
 |[.ref a,.ref c]=>∃C D N b,ExAtW H a C/\XC K C D N/\XI K C/\(PySem.W.kitOne K (.ref C) (.ref c)=some b\/∃cs,jiz H c cs/\PySem.W.kitAny K (.ref C) (cs.map Value.ref)=some b)/\Q (.bl b) H
 |_=>False
theorem jnd(K:PySem.W.Frag)(a:Addr)(n:String)(H:Hp)(Q:VK):rIsW K [.ref a,.ty n] H Q=(∃C D N b,ExAtW H a C/\XC K C D N/\XI K C/\PySem.W.kitOne K (.ref C) (.type n)=some b/\Q (.bl b) H):=rfl
theorem jlp(K:PySem.W.Frag)(a c:Addr)(H:Hp)(Q:VK):rIsW K [.ref a,.ref c] H Q=(∃C D N b,ExAtW H a C/\XC K C D N/\XI K C/\(PySem.W.kitOne K (.ref C) (.ref c)=some b\/∃cs,jiz H c cs/\PySem.W.kitAny K (.ref C) (cs.map Value.ref)=some b)/\Q (.bl b) H):=rfl
theorem jj6:∀{cs:List Addr}{us:List Value},Vals (cs.map V.ref) us->us=cs.map Value.ref
 |[],_,.nil=>rfl
 |c::cs,_,.cons r t=>by
  cases r
  rw[jj6 t]
  rfl
theorem jb0{K:PySem.W.Frag}(hK:X.K=K):jdf X (.builtin "isinstance") (rIsW K):=by
 subst hK
 intro pins s σ H xs us Q I r h
 unfold rIsW at h
 split at h
 ·rename_i a n
  obtain⟨C,D,N,b,ea,c,xi,e,q⟩:=h
  obtain⟨u,w',rfl,rx,rc⟩:=jgr r
  cases rx
  cases rc
  exact Iu (jg2 c xi) I.kIn (ea.inst I) e (λz=>nomatch z) λtk=>⟨.bl b,H,I.tok tk,rfl,q⟩
 ·rename_i a n
  obtain⟨C,D,N,b,ea,c,xi,e,q⟩:=h
  obtain⟨u,w',rfl,rx,rc⟩:=jgr r
  cases rx
  cases rc
  rcases e with e|⟨cs,et,e⟩
  ·exact Iu (jg2 c xi) I.kIn (ea.inst I) e (λz=>nomatch z) λtk=>⟨.bl b,H,I.tok tk,rfl,q⟩
  ·obtain⟨its,r1,p1,_⟩:=I.tuple (SqT.of et)
   obtain⟨⟨cl,dd,data,sl⟩,ho,hc,n',hd⟩:=id p1
   simp only at hc hd
   subst hc hd
   rw[jj6 r1]at ho
   exact PySem.W.kia_tup (jg2 c xi) I.kIn (ea.inst I) ho e (λz=>nomatch z) λtk=>⟨.bl b,H,I.tok tk,rfl,q⟩
 ·exact h.elim
def jfr(K:PySem.W.Frag)(ta:TE)(f:Str):TE:=λσ H Q=>ta σ H λx H1=>∃a C D N dx fs v,x=.ref a/\H1 a=some (ExW a C (some dx))/\H1 dx=some (.xd fs)/\XC K C D N/\PySem.W.findIn K (.ref C) f=some none/\fs.lookup f=some v/\Q v H1
theorem pe_excFldW{e:Expr}{f:Str}{pos:Pos}{ta:TE}(he:PE X e ta)(hb:attributeBase e f X.env (eval e X.env)=eval e X.env):PE X (.Attribute e f pos) (jfr X.K ta f):=by
 intro pins s σ H Q I h
 refine jmt hb (thn (he pins s σ H _ I h) λu s1 ⟨x,H1,I1,rx,a,C,D,N,dx,fs,v,ex,ea,ed,c,nf,l,q⟩=>?_)
 subst ex
 obtain rfl:u=Value.ref a:=rx
 obtain⟨nm,qn,bs,sn,sub,ab,col,dd,k0,k1,k2,k3,k5,lk⟩:=c.sh
 have hC:=I1.kIn _ _ lk
 obtain⟨⟨vs,sl,eo⟩,_,_⟩:=(show ObjOk X.prog X.w H1 s1.heap a (ExW a C (some dx))from I1.hok a _ ea)
 obtain⟨mA,hns,hr⟩:=(show ObjOk X.prog X.w H1 s1.heap dx (.xd fs)from I1.hok dx _ ed)
 obtain⟨u',hu,ru⟩:=RelO.some_of (v:=v) (o:=mA f) (by rw[<-l];exact hr f)
 have F1:=Finds.of (M:=model X.prog X.w) I1.kIn c.ga
 have F2:=Finds.of (M:=model X.prog X.w) I1.kIn c.gx
 have F3:=Finds.of (M:=model X.prog X.w) I1.kIn nf
 have ho:=PySem.W.handedOut_of (jjc ru)
 obtain⟨hh,g,d,tk,os⟩:=s1
 exact jmk (by decide) hC F1 F2 F3 eo rfl (λc e=>by cases e) rfl hns hu ho λtk'=>⟨v,H1,I1.tok _,ru,q⟩
end
section
variable{X:Cx}
theorem jnt(K:PySem.W.Frag)(z:Str)(H:Hp):tyV K "str" (.str z) H=True:=by simp[tyV]
theorem jcp{e:Expr}{te:TE}{pos:Pos}{E:XK}{K:PySem.W.Frag}(hK:X.K=K)(hc:X.calm=true)(hx:X.ex=[])(l:Leaves X E)(he:QE X e te):QS X (.Raise (some e) none pos) (jia K X.H₀ E te):=by subst hK;exact⟨ps_raise hc hx l he.h⟩
theorem jba{e:Expr}{f:Str}{pos:Pos}{ta:TE}{K:PySem.W.Frag}(hK:X.K=K)(he:QE X e ta)(hb:attributeBase e f X.env (eval e X.env)=eval e X.env):QE X (.Attribute e f pos) (jfr K ta f):=by subst hK;exact⟨pe_excFldW he.h hb⟩
end
section
variable{prog:Program}{w:World}{A:Around}{E:Value->Shared->Prop}{s:Shared}
theorem jme{h:Heap}{g:Array GenState}{d:Drawn}{t:Nat}{os:OsState}{it a:Addr}{i:Nat}{vs:Array Value}{u:Value}{Q:Value->Shared->Prop}(hi:h.IsTupleIter it a i)(ha:h.IsTuple a vs)(hu:vs[i]?=some u)
  (q:∀h',h'.IsTupleIter it a (i+1)->Heap.SameBut it h h'->Q u ⟨h',g,d,t,os⟩):wpAny (model prog w) A (Builtin.SmallTypes.nextOf (.ref it)) Q E ⟨h,g,d,t,os⟩:=by
 obtain⟨⟨ci,di,dti,si⟩,e1,c1,d1⟩:=id hi
 obtain⟨⟨ca,da,dta,sa⟩,e2,c2,n2,d2⟩:=ha
 dsimp only at c1 d1 c2 d2
 subst c1 d1 c2 d2
 have sl:=PySem.F.slot_tuple_iterator_next
 have hT:(⟨h,g,d,t,os⟩:Shared).TypeIs (.ref it) "tuple_iterator":=hi.typeIs
 have fin:=q _ ⟨_,Oc (Obj.mapFields (·.setIfInBounds 1 (rawInt (i+1)))) e1 rfl,rfl,by simp[Obj.mapFields,rawInt]⟩ (.update ..)
 refine Ad (Wo hT sl (wpAny_call_entry sl hT Ww ?_ (Wp _)))
 unfold Builtin.«tuple_iterator.__next__»
 repeat (any_goals (first|assumption|with_reducible refine A4 e1 ?_|with_reducible refine A4 e2 ?_|wp_step))
 have e3:vs[((i:Nat):Int).toNat]?=some u:=hu
 rw[e3]
 exact Ad (U4 e1 rfl (by simp) (Am ⟨u,rfl,Am fin⟩))
theorem jmq{h:Heap}{g:Array GenState}{d:Drawn}{t:Nat}{os:OsState}{it a:Addr}{i:Nat}{vs:Array Value}{Q:Value->Shared->Prop}(hh:A.handled=none)(hi:h.IsTupleIter it a i)(ha:h.IsTuple a vs)(hu:vs[i]?=none)
  (q:∀h' e,Heap.ExtBut it h h'->(∃o,h'.get? e=some o/\o.cls=.type "StopIteration")->E (.ref e) ⟨h',g,d,t,os⟩):wpAny (model prog w) A (Builtin.SmallTypes.nextOf (.ref it)) Q E ⟨h,g,d,t,os⟩:=by
 obtain⟨⟨ci,di,dti,si⟩,e1,c1,d1⟩:=id hi
 obtain⟨⟨ca,da,dta,sa⟩,e2,c2,n2,d2⟩:=ha
 dsimp only at c1 d1 c2 d2
 subst c1 d1 c2 d2
 have sl:=PySem.F.slot_tuple_iterator_next
 have hT:(⟨h,g,d,t,os⟩:Shared).TypeIs (.ref it) "tuple_iterator":=hi.typeIs
 have h1:A.in1.handled=none:=hh
 refine Ad (Wo hT sl (wpAny_call_entry sl hT Ww ?_ (Wp _)))
 unfold Builtin.«tuple_iterator.__next__»
 repeat (any_goals (first|assumption|with_reducible refine A4 e1 ?_|with_reducible refine A4 e2 ?_|wp_step))
 have e3:vs[((i:Nat):Int).toNat]?=none:=hu
 rw[e3]
 refine Ad (wpAny_rule (Ad (U4 e1 rfl (by simp) ?_)))
 unfold Builtin.SmallTypes.stopIteration
 have fm:firstArgMember (.type "StopIteration") []=pure .none:=rfl
 unfold newExc
 repeat (any_goals (first|assumption|rw[fm]|wp_step))
 exact wpAny_raiseNew_none h1 (q _ _ (((Yb ..).extBut.push _).push _) ⟨_,At _ rfl,rfl⟩)
theorem jo2(hh:A.handled=none)(it a:Addr)(ne:a≠it)(vs:Array Value):Draws prog w A it [it,a] vs.size (λi v=>vs[i]?=some v) (λi h=>h.IsTupleIter it a i/\h.IsTuple a vs) where
 live:=λ_ _ st=>let⟨o,ho,_⟩:=st.1;⟨o,ho⟩
 frame:=λ_ _ _ st hk=>by
  obtain⟨⟨o,ho,r⟩,⟨o2,ho2,r2⟩⟩:=st
  exact⟨⟨o,hk it (by simp) o ho,r⟩,⟨o2,hk a (by simp) o2 ho2,r2⟩⟩
 item:=λi s Q E hi st hQ=>by
  obtain⟨hp,g,d,t,os⟩:=s
  obtain⟨o2,ho2,r2⟩:=st.2
  exact jme st.1 st.2 (u:=vs[i]) (by simp[hi]) λh' hit' hs'=>hQ _ h' t (by simp[hi]) ⟨hit',⟨o2,(hs'.2 a ne).trans ho2,r2⟩⟩ hs'
 done:=λs Q E st hE=>by
  obtain⟨hp,g,d,t,os⟩:=s
  exact jmq hh st.1 st.2 (by simp) hE
open AutoSeq1 (wpAny_loadPart')in
theorem jo4(a:Addr)(vs:Array Value)(n:Nat)(dct:Option Addr)(sl:Array (Option Value)) :
  Meets (Builtin.«enumerate.__new__» ⟨[.type "enumerate",.ref a],[]⟩) (λ_ R s=>s.heap.get? a=some ⟨.type "tuple",dct,.seq vs n,sl⟩ /\
   R (.ok (.ret (.ref (s.heap.push {cls:=.type "tuple_iterator",data:=.fields #[.ref a,.int 0 0]}).objs.size)))
    {s with heap:=(s.heap.push {cls:=.type "tuple_iterator",data:=.fields #[.ref a,.int 0 0]}).push {cls:=.type "enumerate",data:=.fields #[.none,.bool false,.ref s.heap.objs.size,rawInt 0,.none,.none]}}) :=
 .of_wp λprog w A R s h=>by
  obtain⟨hp,g,d,tk,os⟩:=s;obtain⟨ha,h⟩:=h
  have hsb:=sub_enumerate
  have hT:Heap.IsTuple (Shared.heap ⟨hp,g,d,tk,os⟩) a vs:=⟨_,ha,rfl,n,rfl⟩
  wp_walk using Uv ha
  refine wpAny_stack_any λk=>Am ?_
  split <;> (try (rename_i c _ _ _ _ _;generalize(c == Value.type "enumerate")=b;cases b)) <;> (wp_walk using Uv ha,wpAny_pyIter_tuple hT) <;> exact⟨_,rfl,h⟩
theorem call_enumT{a:Addr}{vs:Array Value}{Q:Value->Shared->Prop}(ht:s.heap.IsTuple a vs)
  (q:∀h',IsEnum h' (s.heap.objs.size+1) s.heap.objs.size 0 .none->h'.IsTupleIter s.heap.objs.size a 0->(∀b o,s.heap.get? b=some o->h'.get? b=some o)->Q (.ref (s.heap.objs.size+1)) {s with heap:=h'}) :
  wpAny (model prog w) A (call (.type "enumerate") [.ref a]) Q E s:=by
 obtain⟨⟨c,dct,dt,sl⟩,ha,hc,n,hd⟩:=ht
 dsimp only at hc hd
 subst hc hd
 refine callType_new PySem.F.called_enumerate (by decide) (PySem.F.typeCall_enumerate_1 _) (PySem.F.newCall_enumerate_1 _) (λobj=>PySem.F.args_object_init_2 obj _) PySem.F.entry_enumerate_new (jo4 a vs n dct sl) ⟨ha,?_⟩
 have hz:(s.heap.push {cls:=.type "tuple_iterator",data:=.fields #[.ref a,.int 0 0]}).objs.size=s.heap.objs.size+1:=Heap.size_push ..
 have he:IsEnum ((s.heap.push {cls:=.type "tuple_iterator",data:=.fields #[.ref a,.int 0 0]}).push {cls:=.type "enumerate",data:=.fields #[.none,.bool false,.ref s.heap.objs.size,rawInt 0,.none,.none]}) (s.heap.objs.size+1) s.heap.objs.size 0 .none:=by
  have e:=At (s.heap.push {cls:=.type "tuple_iterator",data:=.fields #[.ref a,.int 0 0]}) (o:={cls:=.type "enumerate",data:=.fields #[.none,.bool false,.ref s.heap.objs.size,rawInt 0,.none,.none]}) rfl
  rw[hz]at e;exact e
 show _/\_
 rw[hz]
 exact⟨⟨_,he,rfl⟩,q _ he ⟨_,Ac _ (At _ rfl),rfl,rfl⟩ λb o x=>Ac _ (Ac _ x)⟩
end
def ItE(K:PySem.W.Frag)(a:Addr):It:=⟨λi H=>∃xs x,SqT K H a xs/\xs[i]?=some x,λi H x H'=>∃T y,H T=none/\x=.ref T/\(∀xs,SqT K H a xs->xs[i]?=some y)/\H'=upd H T (.tup [.int (i:Int),y]),λi H=>∃xs,SqT K H a xs/\xs.length=i⟩
theorem jom{P:Program}{w:World}{K:PySem.W.Frag}{elts:List Expr}{kk:Nat}{pos:Pos}(a e it:Addr)(ne:e≠it):Turn P w K (.Tuple elts kk pos) (ItE K a) [e,it] e (λi h=>(∃old,IsEnum h e it i old)/\h.IsTupleIter it a i) where
 mem:=by simp
 obj:=λi h st b hb=>by
  obtain⟨⟨old,he⟩,⟨o,ho,hc,hd⟩⟩:=st
  rcases Al.mp hb with rfl|hb
  ·exact⟨_,he,λv z=>by cases z⟩
  ·rw[Ao.mp hb]
   exact⟨o,ho,λv z=>by rw[hd]at z;cases z⟩
 keep:=λi h h' st k=>by
  obtain⟨⟨old,he⟩,⟨o,ho,r⟩⟩:=st
  exact⟨⟨old,k e (by simp) _ he⟩,⟨o,k it (by simp) o ho,r⟩⟩
 item:=by
  intro X hP hw hK hc i pins s σ H E I hf st hg
  subst hP hw hK
  obtain⟨xs,x,hq,hx⟩:=hg
  obtain⟨its,rv,p,hz⟩:=I.tuple hq
  obtain⟨u,hu,ru⟩:=rv.get hx
  have fr:∀b∈[e,it],b≠a:=λb hb z=>by
   subst z
   obtain⟨o,eo,hcl⟩:∃o,s.heap.get? b=some o/\o.cls≠.type "tuple":=by
    obtain⟨⟨old,he⟩,⟨o,ho,hc',hd⟩⟩:=st
    rcases Al.mp hb with rfl|hb
    ·exact⟨_,he,by simp⟩
    ·rw[Ao.mp hb]
     exact⟨o,ho,by rw[hc'];simp⟩
   obtain⟨o2,ho2,hc2,_⟩:=p
   rw[eo]at ho2
   cases ho2
   exact hcl hc2
  have WA:=Wq (jo2 (prog:=X.prog) (w:=X.w) (A:=X.A.in1) (show X.A.in1.handled=none from I.ok.hd hc) it a (fr it (by simp)).symm its.toArray) e ne (by simp[ne,fr e (by simp)]) (by simp)
  have hlt:i<its.toArray.size:=by
   rw[Aj]
   exact(Ab.mp hu).1
  refine WA.item i s _ _ hlt ⟨st.1,st.2,p⟩ λT vs h' tk hp hT htup mid kk'=>⟨_,rfl,?_⟩
  have nTw:=WA.apart _ _ _ mid
  refine WA.go _ _ _ i T {s with heap:=h',toks:=tk} _ _ mid λh'' st'' k''=>?_
  have tup':IsTup h'' T vs:=by
   obtain⟨o,eo,r⟩:=htup
   exact⟨o,k'' T o nTw eo,r⟩
  have hv:Vals [V.int (i:Int),x] vs.toList:=by
   obtain⟨t',u',hu',rfl⟩:=hp
   rw[show its.toArray[i]?=some u from by simpa using hu]at hu'
   cases hu'
   exact .cons ⟨t',rfl⟩ (.cons ru .nil)
  refine⟨.ref T,upd H T (.tup [.int (i:Int),x]),?_,rfl,⟨T,x,I.hok.fresh hT,rfl,λys hy=>by rw[I.tuple_inj hy hq];exact hx,rfl⟩,⟨st''.1,st''.2.1⟩,λb hb=>?_⟩
  ·refine I.turnedNew (fp:=[e,it]) (wr:=[e,it]) hf (λb o hb eo=>k'' b o hb (kk' b o hb eo)) hT (by simpa using tup') hv (by show 2<=sizeLine;decide) λb hb=>?_
   obtain⟨⟨old,he⟩,⟨⟨o,ho,_⟩,_⟩⟩:=st''
   rcases Al.mp hb with rfl|hb
   ·exact⟨_,he⟩
   ·rw[Ao.mp hb];exact⟨o,ho⟩
  ·have hlt:b<s.heap.objs.size:=by
    obtain⟨⟨old,he⟩,⟨o,ho,_⟩⟩:=st
    rcases Al.mp hb with rfl|hb
    ·exact Ai he
    ·rw[Ao.mp hb];exact Ai ho
   rw[jf (Ar (Aw hlt hT))]
   exact(hf b hb).1
 done:=by
  intro X hP hw hK hc i pins s σ H E I hf st hg
  subst hP hw hK
  obtain⟨xs,hq,hi⟩:=hg
  obtain⟨its,rv,p,hz⟩:=I.tuple hq
  have fr:∀b∈[e,it],b≠a:=λb hb z=>by
   subst z
   obtain⟨o,eo,hcl⟩:∃o,s.heap.get? b=some o/\o.cls≠.type "tuple":=by
    obtain⟨⟨old,he⟩,⟨o,ho,hc',hd⟩⟩:=st
    rcases Al.mp hb with rfl|hb
    ·exact⟨_,he,by simp⟩
    ·rw[Ao.mp hb]
     exact⟨o,ho,by rw[hc'];simp⟩
   obtain⟨o2,ho2,hc2,_⟩:=p
   rw[eo]at ho2
   cases ho2
   exact hcl hc2
  have WA:=Wq (jo2 (prog:=X.prog) (w:=X.w) (A:=X.A.in1) (show X.A.in1.handled=none from I.ok.hd hc) it a (fr it (by simp)).symm its.toArray) e ne (by simp[ne,fr e (by simp)]) (by simp)
  have hn:its.toArray.size=i:=by rw[Aj,<-rv.length];exact hi
  refine WA.done s _ _ (by rw[hn];exact⟨st.1,st.2,p⟩) λh' tk kk'=>⟨rfl,?_⟩
  have nw:∀b u,H b=some u->b∉[e,it]:=λb u eo hb=>by rw[(hf b hb).1]at eo;cases eo
  refine I.step (g':=s.gens) (d':=s.drawn) (ch:=[e,it]) (λb hb=>?_) (λb o _ _ hc e _=>kk' b o hc e) (λb o _ _ hc e _=>⟨o.slots,kk' b o hc e⟩) (λb o hc e n=>n) (λb o hc e=>⟨o,kk' b o hc e⟩)
   (λ_ _ e=>e) (λ_ _ _ e=>e) (λb ps e=>⟨#[],by rw[e];simp⟩) (λm hm=>?_) (λb u e=>?_) I.bare
  ·obtain⟨_,f1,_,f3,f4,f5⟩:=hf b hb
   exact⟨f3,f1,f4,f5⟩
  ·obtain⟨o,es,ep,ho,rr⟩:=hm
   exact⟨o,es,ep,kk' _ o (λz=>(hf _ z).2.1 rfl) ho,rr⟩
  ·refine(I.hok b u e).stay (λd v hd q=>kk' d v ?_ q) (λ_ q=>q) λ_ _ q=>q
   rcases hd with rfl|hd
   ·exact nw _ _ e
   ·exact nw _ _ hd
 self:=λA i s Q E st q=>by
  obtain⟨⟨old,he⟩,_⟩:=st
  exact Ws he q
section
variable{X:Cx}
def jhn(K:PySem.W.Frag)(ta:TA):TI:=λσ H R=>ta σ H λvs H1=>∃a,vs=[.ref a]/\(∃xs,SqT K H1 a xs)/\R (ItE K a) H1
theorem pi_enumT{K:PySem.W.Frag}{a:Expr}{ta:TA}{p pos tpos:Pos}{elts:List Expr}{kk:Nat}(hK:X.K=K)(hg:Gl X "enumerate")(hm:X.mg "enumerate"=none)(ha:PA X [a] ta)(hs:starEach [a] X.env=[(false,eval a X.env)]:=by rfl) :
  PI X (.Tuple elts kk tpos) (.Call (.Name "enumerate" p) [a] [] pos) (jhn K ta):=by
 subst hK
 intro pins s σ H R I h
 refine Call_ (jef I hg hm jbn (Iw (thn (ha pos pins s σ H _ I h) λus s1 ⟨vs,H1,I1,r1,q1⟩=>?_) hs rfl))
 obtain⟨ad,e,⟨xs,hx⟩,q⟩:=q1
 subst e
 obtain⟨u,rfl,ru⟩:=jd5 r1
 cases ru
 obtain⟨its,rv,pt,hz⟩:=I1.tuple hx
 refine call_enumT (vs:=its.toArray) pt λh' he hi hk=>?_
 have I2:Inv X pins σ H1 {s1 with heap:=h'}:=I1.kept (t':=s1.toks) hk
 refine Ws he ⟨s1.heap.objs.size+1,[s1.heap.objs.size+1,s1.heap.objs.size],_,_,H1,rfl,I2,jom ad (s1.heap.objs.size+1) s1.heap.objs.size (Nat.succ_ne_self _),⟨⟨.none,he⟩,hi⟩,λb hb=>?_,q⟩
 have hb':s1.heap.objs.size<=b:=by
  rcases Al.mp hb with rfl|hb
  ·omega
  ·rw[Ao.mp hb];exact Ag _
 exact I1.fpOk (H':=H1) hb' (I1.hok.fresh hb')
theorem qpi_enumT{K:PySem.W.Frag}{a:Expr}{ta:TA}{p pos tpos:Pos}{elts:List Expr}{kk:Nat}(hK:X.K=K)(hg:Gl X "enumerate")(hm:X.mg "enumerate"=none)(ha:QA X [a] ta)(hs:starEach [a] X.env=[(false,eval a X.env)]:=by rfl) :
  QI X (.Tuple elts kk tpos) (.Call (.Name "enumerate" p) [a] [] pos) (jhn K ta):=⟨pi_enumT hK hg hm ha.h hs⟩
end
theorem Inv.walked{X:Cx}{pins:List (Addr×Obj)}{σ:L2.St}{H:Hp}{s:Shared}{h':Heap}{t':Nat}{wr:List Addr}(I:Inv X pins σ H s)(hf:∀b∈wr,FpOk X pins H b)(k:∀b o,b∉wr->s.heap.get? b=some o->h'.get? b=some o) :
  Inv X pins σ H {s with heap:=h',toks:=t'}:=by
 have nw:∀b u,H b=some u->b∉wr:=λb u e hb=>by rw[(hf b hb).1]at e;cases e
 refine I.step (g':=s.gens) (d':=s.drawn) (ch:=wr) (λb hb=>?_) (λb o _ _ hc e _=>k b o hc e) (λb o _ _ hc e _=>⟨o.slots,k b o hc e⟩) (λb o hc e n=>n) (λb o hc e=>⟨o,k b o hc e⟩)
  (λ_ _ e=>e) (λ_ _ _ e=>e) (λb ps e=>⟨#[],by rw[e];simp⟩) (λm hm=>?_) (λb u e=>?_) I.bare
 ·obtain⟨_,f1,_,f3,f4,f5⟩:=hf b hb
  exact⟨f3,f1,f4,f5⟩
 ·obtain⟨o,es,ep,ho,rr⟩:=hm
  exact⟨o,es,ep,k _ o (λz=>(hf _ z).2.1 rfl) ho,rr⟩
 ·refine(I.hok b u e).stay (λd v hd q=>k d v ?_ q) (λ_ q=>q) λ_ _ q=>q
  rcases hd with rfl|hd
  ·exact nw _ _ e
  ·exact nw _ _ hd
section
variable{X:Cx}
def jit:V->List V->Hp->VK->Prop:=λx vs H Q=>match x,vs with
 |.str z,[.str y]=>(y.length == 0)=false/\z.length<=sizeLine/\(Txt.split z y).length<=sizeLine/\∀p,H p=none->Q (.ref p) (upd H p (.lst ((Txt.split z y).map V.str)))
 |_,_=>False
theorem jgw(z y:Str)(H:Hp)(Q:VK):jit (.str z) [.str y] H Q=((y.length == 0)=false/\z.length<=sizeLine/\(Txt.split z y).length<=sizeLine/\∀p,H p=none->Q (.ref p) (upd H p (.lst ((Txt.split z y).map V.str)))):=rfl
theorem jj4:∀(l:List Str)(k:Nat),Vals (l.map V.str) (strsFrom k l)
 |[],_=>.nil
 |x::l,k=>.cons ⟨_,rfl⟩ (jj4 l (k+1))
theorem mt_splitU:MtM X "str.split" jit:=by
 intro pins s σ H x vs v us Q I rx rv h
 unfold jit at h
 split at h
 ·rename_i z y
  obtain⟨hy,hz,hn,q⟩:=h
  obtain⟨t,rfl⟩:=rx
  obtain⟨u,rfl,⟨t',rfl⟩⟩:=rv.one
  have fin:∀(l:List Str)(ws:List Value)(k:Nat),Txt.split z y=l->Vals (l.map V.str) ws->wants (EP X pins σ Q) X.xe (.ok (.ret (.ref s.heap.objs.size))) {s with heap:=s.heap.push {cls:=.type "list",data:=.seq ws.toArray},toks:=k}:=λl ws k e r=>by
   subst e
   exact⟨.ref s.heap.objs.size,upd H s.heap.objs.size (.lst ((Txt.split z y).map V.str)),I.laid (o:=.lst ((Txt.split z y).map V.str)) (t':=k) (λb o e=>Ac _ e) (Ag _) ⟨by rw[Ae];exact hn,ws,0,r,At _ rfl⟩,rfl,q _ (I.hok.fresh (Ag _))⟩
  have one:∀ws,ws=[Value.str z t]->Vals ([z].map V.str) ws:=λws e=>by subst e;exact .cons ⟨t,rfl⟩ .nil
  have road:=fun{S:PySem.Spec} (g:Meets (Builtin.«str.split» ⟨[.str z t,.str y t'],[]⟩) S)=>Wm (prog:=X.prog) (w:=X.w) (A:=X.A) (E:=X.xe) (Q:=EP X pins σ Q) PySem.F.slot_str_split (typeIs_str s z t) PySem.F.entry_str_split (PySem.F.args_str_split_2 _ _) g
  by_cases h1:(decide (z.length<y.length) || decide (Builtin.Str.strKind z<Builtin.Str.strKind y))=true
  ·exact road (meets_str_split_cannot_occur z y t t' h1) (fin [z] _ s.toks (Af h1) (one _ rfl))
  ·by_cases hf:(Builtin.Str.occurrences z y 0 z.length (z.length+1)).isEmpty=true
   ·exact road (meets_str_split_not_found z y t t' (by simpa using h1) hy hf) (fin [z] _ s.toks ((Aa h1).trans (Af hf)) (one _ rfl))
   ·have e:Txt.split z y=Builtin.Str.partsBetween z (Builtin.Str.occurrences z y 0 z.length (z.length+1)) y.length:=(Aa h1).trans (Aa hf)
    exact road (meets_str_split_sep z y t t' (by simpa using h1) hy (by simpa using hf) hz (by rw[<-e];exact hn)) (fin _ _ _ e (jj4 _ _))
 ·exact h.elim
def ItF(a:Addr):It:=⟨λi H=>∃xs x,H a=some (.lst xs)/\xs[i]?=some x,λi H v H'=>∃T x,H T=none/\v=.ref T/\(∀xs,H a=some (.lst xs)->xs[i]?=some x)/\H'=upd H T (.tup [.int (i:Int),x]),λi H=>∃xs,H a=some (.lst xs)/\xs.length=i⟩
theorem jol{P:Program}{w:World}{K:PySem.W.Frag}{elts:List Expr}{kk:Nat}{pos:Pos}(a e it:Addr)(ne:e≠it):Turn P w K (.Tuple elts kk pos) (ItF a) [e,it] e (λi h=>(∃old,IsEnum h e it i old)/\h.IsListIter it a i) where
 mem:=by simp
 obj:=λi h st b hb=>by
  obtain⟨⟨old,he⟩,⟨o,ho,hc,hd⟩⟩:=st
  simp only[Al,Ah,Os]at hb
  rcases hb with rfl|rfl
  ·exact⟨_,he,λv z=>by cases z⟩
  ·exact⟨o,ho,λv z=>by rw[hd]at z;cases z⟩
 keep:=λi h h' st k=>⟨let⟨old,he⟩:=st.1;⟨old,k e (by simp) _ he⟩,let⟨o,ho,r⟩:=st.2;⟨o,k it (by simp) o ho,r⟩⟩
 item:=by
  intro X hP hw hK hc i pins s σ H E I hf st hg
  subst hP hw hK
  obtain⟨xs,x,hq,hx⟩:=hg
  obtain⟨its,rv,p,_⟩:=I.list (SqL.of hq)
  obtain⟨u,hu,ru⟩:=rv.get hx
  have fr:∀b∈[e,it],b≠a:=λb hb z=>by rw[z]at hb;rw[(hf a hb).1]at hq;cases hq
  have W:=Wq (Draws.list (prog:=X.prog) (w:=X.w) (A:=X.A.in1) (show X.A.in1.handled=none from I.ok.hd hc) it a (fr it (by simp)).symm its.toArray) e ne (by simp[ne,fr e (by simp)]) (by simp)
  have hlt:i<its.toArray.size:=by rw[Aj];exact(Ab.mp hu).1
  refine W.item i s _ _ hlt ⟨st.1,st.2,p.isList⟩ λT vs h' tk hp hT htup mid kk'=>⟨_,rfl,?_⟩
  have nT:=W.apart _ _ _ mid
  refine W.go _ _ _ i T {s with heap:=h',toks:=tk} _ _ mid λh'' st'' k''=>?_
  have tup':IsTup h'' T vs:=let⟨o,eo,r⟩:=htup;⟨o,k'' T o nT eo,r⟩
  have hv:Vals [V.int (i:Int),x] vs.toList:=by
   obtain⟨t',u',hu',rfl⟩:=hp
   rw[show its.toArray[i]?=some u from by simpa using hu]at hu'
   cases hu'
   exact .cons ⟨t',rfl⟩ (.cons ru .nil)
  have live:∀b∈[e,it],∃o,h''.get? b=some o:=λb hb=>by
   obtain⟨⟨old,he⟩,⟨⟨o,ho,_⟩,_⟩⟩:=st''
   simp only[Al,Ah,Os]at hb
   rcases hb with rfl|rfl
   ·exact⟨_,he⟩
   ·exact⟨o,ho⟩
  refine⟨.ref T,upd H T (.tup [.int (i:Int),x]),?_,rfl,⟨T,x,I.hok.fresh hT,rfl,λys hy=>by rw[hq]at hy;cases hy;exact hx,rfl⟩,⟨st''.1,st''.2.1⟩,λb hb=>?_⟩
  ·exact I.turnedNew (fp:=[e,it]) (wr:=[e,it]) hf (λb o hb eo=>k'' b o hb (kk' b o hb eo)) hT (by simpa using tup') hv (by show 2<=sizeLine;decide) live
  ·have hlt:b<s.heap.objs.size:=by
    obtain⟨⟨old,he⟩,⟨o,ho,_⟩⟩:=st
    simp only[Al,Ah,Os]at hb
    rcases hb with rfl|rfl
    ·exact Ai he
    ·exact Ai ho
   rw[jf (Ar (Aw hlt hT))]
   exact(hf b hb).1
 done:=by
  intro X hP hw hK hc i pins s σ H E I hf st hg
  subst hP hw hK
  obtain⟨xs,hq,hi⟩:=hg
  obtain⟨its,rv,p,_⟩:=I.list (SqL.of hq)
  have fr:∀b∈[e,it],b≠a:=λb hb z=>by rw[z]at hb;rw[(hf a hb).1]at hq;cases hq
  have W:=Wq (Draws.list (prog:=X.prog) (w:=X.w) (A:=X.A.in1) (show X.A.in1.handled=none from I.ok.hd hc) it a (fr it (by simp)).symm its.toArray) e ne (by simp[ne,fr e (by simp)]) (by simp)
  have hn:its.toArray.size=i:=by rw[Aj,<-rv.length];exact hi
  exact W.done s _ _ (by rw[hn];exact⟨st.1,st.2,p.isList⟩) λh' tk kk'=>⟨rfl,I.walked hf kk'⟩
 self:=λA i s Q E st q=>let⟨_,he⟩:=st.1;Ws he q
theorem jsh{a:Addr}{xs:List V}{g:TG}{tb:TS}{D:Ends}{σ:L2.St}{H:Hp}(Pv:Nat->L2.St->Hp->Prop)(h0:Pv 0 σ H)(hl:∀i σ H,i<=xs.length->Pv i σ H->H a=some (.lst xs))
  (hs:∀i x σ H T,xs[i]?=some x->Pv i σ H->H T=none->g (.ref T) σ (upd H T (.tup [.int (i:Int),x])) λσ2 H2=>tb {D with nx:=Pv (i+1),ct:=Pv (i+1),bk:=D.nx} σ2 H2) (hd:∀σ H,Pv xs.length σ H->D.nx σ H):jdn (ItF a) g tb D σ H:=by
 refine⟨λi m σ H=>m+i=xs.length/\Pv i σ H,⟨xs.length,rfl,h0⟩,?_⟩
 rintro i m σ H ⟨hm,p⟩
 have q:=hl i σ H (by omega) p
 by_cases hi:i<xs.length
 ·refine .inr ⟨⟨xs,xs[i],q,by simp[hi]⟩,Pv (i+1),λσ' H' p'=>⟨m-1,by omega,by omega,p'⟩,λv H' y=>?_⟩
  obtain⟨T,x,hT,rfl,hx,rfl⟩:=y
  exact hs i x σ H T (hx xs q) p hT
 ·have e:i=xs.length:=by omega
  subst e
  exact .inl ⟨⟨xs,q,rfl⟩,hd σ H p⟩
def jlb(ta:TA):TI:=λσ H R=>ta σ H λvs H1=>∃a xs,vs=[.ref a]/\H1 a=some (.lst xs)/\R (ItF a) H1
theorem qpi_enumF{a:Expr}{ta:TA}{p pos tpos:Pos}{elts:List Expr}{kk:Nat}(hg:Gl X "enumerate")(hm:X.mg "enumerate"=none)(ha:QA X [a] ta)(hs:starEach [a] X.env=[(false,eval a X.env)]:=by rfl) :
  QI X (.Tuple elts kk tpos) (.Call (.Name "enumerate" p) [a] [] pos) (jlb ta):=by
 refine⟨λpins s σ H R I h=>?_⟩
 refine Call_ (jef I hg hm jbn (Iw (thn (ha.h pos pins s σ H _ I h) λus s1 ⟨vs,H1,I1,r1,q1⟩=>?_) hs rfl))
 obtain⟨ad,xs,rfl,hx,q⟩:=q1
 obtain⟨u,rfl,ru⟩:=jd5 r1
 cases ru
 obtain⟨its,rv,pt,_⟩:=I1.list (SqL.of hx)
 refine call_enumerate_list (items:=its.toArray) pt.isList λh' he hi _ hk=>?_
 have I2:Inv X pins σ H1 {s1 with heap:=h'}:=I1.kept (t':=s1.toks) hk
 refine Ws he ⟨s1.heap.objs.size+1,[s1.heap.objs.size+1,s1.heap.objs.size],_,_,H1,rfl,I2,jol ad (s1.heap.objs.size+1) s1.heap.objs.size (Nat.succ_ne_self _),⟨⟨.none,he⟩,hi⟩,λb hb=>?_,q⟩
 have hb':s1.heap.objs.size<=b:=by
  simp only[Al,Ah,Os]at hb
  rcases hb with rfl|rfl
  ·exact Nat.le_add_right _ _
  ·exact Ag _
 exact I1.fpOk (H':=H1) hb' (I1.hok.fresh hb')
end
section
variable{N:Nat}{r:Array Nat}(hN:0<N)(hr:∀x∈r.toList,x<N)
include hN hr
omit hN hr in
end
abbrev FZ(o:Obj):HO:=.frz o (.ext λ_=>True)
section
variable{P:Program}{w:World}{H H':Hp}{h h':Heap}{a:Addr}{o:Obj}{cs:List Addr}
theorem FZ.get(x:HOk P w H h)(e:H a=some (FZ o)):h.get? a=some o:=(x a _ e).1
theorem FZ.mk(e:h.get? a=some o):ObjOk P w H h a (FZ o):=⟨e,trivial,⟨o,e⟩,λ_ _ _ _=>trivial⟩
def hideC(H:Hp)(cs:List Addr):Hp:=λb=>if b∈cs then none else H b
def backC(H H':Hp)(cs:List Addr):Hp:=λb=>if b∈cs then H b else H' b
theorem jeq(m:a∈cs):hideC H cs a=none:=Af m
theorem jec(m:a∉cs):hideC H cs a=H a:=Aa m
theorem jn5{u:HO}(e:hideC H cs a=some u):a∉cs/\H a=some u:=by
 by_cases m:a∈cs
 ·rw[jeq m]at e;cases e
 ·exact⟨m,by rwa[jec m]at e⟩
theorem jd2(e:H a=none):hideC H cs a=none:=by unfold hideC;split <;> first|rfl|exact e
theorem jkx(m:a∈cs):backC H H' cs a=H a:=Af m
theorem jdy(m:a∉cs):backC H H' cs a=H' a:=Aa m
theorem HOk.hideC(x:HOk P w H h)(fz:∀c∈cs,∃o,H c=some (FZ o)):HOk P w (hideC H cs) h:=λb u q=>by
 obtain⟨_,q'⟩:=jn5 q
 refine(x b u q').stay (λ_ _ _ z=>z) (λc z=>?_) λc xs z=>?_
 ·rw[jec λm=>by obtain⟨o,e⟩:=fz c m;rw[z]at e;cases e];exact z
 ·rw[jec λm=>by obtain⟨o,e⟩:=fz c m;rw[z]at e;cases e];exact z
theorem Un.backC{fs:List Addr}(u:Un fs [] (hideC H cs) H' h h')(fz:∀c∈cs,∃o,H c=some (FZ o)):Un fs [] H (backC H H' cs) h h' where
 keep:=λb o e n hb hx=>u.keep b o e (jd2 n) hb hx
 slot:=λb o e n hb hx=>u.slot b o e (jd2 n) hb hx
 free:=λb o e n hx=>by
  rw[jdy λm=>by obtain⟨o,z⟩:=fz b m;rw[n]at z;cases z]
  exact u.free b o e (jd2 n) hx
 there:=u.there
 tups:=λb xs e=>by
  have m:b∉cs:=λm=>by obtain⟨o,z⟩:=fz b m;rw[e]at z;cases z
  rw[jdy m];exact u.tups b xs (by rw[jec m];exact e)
 frzs:=λb o u' e=>by
  by_cases m:b∈cs
  ·rw[jkx m];exact e
  ·rw[jdy m];exact u.frzs b o u' (by rw[jec m];exact e)
 tbls:=λb ps e=>by
  have m:b∉cs:=λm=>by obtain⟨o,z⟩:=fz b m;rw[e]at z;cases z
  obtain⟨more,q⟩:=u.tbls b ps (by rw[jec m];exact e)
  exact⟨more,by rw[jdy m];exact q⟩
theorem HOk.backC{fs:List Addr}(x:HOk P w H h)(x':HOk P w H' h')(u:Un fs [] (L2.hideC H cs) H' h h')(fz:∀c∈cs,∃o,H c=some (FZ o))(nf:∀c∈cs,c∉fs):HOk P w (backC H H' cs) h':=λb v q=>by
 by_cases m:b∈cs
 ·rw[jkx m]at q
  obtain⟨o,e⟩:=fz b m
  rw[e]at q
  cases Az q
  exact FZ.mk (u.keep b o (FZ.get x e) (jeq m) (nf b m) (by simp))
 ·rw[jdy m]at q
  have no:∀c∈cs,H' c=none:=λc hc=>by
   obtain⟨o,e⟩:=fz c hc
   exact u.free c o (FZ.get x e) (jeq hc) (by simp)
  refine(x' b v q).stay (λ_ _ _ z=>z) (λc z=>?_) λc xs z=>?_
  ·rw[jdy λhc=>by rw[no c hc]at z;cases z];exact z
  ·rw[jdy λhc=>by rw[no c hc]at z;cases z];exact z
end
structure LamScope(ps fs:List Str)(sc:Scope):Prop where
 kind:sc.kind=.function
 co:sc.isCoroutine=false
 gen:sc.isGenerator=false
 nd:(ps++fs).Nodup
 par:∀x∈ps,sc.names.lookup x=some .local
 nocell:∀y∈sc.names,y.2≠.cell
 fr:∀x∈fs,sc.names.lookup x=some .free
 only:∀x,sc.names.lookup x=some .free->x∈fs
def jhe(P:Program)(w:World)(K:PySem.W.Frag)(mg:Str->Option Value)(base:Heap)(N:List Str)(qual:Str)(scope:Scope)(f:Addr)(cd:Value)(cl:List (Str×Addr))(A:Around)(outer:List Env)(s:Shared)(H:Hp):Cx where
 prog:=P
 w:=w
 K:=K
 mg:=mg
 base:=base
 A:=A.deeper (PySem.W.envX qual scope s.heap.objs.size f cd cl)
 N:=N
 s₀:=s
 H₀:=H
 env:=PySem.W.envX qual scope s.heap.objs.size f cd cl
 outer:=outer
 stack:=PySem.W.envX qual scope s.heap.objs.size f cd cl::outer
 ex:=[]
 calm:=true
 fn:=λ_=>false
 pn:=[]
 xe:=λ_ _=>False
structure Caps(H:Hp)(cl:List (Str×Addr))(fs:List Str)(ws:List V):Prop where
 len:ws.length=fs.length
 at_:∀(i:Nat)(x:Str)(v:V),fs[i]?=some x->ws[i]?=some v->∃c o u,cl.lookup x=some c/\H c=some (FZ o)/\o.data=.cell (some u)/\RelV v u
 has:∀x∈fs,∃c,cl.lookup x=some c
 fz:∀p∈cl,∃o u,H p.2=some (FZ o)/\o.data=.cell u
 inj:∀x y c,cl.lookup x=some c->cl.lookup y=some c->x=y
def CodeZ(H:Hp)(c:Addr)(qual:Str):Prop:=∃oc vs t,H c=some (FZ oc)/\oc.data=.fields vs/\vs[1]?=some (.str qual t)
theorem jnx{α β:Type}:∀{l:List α}{m:List β}{i:Nat}{x:α}{y:β},l[i]?=some x->m[i]?=some y->(l.zip m)[i]?=some (x,y)
 |[],_,_,_,_,h,_=>by simp at h
 |_::_,[],_,_,_,_,h=>by simp at h
 |_::_,_::_,0,_,_,h,h'=>by simp at h h';subst h;subst h';rfl
 |_::l,_::m,i+1,_,_,h,h'=>by
  simp at h h'
  simpa using jnx (l:=l) (m:=m) h h'
theorem jn7{ps:List Str}{us:List Value}(nd:ps.Nodup){i:Nat}{x:Str}{u:Value}(h:ps[i]?=some x)(h':us[i]?=some u):(ps.zip us).reverse.lookup x=some u:=by
 have key:∀(l:List (Str×Value)),(l.map Prod.fst).Nodup->(x,u)∈l->l.lookup x=some u:=by
  intro l
  induction l with
  |nil=>intro _ m;cases m
  |cons q l ih =>
   intro nd m
   obtain⟨y,v⟩:=q
   rw[Av,Uc]at nd
   rcases Al.mp m with e|m
   ·cases e;simp[List.lookup]
   ·have:x≠y:=λe=>nd.1 (by rw[<-e];exact Io.mpr ⟨(x,u),m,rfl⟩)
    rw[List.lookup_cons]
    have b:(x == y)=false:=by simpa using this
    rw[b]
    exact ih nd.2 m
 refine key _ ?_ (List.mem_reverse.mpr (A0 (jnx h h')))
 rw[List.map_reverse]
 refine(List.reverse_perm _).nodup_iff.mpr ?_
 have:∀(l:List Str)(m:List Value),((l.zip m).map Prod.fst).Sublist l:=by
  intro l
  induction l with
  |nil=>intro m;simp
  |cons y l ih =>
   intro m
   cases m with
   |nil=>simp
   |cons v m=>exact(ih m).cons₂ y
 exact nd.sublist (this ps us)
section
variable{P:Program}{w:World}{K:PySem.W.Frag}{mg:Str->Option Value}{base:Heap}{k:Nat}{f c':Addr}{name qual:Str}{params:Arguments}{body:Expr}{scope:Scope}{pm ct:Value}{ps fs:List Str}{cl:List (Str×Addr)}{sp:Sp}
theorem jse{A:Around}{outer:List Env}{s:Shared}{h1:Heap}{tk:Tok}{H:Hp}{us:List Value}{vs ws:List V}(S:LamScope ps fs scope)(hd:A.handled=none)(e0:Env0 P w K mg base A outer s H)(hl:vs.length=ps.length)(r:Vals vs us)(cap:Caps H cl fs ws)
  (hns:h1.Ns s.heap.objs.size λy=>(ps.zip us).reverse.lookup y) (hk:∀b o,s.heap.get? b=some o->h1.get? b=some o) :
  Inv (jhe P w K mg base (ps++fs) qual scope f (.ref c') cl A outer s (hideC H (cl.map Prod.snd))) [] (vs.map some++ws.map some) (hideC H (cl.map Prod.snd)) {s with heap:=h1,toks:=tk}:=by
 have fz:∀c∈cl.map Prod.snd,∃o,H c=some (FZ o):=λc hc=>by
  obtain⟨p,hp,rfl⟩:=Io.mp hc
  obtain⟨o,u,e,_⟩:=cap.fz p hp
  exact⟨o,e⟩
 have hok:=HOk.hideC e0.hok fz
 have inC:∀x c,cl.lookup x=some c->c∈cl.map Prod.snd:=λx c e=>Io.mpr ⟨(x,c),Oh e,rfl⟩
 have noA:∀b:Addr,b∉(jhe P w K mg base (ps++fs) qual scope f (.ref c') cl A outer s (hideC H (cl.map Prod.snd))).ex:=λb z=>absurd (show b∈([]:List Addr)from z) (by simp)
 refine⟨⟨e0.mod,S.kind,rfl,rfl,Ag _,cap.inj,λy hy=>?_,λy c z=>(by cases z),λ_=>hd,Around.frames_deeper e0.frames,.inr ⟨rfl,rfl⟩,λb z=>absurd z (noA b),λb o e=>⟨(e0.bs b o e).1,jd2 (e0.bs b o e).2⟩,e0.bsz,λb _ _=>noA b,λb z=>absurd z (noA b),e0.funs,λb z=>jd2 (e0.frf b z)⟩,
  rfl,e0.bare,Un.kept hk,⟨_,hns,λi y v q1 q2 q3=>?_⟩,λy c h=>?_,jd2 (e0.hok.fresh (Ag _)),λy c h=>jeq (inC y c h),λp hp=>absurd (show p∈([]:List (Addr×Obj))from hp) (by simp),hok.kept hk,?_⟩
 ·have hy:scope.names.lookup y=some .cell\/scope.names.lookup y=some .free:=hy
  rcases hy with hy|hy
  ·exact absurd rfl (S.nocell _ (Oh hy))
  ·exact cap.has y (S.only y hy)
 ·have q1:(ps++fs)[i]?=some y:=q1
  by_cases hi:i<ps.length
  ·rw[Ic hi]at q1
   rw[Ic (by rw[Ae];omega),A3]at q2
   have ha:vs[i]?=some v:=by
    cases e:vs[i]? with
    |none=>rw[e]at q2;cases q2
    |some a=>rw[e]at q2;cases q2;rfl
   obtain⟨u,hu,rv⟩:=r.get ha
   exact⟨u,rv,.inl ⟨S.par y (A0 q1),jn7 (S.nd.sublist (List.sublist_append_left _ _)) q1 hu⟩⟩
  ·rw[Ik (by omega)]at q1
   rw[Ik (by rw[Ae];omega),Ae,hl,A3]at q2
   have ha:ws[i-ps.length]?=some v:=by
    cases e:ws[i-ps.length]? with
    |none=>rw[e]at q2;cases q2
    |some a=>rw[e]at q2;cases q2;rfl
   obtain⟨c,o,u,e1,e2,e3,rv⟩:=cap.at_ _ y v q1 ha
   exact⟨u,rv,.inr ⟨.inr (S.fr y (A0 q1)),c,e1,o,hk _ _ (FZ.get e0.hok e2),e3⟩⟩
 ·obtain⟨o,u,e,d⟩:=cap.fz (y,c) (Oh h)
  exact⟨u,o,hk _ _ (FZ.get e0.hok e),d⟩
 ·show(vs.map some++ws.map some).length=(ps++fs).length
  rw[Ap,Ap,Ae,Ae,hl,cap.len]
theorem js9(S:LamScope ps fs scope)(len:∀vs H Q E,sp vs H Q E->vs.length=ps.length)
  (hbody:∀(vs:List V)(H:Hp)(Q:VK)(E:XK),sp vs H Q E->H f=some (FZ (PySem.W.kla_obj name qual params body scope cl pm c' ct))/\CodeZ H c' qual/\∃ws,Caps H cl fs ws /\
   ∀(A:Around)(outer:List Env)(s:Shared),Room k (A.deeper (PySem.W.envX qual scope s.heap.objs.size f (.ref c') cl)) ->
    ∃t,PE (jhe P w K mg base (ps++fs) qual scope f (.ref c') cl A outer s (hideC H (cl.map Prod.snd))) body t/\t (vs.map some++ws.map some) (hideC H (cl.map Prod.snd)) λv H'=>(∀c∈cl.map Prod.snd,H' c=none)->Q v (backC H H' (cl.map Prod.snd))) :
  FnOk P w K mg base CX0 (k+1) f (PySem.W.kla_fn name qual params body scope cl pm (.ref c') ct) ps sp:=by
 refine⟨len,λA outer s H args us vs Q E hr e0 hb r hsp=>?_⟩
 have hl:=len _ _ _ _ hsp
 obtain⟨hf,⟨oc,vc,tc,hc,hoc,hv1⟩,ws,cap,hb0⟩:=hbody vs H Q E hsp
 have lim:s.heap.NoLimit:=e0.mod.nolimit.keeps λb o e=>(e0.bs b o e).1
 have fz:∀c∈cl.map Prod.snd,∃o,H c=some (FZ o):=λc hc=>by
  obtain⟨p,hp,rfl⟩:=Io.mp hc
  obtain⟨o,u,e,_⟩:=cap.fz p hp
  exact⟨o,e⟩
 refine PySem.W.kla_callFunE hr.depth (FZ.get e0.hok hf) rfl S.co S.gen rfl ⟨c',oc,vc,tc,rfl,FZ.get e0.hok hc,hoc,hv1⟩ (hb _ _ _ _ ?_)
 refine W8 S.nocell (λy hy=>S.par _ (W3 hy).1) (λh1 hns hsb=>⟨lim.fresh _ hsb,?_⟩) S.kind
 show codeAny _ _ (.expr body (PySem.W.envX qual scope s.heap.objs.size f (.ref c') cl)) _ _
 have hk:∀b o,s.heap.get? b=some o->h1.get? b=some o:=λb o e=>hsb.extBut b o (Ar (Ai e)) (Ac _ e)
 obtain⟨t,ht,hq⟩:=hb0 A outer s (hr.deeper _)
 have I:=jse (f:=f) (c':=c') (qual:=qual) (tk:=s.toks+(ps.zip us).length) S hr.hd e0 hl r cap hns hk
 refine PySem.W.kla_codeExpr (Iy (ht [] _ _ _ _ I hq) (λu s' hs=>?_) λe s' hs=>False.elim hs)
 obtain⟨v,H',J,rv,q⟩:=hs
 have nf:∀c∈cl.map Prod.snd,c∉frs outer:=λc hc z=>by
  obtain⟨o,e⟩:=fz c hc
  rw[e0.frf c z]at e;cases e
 exact⟨v,_,J.os,J.bare,Un.backC J.base fz,HOk.backC e0.hok J.hok J.base fz nf,rv,q λc hc=>by
  obtain⟨o,e⟩:=fz c hc
  exact J.base.free c o (FZ.get e0.hok e) (jeq hc) (by intro z;exact absurd (show c∈([]:List Addr)from z) (by simp))⟩
end
theorem jnz{pos pos':Pos}{c:Value}(l:List Value)(h:TriplesOk l){v:Value}(e:codeAmong pos' (l++[rawInt pos.line,rawInt pos.col,c])=some v):codeAmong pos' l=some v\/v=c:=by
 fun_induction TriplesOk l with
 |case1 =>
  simp only[List.nil_append,codeAmong,rawInt]at e
  split at e
  ·exact .inr (Az e).symm
  ·cases e
 |case2 a t b u x rest ih =>
  simp only[List.cons_append,codeAmong]at e⊢
  split at e
  ·rename_i hc;rw[Af hc];exact .inl e
  ·rename_i hc;rw[Aa hc];exact ih h e
 |case3 l h1 h2=>exact h.elim
def TabOk(H:Hp)(Pt:Addr)(qual:Str):Prop:=∃ps,H Pt=some (.tbl ps)/\TriplesOk ps.toList/\∀pos cv,codeAmong pos ps.toList=some cv->∃c,cv=.ref c/\CodeZ H c qual
theorem CodeZ.kp{S:List Addr}{H H':Hp}{c:Addr}{qual:Str}(k:Kp S H H')(n:c∉S)(x:CodeZ H c qual):CodeZ H' c qual:=let⟨oc,vs,t,e,r⟩:=x;⟨oc,vs,t,k.old _ _ e n,r⟩
def tLam(Pt:Addr)(qual:Str)(params:Arguments)(body:Expr)(scope:Scope)(cl:List (Str×Addr))(pm:Value):TE:=λσ H Q=>TabOk H Pt qual/\∀f c ct H',H f=none->Kp [Pt] H H'->H' f=some (FZ (PySem.W.kla_obj "<lambda>" qual params body scope cl pm c ct))->CodeZ H' c qual->TabOk H' Pt qual->Q (.ref f) H'
section
variable{X:Cx}
theorem pe_lambda{params:Arguments}{body:Expr}{scope:Scope}{pos:Pos}{c Pt:Addr}{cl:List (Str×Addr)}(hdef:defaultsOf params X.env=([],[]))(hcl:closureFor scope X.env=pure cl)(hcode:X.env.code=.ref c)(hC:PySem.W.CodeHd X.base c Pt)(hbt:X.base.BuiltinsAt X.mg Pt) :
  PE X (.Lambda params body scope pos) (tLam Pt (X.env.qual++"<lambda>") params body scope cl ((X.mg "__name__").getD .none)):=by
 intro pins s σ H Q I h
 obtain⟨⟨ps,hP,ht,hin⟩,h⟩:=h
 have oP:s.heap.get? Pt=some (PySem.W.tabObj ps):=I.hok Pt _ hP
 have hgs:s.heap.Ns mainGlobals X.mg:=I.mod.glob.keeps I.bk
 have hgP:mainGlobals≠Pt:=λq=>by
  obtain⟨o,es,ep,e,hd,_⟩:=hgs
  rw[q,oP]at e;cases e;cases hd
 have hb:s.heap.BuiltinsAt X.mg Pt:=let⟨bm,o,b1,b2,b3,b4,b5,r⟩:=hbt;⟨bm,o,b1,b2,b3,b4,I.bk _ _ b5,r⟩
 have C:=hC.keeps I.bk
 refine PySem.W.kla_eval hdef ?_
 cases hf:codeAmong pos ps.toList with
 |some cv =>
  obtain⟨c',rfl,cz⟩:=hin pos cv hf
  refine PySem.W.kla_makeFunctionHit (mg:=X.mg) hcl I.ok.glob hgs hcode C oP ht hf hb λctv h' tk hk hsz=>?_
  have hf:H h'.objs.size=none:=I.hok.fresh hsz
  have kp:Kp [Pt] H (upd H h'.objs.size (FZ (PySem.W.kla_obj "<lambda>" (X.env.qual++"<lambda>") params body scope cl ((X.mg "__name__").getD .none) c' ctv))):=(Kp.refl [Pt] H).new hf
  have kp0:Kp [] H (upd H h'.objs.size (FZ (PySem.W.kla_obj "<lambda>" (X.env.qual++"<lambda>") params body scope cl ((X.mg "__name__").getD .none) c' ctv))):=(Kp.refl [] H).new hf
  refine⟨.ref h'.objs.size,_,I.laid (t':=tk) (λb u e=>Ac _ (hk b u e)) hsz (FZ.mk (At _ rfl)),rfl,h _ c' ctv _ hf kp je (cz.kp kp0 (by simp)) ⟨ps,kp0.old _ _ hP Ah,ht,λp v e=>?_⟩⟩
  obtain⟨c2,e2,z⟩:=hin p v e
  exact⟨c2,e2,z.kp kp0 (by simp)⟩
 |none =>
  refine PySem.W.kla_makeFunction (mg:=X.mg) hcl I.ok.glob hgs hcode C oP ht hf hgP hb λc' ctv h' tk hx hge hlt hrec htb=>?_
  obtain⟨c₂,oc,vs,t,e2,hoc,hd,hv⟩:=hrec
  cases e2
  have lP:Pt<s.heap.objs.size:=Ai oP
  have lt:∀b u,H b=some u->b<s.heap.objs.size:=λb u e=>(I.hok b u e).lt
  have nPc:Pt≠c':=Ar (Aw lP hge)
  have nPf:Pt≠h'.objs.size:=Ar (Nat.lt_trans (Aw lP hge) hlt)
  have ncf:c'≠h'.objs.size:=Ar hlt
  have fC:H c'=none:=I.hok.fresh hge
  have fF:H h'.objs.size=none:=I.hok.fresh (A7 hge (Nat.le_of_lt hlt))
  let o1:Obj:=PySem.W.kla_obj "<lambda>" (X.env.qual++"<lambda>") params body scope cl ((X.mg "__name__").getD .none) c' ctv
  let ps':Array Value:=ps++#[rawInt pos.line,rawInt pos.col,.ref c']
  let H':Hp:=upd (upd (upd H Pt (.tbl ps')) c' (FZ oc)) h'.objs.size (FZ o1)
  have eF:H' h'.objs.size=some (FZ o1):=je
  have eC:H' c'=some (FZ oc):=by show upd _ _ _ c'=_;rw[jf ncf,je]
  have eP:H' Pt=some (.tbl ps'):=by show upd _ _ _ Pt=_;rw[jf nPf,jf nPc,je]
  have eO:∀b,b≠Pt->b≠c'->b≠h'.objs.size->H' b=H b:=λb n1 n2 n3=>by show upd _ _ _ b=_;rw[jf n3,jf n2,jf n1]
  have eS:∀b,b<s.heap.objs.size->b≠Pt->H' b=H b:=λb l n=>eO b n (Ar (Aw l hge)) (Ar (Nat.lt_trans (Aw l hge) hlt))
  have kp:Kp [Pt] H H':=by
   refine⟨λb o e n=>?_,λb xs e=>?_,λb o e=>?_⟩
   ·rw[eS b (lt b _ e) (by simpa using n)];exact e
   ·rw[eS b (lt b _ e) (λz=>by rw[z,hP]at e;cases e)];exact e
   ·by_cases z:b=Pt
    ·exact⟨_,by rw[z];exact eP⟩
    ·exact⟨o,by rw[eS b (lt b _ e) z];exact e⟩
  have kept:∀b o,b≠Pt->s.heap.get? b=some o->(h'.push o1).get? b=some o:=λb o n e=>Ac _ (hx b o n e)
  have un:Un (frs X.stack) [] H H' s.heap (h'.push o1):=by
   refine⟨λb o e n _ _=>kept b o (λz=>by rw[z,hP]at n;cases n) e,λb o e n _ _=>⟨o.slots,kept b o (λz=>by rw[z,hP]at n;cases n) e⟩,λb o e n _=>?_,λb o e _=>?_,λb xs e=>kp.tup b xs e,λb o u e=>?_,λb qs e=>?_⟩
   ·rw[eS b (Ai e) (λz=>by rw[z,hP]at n;cases n)];exact n
   ·by_cases z:b=Pt
    ·exact⟨_,by rw[z];exact Ac _ htb⟩
    ·exact⟨o,kept b o z e⟩
   ·exact kp.old b _ e (by simp;intro z;rw[z,hP]at e;cases e)
   ·by_cases z:b=Pt
    ·subst z
     rw[hP]at e
     cases Az e
     exact⟨_,eP⟩
    ·exact⟨#[],by rw[eS b (lt b _ e) z,e];simp⟩
  have hok:HOk X.prog X.w H' (h'.push o1):=λb u q=>by
   by_cases z1:b=h'.objs.size
   ·subst z1
    rw[eF]at q
    cases Az q
    exact FZ.mk (At _ rfl)
   ·by_cases z2:b=c'
    ·subst z2
     rw[eC]at q
     cases Az q
     exact FZ.mk (Ac _ hoc)
    ·by_cases z3:b=Pt
     ·subst z3
      rw[eP]at q
      cases Az q
      exact Ac _ htb
     ·rw[eO b z3 z2 z1]at q
      refine(I.hok b u q).stay (λd v hd' e=>kept d v ?_ e) (λd e=>?_) λd xs e=>kp.tup d xs e
      ·rcases hd' with rfl|hd'
       ·exact z3
       ·intro z;rw[z,hP]at hd';cases hd'
      ·exact kp.old d _ e (by simp;intro z;rw[z,hP]at e;cases e)
  have nC:∀c2,(∃o,H c2=some (FZ o))->c2∉[Pt]:=λc2 ⟨o,e⟩ m=>by
   rw[Ao.mp m,hP]at e;cases e
  refine⟨.ref h'.objs.size,H',I.call (g':=s.gens) (d':=s.drawn) (t':=tk) (ch:=[]) un hok I.bare (λb z=>absurd z (by simp)),rfl,h _ c' ctv H' fF kp eF ⟨oc,vs,t,eC,hd,hv⟩ ⟨ps',eP,?_,λp v e=>?_⟩⟩
  ·have hl:ps'.toList=ps.toList++[rawInt pos.line,rawInt pos.col,.ref c']:=by simp[ps']
   rw[hl];exact TriplesOk_snoc _ _ _ _ ht
  ·have hl:ps'.toList=ps.toList++[rawInt pos.line,rawInt pos.col,.ref c']:=by simp[ps']
   rw[hl]at e
   rcases jnz _ ht e with e|rfl
   ·obtain⟨c2,e2,z⟩:=hin p v e
    exact⟨c2,e2,z.kp kp (nC c2 (let⟨oc,_,_,q,_⟩:=z;⟨oc,q⟩))⟩
   ·exact⟨c',rfl,oc,vs,t,eC,hd,hv⟩
end
theorem jr5{h:Heap}{c P:Addr}{ps:Array Value}(C:PySem.W.CodeHd h c P)(e:h.get? P=some (PySem.W.tabObj ps)):isCodeTable h P:=(C.tab e).isCodeTable
theorem jpm{P:Program}{w:World}{K:PySem.W.Frag}{mg mb:Str->Option Value}{CX:CXT}{k:Nat}{fa a:Addr}{fd:FuncData}{x:Str}{sp:Sp}{s₁:Shared}{vs:List Value}{ns:List Int}{ts:List Addr}
  (KX:K.In s₁.heap) (hns:s₁.heap.Ns mainGlobals mg) (hb:s₁.heap.Ns builtinsNs mb) (hbb:∀x:Str,x≠"__name__"->mb x=bootBuiltins x) (hlim:s₁.heap.NoLimit) (hg:s₁.gens=#[])
  (ha:s₁.heap.get? a=some {cls:=.type "list",data:=.seq vs.toArray}) (hi:IntsAre vs ns) (hl:ns.length<=sizeLine) (hr:Room k callerA)
  (hts:∀t∈ts,s₁.heap.get? t=some (PySem.W.tabObj #[])) (hcd:∀t∈ts,∃c,PySem.W.CodeHd s₁.heap c t) (hKt:∀t∈ts,K.lookup t=none) (hbm:∀t∈ts,s₁.heap.BuiltinsAt mg t)
  (F:∀base:Heap,K.In base->base.Ns mainGlobals mg->(∀t∈ts,base.BuiltinsAt mg t)->FnOk P w K mg base CX k fa fd [x] sp) (hbind:∀(s:Shared)(u:Value),BindsTo s fd ⟨[u],[]⟩ [(x,u)])
  (hsp:∀H:Hp,SqL K H a (ns.map V.int)->(∀t∈ts,H t=some (.tbl #[]))->sp [.ref a] H (λv _=>v=.bl true) λ_ _ _=>False)
  (hCX:∀H e s',CX [] H s₁ (λ_ _ _=>False) e s'->False) :
  codeAny (model P w) callerA (.call (.ref fa) ⟨[.ref a],[]⟩) (λr s'=>r=.ok (.ret (.bool true))/\OldK s₁.heap s'.heap/\s'.os=s₁.os/\AllBare s'.gens) s₁:=by
 have rv:=jj5 hi
 have lenV:=hi.length
 have naT:a∉ts:=λm=>by
  have:=hts a m
  rw[ha]at this
  cases this
 have core:∀H:Hp,(∀b,H b=none\/(∃o xs,H b=some (.frz o (.lst xs)))\/b∈ts)->(∀t∈ts,H t=some (.tbl #[]))->SqL K H a (ns.map V.int)->HOk P w H s₁.heap->(∀b,H b≠none->b=a\/b∈ts)->(H a≠none->K.lookup a=none) ->
   codeAny (model P w) callerA (.call (.ref fa) ⟨[.ref a],[]⟩) (λr s'=>r=.ok (.ret (.bool true))/\OldK s₁.heap s'.heap/\s'.os=s₁.os/\AllBare s'.gens) s₁:=by
  intro H hO hT hS hok hA hK
  have base_of:∀{b:Addr}{o:Obj},s₁.heap.get? b=some o->H b=none->(hidT s₁.heap H).get? b=some o:=λe n=>jqn e n
  have noB:∀{b:Addr}{o:Obj},s₁.heap.get? b=some o->(∀vs n,o.data≠.seq vs n)->(∀vs,o.data≠.fields vs)->H b=none:=fun{b o} e d1 d2=>by
   cases q:H b with
   |none=>rfl
   |some u =>
    rcases hA b (by rw[q];simp)with e'|e'
    ·subst e'
     rw[ha]at e;cases e
     exact absurd rfl (d1 _ _)
    ·rw[hts b e']at e;cases e
     exact absurd rfl (d2 _)
  have nsK:∀{b:Addr}{m:Str->Option Value},s₁.heap.Ns b m->(hidT s₁.heap H).Ns b m:=fun{b m} ⟨o,es,ep,e,d,r⟩=>⟨o,es,ep,base_of e (noB e (by rw[d];nofun) (by rw[d];nofun)),d,r⟩
  have hKb:K.In (hidT s₁.heap H):=λb o e=>base_of (KX b o e) (by
   cases q:H b with
   |none=>rfl
   |some u =>
    rcases hA b (by rw[q];simp)with e'|e'
    ·subst e'
     rw[hK (by rw[q];simp)]at e;cases e
    ·rw[hKt b e']at e;cases e)
  have hBb:∀t∈ts,(hidT s₁.heap H).BuiltinsAt mg t:=λt ht=>let⟨bm,o,b1,b2,b3,b4,b5,b6,b7,b8⟩:=hbm t ht
   ⟨bm,o,b1,b2,b3,b4,base_of b5 (noB b5 (by rw[b8];nofun) (by rw[b8];nofun)),b6,b7,b8⟩
  have hM:Mod K mg (hidT s₁.heap H):=⟨hKb,nsK hns,⟨mb,nsK hb,hbb⟩,let⟨mc,h1,h2⟩:=hlim;⟨mc,nsK h1,h2⟩⟩
  have e0:Env0 P w K mg (hidT s₁.heap H) callerA [] s₁ H:=⟨rfl,hM,λb o e=>jsj e,Uj (jpe _ _),trivial,λb hb=>absurd (show b∈([]:List Addr)from hb) (by simp),hok,.of_eq hg⟩
  refine U2 ((F _ hKb (nsK hns) hBb).run callerA [] s₁ H ⟨[.ref a],[]⟩ [.ref a] [.ref a] _ _ hr e0 (hbind s₁ (.ref a)) (.cons rfl .nil) (hsp H hS hT)) λr s' h=>?_
  cases r with
  |error e=>exact(hCX H e s' h).elim
  |ok fl =>
   cases fl with
   |next=>exact False.elim h
   |brk=>exact False.elim h
   |cont=>exact False.elim h
   |ret u =>
    obtain⟨v,H',os,bare,un,hok',r',q⟩:=h
    have q':v=.bl true:=q
    subst q'
    obtain rfl:u=Value.bool true:=r'
    have grown:∀b∈ts,∃ps,s'.heap.get? b=some (PySem.W.tabObj ps):=λb m=>by
     obtain⟨more,e⟩:=un.tbls b #[] (hT b m)
     exact⟨_,hok' b _ e⟩
    have keep:∀b o,b∉ts->s₁.heap.get? b=some o->s'.heap.get? b=some o:=λb o m e=>by
     cases q:H b with
     |none=>exact un.keep b o e q (by intro z;exact absurd (show b∈([]:List Addr)from z) (by simp)) (by simp)
     |some u =>
      rcases hO b with z|⟨ob,xs,z⟩|z
      ·rw[q]at z;cases z
      ·have z2:=un.frzs b ob _ z
       obtain⟨e1,_⟩:=hok b _ z
       obtain⟨e2,_⟩:=hok' b _ z2
       rw[e]at e1;cases e1
       exact e2
      ·exact absurd z m
    refine⟨rfl,⟨λb o e=>?_,λb o e=>?_⟩,os,bare⟩
    ·by_cases m:b∈ts
     ·obtain⟨c,hc⟩:=hcd b m
      obtain⟨ps,hP⟩:=grown b m
      have e2:=hts b m
      rw[e]at e2
      cases Az e2
      exact .inr (.inl ⟨jr5 hc (hts b m),rfl,#[],ps,rfl,by rw[Array.empty_append];exact hP⟩)
     ·exact .inl (keep b o m e)
    ·by_cases m:b∈ts
     ·obtain⟨ps,hP⟩:=grown b m
      exact⟨_,hP⟩
     ·exact⟨o,keep b o m e⟩
 cases hk:K.lookup a with
 |some o =>
  have e:=KX a o hk
  rw[ha]at e
  cases e
  refine core (λb=>if b∈ts then some (.tbl #[])else none) (λb=>?_) (λt m=>Af m) (.inr ⟨_,vs.toArray,_,hk,rfl,rfl,rfl,by rw[Aj,lenV];exact hl,by simpa using rv⟩) (λb u z=>?_) (λb z=>?_) λz=>absurd (Aa naT) z
  ·by_cases m:b∈ts
   ·exact .inr (.inr m)
   ·exact .inl (Aa m)
  ·by_cases m:b∈ts
   ·have z':=(Af m).symm.trans z
    cases z'
    exact hts b m
   ·have z':=(Aa m).symm.trans z
    cases z'
  ·by_cases m:b∈ts
   ·exact .inr m
   ·exact absurd (Aa m) z
 |none =>
  refine core (λb=>if b∈ts then some (.tbl #[])else if b=a then some (.frz {cls:=.type "list",data:=.seq vs.toArray} (.lst (ns.map V.int)))else none) (λb=>?_) (λt m=>Af m) (.inl (.inr ⟨{cls:=.type "list",data:=.seq vs.toArray},(Aa naT).trans (Af rfl)⟩)) (λb u z=>?_) (λb z=>?_) λ_=>hk
  ·by_cases m:b∈ts
   ·exact .inr (.inr m)
   ·by_cases hb:b=a
    ·exact .inr (.inl ⟨_,_,(Aa m).trans (Af hb)⟩)
    ·exact .inl ((Aa m).trans (Aa hb))
  ·by_cases m:b∈ts
   ·have z':=(Af m).symm.trans z
    cases z'
    exact hts b m
   ·by_cases hb:b=a
    ·have z':=((Aa m).trans (Af hb)).symm.trans z
     cases z'
     subst hb
     exact⟨ha,by rw[Ae];exact hl,vs,_,rv,ha⟩
    ·have z':=((Aa m).trans (Aa hb)).symm.trans z
     cases z'
  ·by_cases m:b∈ts
   ·exact .inr m
   ·by_cases hb:b=a
    ·exact .inl hb
    ·exact absurd ((Aa m).trans (Aa hb)) z
theorem walk_ofT{l:PySem.W.OpenLaw}{n k:Nat}{q:Program}{loose:List Str}{XP:(Str->Option Value)->Heap->Prop}{YP:World->Heap->Prop}{d:DefRec}{K:Params->PySem.W.Frag}{CX:World->CXT}{sp:World->Sp}{x:Str}{ts:List Addr}
  (hn:l.most=some n) (hn2:n<=sizeLine) (hdf:d.params.defaults=[]) (hr:Room k callerA)
  (hY:∀(w:World)(h:Heap),YP w h->(K w.params).In h) (hT:∀(w:World)(h:Heap),YP w h->∀t∈ts,h.get? t=some (PySem.W.tabObj #[]))
  (hC:∀(w:World)(h:Heap),(K w.params).In h->∀t∈ts,∃c,PySem.W.CodeHd h c t) (hN:∀w:World,∀t∈ts,(K w.params).lookup t=none)
  (F:∀(w:World)(mg:Str->Option Value)(fa:Addr)(h:Heap),(K w.params).In h->h.Ns mainGlobals mg->mg d.name=some (.ref fa) ->
   ∃fd:FuncData,(∀(s:Shared)(u:Value),BindsTo s fd ⟨[u],[]⟩ [(x,u)]) /\
    ∀base:Heap,(K w.params).In base->base.Ns mainGlobals mg->(∀t∈ts,base.BuiltinsAt mg t)->FnOk l.prog w (K w.params) mg base (CX w) k fa fd [x] (sp w))
  (hsp:∀(w:World)(H:Hp)(a:Addr)(ns:List Int),ns.length<=n->SqL (K w.params) H a (ns.map V.int)->(∀t∈ts,H t=some (.tbl #[]))->sp w [.ref a] H (λv _=>v=.bl true) λ_ _ _=>False)
  (hCX:∀(w:World)(H:Hp)(s:Shared)(e:Value)(s':Shared),CX w [] H s (λ_ _ _=>False) e s'->False) :
  PySem.W.WalkO q loose XP YP l.row.toRowW d [] (λf vs=>PySem.call f vs):=by
 refine Att.attach_call hn hdf λw s₀ s₁ mg mb fa o pm cd doc a vs ns G Y ho hd hcd hmg hobj hints hlen hg=>?_
 have KX:=hY w _ Y
 have TX:=hT w _ Y
 obtain⟨fd,hb,hF⟩:=F w mg fa _ KX G.T.g hmg
 refine jpm (ts:=ts) KX G.T.g G.T.b G.T.builtins G.T.nolimit hg hobj hints (A7 hlen hn2) hr TX (hC w _ KX) (hN w) (λt ht=>?_) hF hb (λH hS hT=>hsp w H a ns hlen hS hT) λH e s'=>hCX w H s₁ e s'
 obtain⟨bm,ob,b1,b2,b3,b4,b5,b6⟩:=G.T.bmain
 refine⟨bm,ob,b1,b2,λq=>?_,λq=>?_,b3,b4,b5,b6⟩
 ·obtain⟨o,es,ep,e,hd,_⟩:=G.T.g
  rw[q,e]at b3;cases b3;rw[hd]at b6;cases b6
 ·rw[q,TX t ht]at b3;cases b3;cases b4
section
variable{X:Cx}{o i:Expr}{td ty:TE}{pos:Pos}
theorem jbk{params:Arguments}{body:Expr}{scope:Scope}{pos:Pos}{c Pt:Addr}{cl:List (Str×Addr)}{qual:Str}{pm:Value}(hq:X.env.qual++"<lambda>"=qual)(hpm:(X.mg "__name__").getD .none=pm)(hcode:X.env.code=.ref c)(hC:PySem.W.CodeHd X.base c Pt)(hbt:X.base.BuiltinsAt X.mg Pt)
  (hdef:defaultsOf params X.env=([],[]):=by rfl) (hcl:closureFor scope X.env=pure cl:=by rfl):QE X (.Lambda params body scope pos) (tLam Pt qual params body scope cl pm):=by
 subst hq;subst hpm
 exact⟨pe_lambda hdef hcl hcode hC hbt⟩
end
theorem TabOk.kp{S:List Addr}{H H':Hp}{Pt:Addr}{qual:Str}(k:Kp S H H')(n:Pt∉S)(hc:∀c o,H c=some (FZ o)->c∉S)(x:TabOk H Pt qual):TabOk H' Pt qual :=
 let⟨ps,e,t,h⟩:=x
 ⟨ps,k.old _ _ e n,t,λp v q=>let⟨c,e2,z⟩:=h p v q;⟨c,e2,z.kp k (let⟨oc,_,_,q,_⟩:=z;hc c oc q)⟩⟩
section
variable{X:Cx}{o e f:Expr}{apos cpos:Pos}{td ty tx:TE}
def jh8:TE:=λ_ H Q=>∀p,H p=none->Q (.ref p) (upd H p (.dK []))
theorem pe_disp0{pos:Pos}:PE X (.Dict [] [] pos) jh8:=by
 intro pins s σ H Q I q
 have hn:=I.hok.fresh (Ag s.heap.objs.size)
 have I1:=I.laid (a:=s.heap.objs.size) (o:=.dK []) (h':=s.heap.push {cls:=.type "dict",data:=.dict #[]}) (t':=s.toks) (λ_ _ q=>Ac _ q) (Ag _) (jqf s.heap I.big)
 exact wpAny_Dict_empty ⟨.ref s.heap.objs.size,_,I1,rfl,q _ hn⟩
theorem qpe_disp0{pos:Pos}:QE X (.Dict [] [] pos) jh8:=⟨pe_disp0⟩
end
theorem Fun.okCE{P:Program}{w:World}{K:PySem.W.Frag}{mg:Str->Option Value}{base:Heap}{x qual:Str}{st:Stmt}{f:Addr}{fd:FuncData}{N ps:List Str}{k:Nat}{sp:Sp}(F:Fun K x qual st f fd)(S:FnScope N ps (jk st))(len:∀vs H Q E,sp vs H Q E->vs.length=ps.length)
  (hbody:∀(A:Around)(outer:List Env)(s:Shared)(H:Hp)(vs:List V)(Q:VK)(E:XK),Room k (A.deeper (envOfC qual (jk st) s.heap.objs.size f fd.code))->sp vs H Q E ->
   ∃t,PSs (cxOf (CXE P w) P w K mg base N qual (jk st) f fd.code A outer s H E) (jy st) t/\t {nx:=λ_ H'=>Q .non H',rt:=Q} (start N vs) H):FnOk P w K mg base (CXE P w) (k+1) f fd ps sp:=by
 obtain⟨oc,od,kV,doc,pm,an,cdv,ct,osl,rfl,lk,hcd⟩:=F.ex
 exact jn4 lk hcd S len λA outer s H vs Q E hr hsp=>hbody A outer s H vs Q E hr hsp
section
variable{prog:Program}{w:World}{J:Type}[DecidableEq J]{knd:HeapKind prog w J}{A:Around}{E:Value->Shared->Prop}{s:Shared}{d a:Addr}{k:J}{xs:List (J×Addr×Value)}{x:Value}
theorem jlf{h:Heap}{o:Obj}{es:Array DictEntry}{ep:Nat}(ho:h.get? d=some o)(hc:o.ExactDict)(hd:o.data=.dict es ep)(he:es.toList=xs.map (entryOfKey knd))(his:∀x∈xs,knd.is h x.1 x.2.1)(hn:(xs.map (·.1)).Nodup)
  (hk:knd.is h k a) (no:∀(j:Nat)(p:Addr×Value),xs[j]?≠some (k,p)):(h.update d (Obj.mapDictKeys λes=>es.push ⟨knd.hash k,.ref a,x⟩)).DictOfH knd d (xs++[(k,a,x)]):=by
 have kp:∀{k' a'},knd.is h k' a'->knd.is (h.update d (Obj.mapDictKeys λes=>es.push ⟨knd.hash k,.ref a,x⟩)) k' a':=λq=>knd.keeps q ho hd (Yb ..)
 refine⟨_,_,ep+1,Oc _ ho (Obj.isFreed_of_dict (Obj.data_mapDictKeys hd _)),hc.mapDictKeys _,Obj.data_mapDictKeys hd _,?_,λy hy=>?_,?_⟩
 ·simp[he,entryOfKey]
 ·rcases Ie.mp hy with q|q
  ·exact kp (his y q)
  ·cases Ao.mp q;exact kp hk
 ·have q:k∉xs.map (·.1):=not_mem_keys_of_get no
  rw[Od]
  exact U1.mpr ⟨hn,by simp,λu hu v hv e=>q (by simp at hv;rw[<-hv,<-e];exact hu)⟩
theorem jqg{Q:Value->Shared->Prop}(hu:knd.room A)(hk:knd.is s.heap k a)(hm:s.heap.DictOfH knd d xs)(hz:xs.length<=sizeLine)(h1:∀p,atKey xs k=some p->Q p.2 {s with toks:=s.toks+knd.draws k})
  (h2:atKey xs k=none->∀h',h'.DictOfH knd d (xs++[(k,a,x)])->Heap.SameBut d s.heap h'->Q x {s with heap:=h',toks:=s.toks+knd.draws k}):wpAny (model prog w) A (dictSetDefault d (.ref a) x) Q E s:=by
 obtain⟨o,es,ep,ho,hc,hd,he,his,hn⟩:=hm
 unfold dictSetDefault
 try with_reducible refine Ur ?_
 refine Ad (knd.pyHash hu hk (Ad (wpAny_dictFind_heap (s:={s with toks:=s.toks+knd.draws k}) hu hk ho hd he his hn (λno=>?_) λj p hj=>?_)))
 ·refine Ad (wpAny_rule (Ad (wpAny_updateDictKeys (hz:=by rw[size_of_entries he];exact hz) (s:={s with toks:=s.toks+knd.draws k}) ho hd (Am (h2 (atKey_none_of_get no) _ (jlf ho hc hd he his hn hk no) (Yb ..))))))
 ·refine Ad (wpAny_dictEntries (s:={s with toks:=s.toks+knd.draws k}) ho hd ?_)
  rw[entry_at he j,hj]
  exact Ad (wpAny_rule (Am (h1 p (atKey_of_get hn hj))))
theorem jpo(hd:(d == sysModules)=false):MeetsIn prog w (Builtin.«dict.setdefault» ⟨[.ref d,.ref a,x],[]⟩) λA R s=>knd.room A.in1/\∃(k:J)(xs:List (J×Addr×Value)),knd.is s.heap k a/\s.heap.DictOfH knd d xs/\xs.length<=sizeLine /\
  (∀p,atKey xs k=some p->R (.ok (.ret p.2)) {s with toks:=s.toks+knd.draws k})/\(atKey xs k=none->∀h',h'.DictOfH knd d (xs++[(k,a,x)])->Heap.SameBut d s.heap h'->R (.ok (.ret x)) {s with heap:=h',toks:=s.toks+knd.draws k}):=by
 refine .of_wp λA R s ⟨hu,k,xs,hk,hm,hz,h1,h2⟩=>?_
 show wpAny _ _ (Builtin.Dict.keyAndDefault _ _ >>= _) _ _ s
 refine Ad ?_
 unfold Builtin.Dict.keyAndDefault
 refine Ad (wpAny_notOrdered_dict hm.typeIs (Am ?_))
 show wpAny _ _ (if(d == sysModules)=true then _ else _) _ _ _
 rw[hd,Aa (by decide)]
 exact Ad (jqg hu hk hm hz (λp hp=>Am ⟨_,rfl,h1 p hp⟩) λhn h' dd hs=>Am ⟨_,rfl,h2 hn h' dd hs⟩)
end
section
variable{X:Cx}{o e f:Expr}{apos cpos:Pos}{td ty tx:TE}
def jh7(td ty tx:TE):TE:=λσ H Q=>td σ H λx H1=>∃a,x=.ref a/\IsD H1 a/\ty σ H1 λy H2=>tx σ H2 λz H3=>∃kvs k b,H3 a=some (.dT kvs)/\y=.ref b/\H3 b=some (.tup (k.map kV))/\kvs.length<sizeLine /\
 (∀v,valV kvs k=some v->Q v H3)/\(valV kvs k=none->Q z (upd H3 a (.dT (putK kvs k z))))
theorem pe_dsetT(hu:X.A.units+1<cLine)(ho:PE X o td)(he:PE X e ty)(hf:PE X f tx)(m:M2 X o "setdefault" apos e f cpos):PE X (.Call (.Attribute o "setdefault" apos) [e,f] [] cpos) (jh7 td ty tx):=by
 intro pins s σ H Q I h
 refine wpAny_Call_method m.base m.few m.line PySem.F.plainAttrs_dict PySem.F.slot_dict_setdefault PySem.F.type_dict_setdefault (thn (ho pins s σ H _ I h) λu s1 ⟨x,H1,I1,rx,a,ex,d,q1⟩=>?_)
 subst ex
 obtain rfl:u=Value.ref a:=rx
 obtain⟨t1,t2,_⟩:=jtc I1 d
 refine⟨t1,t2,?_⟩
 rw[m.trees]
 refine Uy rfl (W6 (Oe (thn (he pins s1 σ H1 _ I1 q1) λiv s2 ⟨y,H2,I2,ry,q2⟩ =>
  Oe (thn (hf pins s2 σ H2 _ I2 q2) λfv s3 ⟨z,H3,I3,rz,kvs,k,b,ea,ey,eb,hl,q3,q4⟩=>Ui ?_))))
 subst ey
 cases(show iv=Value.ref b from ry)
 obtain⟨zz,hd,xs,rel,dd⟩:=jrj I3.hok ea
 have hz:xs.length<=sizeLine:=by rw[<-A5 rel];exact zz
 have va:RelO (valV kvs k) ((atKey xs k).map (·.2)):=rel.val k
 refine call_meetsIn PySem.F.slot_dict_setdefault dd.typeIs PySem.F.entry_dict_setdefault (PySem.F.args_dict_setdefault_3 _ _ _) (jpo (knd:=tupleKind (jdg X.prog X.w)) hd) ⟨Wi hu,k,xs,jfz I3.hok eb,dd,hz,λp hp=>?_,λhn h' dd' hs=>?_⟩
 ·rw[hp]at va
  cases l:valV kvs k with
  |none=>rw[l]at va;cases va
  |some v' =>
   rw[l]at va
   obtain⟨w',hw,rw'⟩:=RelO.some_of va
   cases hw
   exact⟨v',H3,I3.tok _,rw',q3 v' l⟩
 ·rw[hn]at va
  have ln:valV kvs k=none:=by
   cases l:valV kvs k with
   |none=>rfl
   |some v'=>rw[l]at va;obtain⟨w',hw,_⟩:=RelO.some_of va;cases hw
  have hlp:(putK kvs k z).length<=sizeLine:=by have:=jd7 kvs k z;omega
  have rel':=rel.put k eb rz
  rw[storedH_new hn]at rel'
  obtain⟨q,es,ep,hq,g2,g3,g4,_,g5⟩:=dd'
  refine⟨z,_,jig (ob:=.dT (putK kvs k z)) I3 (by rw[ea];exact True.intro) hs ⟨q,hq⟩ ⟨hlp,hd,_,rel'.keeps λc ys ec=>?_,q,es,ep,hq,g2,g3,g4,g5⟩,rz,q4 ln⟩
  rw[jf (jkd ec ea λz=>nomatch z)]
  exact ec
theorem qpe_dsetT(hu:X.A.units+1<cLine)(ho:QE X o td)(he:QE X e ty)(hf:QE X f tx)(m:M2 X o "setdefault" apos e f cpos):QE X (.Call (.Attribute o "setdefault" apos) [e,f] [] cpos) (jh7 td ty tx):=⟨pe_dsetT hu ho.h he.h hf.h m⟩
theorem qpe_dnewT{pos:Pos}:QE X (.Dict [] [] pos) jh6:=⟨pe_dnewT⟩
end
section
variable{X:Cx}
def rIxD:R2:=λx y H Q=>∃a v,x=.ref a/\DGet H a y (some v)/\Q v H
theorem ix_D(hu:X.A.units+1<cLine):IxR X rIxD:=by
 intro value slice pins s σ H x y v u Q I rx ry h hs
 obtain⟨a,z,rfl,g,q⟩:=h
 cases rx
 exact tail_any (jmj I g) PySem.F.slot_dict_getitem.lookup (joz hu I g ry λw' s3 I3 rw'=>⟨z,H,I3,rw',q⟩) hs
theorem ix_UD(hu:X.A.units+1<cLine):IxR X (λx y H Q=>rIxU x y H Q\/rIxD x y H Q):=IxR.or ix_U (ix_D hu)
end
theorem jqq{K:PySem.W.Frag}{a:Addr}{xs:List V}{g:TG}{tb:TS}{D:Ends}{σ:L2.St}{H:Hp}(Pv:Nat->L2.St->Hp->Prop)(h0:Pv 0 σ H)(hl:∀i σ H,i<=xs.length->Pv i σ H->SqT K H a xs)
  (hs:∀i x σ H T,xs[i]?=some x->Pv i σ H->H T=none->g (.ref T) σ (upd H T (.tup [.int (i:Int),x])) λσ2 H2=>tb {D with nx:=Pv (i+1),ct:=Pv (i+1),bk:=D.nx} σ2 H2) (hd:∀σ H,Pv xs.length σ H->D.nx σ H):jdn (ItE K a) g tb D σ H:=by
 refine⟨λi m σ H=>m=xs.length-i/\i<=xs.length/\Pv i σ H,⟨xs.length,by simp,Ix _,h0⟩,?_⟩
 rintro i m σ H ⟨rfl,hi,p⟩
 have q:=hl i σ H hi p
 rcases Nat.lt_or_ge i xs.length with hlt|hge
 ·refine .inr ⟨⟨xs,xs[i],q,by simp[hlt]⟩,Pv (i+1),λσ' H' p'=>⟨xs.length-(i+1),by omega,rfl,hlt,p'⟩,λx H' y=>?_⟩
  obtain⟨T,y',hT,e1,hy,e2⟩:=y
  subst e1 e2
  exact hs i y' σ H T (hy xs q) p hT
 ·obtain rfl:i=xs.length:=by omega
  exact .inl ⟨⟨xs,q,rfl⟩,hd σ H p⟩
section
variable{X:Cx}
def Mono(t:TE):Prop:=∀σ H (Q Q':VK),(∀v H',Q v H'->Q' v H')->t σ H Q->t σ H Q'
theorem jf4(i:Nat):Mono (tVar i):=jdd
end
section
variable{X:Cx}{K:PySem.W.Frag}{o e value:Expr}{f:Str}{pos pos' tpos:Pos}{ta tv:TE}
theorem yb(hK:X.K=K)(he:QE X e ta)(hb:attributeBase e f X.env (eval e X.env)=eval e X.env:=by rfl):QE X (.Attribute e f pos) (tFld K ta f):=by subst hK;exact⟨pe_fld he.h hb⟩
theorem jbu(hK:X.K=K)(ha:QE X o ta)(hv:QE X value tv)(hs:swapsWith value (some (.Attribute o f pos')) pos.line X.env=pure false:=by rfl):QS X (.Assign [.Attribute o f pos'] value pos) (sFld K ta tv f):=by subst hK;exact⟨ps_fld ha.h hv.h hs⟩
theorem qps_fldaug{op:Operator}{rd:V->V->Hp->VK->Prop}(hK:X.K=K)(ha:QE X o ta)(hv:QE X value tv)(hop:InOp X op rd):QS X (.AugAssign (.Attribute o f tpos) op value pos) (jiw K ta tv rd f):=by subst hK;exact⟨ps_fldaug ha.h hv.h hop⟩
end
section
variable{X:Cx}{CX:CXT}{k:Nat}{f C:Addr}{fd:FuncData}{ps:List Str}{sp:Sp}{dvs:List V}{ds:List Value}{E:XK}{x m:Str}{p pos apos:Pos}{e o:Expr}{es:List Expr}{ta:TE}{t:TA}
theorem y4{pl:Sem Bool}(he:QE X o ta)(c:Cls X.K C)(hm:Meth X.K C m f)(F:FnOk X.prog X.w X.K X.mg X.base CX k f fd ps sp)(hr:Room k X.A)(hb:Binds X.K fd ps ds)(hd:Vals dvs ds)(hx:jdp CX X E)(ha:QA X (e::es) t)
  (hst:starEach (e::es) X.env=(false,eval e X.env)::starEach es X.env:=by rfl) (hpl:(backTo pos (starEach es X.env)).any (·.1)=false:=by rfl)
  (ht:eval (.Call (.Attribute o m apos) (e::es) [] pos) X.env=(do
   let ov <-eval o X.env
   standAt apos.atName
   let(f,first) <-holding [ov] (getMethod ov m pl)
   callWith pos f first (backTo pos (starEach (e::es) X.env)) (backToKw pos (keywordEach [] X.env))):=by rfl) :
  QE X (.Call (.Attribute o m apos) (e::es) [] pos) (jgm C m sp dvs E ta t):=⟨pe_meth he.h c hm F hr hb hd hx ha.h hst hpl ht⟩
end
theorem jet{K:PySem.W.Frag}{a:TE}{f:Str}(ha:Mono a):Mono (tFld K a f):=λσ H Q Q' h q=>ha σ H _ _ (λx H1 ⟨a,C,dx,fs,v,e1,e2,e3,e4,e5,q1⟩=>⟨a,C,dx,fs,v,e1,e2,e3,e4,e5,h _ _ q1⟩) q
section
variable{X:Cx}
def repC(c n:Nat):Str:=⟨(List.replicate n c).toArray⟩
theorem jk7(c:Nat):∀(n:Nat)(acc:Array Nat),(List.replicate n #[c]).foldl (·++·) acc=acc++(List.replicate n c).toArray
 |0,acc=>by simp
 |n+1,acc=>by
  rw[List.replicate_succ,List.foldl_cons,jk7 c n,List.replicate_succ]
  apply Array.toList_inj.mp
  simp only[Array.toList_append,A9,List.singleton_append]
def jrt:R2:=λx y H Q=>∃c n:Nat,x=.str ⟨#[c]⟩/\y=.int (n:Int)/\n<=1000/\Q (.str (repC c n)) H
theorem ja4:OpR X (binaryOp .Mult) jrt:=by
 intro pins s σ H x y v u Q I rx ry h
 obtain⟨c,n,rfl,rfl,n9,q⟩:=h
 obtain⟨t,rfl⟩:=rx
 obtain⟨t',rfl⟩:=ry
 have l1:Str.length ⟨#[c]⟩=1:=rfl
 refine PySem.P.mul_str (by simp;omega) (λh1 _=>?_) (λ_ _=>?_) ?_
 ·rw[l1]
  have:(1:Int)<=(2^63-1) / (n:Int):=(Int.le_ediv_iff_mul_le (by omega)).mpr (by omega)
  omega
 ·unfold Builtin.Str.tooLong
  have hz:1000000<=sizeLine:=by decide
  rw[l1]
  simp
  omega
 ·by_cases c0:n=0
  ·subst c0
   rw[Af (by decide)]
   exact⟨by decide,⟨.str (repC c 0),H,I.tok _,⟨_,rfl⟩,q⟩⟩
  rw[Aa (by omega)]
  by_cases c1:n=1
  ·subst c1
   rw[Af (by rfl)]
   exact⟨.str (repC c 1),H,I,⟨_,rfl⟩,q⟩
  rw[Aa (by simp[l1];omega)]
  have e:(⟨(List.replicate (n:Int).toNat (⟨#[c]⟩:Str).cps).foldl (·++·) #[]⟩:Str)=repC c n:=by
   unfold repC
   rw[Int.toNat_natCast,jk7];simp
  rw[e]
  refine⟨?_,⟨.str (repC c n),H,I.tok _,⟨_,rfl⟩,q⟩⟩
  have hz:1000000<=sizeLine:=by decide
  have:(repC c n).length=n:=by simp[repC,Str.length]
  omega
end
section
variable{X:Cx}{CX:CXT}{k:Nat}{f C:Addr}{fd:FuncData}{ps:List Str}{sp:Sp}{dvs:List V}{ds:List Value}{E:XK}{x m:Str}{p pos apos:Pos}{e o:Expr}{es:List Expr}{ta:TE}{t:TA}
theorem jco{pl:Sem Bool}(he:QE X o ta)(c:Cls X.K C)(hm:Meth X.K C m f)(F:FnOk X.prog X.w X.K X.mg X.base CX k f fd ps sp)(hr:Room k X.A)(hb:Binds X.K fd ps ds)(hd:Vals dvs ds)(hx:jdp CX X E)
  (ht:eval (.Call (.Attribute o m apos) [] [] pos) X.env=(do
   let ov <-eval o X.env
   standAt apos.atName
   let(f,first) <-holding [ov] (getMethod ov m pl)
   callWith pos f first (backTo pos (starEach [] X.env)) (backToKw pos (keywordEach [] X.env))):=by rfl) :
  QE X (.Call (.Attribute o m apos) [] [] pos) (jgm C m sp dvs E ta tNil):=⟨pe_meth0 he.h c hm F hr hb hd hx ht⟩
theorem qpe_make(M:Mk X.K C f)(F:FnOk X.prog X.w X.K X.mg X.base CX k f fd ps sp)(hr:Room (k+1) X.A)(hg:Gl X x)(hm:X.mg x=some (.ref C))(hb:Binds X.K fd ps ds)(hd:Vals dvs ds)(hx:jdp CX X E)(ha:QA X (e::es) t)
  (hdb:(x == ("__debug__":Str))=false:=by decide) (he:starEach (e::es) X.env=(false,eval e X.env)::starEach es X.env:=by rfl) (hpl:(backTo pos (starEach es X.env)).any (·.1)=false:=by rfl) :
  QE X (.Call (.Name x p) (e::es) [] pos) (jkr C sp dvs E t):=⟨pe_make M F hr hg hm hb hd hx ha.h hdb he hpl⟩
end
section
variable{X:Cx}
def FnIn(K:PySem.W.Frag)(H:Hp)(f:Addr)(o:Obj):Prop:=H f=some (FZ o)\/K.lookup f=some o
def jtz(P:Program)(w:World)(K:PySem.W.Frag)(mg:Str->Option Value)(base:Heap)(k i:Nat)(t:TA):TE:=λσ H Q=>∃(f:Addr)(o:Obj)(fd:FuncData)(ps:List Str)(sp:Sp),σ[i]?=some (some (.ref f))/\o.data=.func fd /\
 FnOk P w K mg base CX0 k f fd ps sp/\Binds K fd ps []/\t σ H λvs H1=>FnIn K H1 f o/\sp vs H1 Q E0
theorem qpe_callA{P:Program}{w:World}{K:PySem.W.Frag}{mg:Str->Option Value}{base:Heap}(hP:X.prog=P)(hw:X.w=w)(hK:X.K=K)(hM:X.mg=mg)(hB:X.base=base){k:Nat}{x:Str}{p pos:Pos}{e:Expr}{es:List Expr}{t:TA}(i:Nat)(hr:Room k X.A)(ha:QA X (e::es) t)
  (hN:X.N[i]?=some x:=by rfl) (hv:Vis X.env.scope x:=by first|exact Or.inl rfl|exact Or.inr (Or.inl rfl)|exact Or.inr (Or.inr rfl))
  (hdb:(x == ("__debug__":Str))=false:=by decide) (hcd:(x == ("__classdict__":Str))=false:=by decide) (he:starEach (e::es) X.env=(false,eval e X.env)::starEach es X.env:=by rfl) :
  QE X (.Call (.Name x p) (e::es) [] pos) (jtz P w K mg base k i t):=by
 subst hP;subst hw;subst hK;subst hM;subst hB
 refine⟨λpins s σ H Q I h=>?_⟩
 obtain⟨f,o,fd,ps,sp,e0,hd,F,hb,h⟩:=h
 refine Ir (thn (jcu hN hv hdb hcd pins s σ H (λv H'=>v=.ref f/\t σ H' λvs H1=>FnIn X.K H1 f o/\sp vs H1 Q E0) I ⟨_,e0,rfl,h⟩) λu s1 ⟨v,H1,I1,r,hv1,h1⟩=>?_)
 subst hv1
 cases r
 have at_:∀{σ':St}{H':Hp}{s':Shared},Inv X pins σ' H' s'->FnIn X.K H' f o->s'.heap.get? f=some o:=λJ q=>by
  rcases q with q|q
  ·exact FZ.get J.hok q
  ·exact J.kIn _ _ q
 refine callWith_def (o:=o) (fd:=fd) hd (thn (ha.h pos pins s1 σ H1 _ I1 h1) λus s2 ⟨vs,H2,I2,r2,q1,q2⟩=>⟨at_ I2 q1,?_⟩) he
 exact jga F hr hb .nil jw I2 r2 (by rw[Ib];exact q2)
def PE1(X:Cx)(e:Expr)(t:TE):Prop :=
 ∀(pins:List (Addr×Obj))(s:Shared)(σ:St)(H:Hp)(Q:VK),1<=s.toks->Inv X pins σ H s->t σ H Q->wpAny (model X.prog X.w) X.A (eval e X.env) (EP X pins σ Q) X.xe s
theorem jpt{e:Expr}{t:TE}(h:PE X e t):PE1 X e t:=λpins s σ H Q _=>h pins s σ H Q
def jok(to:TE)(y z:Str):TE:=λσ H Q=>to σ H λv H1=>∃x,v=.str x/\x.length<=1048576/\Q (.str (Txt.replace x y z)) H1
theorem jfl{o:Expr}{to:TE}{y z:Str}{ja jb:Nat}{pa pb apos cpos:Pos}(hyz:(y == z)=false)(hz:z.length<=14)(ho:PE1 X o to)
  (hbase:attributeBase o "replace" X.env (eval o X.env)=eval o X.env:=by rfl)
  (hfew:((backTo cpos (starEach [.Constant (.str y) ja pa,.Constant (.str z) jb pb] X.env)).all (λx=>!x.1) && (backToKw cpos (keywordEach [] X.env)).all (λx=>x.1.isSome)
   && decide (([.Constant (.str y) ja pa,.Constant (.str z) jb pb]:List Expr).length+([]:List Keyword).length+(if([]:List Keyword).isEmpty then 0 else 1)<30))=true:=by rfl)
  (hline:(apos.endLine == cpos.line)=true:=by rfl):PE1 X (.Call (.Attribute o "replace" apos) [.Constant (.str y) ja pa,.Constant (.str z) jb pb] [] cpos) (jok to y z):=by
 intro pins s σ H Q h1 I h
 refine wpAny_Call_method_late hbase hfew hline rfl (wpAny_with_toks h1 (Iy (ho pins s σ H _ h1 I h) (λv s1 ⟨x,H1,I1,r1,q⟩ hs1=>?_) λe s' q _=>q))
 obtain⟨x,rfl,hx,q⟩:=q
 obtain⟨t,rfl⟩:=r1
 refine⟨"str","str.replace",PySem.F.plainAttrs_str,PySem.F.slot_str_replace,PySem.F.type_str_replace,typeIs_str _ _ _,(λ_ e=>nomatch e),?_⟩
 refine Uy (by rfl) (W6 ?_)
 refine Oe (Yg (k:=ja) (pos:=pa) (Oe (Yg (k:=jb) (pos:=pb) (Ui ?_))))
 refine SC.replaceW (by show s1.toks≠0;omega) (by show s1.toks+1≠0;omega) (by show s1.toks≠s1.toks+1;omega) hyz hx hz λt' k=>?_
 exact⟨.str _,H1,(I1.tok (s1.toks+1+1)).tok k,⟨_,rfl⟩,q⟩
def PSs1(X:Cx)(b:List Stmt)(t:TS):Prop :=
 ∀(pins:List (Addr×Obj))(s:Shared)(σ:St)(H:Hp)(D:Ends),1<=s.toks->Inv X pins σ H s->t D σ H->wpAny (model X.prog X.w) X.A (execs b X.env) (SP X pins D) X.xe s
theorem jq0{i:Nat}{x:Str}{e:Expr}{te:TE}{pos pos':Pos}{rest:List Stmt}{u:TS}(hN:X.N.Nodup)(hi:X.N[i]?=some x)(hx:Loc X.env.scope x)(he:PE1 X e te)(h2:QSs X rest u)(hs:swapsWith e (some (.Name x pos')) pos.line X.env=pure false:=by rfl)(hf:X.fn x=true\/X.env.scope.names.lookup x=some .local:=by first|exact .inl rfl|exact .inr rfl) :
  PSs1 X (.Assign [.Name x pos'] e pos::rest) (tSeq (tAsg te (jdo i)) u):=by
 intro pins s σ H D h1 I h
 refine O4 (wpAny_Assign_Name (thn (he pins s σ H _ h1 I h) λv s1 ⟨y,H1,I1,r1,q1⟩=>?_) hs)
 exact jew I1 hN hi hx r1 (λs2 I2=>h2.h pins s2 _ H1 D I2 q1) hf
end
theorem jr9{M:Model}{A:Around}{E:Value->Shared->Prop}{s:Shared}{scope:Scope}{globals:Addr}{x:Str}{v:Value}{qual:Str}{func:Option Addr}{code:Value}{builtins:Addr}{Q:Env->Shared->Prop}
  (hk:scope.kind=.function) (hl:scope.names.lookup x=some .local)
  (hQ:∀env,env=newEnv scope s.heap.objs.size globals (cellsFrom (s.heap.objs.size+1) scope.names []) qual func code none builtins ->
   ∀s',1<=s'.toks->InCallC s env.locals (bindL env.kindOf [(x,v)] λ_=>none) env.cells (bindC env.kindOf [(x,v)] λ_=>none) s'->Q env s') :
  wpAny M A (newFunctionEnv scope globals [] [(x,v)] qual func code none builtins) Q E s:=by
 have e:newFunctionEnv scope globals [] [(x,v)] qual func code none builtins=(do
   let env <-newFunctionEnv scope globals [] [] qual func code none builtins
   storeName env x v
   pure env):=by
  simp[newFunctionEnv]
 rw[e]
 refine Ad (wpAny_newFunctionEnv_cells hk nofun λenv he s1 y=>Ad ?_)
 have hl':env.kindOf x=some .local:=by subst he;exact hl
 have hk':env.scope.kind=.function:=by subst he;exact hk
 refine wpAny_storeName_local hl' y.toInCall.ns (λh' n b=>Am (hQ env he _ (Nat.le_add_left 1 _) ?_)) (by rw[hk'];rfl)
 have lt:∀a o,s.heap.get? a=some o->a≠env.locals:=λa o q=>Ar (Aw (Ai q) y.toInCall.fresh)
 obtain⟨h0,t0,e0⟩:=y.toInCall.same
 constructor
 ·constructor
  ·exact⟨h',s1.toks+1,by rw[e0]⟩
  ·simp only[bindL,hl',Af];exact n
  ·exact λa o q=>b.extBut a o (lt a o q) (y.toInCall.keep a o q)
  ·exact y.toInCall.fresh
 ·intro m c q
  have:=y.cell m c q
  have z:=y.above m c (mem_of_lookup q)
  simp only[bindC,hl',Af]at this⊢
  exact this.sameBut b (Wg z)
 ·exact y.apart
 ·exact y.above
theorem jpb{P:Program}{w:World}{K:PySem.W.Frag}{mg:Str->Option Value}{base:Heap}{x qual x0:Str}{st:Stmt}{f:Addr}{fd:FuncData}{N:List Str}{k:Nat}{sp:Sp}(F:Fun K x qual st f fd)(S:FnScope N [x0] (jk st))(len:∀vs H Q E,sp vs H Q E->vs.length=1)
  (hl0:(jk st).names.lookup x0=some .local)
  (hbody:∀(cdv:Value)(A:Around)(outer:List Env)(s:Shared)(H:Hp)(vs:List V)(Q:VK)(E:XK),Room k (A.deeper (envOfC qual (jk st) s.heap.objs.size f cdv))->sp vs H Q E ->
   ∃t,PSs1 (cxOf CX0 P w K mg base N qual (jk st) f cdv A outer s H E) (jy st) t/\t {nx:=λ_ H'=>Q .non H',rt:=Q} (start N vs) H):FnOk P w K mg base CX0 (k+1) f fd [x0] sp:=by
 obtain⟨oc,od,kV,doc,pm,an,cdv,ct,osl,rfl,lk,hcd⟩:=F.ex
 refine⟨len,λA outer s H args us vs Q E hr e0 hb r hsp=>?_⟩
 have hl:=len _ _ _ _ hsp
 have KX:K.In s.heap:=e0.mod.kin.keeps λb o e=>(e0.bs b o e).1
 have lim:s.heap.NoLimit:=e0.mod.nolimit.keeps λb o e=>(e0.bs b o e).1
 refine codeAny_call_function hr.depth (KX _ _ lk) rfl S.co S.gen rfl (PySem.W.codeRec_of KX hcd) (hb _ _ _ _ ?_)
 obtain⟨v0,e1⟩:∃v0,vs=[v0]:=match vs,hl with|[v0],_=>⟨v0,rfl⟩
 subst e1
 obtain⟨u0,e2,r0⟩:=r.one
 subst e2
 refine jr9 S.kind hl0 λenv he s1 h1 x=>?_
 subst he
 refine⟨lim.keeps x.toInCall.keep,codeAny_func ?_⟩
 obtain⟨t,ht,hq⟩:=hbody cdv A outer s H [v0] Q E (hr.deeper _) hsp
 have I:Inv (cxOf CX0 P w K mg base N qual (jk st) f cdv A outer s H E) [] (start N [v0]) H s1:=jje S hr.hd e0 hl r x
 refine Iy (ht [] s1 (start N [v0]) H _ h1 I hq) (λfl s' hs=>?_) λe s' hs=>hs
 have fin:∀{σ':St}{H':Hp}{v:V}{u:Value},Inv (cxOf CX0 P w K mg base N qual (jk st) f cdv A outer s H E) [] σ' H' s'->RelV v u->Q v H'->CE outer P w H s Q u s' :=
  fun{σ' H' v u} J rv q=>⟨v,H',J.os,J.bare,J.base,J.hok,rv,q⟩
 cases fl with
 |ret u =>
  obtain⟨v,σ',H',J,rv,q⟩:=hs
  exact fin J rv q
 |next =>
  obtain⟨σ',H',J,q⟩:=hs
  exact fin (v:=V.non) (u:=Value.none) J rfl q
 |brk =>
  obtain⟨_,_,_,q⟩:=hs
  exact False.elim q
 |cont =>
  obtain⟨_,_,_,q⟩:=hs
  exact False.elim q
section
variable{X:Cx}
theorem jjk{st:Stmt}{rest:List Stmt}{t u:TS}(h1:QS X st t)(h2:PSs1 X rest u):PSs1 X (st::rest) (tSeq t u):=by
 intro pins s σ H D ht I h
 refine O4 (wpAny_with_toks ht (Iy (h1.h pins s σ H {D with nx:=u D} I h) (λf s1 q ht1=>?_) λe s' q _=>q))
 cases f with
 |next =>
  obtain⟨σ',H',I',q⟩:=q
  exact h2 pins s1 σ' H' D ht1 I' q
 |ret v=>exact q
 |brk=>exact q
 |cont=>exact q
theorem jqz{e:Expr}{te:TE}{pos:Pos}(he:PE1 X e te):PSs1 X [.Return (some e) pos] (tRet te):=by
 intro pins s σ H D ht I h
 exact O4 (wpAny_Return_some (thn (he pins s σ H _ ht I h) λv s1 ⟨x,H1,I1,r1,q1⟩=>⟨x,σ,H1,I1,r1,q1⟩))
theorem jqy{a b:Expr}{ta tb:TE}{x1:Nat}{pos:Pos}(ha:QE X a ta)(hb:PE1 X b tb)(hs:starEach [a,b] X.env=[(false,eval a X.env),(false,eval b X.env)]:=by rfl):PE1 X (.Tuple [a,b] x1 pos) (tTup (je4 ta (je4 tb tNil))):=by
 intro pins s σ H Q ht I hq
 refine wpAny_Tuple_spliced ?_
 rw[hs]
 show wpAny _ _ (spliced [(false,eval a X.env),(false,eval b X.env)]) _ _ s
 refine Oe (wpAny_with_toks ht (Iy (ha.h pins s σ H _ I hq) (λu s1 ⟨x,H1,I1,r1,q1⟩ ht1=>?_) λe s' q _=>q))
 refine Oe (thn (hb pins s1 σ H1 _ ht1 I1 q1) λu2 s2 ⟨x2,H2,I2,r2,z,q2⟩=>Ui ⟨z,?_⟩)
 have hf:H2 s2.heap.objs.size=none:=I2.hok.fresh (Ag _)
 refine⟨.ref s2.heap.objs.size,upd H2 s2.heap.objs.size (.tup [x,x2]),I2.laid (t':=s2.toks) (λb u e=>Ac _ e) (Ag _) ?_,rfl,q2 _ hf⟩
 exact⟨z,_,.cons r1 (.cons r2 .nil),⟨_,At _ rfl,rfl,_,rfl⟩⟩
def jr1(K:PySem.W.Frag)(T:Addr)(i j:Nat)(sp spg:Sp)(t:TA)(ts:TS):TS:=λEn σ H=>t σ H λvs H1=>sp (vs++[]) H1 (λv H2=>spg [v] H2 (λv' H3=>En.nx (σ.set i (some v')) H3) E0) (hdl K T j ts En σ)
theorem qps_tryB{K:PySem.W.Frag}{T:Addr}{i j:Nat}{y n tn:Str}{p1 p4 p5 p6 p7:Pos}{suite:List Stmt}{b₀:Stmt}{ts:TS}{k:Nat}{f:Addr}{fd:FuncData}{ps:List Str}{sp:Sp}{x:Str}{p pos:Pos}{e:Expr}{es:List Expr}{t:TA}
  {kg:Nat}{g:Addr}{fdg:FuncData}{psg:List Str}{spg:Sp}{xg:Str}{pg posg:Pos}
  (hK:X.K=K) (Fg:FnOk X.prog X.w K X.mg X.base CX0 kg g fdg psg spg) (hrg:Room kg X.A) (hgg:Gl X xg) (hmg:X.mg xg=some (.ref g)) (hkg:PySem.W.keepIn K (.ref g)=true) (hbg:Binds K fdg psg [])
  (F:FnOk X.prog X.w K X.mg X.base (CXE X.prog X.w) k f fd ps sp) (hr:Room k X.A) (hg:Gl X x) (hm:X.mg x=some (.ref f)) (hk:PySem.W.keepIn K (.ref f)=true) (hb:Binds K fd ps []) (ha:QA X (e::es) t)
  (xt:XT K T) (hgT:Gl X tn) (hmT:X.mg tn=some (.ref T)) (hst:∀A',A'.frames=X.A.frames->A'.depth=X.A.depth->A'.units=X.A.units->A'.guards=X.A.guards->QSs (X.late A') (b₀::suite) ts)
  (hs:X.stack=X.env::X.outer/\X.env.frame=some X.env.locals) (hx:X.ex=[]) (hxe:∀e s,¬X.xe e s) (hN:X.N.Nodup) (hi:X.N[i]?=some y) (hy:X.env.scope.names.lookup y=some .local) (hj:X.N[j]?=some n) (hl:X.env.scope.names.lookup n=some .local)
  (hdT:(tn == ("__debug__":Str))=false:=by decide) (hdb:(x == ("__debug__":Str))=false:=by decide) (hdg:(xg == ("__debug__":Str))=false:=by decide) (he:starEach (e::es) X.env=(false,eval e X.env)::starEach es X.env:=by rfl) (hpl:(backTo pos (starEach es X.env)).any (·.1)=false:=by rfl)
  (heg:starEach [.Call (.Name x p) (e::es) [] pos] X.env=[(false,eval (.Call (.Name x p) (e::es) [] pos) X.env)]:=by rfl)
  (hsw:swapsWith (.Call (.Name xg pg) [.Call (.Name x p) (e::es) [] pos] [] posg) (some (.Name y p1)) p4.line X.env=pure false:=by rfl) :
  QS X (.Try [.Assign [.Name y p1] (.Call (.Name xg pg) [.Call (.Name x p) (e::es) [] pos] [] posg) p4] [.ExceptHandler (some (.Name tn p5)) (some n) (b₀::suite) p6] [] [] p7) (jr1 K T i j sp spg t ts):=by
 subst hK
 refine⟨λpins s σ H En I h=>?_⟩
 refine jq7 hs hx hxe hN hj hl xt hgT hmT hdT (λA' h1 h2 h3 h4=>(hst A' h1 h2 h3 h4).h) I ?_
 refine O4 (wpAny_Assign_Name (Iy (Q:=EP X pins σ λv' H3=>En.nx (σ.set i (some v')) H3) ?_ (λv s1 ⟨z,H1,I1,r1,q1⟩=>?_) λ_ _ z=>z) hsw)
 ·refine Ir (jed I hgg hmg ?_ hdg)
  refine Ox (h₀:=X.base) I.ok.mod.kin hkg ?_ (by rw[heg];rfl) rfl
  rw[heg]
  show wpAny _ _ (spliced [(false,eval (.Call (.Name x p) (e::es) [] pos) X.env)]) _ _ s
  refine Oe (Iy (call_at (σ:=σ) F hr hg hm hk hb .nil ha.h hx hxe I h (λa C dx H' s' I' f' q=>⟨a,C,dx,H',σ,rfl,I',f',q⟩) hdb he hpl) (λv s1 ⟨z,H1,I1,r1,q1⟩=>Ui ⟨I1.kIn,?_⟩) λ_ _ z=>z)
  have r2:Vals [z] [v]:=.cons r1 .nil
  have hl:[v].length=psg.length:=Fg.len _ _ _ _ q1
  refine Wl (U2 (Fg.run X.A X.stack s1 H1 ⟨[v],[]⟩ [v] [z] _ E0 hrg I1.env0 (hbg s1 [v] I1.kIn hl) r2 q1) λr s' hq=>?_)
  cases r with
  |error e=>exact False.elim hq
  |ok fl =>
   cases fl with
   |ret u=>exact I1.after hq
   |next=>exact False.elim hq
   |brk=>exact False.elim hq
   |cont=>exact False.elim hq
 ·exact jew I1 hN hi (.inl hy) r1 (λs2 I2=>Uu ⟨_,H1,I2,q1⟩) (.inr hy)
end
end L2
namespace My
open PySem L2 PySem.StrLaws PySem.Builtin PySem.Builtin.Str
def isC(l:List Nat)(c i:Nat):Bool:=decide (l[i]?=some c)
theorem jlh(x:Str)(c:Nat):∀(k a:Nat)(st:Array Nat×Nat),a+k<=x.length+1->st.1.toList=(List.range a).filter (isC x.cps.toList c)->st.2<=a ->
  (forIn (List.range' a k) st (occBody x ⟨#[c]⟩ x.length (x.length+1))).run.1.toList=(List.range (a+k)).filter (isC x.cps.toList c)
 |0,a,st,_,h,_=>h
 |k+1,a,st,hk,h,h2=>by
  have hs:st.1.size<=a:=by
   have:=Oy (isC x.cps.toList c) (List.range a)
   rw[<-h,U0,Array.length_toList]at this
   exact this
  have step:∀b,isC x.cps.toList c a=b->(List.range (a+1)).filter (isC x.cps.toList c)=(List.range a).filter (isC x.cps.toList c)++if b then[a]else[]:=λb e=>by
   rw[We,O9,Iv,List.filter_nil,e]
  rw[Wa,W7]
  unfold occBody
  split
  ·rename_i hc
   have hx:isC x.cps.toList c a=true:=Og ((subAt_one x c a).mp ⟨hc.1.2,hc.2⟩)
   have:=jlh x c k (a+1) (st.1.push a,a+1) (by omega) (by rw[Array.toList_push,h,step true hx];rfl) (Ag _)
   rw[show a+(k+1)=a+1+k by omega]
   exact this
  ·rename_i hc
   have hx:isC x.cps.toList c a=false:=Ia λe=>by
    have q:=(subAt_one x c a).mpr e
    exact hc ⟨⟨⟨by omega,h2⟩,q.1⟩,q.2⟩
   have:=jlh x c k (a+1) st (by omega) (by rw[h,step false hx];simp) (by omega)
   rw[show a+(k+1)=a+1+k by omega]
   exact this
theorem jgh(x:Str)(c:Nat):occurrences x ⟨#[c]⟩ 0 x.length (x.length+1)=(List.range' 0 x.length).filter (isC x.cps.toList c):=by
 have h:=jlh x c (x.length+1) 0 (#[],0) (by omega) rfl (Ag _)
 rw[occ_eq,Nat.sub_zero,h,Nat.zero_add,We,O9,List.range_eq_range']
 have:isC x.cps.toList c x.length=false:=Ia λe=>by
  have:=(Ab.mp e).1
  simp[Str.length]at this
 simp[this]
def sp(c:Nat):List Nat->List (List Nat)
 |[]=>[[]]
 |x::l=>if x=c then[]::sp c l else match sp c l with
  |[]=>[[x]]
  |p::r=>(x::p)::r
theorem jdt(x:Str)(i j:Nat):(strSub x i j).cps.toList=(x.cps.toList.drop i).take (j-i):=by
 simp[strSub]
theorem jb2(x:Str)(c:Nat):∀k a,a+k=x.length->(partsFrom x 1 a ((List.range' a k).filter (isC x.cps.toList c))).map (λp=>p.cps.toList)=sp c (x.cps.toList.drop a)
 |0,a,h=>by
  have e:x.cps.toList.drop a=[]:=Wb.mpr (by simp[Str.length]at h⊢;omega)
  simp only[List.range'_zero,List.filter_nil,partsFrom,Av,O8,jdt,e,sp,List.take_nil]
 |k+1,a,h=>by
  have hl:a<x.cps.toList.length:=by simp[Str.length]at h⊢;omega
  have ed:x.cps.toList.drop a=x.cps.toList[a]::x.cps.toList.drop (a+1):=A6 hl
  have ih:=jb2 x c k (a+1) (by omega)
  rw[Wa,Iv,ed,sp]
  by_cases hc:x.cps.toList[a]=c
  ·have:isC x.cps.toList c a=true:=Og (by rw[An hl,hc])
   rw[Af this,Af hc]
   simp only[partsFrom,Av,jdt,Nat.sub_self,List.take_zero]
   rw[ih]
  ·have:isC x.cps.toList c a=false:=Ia (by rw[An hl];intro e;exact hc (Az e))
   rw[this,Aa (by simp),Aa hc,<-ih]
   have hge:∀i∈(List.range' (a+1) k).filter (isC x.cps.toList c),a+1<=i:=λi hi=>(Wt.mp (Ot.mp hi).1).1
   generalize(List.range' (a+1) k).filter (isC x.cps.toList c)=cs at hge
   have cut:∀j,a+1<=j->(strSub x a j).cps.toList=x.cps.toList[a]::(strSub x (a+1) j).cps.toList:=λj hj=>by
    rw[jdt,jdt,ed,show j-a=(j-(a+1))+1 by omega,List.take_succ_cons]
   cases cs with
   |nil=>simp only[partsFrom,Av,O8,cut x.length (by omega)]
   |cons d r=>simp only[partsFrom,Av,cut d (hge d (.head _))]
theorem jfd{x y:Str}(h:x.cps.toList=y.cps.toList):x=y:=by
 cases x;cases y
 simp only[Array.toList_inj]at h
 rw[h]
theorem jnl(c:Nat):∀{l:List Nat},c∉l->sp c l=[l]
 |[],_=>rfl
 |x::l,h=>by
  have hx:¬x=c:=λe=>by rw[e]at h;exact h (.head _)
  rw[sp,Aa hx,jnl c λhm=>h (.tail _ hm)]
theorem jl6(x:Str)(c:Nat)(hc:c<256):(Txt.split x ⟨#[c]⟩).map (λp=>p.cps.toList)=sp c x.cps.toList:=by
 have hk:Str.strKind (⟨#[c]⟩:Str)=1:=by simp[Str.strKind,hc]
 have hk2:¬Str.strKind x<1:=by unfold Str.strKind;split <;> (try split) <;> omega
 have whole:occurrences x ⟨#[c]⟩ 0 x.length (x.length+1)=[]->sp c x.cps.toList=[x.cps.toList]:=λe=>by
  refine jnl c λhm=>?_
  obtain⟨i,hi⟩:=List.getElem?_of_mem hm
  rw[jgh]at e
  have hil:=(Ab.mp hi).1
  have:i∈(List.range' 0 x.length).filter (isC x.cps.toList c):=Ot.mpr ⟨Wt.mpr ⟨Ix _,by simp[Str.length]at hil⊢;omega⟩,Og hi⟩
  rw[e]at this
  cases this
 unfold Txt.split
 by_cases h1:x.length<1
 ·rw[Af (by show(decide (x.length<1) || _)=true;simp[h1])]
  have:x.cps.toList=[]:=List.eq_nil_of_length_eq_zero (by simp[Str.length]at h1⊢;omega)
  simp[this,sp]
 ·rw[Aa (by rw[hk];show ¬(decide (x.length<1) || _)=true;simp[h1,hk2]),jgh]
  by_cases h2:((List.range' 0 x.length).filter (isC x.cps.toList c)).isEmpty=true
  ·rw[Af h2,whole (by rw[jgh];exact Wx.mp h2)]
   rfl
  ·rw[Aa h2,partsBetween_eq]
   exact jb2 x c x.length 0 (by omega)
theorem jds(sep:Str)(x y:Str)(r:List Str):(Str.join sep (x::y::r)).cps.toList=x.cps.toList++sep.cps.toList++(Str.join sep (y::r)).cps.toList:=by
 show(x++sep++Str.join sep (y::r)).cps.toList=_
 rw[Str.cps_append,Str.cps_append]
 simp
def subs(c:Nat)(z l:List Nat):List Nat:=l.flatMap λd=>if d=c then z else[d]
theorem jfc(c:Nat):∀l,∃p r,sp c l=p::r
 |[]=>⟨[],[],rfl⟩
 |x::l=>by
  obtain⟨p,r,e⟩:=jfc c l
  rw[sp,e]
  by_cases h:x=c
  ·exact⟨[],p::r,Af h⟩
  ·exact⟨x::p,r,by rw[Aa h]⟩
theorem jip(c:Nat)(z:Str):∀(l:List Nat)(ps:List Str),ps.map (λp=>p.cps.toList)=sp c l->(Str.join z ps).cps.toList=subs c z.cps.toList l
 |[],ps,h=>by
  match ps,h with
  |[p],h=>simp[sp]at h;show p.cps.toList=_;simp[h,subs]
  |[],h=>simp[sp]at h
  |_::_::_,h=>simp[sp]at h
 |x::l,ps,h=>by
  obtain⟨p,r,e⟩:=jfc c l
  rw[sp,e]at h
  by_cases hx:x=c
  ·rw[Af hx]at h
   match ps,h with
   |[],h=>simp at h
   |[_],h=>simp at h
   |q0::q1::qs,h =>
    simp only[Av,Iz]at h
    have ih:=jip c z l (q1::qs) (by rw[Av,h.2.1,h.2.2,e])
    rw[jds,h.1,ih]
    simp[subs,hx]
  ·rw[Aa hx]at h
   match ps,h with
   |[],h=>simp at h
   |q0::qs,h =>
    simp only[Av,Iz]at h
    have ih:=jip c z l (⟨p.toArray⟩::qs) (by rw[Av,h.2,e])
    have:(Str.join z (q0::qs)).cps.toList=x::(Str.join z (⟨p.toArray⟩::qs)).cps.toList:=by
     cases qs with
     |nil=>show q0.cps.toList=x::p.toArray.toList;rw[h.1]
     |cons y ys=>rw[jds,jds,h.1];simp
    rw[this,ih]
    simp[subs,hx]
theorem jfp(x:Str)(c:Nat)(z:Str):(Txt.replace x ⟨#[c]⟩ z).cps.toList=subs c z.cps.toList x.cps.toList:=by
 unfold Txt.replace
 have e0:(((⟨#[c]⟩:Str).length == 0) && (z.length == 0))=false:=rfl
 rw[e0,Bool.or_false,jgh]
 by_cases h2:((List.range' 0 x.length).filter (isC x.cps.toList c)).isEmpty=true
 ·rw[Af h2]
  have hn:c∉x.cps.toList:=λhm=>by
   obtain⟨i,hi⟩:=List.getElem?_of_mem hm
   have hil:=(Ab.mp hi).1
   have:i∈(List.range' 0 x.length).filter (isC x.cps.toList c):=Ot.mpr ⟨Wt.mpr ⟨Ix _,by simp[Str.length]at hil⊢;omega⟩,Og hi⟩
   rw[Wx.mp h2]at this
   cases this
  have:∀l:List Nat,c∉l->subs c z.cps.toList l=l:=λl=>by
   induction l with
   |nil=>intro _;rfl
   |cons d l ih =>
    intro h
    have hd:¬d=c:=λe=>by rw[e]at h;exact h (.head _)
    have:=ih λhm=>h (.tail _ hm)
    simp only[subs,List.flatMap_cons,Aa hd]at this⊢
    rw[this];rfl
  exact(this _ hn).symm
 ·rw[Aa h2,glued_eq_join,partsBetween_eq]
  exact jip c z _ _ (jb2 x c x.length 0 (by omega))
def fl(cur:List Nat):List (List Nat):=if cur=[]then[]else[cur]
def tok:List Nat->List Nat->List (List Nat)
 |cur,[]=>fl cur
 |cur,c::l=>if c=32 then fl cur++tok [] l else if c=40\/c=41 then fl cur++[c]::tok [] l else tok (cur++[c]) l
def neL(ps:List (List Nat)):List (List Nat):=ps.filter λp=>!p.isEmpty
theorem jkc(p:List Nat)(r:List (List Nat)):neL (p::r)=fl p++neL r:=by
 cases p <;> rfl
theorem jp5:∀(l cur p:List Nat)(r:List (List Nat)),sp 32 (subs 41 [32,41,32] (subs 40 [32,40,32] l))=p::r->neL ((cur++p)::r)=tok cur l
 |[],cur,p,r,h=>by
  simp only[subs,List.flatMap_nil,sp,Iz]at h
  rw[<-h.1,<-h.2,jkc,Ib]
  simp[neL,tok]
 |c::l,cur,p,r,h=>by
  obtain⟨p',r',e⟩:=jfc 32 (subs 41 [32,41,32] (subs 40 [32,40,32] l))
  have ih:=λcur=>jp5 l cur p' r' e
  have ih0:=ih []
  rw[List.nil_append]at ih0
  have es:subs 41 [32,41,32] (subs 40 [32,40,32] (c::l))=(if c=40 then[32,40,32]else if c=41 then[32,41,32]else[c])++subs 41 [32,41,32] (subs 40 [32,40,32] l):=by
   by_cases h40:c=40
   ·subst h40;simp[subs]
   ·by_cases h41:c=41
    ·subst h41;simp[subs]
    ·simp[subs,h40,h41]
  rw[es]at h
  rw[tok]
  by_cases h32:c=32
  ·subst h32
   rw[Aa (by decide),Aa (by decide)]at h
   rw[List.singleton_append,sp,Af rfl,e]at h
   simp only[Iz]at h
   rw[Af rfl,<-h.1,<-h.2,jkc,Ib,ih0]
  ·rw[Aa h32]
   by_cases hb:c=40\/c=41
   ·rw[Af hb]
    have:sp 32 (32::c::32::subs 41 [32,41,32] (subs 40 [32,40,32] l))=[]::[c]::p'::r':=by
     rw[sp,Af rfl,sp,Aa h32,sp,Af rfl,e]
    have e2:(if c=40 then[32,40,32]else if c=41 then[32,41,32]else[c])++subs 41 [32,41,32] (subs 40 [32,40,32] l)=32::c::32::subs 41 [32,41,32] (subs 40 [32,40,32] l):=by
     rcases hb with rfl|rfl <;> rfl
    rw[e2,this]at h
    simp only[Iz]at h
    rw[<-h.1,<-h.2,jkc,Ib,jkc,ih0]
    rfl
   ·rw[Aa hb]
    have h40:¬c=40:=λz=>hb (.inl z)
    have h41:¬c=41:=λz=>hb (.inr z)
    rw[Aa h40,Aa h41,List.singleton_append,sp,Aa h32,e]at h
    simp only[Iz]at h
    rw[<-h.1,<-h.2,<-ih,A9]
    rfl
def Cut(T:List Nat)(E:List (List Nat))(cur:List Nat):Prop:=∀m,tok [] (T++m)=E++tok cur m
theorem Cut.nil:Cut [] [] []:=λm=>rfl
theorem jgp:∀n m,tok [] (List.replicate n 32++m)=tok [] m
 |0,m=>rfl
 |n+1,m=>by
  rw[List.replicate_succ,List.cons_append,tok,Af rfl,jgp n m]
  rfl
theorem Cut.sps{T:List Nat}{E:List (List Nat)}(h:Cut T E [])(n:Nat):Cut (T++List.replicate n 32) E []:=λm=>by
 rw[A9,h,jgp]
theorem Cut.sp1{T:List Nat}{E:List (List Nat)}{cur:List Nat}(h:Cut T E cur){n:Nat}(hn:1<=n):Cut (T++List.replicate n 32) (E++fl cur) []:=λm=>by
 obtain⟨k,rfl⟩:∃k,n=k+1:=⟨n-1,by omega⟩
 rw[A9,h,List.replicate_succ,List.cons_append,tok,Af rfl,jgp,A9]
theorem Cut.br{T:List Nat}{E:List (List Nat)}{cur:List Nat}(h:Cut T E cur){c:Nat}(hc:c=40\/c=41):Cut (T++[c]) (E++fl cur++[[c]]) []:=λm=>by
 have h32:¬c=32:=by omega
 rw[A9,h,List.singleton_append,tok,Aa h32,Af hc]
 simp
theorem jmd:∀(w cur m:List Nat),(∀c∈w,c≠32/\c≠40/\c≠41)->tok cur (w++m)=tok (cur++w) m
 |[],cur,m,_=>by simp
 |c::w,cur,m,h=>by
  have hc:=h c (.head _)
  rw[List.cons_append,tok,Aa hc.1,Aa (by omega),jmd w _ m λd hd=>h d (.tail _ hd),A9]
  rfl
theorem Cut.word{T:List Nat}{E:List (List Nat)}(h:Cut T E []){w:List Nat}(hw:∀c∈w,c≠32/\c≠40/\c≠41):Cut (T++w) E w:=λm=>by
 rw[A9,h,jmd w [] m hw,List.nil_append]
theorem Cut.done{T:List Nat}{E:List (List Nat)}{cur:List Nat}(h:Cut T E cur):tok [] T=E++fl cur:=by
 have:=h []
 rwa[Ib]at this
end My
namespace My
open PySem
def toS(l:List Nat):Str:=⟨l.toArray⟩
theorem jsy(l:List Nat)(c:Nat):toS l++(⟨#[c]⟩:Str)=toS (l++[c]):=by
 show(⟨l.toArray++#[c]⟩:Str)=⟨(l++[c]).toArray⟩
 simp
theorem jiy(l:List Nat):(toS l).length=l.length:=by simp[toS,Str.length]
end My
namespace My
open PySem L2 PyProof.Rows
def sg(z:Str):List Nat:=z.cps.toList
theorem jd8(z:Str):(sg z).length=z.length:=by simp[sg,Str.length]
theorem jdu(x y:Str):sg (x++y)=sg x++sg y:=by simp[sg,Str.cps_append]
theorem jtv{x y:Str}(h:sg x=sg y):x=y:=by
 cases x;cases y
 simp only[sg]at h
 rw[Array.toList_inj.mp h]
theorem jro:∀l:List Str,sg (Str.join ⟨#[]⟩ l)=(l.map sg).flatten
 |[]=>rfl
 |x::l=>by rw[join_nil_cons,jdu,jro l];rfl
theorem jrp(l:List Str):sg (Txt.join (Str.ofString "") l)=(l.map sg).flatten:=by
 have e0:(Str.ofString "")=(⟨#[]⟩:Str):=by decide +kernel
 have e:=eq_of_beq (join_plain_closes ⟨#[]⟩ l)
 rw[e0,e,jro]
def tx(T:List Str)(i:Nat):Str:=(T[i]?).getD ⟨#[]⟩
def pcL(T:List Str):V->List Nat
 |.str s=>sg s
 |.int i=>sg (tx T i.toNat)
 |_=>[]
def pw(T:List Str):V->Nat
 |.str _=>1
 |.int i=>2*(tx T i.toNat).length
 |_=>0
def cat(T:List Str)(l:List V):List Nat:=(l.map (pcL T)).flatten
def wsum(T:List Str)(l:List V):Nat:=(l.map (pw T)).sum
theorem jmu(T:List Str)(a b:List V):cat T (a++b)=cat T a++cat T b:=by simp[cat]
theorem jey(T:List Str)(a b:List V):wsum T (a++b)=wsum T a+wsum T b:=by simp[wsum]
theorem jhd(T:List Str):∀l:List V,wsum T l.reverse=wsum T l
 |[]=>rfl
 |x::l=>by
  rw[Wu,jey,jhd T l]
  simp[wsum]
  omega
def isPc(n:Nat)(x:V):Prop:=(∃s,x=.str s)\/∃i:Nat,x=.int (i:Int)/\i<n
structure Wr(n:Nat)(pc:Nat->List V)(T:List Str):Prop where
 pos:0<n
 few:n<=1000
 len:T.length=n
 ok:∀k,k<n->∀x∈pc k,isPc k x
 sz:∀k,k<n->(pc k).length<=100
 eq:∀k,k<n->sg (tx T k)=cat T (pc k)
 bd:∀k,(tx T k).length<=50000
 wt:∀k,k<n->wsum T (pc k)<2*(tx T k).length
theorem ji1(T:List Str){n:Nat}(h1:∀i,i<n->1<=(tx T i).length):∀l:List V,(∀x∈l,isPc n x)->l.length<=wsum T l
 |[],_=>Ix _
 |x::l,h=>by
  have ih:=ji1 T h1 l λy hy=>h y (.tail _ hy)
  have e:wsum T (x::l)=pw T x+wsum T l:=by simp[wsum]
  have:1<=pw T x:=by
   rcases h x (.head _)with⟨s,rfl⟩|⟨i,rfl,hi⟩
   ·exact Ag _
   ·have:=h1 i hi
    simp[pw]
    omega
  rw[e,List.length_cons]
  omega
theorem Wr.one{n:Nat}{pc:Nat->List V}{T:List Str}(W:Wr n pc T){i:Nat}(h:i<n):1<=(tx T i).length:=by have:=W.wt i h;omega
theorem jqp(T:List Str)(l:List V):(cat T l).length=(l.map λx=>(pcL T x).length).sum:=by
 simp[cat,List.length_flatten,Ov]
 rfl
theorem isPc.mono{m n:Nat}{x:V}(h:isPc m x)(k:m<=n):isPc n x:=by
 rcases h with h|⟨i,e,hi⟩
 ·exact .inl h
 ·exact .inr ⟨i,e,by omega⟩
theorem jna{α:Type}{xs:List α}{x:α}(h:xs[xs.length-1]?=some x):xs=xs.dropLast++[x]:=by
 have hne:xs≠[]:=by rintro rfl;simp at h
 have e:=U5 hne
 have e2:xs.getLast hne=x:=by
  rw[List.getLast_eq_getElem hne]
  have:=(Ab.mp h).2
  exact this
 rw[<-e2,e]
theorem jot{α:Type}{xs:List α}{v:α}(h:xs[xs.length-1]?=some v):atI xs (-1)=some v:=by
 rw[jna h]
 exact jgz _ _
theorem jmv(T:List Str):∀(l:List V)(x:V),x∈l->(pcL T x).length<=(cat T l).length
 |[],x,h=>nomatch h
 |y::l,x,h=>by
  have e:cat T (y::l)=pcL T y++cat T l:=by simp[cat]
  rw[e,Ap]
  rcases Al.mp h with rfl|h
  ·omega
  ·have:=jmv T l x h
   omega
theorem Wr.pc_le{n:Nat}{pc:Nat->List V}{T:List Str}(W:Wr n pc T){i:Nat}(h:i<n){x:V}(hx:x∈pc i):(pcL T x).length<=50000:=by
 have h1:=jmv T (pc i) x hx
 rw[<-W.eq i h,jd8]at h1
 have:=W.bd i
 omega
theorem Wr.sum{n:Nat}{pc:Nat->List V}{T:List Str}(W:Wr n pc T){i:Nat}(h:i<n):((pc i).map λx=>(pcL T x).length).sum=(tx T i).length:=by
 rw[<-jqp,<-W.eq i h,jd8]
theorem jno:∀l:List Nat,(l.map λn:Nat=>(n:Int)).sum=((l.sum:Nat):Int)
 |[]=>rfl
 |x::l=>by simp[jno l]
end My
namespace My
open PySem L2
abbrev Row:=List L2.Key
def mapR(g:Nat->Nat):L2.Key->L2.Key
 |.inl i=>.inl (g i.toNat:Nat)
 |.inr s=>.inr s
def ptK:L2.Key->Option Nat
 |.inl i=>some i.toNat
 |.inr _=>none
def wpR(g:Nat->Nat)(r:Row):Row:=r.map (mapR g)
def ptR(r:Row):List Nat:=r.filterMap ptK
def RowOk(k:Nat)(r:Row):Prop:=∀i:Int,(Sum.inl i:L2.Key)∈r->0<=i/\i<k
theorem jhv(g:Nat->Nat):∀r,ptR (wpR g r)=(ptR r).map g
 |[]=>rfl
 |.inl i::r=>by
  have:=jhv g r
  simp only[ptR,wpR,Av,List.filterMap_cons,mapR,ptK]at this⊢
  rw[this];simp
 |.inr s::r=>by
  have:=jhv g r
  simp only[ptR,wpR,Av,List.filterMap_cons,mapR,ptK]at this⊢
  rw[this]
theorem jen{k:Nat}{r:Row}(h:RowOk k r){p:Nat}(hp:p∈ptR r):p<k:=by
 obtain⟨x,hx,e⟩:=Wh.mp hp
 cases x with
 |inl i=>simp[ptK]at e;have:=h i hx;omega
 |inr s=>simp[ptK]at e
theorem jis{r:Row}{i:Int}(h:(Sum.inl i:L2.Key)∈r):i.toNat∈ptR r:=Wh.mpr ⟨_,h,rfl⟩
theorem jgc{g g':Nat->Nat}{r:Row}(h:∀p∈ptR r,g p=g' p):wpR g r=wpR g' r:=by
 refine Up λx hx=>?_
 cases x with
 |inl i=>simp only[mapR];rw[h _ (jis hx)]
 |inr s=>rfl
theorem jrd(g g':Nat->Nat)(r:Row):wpR g (wpR g' r)=wpR (λx=>g (g' x)) r:=by
 unfold wpR
 rw[Ov]
 refine Up λx _=>?_
 cases x <;> simp[mapR]
theorem jt7{g:Nat->Nat}{k:Nat}{r:Row}(h:∀p∈ptR r,g p<k):RowOk k (wpR g r):=λi hi=>by
 obtain⟨x,hx,e⟩:=Io.mp hi
 cases x with
 |inl j=>simp only[mapR,Sum.inl.injEq]at e;have:=h _ (jis hx);omega
 |inr s=>simp[mapR]at e
def wkF(C:Nat->List Nat):Nat->Nat->List Nat->List Nat
 |0,v,cm=>cm++[v]
 |f+1,v,cm=>(C v).foldl (λcm p=>if p∈cm then cm else wkF C f p cm) cm++[v]
def wk(C:Nat->List Nat)(v:Nat)(cm:List Nat):List Nat:=wkF C v v cm
def Dn(C:Nat->List Nat)(n:Nat):Prop:=∀v,v<n->∀p∈C v,p<v
def stp(C:Nat->List Nat)(cm:List Nat)(p:Nat):List Nat:=if p∈cm then cm else wk C p cm
theorem jmh{C:Nat->List Nat}{n:Nat}(d:Dn C n):∀(f f' v:Nat)(cm:List Nat),v<n->v<=f->v<=f'->wkF C f v cm=wkF C f' v cm:=by
 have z:∀f cm,0<n->wkF C f 0 cm=cm++[0]:=λf cm hn=>by
  cases f with
  |zero=>rfl
  |succ f =>
   have:C 0=[]:=by
    cases h:C 0 with
    |nil=>rfl
    |cons p t=>exact absurd (d 0 hn p (by rw[h];exact .head _)) (by omega)
   simp[wkF,this]
 intro f
 induction f with
 |zero =>
  intro f' v cm h1 h2 _
  obtain rfl:v=0:=by omega
  rw[z _ _ h1,z _ _ h1]
 |succ f ih =>
  intro f' v cm h1 h2 h3
  cases f' with
  |zero =>
   obtain rfl:v=0:=by omega
   rw[z _ _ h1,z _ _ h1]
  |succ f' =>
   simp only[wkF]
   congr 1
   have go:∀ps:List Nat,(∀p∈ps,p<v)->∀cm,ps.foldl (λcm p=>if p∈cm then cm else wkF C f p cm) cm=ps.foldl (λcm p=>if p∈cm then cm else wkF C f' p cm) cm:=by
    intro ps
    induction ps with
    |nil=>intro _ _;rfl
    |cons p ps ihp =>
     intro hp cm
     have:=hp p (.head _)
     rw[List.foldl_cons,List.foldl_cons,ih f' p cm (by omega) (by omega) (by omega)]
     exact ihp (λq hq=>hp q (.tail _ hq)) _
   exact go _ (d v h1) cm
theorem je5{C:Nat->List Nat}{n:Nat}(d:Dn C n){v:Nat}(hv:v<n)(cm:List Nat):wk C v cm=(C v).foldl (stp C) cm++[v]:=by
 have e:wk C v cm=wkF C (v+1) v cm:=jmh d _ _ _ _ hv (Ag _) (by omega)
 rw[e]
 simp only[wkF]
 congr 1
 have go:∀ps:List Nat,(∀p∈ps,p<v)->∀cm,ps.foldl (λcm p=>if p∈cm then cm else wkF C v p cm) cm=ps.foldl (stp C) cm:=by
  intro ps
  induction ps with
  |nil=>intro _ _;rfl
  |cons p ps ihp =>
   intro hp cm
   have:=hp p (.head _)
   rw[List.foldl_cons,List.foldl_cons]
   have:(if p∈cm then cm else wkF C v p cm)=stp C cm p:=by
    unfold stp wk
    rw[jmh d v p p cm (by omega) (by omega) (Ag _)]
   rw[this]
   exact ihp (λq hq=>hp q (.tail _ hq)) _
 exact go _ (d v hv) cm
theorem jeh{C:Nat->List Nat}{P:List Nat->Prop}:∀{ps:List Nat}{cm:List Nat},P cm->(∀p∈ps,∀cm,P cm->p∉cm->P (wk C p cm))->P (ps.foldl (stp C) cm)
 |[],_,h,_=>h
 |p::ps,cm,h,st=>by
  rw[List.foldl_cons]
  refine jeh ?_ λq hq=>st q (.tail _ hq)
  unfold stp
  split
  ·exact h
  ·exact st p (.head _) cm h (by assumption)
theorem jmi{C:Nat->List Nat}{n:Nat}(d:Dn C n):∀(v:Nat),v<n->∀cm,∃t,wk C v cm=cm++t++[v]:=by
 intro v
 induction v using Nat.strongRecOn with
 |_ v ih =>
  intro hv cm
  rw[je5 d hv]
  obtain⟨t,e⟩:∃t,(C v).foldl (stp C) cm=cm++t:=by
   refine jeh (P:=λl=>∃t,l=cm++t) ⟨[],by simp⟩ λp hp l ⟨t,e⟩ _=>?_
   have:=d v hv p hp
   obtain⟨t',e'⟩:=ih p this (by omega) l
   exact⟨t++t'++[p],by rw[e',e];simp⟩
  exact⟨t,by rw[e]⟩
theorem jnv{C:Nat->List Nat}{n:Nat}(d:Dn C n){v:Nat}(hv:v<n){cm:List Nat}{x:Nat}(h:x∈cm):x∈wk C v cm:=by
 obtain⟨t,e⟩:=jmi d v hv cm
 rw[e];simp[h]
theorem jnw{C:Nat->List Nat}{n:Nat}(d:Dn C n){v:Nat}(hv:v<n)(cm:List Nat):v∈wk C v cm:=by
 obtain⟨t,e⟩:=jmi d v hv cm
 rw[e];simp
theorem jr2{C:Nat->List Nat}{n:Nat}(d:Dn C n):∀(v:Nat),v<n->∀cm,∀x∈wk C v cm,x∈cm\/x<=v:=by
 intro v
 induction v using Nat.strongRecOn with
 |_ v ih =>
  intro hv cm x hx
  rw[je5 d hv]at hx
  rcases Ie.mp hx with h|h
  ·have:∀x∈(C v).foldl (stp C) cm,x∈cm\/x<=v:=by
    refine jeh (P:=λl=>∀x∈l,x∈cm\/x<=v) (λx hx=>.inl hx) λp hp l hl _ x hx=>?_
    have hp':=d v hv p hp
    rcases ih p hp' (by omega) l x hx with h|h
    ·exact hl x h
    ·exact .inr (by omega)
   exact this x h
  ·exact .inr (by simp at h;omega)
theorem jrb{C:Nat->List Nat}{n:Nat}(d:Dn C n):∀(v:Nat),v<n->∀cm,cm.Nodup->v∉cm->(wk C v cm).Nodup:=by
 intro v
 induction v using Nat.strongRecOn with
 |_ v ih =>
  intro hv cm nd nv
  rw[je5 d hv]
  have:((C v).foldl (stp C) cm).Nodup/\v∉(C v).foldl (stp C) cm:=by
   refine jeh (P:=λl=>l.Nodup/\v∉l) ⟨nd,nv⟩ λp hp l ⟨h1,h2⟩ np=>?_
   have hp':=d v hv p hp
   refine⟨ih p hp' (by omega) l h1 np,λh=>?_⟩
   rcases jr2 d p (by omega) l v h with h|h
   ·exact h2 h
   ·omega
  rw[U1]
  exact⟨this.1,by simp,λa ha b hb e=>this.2 ((e.trans (Ao.mp hb))▸ha)⟩
theorem jk6{C:Nat->List Nat}{n:Nat}(d:Dn C n):∀{ps:List Nat}(cm:List Nat),(∀p∈ps,p<n)->∀x,x∈cm\/x∈ps->x∈ps.foldl (stp C) cm
 |[],cm,_,x,h=>by simpa using h
 |p::ps,cm,hp,x,h=>by
  rw[List.foldl_cons]
  refine jk6 d _ (λq hq=>hp q (.tail _ hq)) x ?_
  have pn:=hp p (.head _)
  have m:∀y,y∈cm\/y=p->y∈stp C cm p:=λy hy=>by
   unfold stp
   split
   ·rcases hy with h|rfl <;> assumption
   ·rcases hy with h|rfl
    ·exact jnv d pn h
    ·exact jnw d pn cm
  rcases h with h|h
  ·exact .inl (m x (.inl h))
  ·rcases Al.mp h with rfl|h
   ·exact .inl (m x (.inr rfl))
   ·exact .inr h
def Cl(C:Nat->List Nat)(l:List Nat):Prop:=∀(i x:Nat),l[i]?=some x->∀p∈C x,p∈l.take i
theorem Cl.snoc{C:Nat->List Nat}{l:List Nat}{v:Nat}(h:Cl C l)(hv:∀p∈C v,p∈l):Cl C (l++[v]):=λi x e p hp=>by
 rcases Nat.lt_trichotomy i l.length with hi|hi|hi
 ·rw[Ic hi]at e
  rw[List.take_append_of_le_length (by omega)]
  exact h i x e p hp
 ·subst hi
  simp at e
  subst e
  rw[List.take_append_of_le_length (Ag _),Um]
  exact hv p hp
 ·rw[U6 (by simp;omega)]at e
  cases e
theorem jux{C:Nat->List Nat}{n:Nat}(d:Dn C n):∀(v:Nat),v<n->∀cm,Cl C cm->Cl C (wk C v cm):=by
 intro v
 induction v using Nat.strongRecOn with
 |_ v ih =>
  intro hv cm cl
  rw[je5 d hv]
  refine Cl.snoc ?_ λp hp=>jk6 d cm (λq hq=>by have:=d v hv q hq;omega) p (.inr hp)
  exact jeh (P:=Cl C) cl λp hp l hl _=>by
   have hp':=d v hv p hp
   exact ih p hp' (by omega) l hl
inductive Rch (C:Nat->List Nat) (v:Nat):Nat->Prop
 |refl:Rch C v v
 |step {x p:Nat}:Rch C v x->p∈C x->Rch C v p
theorem Rch.trans{C:Nat->List Nat}{v x y:Nat}(h:Rch C v x)(h':Rch C x y):Rch C v y:=by
 induction h' with
 |refl=>exact h
 |step _ hp ih=>exact .step ih hp
theorem jt6{C:Nat->List Nat}{n:Nat}(d:Dn C n):∀(v:Nat),v<n->∀cm,∀x∈wk C v cm,x∈cm\/Rch C v x:=by
 intro v
 induction v using Nat.strongRecOn with
 |_ v ih =>
  intro hv cm x hx
  rw[je5 d hv]at hx
  rcases Ie.mp hx with h|h
  ·have:∀x∈(C v).foldl (stp C) cm,x∈cm\/Rch C v x:=by
    refine jeh (P:=λl=>∀x∈l,x∈cm\/Rch C v x) (λx hx=>.inl hx) λp hp l hl _ x hx=>?_
    have hp':=d v hv p hp
    rcases ih p hp' (by omega) l x hx with h|h
    ·exact hl x h
    ·exact .inr (Rch.trans (.step .refl hp) h)
   exact this x h
  ·simp at h;subst h;exact .inr .refl
theorem ji9{C:Nat->List Nat}{n:Nat}(d:Dn C n){p:Nat}:∀{ps rest:List Nat}{cm:List Nat},(∀q∈ps,q<n)->ps.filter (λq=>!decide (q∈cm))=p::rest->ps.foldl (stp C) (wk C p cm)=ps.foldl (stp C) cm
 |[],_,_,_,h=>by simp at h
 |q::ps,rest,cm,hp,h=>by
  rw[Iv]at h
  by_cases hq:q∈cm
  ·simp[hq]at h
   have pn:p<n:=hp p (.tail _ (Ot.mp (show p∈ps.filter (λq=>!decide (q∈cm))by rw[show ps.filter (λq=>!decide (q∈cm))=p::rest by simpa using h];exact .head _)).1)
   rw[List.foldl_cons,List.foldl_cons]
   have e1:stp C cm q=cm:=Af hq
   have e2:stp C (wk C p cm) q=wk C p cm:=Af (jnv d pn hq)
   rw[e1,e2]
   exact ji9 d (λr hr=>hp r (.tail _ hr)) (by simpa using h)
  ·simp[hq]at h
   obtain⟨rfl,_⟩:=h
   have pn:q<n:=hp q (.head _)
   rw[List.foldl_cons,List.foldl_cons]
   have e1:stp C cm q=wk C q cm:=Aa hq
   have e2:stp C (wk C q cm) q=wk C q cm:=Af (jnw d pn cm)
   rw[e1,e2]
theorem jja{C:Nat->List Nat}:∀{ps:List Nat}{cm:List Nat},ps.filter (λq=>!decide (q∈cm))=[]->ps.foldl (stp C) cm=cm
 |[],_,_=>rfl
 |q::ps,cm,h=>by
  rw[Iv]at h
  by_cases hq:q∈cm
  ·simp[hq]at h
   rw[List.foldl_cons,show stp C cm q=cm from Af hq]
   exact jja (by simpa using h)
  ·simp[hq]at h
theorem js2{C:Nat->List Nat}{n:Nat}(d:Dn C n){v p:Nat}{rest cm:List Nat}(hv:v<n)(h:(C v).filter (λq=>!decide (q∈cm))=p::rest):wk C v (wk C p cm)=wk C v cm:=by
 rw[je5 d hv,je5 d hv,ji9 d (λq hq=>by have:=d v hv q hq;omega) h]
theorem js3{C:Nat->List Nat}{n:Nat}(d:Dn C n){v:Nat}{cm:List Nat}(hv:v<n)(h:(C v).filter (λq=>!decide (q∈cm))=[]):wk C v cm=cm++[v]:=by
 rw[je5 d hv,jja h]
theorem jcs{l:List Nat}{x:Nat}(h:x∈l):l[l.idxOf x]?=some x:=by
 rw[An (List.idxOf_lt_length_of_mem h),List.getElem_idxOf]
theorem jug{α:Type}{l:List α}(nd:l.Nodup){i j:Nat}{x:α}(hi:l[i]?=some x)(hj:l[j]?=some x):i=j:=by
 have h1:=(Ab.mp hi).1
 exact(List.getElem?_inj h1 nd).mp (hi.trans hj.symm)
theorem jc6{l:List Nat}(nd:l.Nodup){i x:Nat}(h:l[i]?=some x):l.idxOf x=i:=jug nd (jcs (A0 h)) h
theorem ix_take{l:List Nat}{x k:Nat}(h:x∈l.take k):l.idxOf x<k:=by
 have e:l.idxOf x=(l.take k).idxOf x:=by
  conv=>lhs;rw[<-U3 k l]
  rw[List.idxOf_append,Af h]
 have:=List.idxOf_lt_length_of_mem h
 rw[Il]at this
 omega
theorem jb4{l m:List Nat}{x:Nat}(h:x∈l):(l++m).idxOf x=l.idxOf x:=by
 rw[List.idxOf_append,Af h]
def RwA(R:List Row)(h:Nat->Nat)(i:Nat):Row:=wpR h (R.getD i [])
def OkR(R:List Row):Prop:=∀k r,R[k]?=some r->RowOk k r
theorem OkR.d{R:List Row}(ok:OkR R){i:Nat}(hi:i<R.length):RowOk i (R.getD i []):=ok i _ (by rw[Au,An hi];rfl)
structure Hd(R:List Row)(h:Nat->Nat):Prop where
 le:∀i,i<R.length->h i<=i
 same:∀i,i<R.length->RwA R h (h i)=RwA R h i
 first:∀i,i<R.length->∀j,j<h i->RwA R h j≠RwA R h i
theorem Hd.of{R:List Row}{h:Nat->Nat}(H:Hd R h){i j:Nat}(hi:i<R.length)(hj:j<R.length)(e:RwA R h i=RwA R h j):h i=h j:=by
 rcases Nat.lt_trichotomy (h i) (h j)with l|l|l
 ·exact absurd ((H.same i hi).trans e) (H.first j hj _ l)
 ·exact l
 ·exact absurd ((H.same j hj).trans e.symm) (H.first i hi _ l)
theorem Hd.idem{R:List Row}{h:Nat->Nat}(H:Hd R h){i:Nat}(hi:i<R.length):h (h i)=h i:=H.of (by have:=H.le i hi;omega) hi (H.same i hi)
def chd(R:List Row)(h:Nat->Nat)(i:Nat):List Nat:=ptR (RwA R h i)
theorem jox(R:List Row)(h:Nat->Nat)(i:Nat):chd R h i=(ptR (R.getD i [])).map h:=jhv h _
theorem jow{R:List Row}{h:Nat->Nat}(ok:OkR R)(H:Hd R h):Dn (chd R h) R.length:=λv hv p hp=>by
 rw[jox]at hp
 obtain⟨q,hq,rfl⟩:=Io.mp hp
 have h1:=jen (ok.d hv) hq
 have:=H.le q (by omega)
 omega
def own(R:List Row)(i:Nat):List Nat:=ptR (R.getD i [])
theorem jto{R:List Row}(ok:OkR R):Dn (own R) R.length:=λv hv p hp=>jen (ok.d hv) hp
def ordR(R:List Row)(h:Nat->Nat):List Nat:=wk (chd R h) (h (R.length-1)) []
def tidR(R:List Row)(h:Nat->Nat):List Row:=(ordR R h).map λv=>wpR (λx=>(ordR R h).idxOf x) (RwA R h v)
structure Ord(R:List Row)(h:Nat->Nat)(dn:List Nat):Prop where
 nd:dn.Nodup
 cl:Cl (chd R h) dn
 lt:∀x∈dn,x<R.length
 hd:∀x∈dn,h x=x
 la:∃t,dn=t++[h (R.length-1)]
theorem jhu{R:List Row}{h:Nat->Nat}(ok:OkR R)(H:Hd R h)(n1:1<=R.length):Ord R h (ordR R h):=by
 have d:=jow ok H
 have hr:h (R.length-1)<R.length:=by have:=H.le (R.length-1) (by omega);omega
 refine⟨jrb d _ hr [] Ye (by simp),jux d _ hr [] (λi x e=>by simp at e),λx hx=>?_,λx hx=>?_,?_⟩
 ·rcases jr2 d _ hr [] x hx with h|h
  ·simp at h
  ·omega
 ·rcases jt6 d _ hr [] x hx with h'|h'
  ·simp at h'
  ·cases h' with
   |refl=>exact H.idem (by omega)
   |step r hp =>
    rename_i y
    rw[jox]at hp
    obtain⟨q,hq,rfl⟩:=Io.mp hp
    have yl:y<R.length:=by
     clear hp hq hx
     induction r with
     |refl=>exact hr
     |step _ hp ih=>have:=d _ ih _ hp;omega
    exact H.idem (by have:=jen (ok.d yl) hq;omega)
 ·obtain⟨t,e⟩:=jmi d _ hr []
  exact⟨t,by unfold ordR;rw[e];simp⟩
def TidP(R F:List Row):Prop:=∃h,Hd R h/\F=tidR R h
section
variable{R:List Row}{h:Nat->Nat}
theorem jsx(R:List Row)(h:Nat->Nat):(tidR R h).length=(ordR R h).length:=by simp[tidR]
theorem jp3{i v:Nat}(e:(ordR R h)[i]?=some v):(tidR R h)[i]?=some (wpR (λx=>(ordR R h).idxOf x) (RwA R h v)):=by simp[tidR,e]
theorem jt1(ok:OkR R)(H:Hd R h)(n1:1<=R.length):OkR (tidR R h):=λk r e=>by
 have O:=jhu ok H n1
 have hk:k<(ordR R h).length:=by rw[<-jsx];exact(Ab.mp e).1
 have ev:=An hk
 rw[jp3 ev]at e
 cases e
 exact jt7 λp hp=>ix_take (O.cl k _ ev p hp)
theorem jjj(g:Nat->Nat)(r:Row):∀i:Int,(Sum.inl i:L2.Key)∈wpR g r->0<=i:=λi hi=>by
 obtain⟨x,_,e⟩:=Io.mp hi
 cases x with
 |inl j=>simp only[mapR,Sum.inl.injEq]at e;omega
 |inr s=>simp[mapR]at e
theorem jtn(ok:OkR R)(H:Hd R h)(n1:1<=R.length){v:Nat}(hv:v∈ordR R h):∀p∈chd R h v,p∈ordR R h:=λp hp=>by
 have O:=jhu ok H n1
 exact Op (O.cl _ v (jcs hv) p hp)
theorem jq1(H:Hd R h){v:Nat}(hv:v<R.length)(hm:h v∈ordR R h):(tidR R h)[(ordR R h).idxOf (h v)]?=some (wpR (λx=>(ordR R h).idxOf (h x)) (R.getD v [])):=by
 rw[jp3 (jcs hm),H.same v hv]
 unfold RwA
 rw[jrd]
theorem jqx(ok:OkR R)(H:Hd R h)(n1:1<=R.length):(ordR R h).idxOf (h (R.length-1))=(ordR R h).length-1/\1<=(ordR R h).length:=by
 have O:=jhu ok H n1
 obtain⟨t,e⟩:=O.la
 have l:(ordR R h).length=t.length+1:=by rw[e];simp
 refine⟨jc6 O.nd ?_,by omega⟩
 rw[l,e]
 simp
end
section
variable{R:List Row}{h:Nat->Nat}
theorem jqb(H:Hd R h){i:Nat}(il:i<R.length):chd R h (h i)=(own R i).map h:=by
 unfold chd own
 rw[H.same i il]
 exact jhv h _
end
end My
namespace My
open PySem L2 PySem.StrLaws PySem.Builtin PySem.Builtin.Str
def isP(l:List Nat)(a b i:Nat):Bool:=decide (l[i]?=some a/\l[i+1]?=some b)
theorem jnn(x:Str)(a b i:Nat):(i+(⟨#[a,b]⟩:Str).length<=x.length/\subAt x ⟨#[a,b]⟩ i=true)↔isP x.cps.toList a b i=true:=by
 rw[subAt_eq]
 have xl:x.length=x.cps.toList.length:=by simp[Str.length]
 show(i+2<=x.length/\((x.cps.toList.drop i).take 2 == [a,b])=true)↔_
 rw[xl]
 generalize x.cps.toList=l
 unfold isP
 rw[decide_eq_true_iff]
 constructor
 ·rintro⟨h1,h2⟩
  have h2:=eq_of_beq h2
  rw[A6 (show i<l.length by omega),A6 (show i+1<l.length by omega),List.take_succ_cons,List.take_succ_cons,List.take_zero]at h2
  simp only[Iz,and_true]at h2
  exact⟨by rw[An (show i<l.length by omega),h2.1],by rw[An (show i+1<l.length by omega),h2.2]⟩
 ·rintro⟨h1,h2⟩
  obtain⟨l1,e1⟩:=Ab.mp h1
  obtain⟨l2,e2⟩:=Ab.mp h2
  refine⟨by omega,?_⟩
  rw[A6 l1,A6 l2]
  simp[e1,e2]
theorem jlc{l:List Nat}{a b i:Nat}(ne:a≠b)(h:isP l a b i=true):isP l a b (i+1)=false:=by
 have h:=Ij h
 refine Ia λq=>?_
 rw[h.2]at q
 exact ne (Az q.1).symm
theorem jiq(x:Str){a b:Nat}(ne:a≠b):∀(n k:Nat)(st:Array Nat×Nat),k+n<=x.length+1->st.1.toList=(List.range k).filter (isP x.cps.toList a b)->(st.2<=k\/(st.2=k+1/\isP x.cps.toList a b k=false)) ->
  (forIn (List.range' k n) st (occBody x ⟨#[a,b]⟩ x.length (x.length+1))).run.1.toList=(List.range (k+n)).filter (isP x.cps.toList a b)
 |0,k,st,_,h,_=>h
 |n+1,k,st,hk,h,h2=>by
  have hs:st.1.size<=k:=by
   have:=Oy (isP x.cps.toList a b) (List.range k)
   rw[<-h,U0,Array.length_toList]at this
   exact this
  have step:∀c,isP x.cps.toList a b k=c->(List.range (k+1)).filter (isP x.cps.toList a b)=(List.range k).filter (isP x.cps.toList a b)++if c then[k]else[]:=λc e=>by
   rw[We,O9,Iv,List.filter_nil,e]
  rw[Wa,W7,show k+(n+1)=k+1+n by omega]
  unfold occBody
  split
  ·rename_i hc
   have hx:isP x.cps.toList a b k=true:=(jnn x a b k).mp ⟨hc.1.2,hc.2⟩
   exact jiq x ne n (k+1) (st.1.push k,k+2) (by omega) (by rw[Array.toList_push,h,step true hx];rfl) (.inr ⟨rfl,jlc ne hx⟩)
  ·rename_i hc
   have hx:isP x.cps.toList a b k=false:=by
    cases e:isP x.cps.toList a b k with
    |false=>rfl
    |true =>
     have q:=(jnn x a b k).mpr e
     have h3:st.2<=k:=by
      rcases h2 with h2|h2
      ·exact h2
      ·rw[e]at h2;cases h2.2
     exact absurd ⟨⟨⟨by omega,h3⟩,q.1⟩,q.2⟩ hc
   exact jiq x ne n (k+1) st (by omega) (by rw[h,step false hx];simp) (by rcases h2 with h2|h2 <;> (left;omega))
theorem jqw(x:Str){a b:Nat}(ne:a≠b):occurrences x ⟨#[a,b]⟩ 0 x.length (x.length+1)=(List.range' 0 x.length).filter (isP x.cps.toList a b):=by
 have h:=jiq x ne (x.length+1) 0 (#[],0) (by omega) rfl (.inl (Ag _))
 rw[occ_eq,Nat.sub_zero,h,Nat.zero_add,We,O9,List.range_eq_range']
 have:isP x.cps.toList a b x.length=false:=Ia λe=>by
  have:=(Ab.mp e.1).1
  simp[Str.length]at this
 simp[this]
def rep2(a b:Nat)(z:List Nat):List Nat->List Nat
 |[]=>[]
 |[c]=>[c]
 |c::d::r=>if c=a/\d=b then z++rep2 a b z r else c::rep2 a b z (d::r)
theorem jiv{a b:Nat}{z:List Nat}{c:Nat}{l:List Nat}(h:¬c=a):rep2 a b z (c::l)=c::rep2 a b z l:=by
 cases l with
 |nil=>rfl
 |cons d r=>rw[rep2,Aa (λq=>h q.1)]
theorem jtp(x z:Str){a b:Nat}(ne:a≠b):∀n k,k+n=x.length->(Str.join z (partsFrom x 2 k ((List.range' k n).filter (isP x.cps.toList a b)))).cps.toList=rep2 a b z.cps.toList (x.cps.toList.drop k):=by
 have xl:x.length=x.cps.toList.length:=by simp[Str.length]
 intro n
 induction n using Nat.strongRecOn with
 |ind n ih =>
 intro k h
 cases n with
 |zero =>
  have e:x.cps.toList.drop k=[]:=Wb.mpr (by omega)
  simp only[List.range'_zero,List.filter_nil,partsFrom]
  show(strSub x k x.length).cps.toList=_
  rw[jdt,e,List.take_nil]
  rfl
 |succ n =>
  have hl:k<x.cps.toList.length:=by omega
  have ed:x.cps.toList.drop k=x.cps.toList[k]::x.cps.toList.drop (k+1):=A6 hl
  rw[Wa,Iv]
  cases hp:isP x.cps.toList a b k with
  |true =>
   obtain⟨e1,e2⟩:=Ij hp
   obtain⟨l2,e2'⟩:=Ab.mp e2
   obtain⟨_,e1'⟩:=Ab.mp e1
   obtain⟨m,rfl⟩:∃m,n=m+1:=⟨n-1,by omega⟩
   rw[Af rfl,Wa,Iv,jlc ne hp,Aa (by simp)]
   have ih1:=ih m (by omega) (k+2) (by omega)
   simp only[partsFrom]
   obtain⟨p,r,ep⟩:=partsFrom_ne x 2 (k+2) ((List.range' (k+2) m).filter (isP x.cps.toList a b))
   rw[ep]at ih1
   show(Str.join z (strSub x k k::partsFrom x 2 (k+2) ((List.range' (k+2) m).filter (isP x.cps.toList a b)))).cps.toList=_
   rw[ep,jds,ih1,jdt,ed,A6 l2,e1',e2',rep2,Af ⟨rfl,rfl⟩]
   simp
  |false =>
   rw[Aa (by simp)]
   have ih1:=ih n (by omega) (k+1) (by omega)
   have hge:∀i∈(List.range' (k+1) n).filter (isP x.cps.toList a b),k+1<=i:=λi hi=>(Wt.mp (Ot.mp hi).1).1
   generalize(List.range' (k+1) n).filter (isP x.cps.toList a b)=cs at hge ih1
   have cut:∀j,k+1<=j->(strSub x k j).cps.toList=x.cps.toList[k]::(strSub x (k+1) j).cps.toList:=λj hj=>by
    rw[jdt,jdt,ed,show j-k=(j-(k+1))+1 by omega,List.take_succ_cons]
   have e1:(Str.join z (partsFrom x 2 k cs)).cps.toList=x.cps.toList[k]::(Str.join z (partsFrom x 2 (k+1) cs)).cps.toList:=by
    cases cs with
    |nil=>exact cut x.length (by omega)
    |cons d r =>
     simp only[partsFrom]
     obtain⟨p,r',ep⟩:=partsFrom_ne x 2 (d+2) r
     rw[ep,jds,jds,cut d (hge d (.head _))]
     simp
   rw[e1,ih1,ed]
   cases er:x.cps.toList.drop (k+1)with
   |nil=>rfl
   |cons d r =>
    rw[rep2,Aa]
    rintro⟨q1,q2⟩
    have hk1:k+1<x.cps.toList.length:=by
     apply Wf
     intro c
     rw[Wb.mpr (by omega)]at er
     cases er
    rw[A6 hk1]at er
    simp only[Iz]at er
    have:=Wj hp
    exact this ⟨by rw[An hl,q1],by rw[An hk1,er.1,q2]⟩
theorem jl1(x:Str){a b:Nat}(ne:a≠b)(z:Str):(Txt.replace x ⟨#[a,b]⟩ z).cps.toList=rep2 a b z.cps.toList x.cps.toList:=by
 have h:=jtp x z ne x.length 0 (by omega)
 rw[Wn]at h
 rw[<-h]
 unfold Txt.replace
 have e0:(((⟨#[a,b]⟩:Str).length == 0) && (z.length == 0))=false:=rfl
 rw[e0,Bool.or_false,jqw x ne]
 by_cases h2:((List.range' 0 x.length).filter (isP x.cps.toList a b)).isEmpty=true
 ·rw[Af h2,Wx.mp h2]
  simp only[partsFrom]
  show _=(strSub x 0 x.length).cps.toList
  rw[jdt]
  have:x.cps.toList.length=x.length:=by simp[Str.length]
  rw[Wn,Nat.sub_zero,<-this,Um]
 ·rw[Aa h2,glued_eq_join,partsBetween_eq]
  rfl
def tL(w:Str):List Nat:=w.cps.toList
def oB:Str:=Str.ofString "("
def cB:Str:=Str.ofString ")"
def sepW(a b:Str):List Nat:=if a=oB\/b=cB then[]else[32]
def fmtW:List Str->List Nat
 |[]=>[]
 |[w]=>tL w
 |w::w'::r=>tL w++(sepW w w'++fmtW (w'::r))
def jnW:List Str->List Nat
 |[]=>[]
 |[w]=>tL w
 |w::w'::r=>tL w++32::jnW (w'::r)
def wdOk(w:Str):Prop:=w=oB\/w=cB\/(tL w≠[]/\∀c∈tL w,c≠32/\c≠40/\c≠41)
theorem oB_L:tL oB=[40]:=by decide +kernel
theorem cB_L:tL cB=[41]:=by decide +kernel
def midW:List Str->List Nat
 |[]=>[]
 |[w]=>tL w
 |w::w'::r=>tL w++((if w=oB then[]else[32])++midW (w'::r))
theorem jev{a b:Nat}{z:List Nat}:∀(w l:List Nat),(∀c∈w,¬c=a)->rep2 a b z (w++l)=w++rep2 a b z l
 |[],l,_=>rfl
 |c::w,l,h=>by rw[List.cons_append,jiv (h c (.head _)),jev w l λd hd=>h d (.tail _ hd)];rfl
theorem jng:∀ws:List Str,(∀w∈ws,wdOk w)->rep2 40 32 [40] (jnW ws)=midW ws
 |[],_=>rfl
 |[w],h=>by
  show rep2 40 32 [40] (tL w)=tL w
  rcases h w (.head _)with rfl|rfl|q
  ·rw[oB_L];rfl
  ·rw[cB_L];rfl
  ·have:=jev (a:=40) (b:=32) (z:=[40]) (tL w) [] λc hc=>(q.2 c hc).2.1
   rwa[Ib,show rep2 40 32 [40] []=[]from rfl,Ib]at this
 |w::w'::r,h=>by
  have ih:=jng (w'::r) λv hv=>h v (.tail _ hv)
  simp only[jnW,midW]
  by_cases c:w=oB
  ·subst c
   rw[Af rfl,oB_L]
   show rep2 40 32 [40] (40::32::jnW (w'::r))=_
   rw[rep2,Af ⟨rfl,rfl⟩,ih]
   rfl
  ·rw[Aa c]
   have nc:∀d∈tL w,¬d=40:=λd hd=>by
    rcases h w (.head _)with q|q|q
    ·exact absurd q c
    ·subst q;rw[cB_L]at hd;simp at hd;omega
    ·exact(q.2 d hd).2.1
   rw[jev (tL w) _ nc,jiv (by decide),ih]
   rfl
theorem jqt{w:Str}{r:List Str}(h:wdOk w):(w=cB->∃l,midW (w::r)=41::l)/\(w≠cB->∃c l,midW (w::r)=c::l/\c≠41):=by
 have e:∃t,midW (w::r)=tL w++t:=by
  cases r with
  |nil=>exact⟨[],by simp[midW]⟩
  |cons v r=>exact⟨_,rfl⟩
 obtain⟨t,e⟩:=e
 constructor
 ·rintro rfl
  exact⟨t,by rw[e,cB_L];rfl⟩
 ·intro n
  rcases h with rfl|q|q
  ·exact⟨40,t,by rw[e,oB_L];rfl,by decide⟩
  ·exact absurd q n
  ·cases hw:tL w with
   |nil=>exact absurd hw q.1
   |cons c l=>exact⟨c,l++t,by rw[e,hw];rfl,(q.2 c (by rw[hw];exact .head _)).2.2⟩
theorem jnh:∀ws:List Str,(∀w∈ws,wdOk w)->rep2 32 41 [41] (midW ws)=fmtW ws
 |[],_=>rfl
 |[w],h=>by
  show rep2 32 41 [41] (tL w)=tL w
  have nc:∀d∈tL w,¬d=32:=λd hd=>by
   rcases h w (.head _)with rfl|rfl|q
   ·rw[oB_L]at hd;simp at hd;omega
   ·rw[cB_L]at hd;simp at hd;omega
   ·exact(q.2 d hd).1
  have:=jev (a:=32) (b:=41) (z:=[41]) (tL w) [] nc
  rwa[Ib,show rep2 32 41 [41] []=[]from rfl,Ib]at this
 |w::w'::r,h=>by
  have ih:=jnh (w'::r) λv hv=>h v (.tail _ hv)
  have nc:∀d∈tL w,¬d=32:=λd hd=>by
   rcases h w (.head _)with rfl|rfl|q
   ·rw[oB_L]at hd;simp at hd;omega
   ·rw[cB_L]at hd;simp at hd;omega
   ·exact(q.2 d hd).1
  simp only[midW,fmtW]
  rw[jev (tL w) _ nc]
  congr 1
  unfold sepW
  by_cases c:w=oB
  ·rw[Af c,Af (.inl c),List.nil_append,List.nil_append,ih]
  ·rw[Aa c]
   obtain⟨m1,m2⟩:=jqt (r:=r) (h w' (.tail _ (.head _)))
   by_cases c2:w'=cB
   ·rw[Af (.inr c2),List.nil_append,<-ih]
    obtain⟨l,e⟩:=m1 c2
    rw[e]
    show rep2 32 41 [41] (32::41::l)=_
    rw[rep2,Af ⟨rfl,rfl⟩,jiv (by decide)]
    rfl
   ·rw[Aa (not_or.mpr ⟨c,c2⟩),<-ih]
    obtain⟨d,l,e,hd⟩:=m2 c2
    rw[e]
    show rep2 32 41 [41] (32::d::l)=_
    rw[rep2,Aa (λq=>hd q.2)]
    rfl
theorem jim:∀(a:List Str)(x y:Str)(b:List Str),fmtW (a++[x]++(y::b))=fmtW (a++[x])++(sepW x y++fmtW (y::b))
 |[],x,y,b=>rfl
 |[w],x,y,b=>by
  show tL w++(sepW w x++(tL x++(sepW x y++fmtW (y::b))))=_
  show _=(tL w++(sepW w x++tL x))++_
  simp
 |w::w'::a,x,y,b=>by
  have ih:=jim (w'::a) x y b
  show tL w++(sepW w w'++fmtW (w'::a++[x]++(y::b)))=(tL w++(sepW w w'++fmtW (w'::a++[x])))++_
  rw[ih]
  simp
theorem jio:∀ws:List Str,(Str.join (Str.ofString " ") ws).cps.toList=jnW ws
 |[]=>rfl
 |[w]=>rfl
 |w::w'::r=>by
  rw[jds,jio (w'::r)]
  have:(Str.ofString " ").cps.toList=[32]:=by decide +kernel
  rw[this]
  simp[jnW,tL]
end My
namespace My
open PySem L2
local macro_rules
 | `(tactic| simp!)=>`(tactic| simp only [tSeq,tIfS,jfu,tOp,tVar,tC,tAsg,jdo,gSub,tRet,jks,jkl,jkm,tAnd,tOr,tNot,jki,tOrV,tB,tIf,jfe,jkk,rI0,rI,je2,je3,jjq,jjr,jls,jlt,jlq,jlr,jg7,jd0,jjn,jee,jjo,jjm,jlo,jhy,jhx,jjs,jdk,jf8,jlk,jnb,jlm,jll,jlu,jne,jlv,jfn,jnc,jjt,jm4,jjh,jj1,jjx,jjy,Option.isSome_some,tBML,jkj,tCB,je4,tNil,tLst,tTup,tSl,jkt,jgn,jly,iAny,jj9,jka,jhn,jlb,jgw,jjp,jgl,jkg,jnp,jgk,jeo,jd6,tUn,rU,jh5,tTru,jeu,jnf,jlz,jfo,jjv,jlx,jft,jju,tFmt,jkp,jh9,jkq,tBMS,jm5,jln,jkn,jfs,jgj,jia,hdl,jfr,jnd,jlp,tBM0,tBM,jnt,jko,jjl,Option.bind_some,Option.bind_none,Option.getD_some,L2.start,Av,O8,List.length_cons,List.length_nil,List.cons_append,List.nil_append,Ib,Iz,List.replicate,List.getElem?_cons_zero,List.getElem?_cons_succ,List.set_cons_zero,List.set_cons_succ,Nat.reduceSub,Nat.reduceAdd,Nat.reduceLeDiff,Option.some.injEq,V.int.injEq,V.bl.injEq,V.str.injEq,V.ref.injEq,HO.lst.injEq,HO.tup.injEq,exists_eq_left',exists_eq_left,exists_and_left,true_and,and_true,je,jep,jn0,jn1,jre,Ut,Bool.not_false,decide_eq_true_eq,Ih,Oi,O5,reduceIte,reduceCtorEq,tLam,jh8,jh6,jh7,tTru,jeu,jgm,jkr,rAdd])
 | `(tactic| simp! [$ls,*])=>`(tactic| simp only [tSeq,tIfS,jfu,tOp,tVar,tC,tAsg,jdo,gSub,tRet,jks,jkl,jkm,tAnd,tOr,tNot,jki,tOrV,tB,tIf,jfe,jkk,rI0,rI,je2,je3,jjq,jjr,jls,jlt,jlq,jlr,jg7,jd0,jjn,jee,jjo,jjm,jlo,jhy,jhx,jjs,jdk,jf8,jlk,jnb,jlm,jll,jlu,jne,jlv,jfn,jnc,jjt,jm4,jjh,jj1,jjx,jjy,Option.isSome_some,tBML,jkj,tCB,je4,tNil,tLst,tTup,tSl,jkt,jgn,jly,iAny,jj9,jka,jhn,jlb,jgw,jjp,jgl,jkg,jnp,jgk,jeo,jd6,tUn,rU,jh5,tTru,jeu,jnf,jlz,jfo,jjv,jlx,jft,jju,tFmt,jkp,jh9,jkq,tBMS,jm5,jln,jkn,jfs,jgj,jia,hdl,jfr,jnd,jlp,tBM0,tBM,jnt,jko,jjl,Option.bind_some,Option.bind_none,Option.getD_some,L2.start,Av,O8,List.length_cons,List.length_nil,List.cons_append,List.nil_append,Ib,Iz,List.replicate,List.getElem?_cons_zero,List.getElem?_cons_succ,List.set_cons_zero,List.set_cons_succ,Nat.reduceSub,Nat.reduceAdd,Nat.reduceLeDiff,Option.some.injEq,V.int.injEq,V.bl.injEq,V.str.injEq,V.ref.injEq,HO.lst.injEq,HO.tup.injEq,exists_eq_left',exists_eq_left,exists_and_left,true_and,and_true,je,jep,jn0,jn1,jre,Ut,Bool.not_false,decide_eq_true_eq,Ih,Oi,O5,reduceIte,reduceCtorEq,tLam,jh8,jh6,jh7,tTru,jeu,jgm,jkr,rAdd,$ls,*])
def je1(st:Stmt)(n:Nat):Stmt:=match st with
 |.ClassDef _ _ _ body _ _ _ _ _ _ _=>body.getD n (.Pass ⟨0,0,0,0⟩)
 |s=>s
def top(i:Nat):Stmt:=PySem.Challenge.pw_calmword_k44_the_first_wrong_word.main.body.getD i (.Pass ⟨0,0,0,0⟩)
def BoxO(o:HO):Prop:=∃c s,o=.lst [.int c,.int s]/\1<=s/\s<=2147483629
def jdv:Sp:=λvs H Q _=>∃b w o,vs=[.ref b,.int w]/\H b=some o/\BoxO o/\0<w/\w<1073741824/\∀d o,0<=d->d<w->BoxO o->Q (.int d) (upd H b o)
def jrx(K:PySem.W.Frag):Sp:=λvs H Q _=>∃(a:Addr)(k:Int)(ns:List Int),vs=[.ref a,.int k]/\SqL K H a (ns.map V.int)/\0<=k/\k<=1000/\∀b o,H b=none->BoxO o->Q (.ref b) (upd H b o)
section
variable{P:Program}{w:World}{K:PySem.W.Frag}{mg:Str->Option Value}{base:Heap}
abbrev kx:Stmt:=top 30
theorem ja8:FnScope ["_law_box_here","_law_wide","_law_digit","_law_one"] ["_law_box_here","_law_wide"] (jk kx):=⟨rfl,rfl,rfl,by decide +kernel,rfl,by decide +kernel,by decide +kernel⟩
theorem ok__law_take{f:Addr}{fd:FuncData}(F:Fun K "_law_take" "_law_take" kx f fd):FnOk P w K mg base CX0 1 f fd ["_law_box_here","_law_wide"] jdv:=by
 refine F.ok ja8 (λvs H Q E h=>?_) (λcdv A outer s H vs Q E hr h=>?_)
 ·obtain⟨b,w,o,rfl,_⟩:=h
  rfl
 ·obtain⟨b,w,o,rfl,hb,⟨c,sd,rfl,s1,s2⟩,w0,w1,k⟩:=h
  refine⟨_,(QSs.h (jh (j7 (jp jb5 (ju ix_U (qpv 0) ji (λ_ _=>rfl)) ji (jt _)) (jh (jm (i:=2) ja8.nd rfl (by first|exact Or.inl rfl|exact Or.inr rfl) (jq jam (ju ix_U (qpv 0) ji (λ_ _=>rfl)) (qpv 1)))
  (jh (jce (jq jcx (ju ix_U (qpv 0) ji (λ_ _=>rfl)) (qpv 1)) (jcc (qpv 0) ji joj))
  (jj (jr (qpv 2))))) jx)
  (jh (jm (i:=3) ja8.nd rfl (by first|exact Or.inl rfl|exact Or.inr rfl) (jq jam (jq jaj (ju ix_U (qpv 0) ji (λ_ _=>rfl)) ji) ji))
  (jh (jce (jq jz (jq jam (jq jz (jq jaj (qpv 3) ji) ji) ji) ji) (jcc (qpv 0) ji joj))
  (jj (jr (jq jam (jq jcx (jq jz (jq jaj (qpv 3) ji) (ju ix_U (qpv 0) ji (λ_ _=>rfl))) ji) (qpv 1)))))))),?_⟩
  have m1:∀z m:Int,0<m->0<=z%m/\z%m<m:=λz m h=>⟨Int.emod_nonneg z (by omega),Yi z h⟩
  simp! [hb]
  refine ite2 (λhc=>?_) (λ_=>?_)
  ·refine⟨w0,⟨w0,w1⟩,0,rfl,?_⟩
   simp! [hb]
   exact k _ _ (m1 c w w0).1 (m1 c w w0).2 ⟨_,_,rfl,s1,s2⟩
  ·have q1:=m1 (sd*69623) 2147483647 (by decide)
   refine⟨.inl ⟨by omega,by omega⟩,by decide,.inl ⟨by omega,by omega⟩,by decide,1,rfl,?_⟩
   simp! [hb]
   have q2:=m1 (sd*69623%2147483647*48271+30103) 2147483629 (by decide)
   refine⟨.inl ⟨by omega,by omega⟩,⟨by decide,by decide⟩,w0,?_⟩
   exact k _ _ (m1 _ w w0).1 (m1 _ w w0).2 ⟨_,_,rfl,by omega,by omega⟩
structure TBox(mg:Str->Option Value):Prop where
 n_len:mg "len"=none
 n_int:mg "int"=none
abbrev z5:Stmt:=top 29
theorem jan:FnScope ["_law_script","_law_k","_law_cell","_law_seed"] ["_law_script","_law_k"] (jk z5):=⟨rfl,rfl,rfl,by decide +kernel,rfl,by decide +kernel,by decide +kernel⟩
theorem ok__law_box{f:Addr}{fd:FuncData}(F:Fun K "_law_box" "_law_box" z5 f fd)(T:TBox mg):FnOk P w K mg base CX0 1 f fd ["_law_script","_law_k"] (jrx K):=by
 refine F.ok jan (λvs H Q E h=>?_) (λcdv A outer s H vs Q E hr h=>?_)
 ·obtain⟨a,k,ns,rfl,_⟩:=h
  rfl
 ·obtain⟨a,k,ns,rfl,hS,k0,k1,kk⟩:=h
  refine⟨_,(QSs.h (jh (jm (i:=2) jan.nd rfl (by first|exact Or.inl rfl|exact Or.inr rfl) (jq jz (jq jaj ji (qpv 1)) ji))
  (jh (j7 (jp jau (qpv 1) (jv zw (by rfl) T.n_len km (jc (qpv 0) jd)) (jt _)) (jj (jm (i:=2) jan.nd rfl (by first|exact Or.inl rfl|exact Or.inr rfl) (ju jca (qpv 0) (qpv 1) (λ_ _=>rfl)))) (jj (j7 (jp jb5 (jv zw (by rfl) T.n_len km (jc (qpv 0) jd)) ji (jt _)) (jj (jm (i:=2) jan.nd rfl (by first|exact Or.inl rfl|exact Or.inr rfl) (jq jz (qpv 2) (jq jaj (jq jam (ju jca (qpv 0) (jq jam (qpv 1) (jv zw (by rfl) T.n_len km (jc (qpv 0) jd))) (λ_ _=>rfl)) ji) ji)))) jx)))
  (jh (jm (i:=3) jan.nd rfl (by first|exact Or.inl rfl|exact Or.inr rfl) (jq jz (jq jam (jq jz (jq jaj (jq jam (qpv 2) ji) ji) (jq jaj ji (qpv 1))) ji) ji))
  (jj (jr (j6 (jc (jq jaj (qpv 2) (zi jch (by rfl) T.n_int jbo (jc (yr op_ge (qpv 2) (jq op_pow ji ji) (jt _)) jd))) (jc (qpv 3) jd))))))))),?_⟩
  have m1:∀z m:Int,0<m->0<=z%m/\z%m<m:=λz m h=>⟨Int.emod_nonneg z (by omega),Yi z h⟩
  have tail:∀cell:Int,(0:Int)<2147483629/\CMul (cell%2147483629) 48271/\CMul 40692 k/\(0:Int)<2147483629/\CPow 10 18/\CMul cell (if(10:Int)^(18:Int).toNat<=cell then 1 else 0)/\2<=sizeLine /\
    ∀p,H p=none->Q (.ref p) (upd H p (.lst [.int (cell*(if(10:Int)^(18:Int).toNat<=cell then 1 else 0)),.int ((cell%2147483629*48271+40692*k)%2147483629+1)])):=by
   intro cell
   have q1:=m1 cell 2147483629 (by decide)
   have q2:=m1 (cell%2147483629*48271+40692*k) 2147483629 (by decide)
   refine⟨by decide,.inl ⟨by omega,by omega⟩,.inl ⟨by decide,by decide⟩,by decide,⟨by decide,by decide,by decide⟩,.inr ?_,by decide,λp hp=>kk p _ hp ⟨_,_,rfl,by omega,by omega⟩⟩
   split <;> constructor <;> decide
  simp!
  refine⟨.inl ⟨by decide,by decide⟩,ns.map V.int,.inl hS,?_⟩
  rw[Ae]
  refine ite2 (λh=>?_) (λh=>?_)
  ·obtain⟨z,hz⟩:∃z,ns[k.toNat]?=some z:=⟨ns[k.toNat]'(by omega),by simp⟩
   refine⟨a,_,k,.int z,rfl,rfl,hS,jc8 k0 (by rw[A3,hz];rfl),?_⟩
   simp!
   exact tail z
  ·refine⟨ns.map V.int,.inl hS,?_⟩
   rw[Ae]
   refine ite2 (λh2=>?_) (λh2=>?_)
   ·refine⟨ns.map V.int,.inl hS,?_⟩
    rw[Ae]
    have q:=m1 k (ns.length:Int) (by omega)
    obtain⟨z,hz⟩:∃z,ns[(k%(ns.length:Int)).toNat]?=some z:=⟨ns[(k%(ns.length:Int)).toNat]'(by omega),by simp⟩
    refine⟨by omega,a,_,_,.int z,rfl,rfl,hS,jc8 q.1 (by rw[A3,hz];rfl),?_⟩
    simp!
    have q3:=m1 z 2147483629 (by decide)
    refine⟨by decide,.inl ⟨by omega,by omega⟩,?_⟩
    exact tail _
   ·exact tail _
end
structure Letters(z:Str)(m:Nat):Prop where
 lo:1<=z.length
 hi:z.length<=m
 az:∀c∈z.cps.toList,97<=c/\c<=122
 nd:z.cps.toList.Nodup
def chV(c:Nat):V:=.str ⟨#[c]⟩
def jj0:Sp:=λvs H Q _=>∃(b:Addr)(m:Nat)(o:HO),vs=[.ref b,.int (m:Int)]/\H b=some o/\BoxO o/\1<=m/\m<=4/\∀z o' H',Letters z m->BoxO o'->H' b=some o'->Kp [b] H H'->Q (.str z) H'
theorem jhi{α:Type}:∀(l:List α)(i:Nat)(x:α),l[i]?=some x->(x::l.eraseIdx i).Perm l
 |[],i,x,h=>by simp at h
 |a::l,0,x,h=>by simp at h;subst h;exact List.Perm.refl _
 |a::l,i+1,x,h=>by
  rw[List.eraseIdx_cons_succ]
  exact(List.Perm.swap _ _ _).trans ((jhi l i x (by simpa using h)).cons a)
theorem jji{α β:Type}(f:α->β):∀(l:List α)(i:Nat),(l.map f).eraseIdx i=(l.eraseIdx i).map f
 |[],_=>rfl
 |_::_,0=>rfl
 |a::l,i+1=>by rw[Av,List.eraseIdx_cons_succ,List.eraseIdx_cons_succ,Av,jji f l i]
theorem jr4:sgn (Str.ofString "abcdefghijklmnopqrstuvwxyz")=((List.range 26).map (97+·)).map chV:=by decide +kernel
structure TLetters(mg:Str->Option Value)(ft:Addr):Prop where
 n_len:mg "len"=none
 n_list:mg "list"=none
 n_range:mg "range"=none
 m1z:mg "_law_take"=some (.ref ft)
section
variable{P:Program}{w:World}{K:PySem.W.Frag}{mg:Str->Option Value}{base:Heap}
abbrev y1:Stmt:=top 31
theorem zt:FnScope ["_law_box_here","_law_most","_law_pool","_law_found","_law_k"] ["_law_box_here","_law_most"] (jk y1):=⟨rfl,rfl,rfl,by decide +kernel,rfl,by decide +kernel,by decide +kernel⟩
theorem ok__law_letters{f ft:Addr}{fd fdt:FuncData}(F:Fun K "_law_letters" "_law_letters" y1 f fd)(T:TLetters mg ft)(F1z:Fun K "_law_take" "_law_take" kx ft fdt)(b1z:Binds K fdt ["_law_box_here","_law_wide"] [])
  (G1z:FnOk P w K mg base CX0 1 ft fdt ["_law_box_here","_law_wide"] jdv):FnOk P w K mg base CX0 2 f fd ["_law_box_here","_law_most"] jj0:=by
 refine F.ok zt (λvs H Q E h=>?_) (λcdv A outer s H vs Q E hr h=>?_)
 ·obtain⟨b,m,o,rfl,_⟩:=h
  rfl
 ·obtain⟨b,m,o,rfl,hb,ho,m1,m4,k⟩:=h
  refine⟨_,(QSs.h (jh (jm (i:=2) zt.nd rfl (by first|exact Or.inl rfl|exact Or.inr rfl) (zi (jb3 rfl) (by rfl) T.n_list jb9 (jc jg jd)))
  (jh (jm (i:=3) zt.nd rfl (by first|exact Or.inl rfl|exact Or.inr rfl) jg)
  (jh (jac I0 rfl (jav rfl T.n_range (jc (jq jz ji (jo G1z (hr.mono (by decide)) rfl T.m1z F1z.kp b1z .nil jw (jc (qpv 0) (jc (qpv 1) jd)))) jd)) (kr (i:=4) zt.nd rfl (by first|exact Or.inl rfl|exact Or.inr rfl)) (jj (jm (i:=3) zt.nd rfl (by first|exact Or.inl rfl|exact Or.inr rfl) (jq jz (qpv 3) (yd Ud Ue mt_popU (qpv 2) (jc (jo G1z (hr.mono (by decide)) rfl T.m1z F1z.kp b1z .nil jw (jc (qpv 0) (jc (jv kh (by rfl) T.n_len km (jc (qpv 2) jd)) jd))) jd) jdd)))))
  (jj (jr (qpv 3))))))),?_⟩
  simp!
  refine⟨by decide,λp hp=>?_⟩
  have npb:b≠p:=jl hb hp
  obtain⟨c0,s0,rfl,_,_⟩:=id ho
  refine⟨b,(m:Int),_,rfl,by rw[jf npb];exact hb,ho,by omega,by omega,λd o1 d0 d1 ho1=>?_⟩
  simp!
  obtain⟨n,rfl⟩:∃n:Nat,d=(n:Int):=⟨d.toNat,by omega⟩
  have en:(1+(n:Int)).toNat=n+1:=by omega
  refine⟨by omega,by omega,?_⟩
  rw[en]
  refine jd3 (λi σ H'=>∃l R o' v,σ=[some (.ref b),some (.int (m:Int)),some (.ref p),some (.str (toS l)),v]/\H' b=some o'/\BoxO o'/\H' p=some (.lst (R.map chV))/\Kp [b] H H'/\l.length=i/\R.length+i=26 /\
   (l++R).Nodup/\∀c∈l++R,97<=c/\c<=122) ?_ ?_ ?_
  ·refine⟨[],(List.range 26).map (97+·),o1,none,rfl,je,ho1,?_,?_,rfl,by simp,?_,?_⟩
   ·rw[jf npb.symm,je,jr4]
   ·exact((Kp.refl [b] H).new hp).set (by rw[jf npb];exact hb) (.inl (by simp))
   ·decide
   ·decide
  ·rintro i σ H' hi ⟨l,R,o',v,rfl,hb',ho',hp',kp,hl,hR,nd,az⟩
   simp! [hp']
   obtain⟨c1,s1,rfl,_,_⟩:=id ho'
   refine⟨b,_,_,rfl,hb',ho',by rw[Ae];omega,by rw[Ae];omega,λd o2 d0 d1 ho2=>?_⟩
   rw[Ae]at d1
   have hp2:upd H' b o2 p=some (.lst (R.map chV)):=by rw[jf npb.symm];exact hp'
   simp! [hp2]
   obtain⟨c,hc⟩:∃c,R[d.toNat]?=some c:=⟨R[d.toNat]'(by omega),by simp⟩
   have hc':(R.map chV)[d.toNat]?=some (.str ⟨#[c]⟩):=by rw[A3,hc];rfl
   refine⟨d0,_,hc',?_⟩
   simp!
   have pm:=jhi R d.toNat c hc
   have e1:((l++[c])++R.eraseIdx d.toNat).Perm (l++R):=by
    rw[A9]
    exact pm.append_left l
   have hlen:(R.eraseIdx d.toNat).length+1=R.length:=by
    have:=pm.length_eq
    simpa using this
   refine⟨?_,l++[c],R.eraseIdx d.toNat,o2,_,⟨jsy l c,rfl⟩,by rw[jf npb,je],ho2,jji chV R _,?_,by simp[hl],by omega,?_,?_⟩
   ·rw[jiy]
    show l.length+1<=sizeLine
    have:sizeLine=16777216:=Ak
    omega
   ·exact(kp.set hb' (.inl (.head _))).set hp2 (.inr hp)
   ·exact e1.nodup_iff.mpr nd
   ·exact λx hx=>az x (e1.mem_iff.mp hx)
  ·rintro σ H' ⟨l,R,o',v,rfl,hb',ho',hp',kp,hl,hR,nd,az⟩
   simp! [hp']
   exact k (toS l) o' H' ⟨by rw[jiy];omega,by rw[jiy];omega,λc hc=>az c (Iq _ (by simpa[toS]using hc)),by simpa[toS]using(U1.mp nd).1⟩ ho' hb' kp
end
theorem jq8{H:Hp}{a b:Addr}{x y:HO}(h:a≠b):upd (upd H a x) b y=upd (upd H b y) a x:=by
 funext c
 by_cases h1:c=a
 ·subst h1;rw[jf h,je,je]
 ·by_cases h2:c=b
  ·subst h2;rw[je,jf h1,je]
  ·rw[jf h2,jf h1,jf h1,jf h2]
theorem jqc{lo:Int}{n:Nat}{D b:Addr}{te:TE}{E:Ends}{r:L2.St}{H:Hp}{o0:HO}(P:V->Prop)(hb:H b=some o0)(ho0:BoxO o0)(hD:H D=none)(hz:n<=sizeLine)
  (he:∀x H' o Q,H' b=some o->BoxO o->(∀v o',P v->BoxO o'->Q v (upd H' b o'))->te (some x::r) H' Q)
  (hn:∀v xs o',xs.length=n->(∀x∈xs,P x)->BoxO o'->E.nx (v::r) (upd (upd H b o') D (.lst xs))):jdn (Itr lo n) (jdo 0) (jfq D te) E (none::r) (upd H D (.lst [])):=by
 have nbD:b≠D:=jl hb hD
 refine jd3 (λi σ H'=>∃(v:Option V)(xs:List V)(o':HO),σ=v::r/\xs.length=i/\(∀x∈xs,P x)/\BoxO o'/\H'=upd (upd H b o') D (.lst xs)) ?_ ?_ ?_
 ·refine⟨none,[],o0,rfl,rfl,(λx h=>nomatch h),ho0,?_⟩
  have:upd H b o0=H:=by
   funext c
   by_cases h:c=b
   ·subst h;rw[je,hb]
   ·rw[jf h]
  rw[this]
 ·rintro i σ H' hi ⟨v,xs,o',rfl,hl,hP,ho',rfl⟩
  refine he _ _ o' _ (by rw[jf nbD,je]) ho' λy o2 hy ho2=>?_
  have e:upd (upd (upd H b o') D (.lst xs)) b o2=upd (upd H b o2) D (.lst xs):=by rw[jq8 nbD.symm,jep]
  refine⟨xs,by rw[e,je];rfl,by omega,_,xs++[y],o2,rfl,by simp[hl],λx hx=>?_,ho2,by rw[e,jep]⟩
  rcases Ie.mp hx with h|h
  ·exact hP x h
  ·simp at h;subst h;exact hy
 ·rintro σ H' ⟨v,xs,o',rfl,hl,hP,ho',rfl⟩
  exact hn v xs o' hl hP ho'
theorem _root_.L2.Kp.seq{S:List Addr}{K:PySem.W.Frag}{H H':Hp}{a:Addr}{xs:List V}(e:Kp S H H')(n:a∉S)(h:SqL K H a xs):SqL K H' a xs:=by
 rcases h with(h|⟨o,h⟩)|h
 ·exact .inl (.inl (e.old _ _ h n))
 ·exact .inl (.inr ⟨o,e.old _ _ h n⟩)
 ·exact .inr h
theorem exQ{X:Cx}{ss:List Stmt}{t:TS}{R:TS->Prop}(q:QSs X ss t)(h:R t):∃t,PSs X ss t/\R t:=⟨t,q.h,h⟩
theorem _root_.L2.Kp.sqT{S:List Addr}{K:PySem.W.Frag}{H H':Hp}{a:Addr}{xs:List V}(e:Kp S H H')(n:a∉S)(h:SqT K H a xs):SqT K H' a xs:=by
 rcases h with(h|⟨o,h⟩)|h
 ·exact .inl (.inl (e.old _ _ h n))
 ·exact .inl (.inr ⟨o,e.old _ _ h n⟩)
 ·exact .inr h
def nV(n:Nat):V:=.int (n:Int)
def RowsT(H:Hp)(us:List V)(R:List Row):Prop:=Paired (λv r=>∃a,v=.ref a/\H a=some (.tup (r.map kV))) us R
theorem RowsT.kp{S:List Addr}{H H':Hp}{us:List V}{R:List Row}(k:Kp S H H')(h:RowsT H us R):RowsT H' us R:=Paired.mapP h λ_ _ ⟨a,e,h⟩=>⟨a,e,k.tup _ _ h⟩
theorem RowsT.get{H:Hp}{us:List V}{R:List Row}(h:RowsT H us R){i:Nat}(hi:i<R.length):∃a,us[i]?=some (.ref a)/\H a=some (.tup ((R.getD i []).map kV)):=by
 induction h generalizing i with
 |nil=>simp at hi
 |cons h _ ih =>
  cases i with
  |zero=>obtain⟨a,e,g⟩:=h;exact⟨a,by simp[e],by simpa using g⟩
  |succ i=>obtain⟨a,e,g⟩:=ih (by simpa using hi);exact⟨a,by simpa using e,by simpa using g⟩
def NN0(r:Row):Prop:=∀i:Int,(Sum.inl i:L2.Key)∈r->0<=i
theorem RowOk.nn{k:Nat}{r:Row}(h:RowOk k r):NN0 r:=λi hi=>(h i hi).1
def isI:V->Bool
 |.int _=>true
 |_=>false
theorem jcb:∀{r:Row},NN0 r->(r.map kV).filter isI=(ptR r).map nV
 |[],_=>rfl
 |.inl i::r,h=>by
  have ih:=jcb (r:=r) λj hj=>h j (.tail _ hj)
  have h0:=h i (.head _)
  have e:kV (.inl i)=nV i.toNat:=by show V.int i=V.int _;congr 1;omega
  simp only[Av,ptR,List.filterMap_cons,ptK]at ih⊢
  rw[Iv,Af (show isI (kV (.inl i))=true from rfl),ih,e]
 |.inr s::r,h=>by
  have ih:=jcb (r:=r) λj hj=>h j (.tail _ hj)
  simp only[Av,ptR,List.filterMap_cons,ptK]at ih⊢
  rw[Iv,Aa (show ¬isI (kV (.inr s))=true from λz=>nomatch z),ih]
theorem jrq{r:Row}{x:V}(h:x∈r.map kV):(∃z,x=.str z/\(Sum.inr z:L2.Key)∈r)\/∃i,x=.int i/\(Sum.inl i:L2.Key)∈r:=by
 obtain⟨k,hk,rfl⟩:=Io.mp h
 cases k with
 |inl i=>exact .inr ⟨i,rfl,hk⟩
 |inr z=>exact .inl ⟨z,rfl,hk⟩
structure TPa(K:PySem.W.Frag)(mg:Str->Option Value):Prop where
 n_isinstance:mg "isinstance"=none
 n_int:mg "int"=none
 n_str:mg "str"=none
 n_tuple:mg "tuple"=none
 n_bool:mg "bool"=none
 ii:PySem.W.kitOne K (.type "int") (.type "int")=some true
 si:PySem.W.kitOne K (.type "str") (.type "int")=some false
 ss:PySem.W.kitOne K (.type "str") (.type "str")=some true
 is:PySem.W.kitOne K (.type "int") (.type "str")=some false
 ib:PySem.W.kitOne K (.type "int") (.type "bool")=some false
 tt:PySem.W.kitOne K (.type "tuple") (.type "tuple")=some true
def jnj:Sp:=λvs H Q _=>∃(a:Addr)(r:Row),vs=[.ref a]/\H a=some (.tup (r.map kV))/\NN0 r/\r.length<=100/\∀p,H p=none->Q (.ref p) (upd H p (.lst ((ptR r).map nV)))
def Num(H:Hp)(n:Addr)(g:Nat->Nat)(ps:List Nat):Prop:=(∃hs:List Nat,H n=some (.lst (hs.map nV))/\∀p∈ps,hs[p]?=some (g p))\/∃kvs,H n=some (.dK kvs)/\∀p∈ps,valV kvs (.inl (p:Int))=some (nV (g p))
def spWP:Sp:=λvs H Q _=>∃(a n:Addr)(r:Row)(g:Nat->Nat),vs=[.ref a,.ref n]/\H a=some (.tup (r.map kV))/\NN0 r/\r.length<=100/\Num H n g (ptR r)/\∀q H',H q=none->H' q=some (.tup ((wpR g r).map kV))->Kp [] H H'->Q (.ref q) H'
section
variable{P:Program}{w:World}{K:PySem.W.Frag}{mg:Str->Option Value}{base:Heap}
abbrev zo:Stmt:=top 9
theorem sc_parts_of:FnScope ["row"] ["row"] (jk zo):=⟨rfl,rfl,rfl,by decide +kernel,rfl,by decide +kernel,by decide +kernel⟩
theorem ok_parts_of{f:Addr}{fd:FuncData}(F:Fun K "parts_of" "parts_of" zo f fd)(T:TPa K mg):FnOk P w K mg base CX0 1 f fd ["row"] jnj:=by
 refine F.ok sc_parts_of (λvs H Q E h=>?_) (λcdv A outer s H vs Q E hr h=>?_)
 ·obtain⟨a,r,rfl,_⟩:=h
  rfl
 ·obtain⟨a,r,rfl,ha,nn,hl,k⟩:=h
  have hu:=hr.units
  have hsz:sizeLine=16777216:=Ak
  refine exQ (jj (jr (jbi rfl (jdq (sc:=jk zo) (N:=["row"]) (Nc:=["thing"]) (js:=[none]) (by decide +kernel)) (zy (K:=K) (qpv 0) rfl) (λ_ _ _ _=>(kr (i:=0) (show List.Nodup [("thing":Str)]from by decide +kernel) rfl (by first|exact Or.inl rfl|exact Or.inr rfl))) (λ_ _ _ _=>(zd (jv (yy (K:=K) rfl) (by rfl) T.n_isinstance yp (jc (qpv 0) (jc (jap (v:=.ty "int") rfl T.n_int jbo rfl) jd))))) (λ_ _ _ _=>(qpv 0))))) ?_
  simp! [ha]
  intro D hD
  refine jn2 isI id ha hD (by rw[Ae];omega) (λx hx l Q' q=>?_) (λx hx _ l Q' q=>?_) λv=>?_
  ·simp!
   rcases jrq hx with⟨z,rfl,_⟩|⟨i,rfl,_⟩
   ·exact⟨_,.str _,_,T.si,q⟩
   ·exact⟨_,.int _,_,T.ii,q⟩
  ·simp!
   exact q
  ·rw[List.map_id,jcb nn]
   exact k D hD
abbrev yo:Stmt:=top 10
theorem sc_with_parts:FnScope ["row","numbers"] ["row","numbers"] (jk yo):=⟨rfl,rfl,rfl,by decide +kernel,rfl,by decide +kernel,by decide +kernel⟩
theorem ok_with_parts{f:Addr}{fd:FuncData}(F:Fun K "with_parts" "with_parts" yo f fd)(T:TPa K mg):FnOk P w K mg base CX0 1 f fd ["row","numbers"] spWP:=by
 refine F.ok sc_with_parts (λvs H Q E h=>?_) (λcdv A outer s H vs Q E hr h=>?_)
 ·obtain⟨a,n,r,g,rfl,_⟩:=h
  rfl
 ·obtain⟨a,n,r,g,rfl,ha,nn,hl,num,k⟩:=h
  have hu:=hr.units
  have hsz:sizeLine=16777216:=Ak
  have hu1:(A.deeper (PyProof.Rows.envOfC (Str.ofString "with_parts") (jk yo) s.heap.objs.size f cdv)).units+1<cLine:=by omega
  refine exQ (jj (jr (zi jaz (by rfl) T.n_tuple jbe (jc (jbh rfl (jdq (sc:=jk yo) (N:=["row","numbers"]) (Nc:=["thing","numbers"]) (js:=[none,some 1]) (by decide +kernel)) (zy (K:=K) (qpv 0) rfl) (λ_ _ _ _=>(kr (i:=0) (show List.Nodup [("thing":Str),("numbers":Str)]from by decide +kernel) rfl (by first|exact Or.inl rfl|exact Or.inr rfl))) (λ_ _ _ _=>(jcn (zd (jv (yy (K:=K) rfl) (by rfl) T.n_isinstance yp (jc (qpv 0) (jc (jap (v:=.ty "int") rfl T.n_int jbo rfl) jd)))) (ju (ix_UD hu1) (qpv 1) (qpv 0) (λ_ _=>rfl)) (qpv 0)))) jd)))) ?_
  simp! [ha]
  intro D hD
  have nnD:n≠D:=by
   rcases num with⟨hs,e,_⟩|⟨kvs,e,_⟩ <;> exact jl e hD
  let gv:V->V:=λx=>match x with
   |.int i=>nV (g i.toNat)
   |x=>x
  have em:(r.map kV).map gv=(wpR g r).map kV:=by
   unfold wpR
   rw[Ov,Ov]
   refine Up λx _=>?_
   cases x <;> rfl
  refine jqd gv ha hD (by rw[Ae];omega) (λx hx l Q' q=>?_) λv=>?_
  ·simp!
   rcases jrq hx with⟨z,rfl,_⟩|⟨i,rfl,hi⟩
   ·exact⟨_,.str _,_,T.si,by rw[Aa (by decide)];exact q⟩
   ·have h0:=nn i hi
    have hp:=jis hi
    refine⟨_,.int _,_,T.ii,?_⟩
    rw[Af rfl]
    rcases num with⟨hs,e,hg⟩|⟨kvs,e,hg⟩
    ·refine .inl ?_
     rw[jd0,jf nnD,e]
     exact⟨_,rfl,nV (g i.toNat),jc8 h0 (by rw[A3,hg _ hp];rfl),q⟩
    ·refine .inr ⟨n,nV (g i.toNat),rfl,?_,q⟩
     have:=DGet.k (H:=upd H D (.lst l)) (a:=n) (kvs:=kvs) (k:=.inl i) (by rw[jf nnD];exact e)
     rw[show valV kvs (.inl i)=some (nV (g i.toNat))by rw[<-hg _ hp];congr 2;omega]at this
     exact this
  ·rw[em]
   refine jei je λt ht=>?_
   refine k t _ ?_ je (((Kp.refl [] H).new hD).new ht)
   have:t≠D:=λz=>by rw[z,je]at ht;cases ht
   rwa[jf this]at ht
end
def hsF(hs:List Nat):Nat->Nat:=λi=>hs.getD i 0
structure HI(R:List Row)(hs:List Nat)(kvs:List (Row×V)):Prop where
 le:∀j,j<hs.length->hsF hs j<=j
 same:∀j,j<hs.length->RwA R (hsF hs) (hsF hs j)=RwA R (hsF hs) j
 first:∀j,j<hs.length->∀j',j'<hsF hs j->RwA R (hsF hs) j'≠RwA R (hsF hs) j
 d1:∀k v,valV kvs k=some v->∃j,j<hs.length/\v=nV j/\RwA R (hsF hs) j=k/\∀j',j'<j->RwA R (hsF hs) j'≠k
 d2:∀k,valV kvs k=none->∀j,j<hs.length->RwA R (hsF hs) j≠k
 len:kvs.length<=hs.length
theorem jgd{hs:List Nat}{e j:Nat}(h:j<hs.length):hsF (hs++[e]) j=hsF hs j:=by
 unfold hsF
 rw[Au,Ic h,<-Au]
theorem jin{hs:List Nat}{e:Nat}:hsF (hs++[e]) hs.length=e:=by
 unfold hsF
 rw[Au];simp
theorem jr3{R:List Row}(ok:OkR R){hs:List Nat}{e j:Nat}(hj:j<=hs.length)(hl:j<R.length):RwA R (hsF (hs++[e])) j=RwA R (hsF hs) j :=
 jgc λp hp=>jgd (by have:=jen (ok.d hl) hp;omega)
theorem HI.step{R:List Row}(ok:OkR R){hs:List Nat}{kvs kvs':List (Row×V)}{e:Nat}(h:HI R hs kvs)(hl:hs.length<R.length)(he:e<=hs.length)(sm:RwA R (hsF hs) e=RwA R (hsF hs) hs.length)(fi:∀j,j<e->RwA R (hsF hs) j≠RwA R (hsF hs) hs.length)
  (hk:∀k,valV kvs' k=if k=RwA R (hsF hs) hs.length then some (nV e)else valV kvs k) (ln:kvs'.length<=hs.length+1):HI R (hs++[e]) kvs':=by
 have ag:∀j,j<=hs.length->RwA R (hsF (hs++[e])) j=RwA R (hsF hs) j:=λj hj=>jr3 ok hj (by omega)
 have cs:∀j,j<(hs++[e]).length->j<hs.length\/j=hs.length:=λj hj=>by simp at hj;omega
 refine⟨λj hj=>?_,λj hj=>?_,λj hj j' hj'=>?_,λk v hv=>?_,λk hv j hj=>?_,by simpa using ln⟩
 ·rcases cs j hj with h1|rfl
  ·rw[jgd h1];exact h.le j h1
  ·rw[jin];exact he
 ·rcases cs j hj with h1|rfl
  ·rw[jgd h1,ag _ (by have:=h.le j h1;omega),ag _ (by omega)];exact h.same j h1
  ·rw[jin,ag _ he,ag _ (Ag _)];exact sm
 ·rcases cs j hj with h1|rfl
  ·rw[jgd h1]at hj'
   rw[ag _ (by have:=h.le j h1;omega),ag _ (by omega)];exact h.first j h1 j' hj'
  ·rw[jin]at hj'
   rw[ag _ (by omega),ag _ (Ag _)];exact fi j' hj'
 ·rw[hk]at hv
  by_cases c:k=RwA R (hsF hs) hs.length
  ·rw[Af c]at hv
   cases hv
   exact⟨e,by simp;omega,rfl,by rw[ag _ he,sm,c],λj' hj'=>by rw[ag _ (by omega),c];exact fi j' hj'⟩
  ·rw[Aa c]at hv
   obtain⟨j,h1,h2,h3,h4⟩:=h.d1 k v hv
   exact⟨j,by simp;omega,h2,by rw[ag _ (by omega)];exact h3,λj' hj'=>by rw[ag _ (by omega)];exact h4 j' hj'⟩
 ·rw[hk]at hv
  by_cases c:k=RwA R (hsF hs) hs.length
  ·rw[Af c]at hv;cases hv
  ·rw[Aa c]at hv
   rcases cs j hj with h1|rfl
   ·rw[ag _ (by omega)];exact h.d2 k hv j h1
   ·rw[ag _ (Ag _)];exact λz=>c z.symm
def spHO(K:PySem.W.Frag):Sp:=λvs H Q _=>∃(a:Addr)(us:List V)(R:List Row),vs=[.ref a]/\SqT K H a us/\RowsT H us R/\OkR R/\(∀r∈R,r.length<=100)/\R.length<=20000 /\
 ∀p hs H',Hd R (hsF hs)->hs.length=R.length->H p=none->H' p=some (.lst (hs.map nV))->Kp [] H H'->Q (.ref p) H'
structure THO(mg:Str->Option Value)(fw:Addr):Prop where
 n_enumerate:mg "enumerate"=none
 m3z:mg "with_parts"=some (.ref fw)
section
variable{P:Program}{w:World}{K:PySem.W.Frag}{mg:Str->Option Value}{base:Heap}
abbrev zm:Stmt:=top 12
theorem jao:FnScope ["rows","heads","first","at","row"] ["rows"] (jk zm):=⟨rfl,rfl,rfl,by decide +kernel,rfl,by decide +kernel,by decide +kernel⟩
theorem ok_heads_of{f fw:Addr}{fd fdw:FuncData}(F:Fun K "heads_of" "heads_of" zm f fd)(T:THO mg fw)(F3z:Fun K "with_parts" "with_parts" yo fw fdw)(b3z:Binds K fdw ["row","numbers"] [])
  (G3z:FnOk P w K mg base CX0 1 fw fdw ["row","numbers"] spWP):FnOk P w K mg base CX0 2 f fd ["rows"] (spHO K):=by
 refine F.ok jao (λvs H Q E h=>?_) (λcdv A outer s H vs Q E hr h=>?_)
 ·obtain⟨a,us,R,rfl,_⟩:=h
  rfl
 ·obtain⟨a,us,R,rfl,hS,rt,ok,r3,l2,k⟩:=h
  have hu:=hr.units
  have hsz:sizeLine=16777216:=Ak
  have hu1:(A.deeper (PyProof.Rows.envOfC (Str.ofString "heads_of") (jk zm) s.heap.objs.size f cdv)).units+1<cLine:=by omega
  have ul:us.length=R.length:=A5 rt
  refine exQ (jh (jm (i:=1) jao.nd rfl (by first|exact Or.inl rfl|exact Or.inr rfl) (j6 jd))
  (jh (jm (i:=2) jao.nd rfl (by first|exact Or.inl rfl|exact Or.inr rfl) qpe_dnewT)
  (jh (jac I0 rfl (qpi_enumT (K:=K) rfl rfl T.n_enumerate (jc (qpv 0) jd)) (jc0 (n:=2) rfl (ja9 (kr (i:=3) jao.nd rfl (by first|exact Or.inl rfl|exact Or.inr rfl)) (ja9 (kr (i:=4) jao.nd rfl (by first|exact Or.inl rfl|exact Or.inr rfl)) jcw)) (K:=K) rfl) (jj (kj (yd Ax Ay ki (qpv 1) (jc (qpe_dsetT hu1 (qpv 2) (jo G3z (hr.mono (by decide)) rfl T.m3z F3z.kp b3z .nil jw (jc (qpv 4) (jc (qpv 1) jd))) (qpv 3) ⟨rfl,rfl,rfl,rfl⟩) jd) jdd))))
  (jj (jr (qpv 1)))))) ?_
  simp!
  refine⟨by omega,λp hp d hd=>?_⟩
  have npd:p≠d:=jl je hd
  have k0:Kp [] H (upd (upd H p (.lst [])) d (.dT [])):=((Kp.refl [] H).new hp).new hd
  have hd0:H d=none:=by rwa[jf npd.symm]at hd
  refine⟨⟨us,k0.sqT (by simp) hS⟩,?_⟩
  refine jqq (xs:=us) (λi σ H'=>∃(hs:List Nat)(kvs:List (Row×V))(v3 v4:Option V),σ=[some (.ref a),some (.ref p),some (.ref d),v3,v4]/\hs.length=i/\HI R hs kvs/\H' p=some (.lst (hs.map nV))/\H' d=some (.dT kvs)/\Kp [] H H') ?_ ?_ ?_ ?_
  ·exact⟨[],[],none,none,rfl,rfl,⟨λj h=>by simp at h,λj h=>by simp at h,λj h=>by simp at h,λk v h=>by simp[valV]at h,λk _ j h=>by simp at h,Ag _⟩,by rw[jf npd,je];rfl,je,k0⟩
  ·rintro i σ H' _ ⟨hs,kvs,v3,v4,rfl,_,_,_,_,kp⟩
   exact kp.sqT (by simp) hS
  ·rintro i x σ H1 t hx ⟨hs,kvs,v3,v4,rfl,hl,hi,h1,h2,kp⟩ ht
   have hil:i<R.length:=by rw[<-ul];exact(Ab.mp hx).1
   obtain⟨c,hc,hcr⟩:=(rt.kp kp).get hil
   rw[hx]at hc
   cases hc
   refine⟨t,[.int (i:Int),.ref c],rfl,SqT.of je,rfl,⟨_,_,rfl,⟨_,_,rfl,rfl,?_⟩⟩⟩
   have kT:Kp [] H1 (upd H1 t (.tup [.int (i:Int),.ref c])):=(Kp.refl [] H1).new ht
   generalize upd H1 t (.tup [.int (i:Int),.ref c])=H2 at kT⊢
   have h12:=kT.old _ _ h1 Ah
   have h22:=kT.old _ _ h2 Ah
   have rl:=r3 _ (A0 (show R[i]?=some (R.getD i [])by rw[Au,An hil];rfl))
   simp! [h12]
   refine⟨.inr ⟨kvs,.inl h22⟩,c,p,R.getD i [],hsF hs,rfl,kT.tup _ _ hcr,(ok.d hil).nn,rl,.inl ⟨hs,h12,λq hq=>?_⟩,λq H3 hq0 hq3 k3=>?_⟩
   ·have:=jen (ok.d hil) hq
    unfold hsF
    rw[Au,An (by omega)];rfl
   have h13:=k3.old _ _ h12 Ah
   have h23:=k3.old _ _ h22 Ah
   have kp3:Kp [] H H3:=kp.trans (kT.trans k3)
   have kl:=hi.len
   subst hl
   refine⟨kvs,h23,RwA R (hsF hs) hs.length,q,rfl,hq3,by omega,λv hv=>?_,λhv=>?_⟩
   ·obtain⟨j,j1,rfl,j3,j4⟩:=hi.d1 _ v hv
    rw[h13]
    refine⟨_,rfl,by rw[Ae];omega,hs++[j],kvs,_,_,⟨rfl,rfl⟩,by simp,hi.step ok hil (by omega) j3 j4 (λk=>?_) (by omega),by rw[Od];rfl,by rw[jf npd.symm];exact h23,kp3.set h13 (.inr hp)⟩
    by_cases c:k=RwA R (hsF hs) hs.length
    ·rw[Af c,c];exact hv
    ·rw[Aa c]
   ·rw[jf npd,h13]
    have kd:Kp [] H (upd H3 d (.dT (putK kvs (RwA R (hsF hs) hs.length) (V.int (hs.length:Int))))):=kp3.setD h23 (.inr hd0)
    refine⟨_,rfl,by rw[Ae];omega,hs++[hs.length],_,_,_,⟨rfl,rfl⟩,by simp,hi.step (kvs':=putK kvs (RwA R (hsF hs) hs.length) (V.int (hs.length:Int))) ok hil (Ag _) rfl (λj hj=>hi.d2 _ hv j hj) (λk=>jmg _ _ _ _) (by have:=jd7 kvs (RwA R (hsF hs) hs.length) (V.int (hs.length:Int));omega),by rw[Od];rfl,by rw[jf npd.symm,je],kd.set (by rw[jf npd];exact h13) (.inr hp)⟩
  ·rintro σ H1 ⟨hs,kvs,v3,v4,rfl,hl,hi,h1,h2,kp⟩
   simp!
   exact k p hs H1 ⟨λi hi'=>hi.le i (by omega),λi hi'=>hi.same i (by omega),λi hi'=>hi.first i (by omega)⟩ (by omega) hp h1 kp
end
theorem jf5:∀{l zs:List Nat},l.Nodup->(∀x∈l,x∈zs)->l.length<=zs.length
 |[],_,_,_=>Ix _
 |x::l,zs,nd,h=>by
  obtain⟨hx,nd'⟩:=Uc.mp nd
  have hm:=h x (.head _)
  have:=jf5 (l:=l) (zs:=zs.erase x) nd' λy hy=>(List.mem_erase_of_ne (λe:y=x=>hx (e▸hy))).mpr (h y (.tail _ hy))
  rw[List.length_erase_of_mem hm]at this
  have hp:0<zs.length:=List.length_pos_of_mem hm
  rw[List.length_cons]
  omega
theorem jm9{S:List Addr}{H H1:Hp}(k:Kp S H H1){b:Addr}{kvs:List (Key×V)}{o:HO}(hb:H1 b=some (.dK kvs))(h:b∈S\/H b=none):Kp S H (upd H1 b o):=by
 have ne:∀c u,H c=some u->c∉S->c≠b:=λc u e n z=>by
  subst z
  rcases h with h|h
  ·exact n h
  ·rw[h]at e;cases e
 refine⟨λc u e n=>by rw[jf (ne c u e n)];exact k.old c u e n,λc ys e=>?_,λc u e=>?_⟩
 ·have e1:=k.tup c ys e
  have:c≠b:=λz=>by rw[z,hb]at e1;cases e1
  rw[jf this];exact e1
 ·obtain⟨o',e'⟩:=k.dom c u e
  by_cases q:c=b
  ·subst q;exact⟨o,je⟩
  ·exact⟨o',by rw[jf q];exact e'⟩
theorem jqu(l:List Nat):l=[]\/∃s v,l=s++[v]:=by
 rcases List.eq_nil_or_concat l with h|⟨s,v,h⟩
 ·exact .inl h
 ·exact .inr ⟨s,v,by simpa using h⟩
def outR(R:List Row)(h:Nat->Nat)(dn:List Nat):List Row:=dn.map λv=>wpR (λx=>dn.idxOf x) (RwA R h v)
structure LI(R:List Row)(h:Nat->Nat)(st dn:List Nat)(kvs:List (L2.Key×V)):Prop where
 fin:st.foldr (λv d=>wk (chd R h) v d) dn=ordR R h
 dec:st.Pairwise (λa b=>b<a)
 nst:∀v∈st,v∉dn/\v<R.length
 nd:dn.Nodup
 lt:∀v∈dn,v<R.length
 num:∀x:Nat,valV kvs (.inl (x:Int))=if x∈dn then some (nV (dn.idxOf x))else none
 kl:kvs.length<=dn.length
 inn:∀v∈dn,∀p∈chd R h v,p∈dn
theorem LI.bound{R:List Row}{h:Nat->Nat}{st dn:List Nat}{kvs:List (L2.Key×V)}(I:LI R h st dn kvs):st.length+dn.length<=R.length:=by
 have nd:(st++dn).Nodup:=by
  rw[U1]
  refine⟨I.dec.imp λh=>by omega,I.nd,λa ha b hb e=>(I.nst a ha).1 (e▸hb)⟩
 have:=jf5 (zs:=List.range R.length) nd λx hx=>Wk.mpr (by
  rcases Ie.mp hx with h|h
  ·exact(I.nst x h).2
  ·exact I.lt x h)
 rw[Ap,U0]at this
 exact this
theorem LI.push{R:List Row}{h:Nat->Nat}{st dn:List Nat}{v p:Nat}{rest:List Nat}{kvs:List (L2.Key×V)}(d:Dn (chd R h) R.length)(I:LI R h (st++[v]) dn kvs)(hf:(chd R h v).filter (λq=>!decide (q∈dn))=p::rest):LI R h (st++[v]++[p]) dn kvs:=by
 have hv:=(I.nst v (by simp)).2
 have hp:p∈(chd R h v).filter (λq=>!decide (q∈dn)):=by rw[hf];exact .head _
 obtain⟨hp1,hp2⟩:=Ot.mp hp
 have pv:=d v hv p hp1
 refine⟨?_,?_,?_,I.nd,I.lt,I.num,I.kl,I.inn⟩
 ·rw[<-I.fin,Wv,Wv,Wv]
  show List.foldr _ (wk _ v (wk _ p dn)) st=List.foldr _ (wk _ v dn) st
  rw[js2 d hv hf]
 ·rw[Wc]
  refine⟨I.dec,by simp,λa ha b hb=>?_⟩
  simp at hb
  subst hb
  rcases Ie.mp ha with h1|h1
  ·have:=(Wc.mp I.dec).2.2 a h1 v (by simp)
   omega
  ·simp at h1;omega
 ·intro u hu
  rcases Ie.mp hu with h1|h1
  ·exact I.nst u h1
  ·simp at h1;subst h1;exact⟨by simpa using hp2,by omega⟩
theorem LI.pop{R:List Row}{h:Nat->Nat}{st dn:List Nat}{v:Nat}{kvs:List (L2.Key×V)}(d:Dn (chd R h) R.length)(I:LI R h (st++[v]) dn kvs)(hf:(chd R h v).filter (λq=>!decide (q∈dn))=[]):LI R h st (dn++[v]) (putK kvs (.inl (v:Int)) (nV dn.length)):=by
 obtain⟨hv1,hv2⟩:=I.nst v (by simp)
 have all:∀p∈chd R h v,p∈dn:=λp hp=>by
  have:=List.filter_eq_nil_iff.mp hf p hp
  simpa using this
 have cs:∀u∈dn++[v],u∈dn\/u=v:=λu hu=>by simpa using hu
 refine⟨?_,(Wc.mp I.dec).1,λu hu=>?_,?_,λu hu=>?_,λx=>?_,?_,λu hu p hp=>?_⟩
 ·rw[<-I.fin,Wv]
  show List.foldr _ (dn++[v]) st=List.foldr _ (wk _ v dn) st
  rw[js3 d hv2 hf]
 ·obtain⟨h1,h2⟩:=I.nst u (by simp[hu])
  have:=(Wc.mp I.dec).2.2 u hu v (by simp)
  exact⟨λz=>(cs u z).elim h1 (by omega),h2⟩
 ·rw[U1]
  exact⟨I.nd,by simp,λa ha b hb e=>hv1 ((e.trans (Ao.mp hb))▸ha)⟩
 ·rcases cs u hu with h1|rfl
  ·exact I.lt u h1
  ·exact hv2
 ·rw[jmg,I.num]
  by_cases c:x=v
  ·subst c
   rw[Af rfl,Af (by simp),List.idxOf_append,Aa hv1]
   simp
  ·rw[Aa (by simpa using λz:(x:Int)=v=>c (by omega))]
   by_cases hx:x∈dn
   ·rw[Af hx,Af (by simp[hx]),jb4 hx]
   ·rw[Aa hx,Aa (by simp[hx,c])]
 ·have:=jd7 kvs (.inl (v:Int)) (nV dn.length)
  have:=I.kl
  rw[Ap]
  simp only[List.length_cons,List.length_nil]
  omega
 ·rcases cs u hu with h1|rfl
  ·exact Iq _ (I.inn u h1 p hp)
  ·exact Iq _ (all p hp)
theorem jsl{R:List Row}{h:Nat->Nat}{dn:List Nat}{v:Nat}(inn:∀v∈dn,∀p∈chd R h v,p∈dn)(hv:∀p∈chd R h v,p∈dn):outR R h (dn++[v])=outR R h dn++[wpR (λx=>dn.idxOf x) (RwA R h v)]:=by
 unfold outR
 rw[Od]
 congr 1
 ·exact Up λu hu=>jgc λp hp=>jb4 (inn u hu p hp)
 ·show[_]=[_]
  congr 1
  exact jgc λp hp=>jb4 (hv p hp)
def notI(dn:List Nat):V->Bool
 |.int i=>!decide (i.toNat∈dn)
 |_=>false
theorem jqv(dn ps:List Nat):(ps.map nV).filter (notI dn)=(ps.filter λq=>!decide (q∈dn)).map nV:=by
 rw[List.filter_map]
 congr 1
def spIO(K:PySem.W.Frag):Sp:=λvs H Q _=>∃(a:Addr)(us:List V)(R:List Row),vs=[.ref a]/\SqT K H a us/\RowsT H us R/\OkR R/\(∀r∈R,r.length<=100)/\1<=R.length/\R.length<=20000 /\
 ∀q us' F H',TidP R F->H q=none->H' q=some (.tup us')->RowsT H' us' F->Kp [] H H'->Q (.ref q) H'
structure TIO(mg:Str->Option Value)(fh fw fp:Addr):Prop where
 n_len:mg "len"=none
 n_tuple:mg "tuple"=none
 m23z:mg "heads_of"=some (.ref fh)
 m3z:mg "with_parts"=some (.ref fw)
 m26z:mg "parts_of"=some (.ref fp)
section
variable{P:Program}{w:World}{K:PySem.W.Frag}{mg:Str->Option Value}{base:Heap}
abbrev zc:Stmt:=top 11
theorem zv:FnScope ["rows","heads","numbers","ordered","due","row","lacking"] ["rows"] (jk zc):=⟨rfl,rfl,rfl,by decide +kernel,rfl,by decide +kernel,by decide +kernel⟩
theorem ok_in_order{f fh fw fp:Addr}{fd fdh fdw fdp:FuncData}(F:Fun K "in_order" "in_order" zc f fd)(T:TIO mg fh fw fp)(F23z:Fun K "heads_of" "heads_of" zm fh fdh)(b23z:Binds K fdh ["rows"] [])
  (G23z:FnOk P w K mg base CX0 2 fh fdh ["rows"] (spHO K)) (F3z:Fun K "with_parts" "with_parts" yo fw fdw) (b3z:Binds K fdw ["row","numbers"] [])
  (G3z:FnOk P w K mg base CX0 1 fw fdw ["row","numbers"] spWP) (F26z:Fun K "parts_of" "parts_of" zo fp fdp) (b26z:Binds K fdp ["row"] [])
  (G26z:FnOk P w K mg base CX0 1 fp fdp ["row"] jnj):FnOk P w K mg base CX0 3 f fd ["rows"] (spIO K):=by
 refine F.ok zv (λvs H Q E h=>?_) (λcdv A outer s H vs Q E hr h=>?_)
 ·obtain⟨a,us,R,rfl,_⟩:=h
  rfl
 ·obtain⟨a,us,R,rfl,hS,rt,ok,r3,l1,l2,k⟩:=h
  have hu:=hr.units
  have hsz:sizeLine=16777216:=Ak
  have hu1:(A.deeper (PyProof.Rows.envOfC (Str.ofString "in_order") (jk zc) s.heap.objs.size f cdv)).units+1<cLine:=by omega
  have ul:us.length=R.length:=A5 rt
  refine exQ (jh (jm (i:=1) zv.nd rfl (by first|exact Or.inl rfl|exact Or.inr rfl) (jo G23z (hr.mono (by decide)) rfl T.m23z F23z.kp b23z .nil jw (jc (qpv 0) jd)))
  (jh (jm (i:=2) zv.nd rfl (by first|exact Or.inl rfl|exact Or.inr rfl) qpe_disp0)
  (jh (jm (i:=3) zv.nd rfl (by first|exact Or.inl rfl|exact Or.inr rfl) (j6 jd))
  (jh (jm (i:=4) zv.nd rfl (by first|exact Or.inl rfl|exact Or.inr rfl) (j6 (jc (ju ix_U (qpv 1) (jb8 jib ji) (λ_ _=>rfl)) jd)))
  (jh (ja1 I0 (jbv (qpv 4)) (jh (jm (i:=5) zv.nd rfl (by first|exact Or.inl rfl|exact Or.inr rfl) (jo G3z (hr.mono (by decide)) rfl T.m3z F3z.kp b3z .nil jw (jc (ju jc4 (qpv 0) (ju ix_U (qpv 4) (jb8 jib ji) (λ_ _=>rfl)) (λ_ _=>rfl)) (jc (qpv 1) jd))))
  (jh (qps_setcIf (i:=6) zv.nd rfl (by first|exact Or.inl rfl|exact Or.inr rfl) rfl (jdq (sc:=jk zc) (N:=["rows","heads","numbers","ordered","due","row","lacking"]) (Nc:=["part","numbers"]) (js:=[none,some 2]) (by decide +kernel)) (zy (K:=K) (jo G26z (hr.mono (by decide)) rfl T.m26z F26z.kp b26z .nil jw (jc (qpv 5) jd)) rfl) (λ_ _ _ _=>(kr (i:=0) (show List.Nodup [("part":Str),("numbers":Str)]from by decide +kernel) rfl (by first|exact Or.inl rfl|exact Or.inr rfl))) (λ_ _ _ _=>(qpt_cmp (qpc_dnotin hu1 (qpv 0) (qpv 1)) (by with_unfolding_all rfl))) (λ_ _ _ _=>(qpv 0)))
  (y0 (j7 (jbv (qpv 6)) (jh (kj (yd Ax Ay ki (qpv 4) (jc (ju ix_U (qpv 6) ji (λ_ _=>rfl)) jd) jdd))
  (jj qps_continue)) jx)
  (jh (qps_dput hu1 (qpv 2) (jbg Ud Ue jbf (qpv 4) jdd) (jv kh (by rfl) T.n_len km (jc (qpv 3) jd)) rfl)
  (jj (kj (yd Ax Ay ki (qpv 3) (jc (jo G3z (hr.mono (by decide)) rfl T.m3z F3z.kp b3z .nil jw (jc (qpv 5) (jc (qpv 2) jd))) jd) jdd))))))))
  (jj (jr (zi jaz (by rfl) T.n_tuple jbe (jc (qpv 3) jd))))))))) ?_
  simp!
  refine⟨a,us,R,rfl,hS,rt,ok,r3,l2,λph hs H1 hd hl hp0 hp1 k1=>?_⟩
  have d:=jow ok hd
  intro pn hn
  refine⟨by omega,λpo ho=>?_⟩
  have npo:pn≠po:=jl je ho
  have nhn:ph≠pn:=jl hp1 hn
  have nho:ph≠po:=jl (by rw[jf nhn];exact hp1) ho
  have e2:upd (upd H1 pn (.dK [])) po (.lst []) ph=some (.lst (hs.map nV)):=by rw[jf nho,jf nhn];exact hp1
  rw[jd0,e2]
  refine⟨_,rfl,nV (hsF hs (R.length-1)),jot ?_,by omega,λpd hpd=>?_⟩
  ·rw[Ae,A3,hl]
   unfold hsF
   rw[Au,An (by omega)];rfl
  have npd:pn≠pd:=jl (by rw[jf npo,je]) hpd
  have nod:po≠pd:=jl je hpd
  have nhd:ph≠pd:=jl e2 hpd
  have kk:Kp [] H (upd (upd (upd H1 pn (.dK [])) po (.lst [])) pd (.lst [nV (hsF hs (R.length-1))])):=((k1.new hn).new ho).new hpd
  have hn0:H pn=none:=k1.free hn
  have ho0:H po=none:=(k1.new hn).free ho
  have hd0:H pd=none:=((k1.new hn).new ho).free hpd
  refine⟨λm σ H'=>∃(st dn:List Nat)(kvs:List (L2.Key×V))(os:List V)(v5 v6:Option V),σ=[some (.ref a),some (.ref ph),some (.ref pn),some (.ref po),some (.ref pd),v5,v6]/\LI R (hsF hs) st dn kvs/\m=2*(R.length-dn.length)-st.length /\
   H' ph=some (.lst (hs.map nV))/\H' pn=some (.dK kvs)/\H' po=some (.lst os)/\RowsT H' os (outR R (hsF hs) dn)/\H' pd=some (.lst (st.map nV))/\Kp [] H H',?_,?_⟩
  ·refine⟨_,[hsF hs (R.length-1)],[],[],[],none,none,rfl,⟨rfl,by simp,λv hv=>?_,Ye,by simp,λx=>by simp[valV],Ag _,by simp⟩,rfl,?_,?_,?_,.nil,je,kk⟩
   ·simp at hv
    subst hv
    have:=hd.le (R.length-1) (by omega)
    exact⟨by simp,by omega⟩
   ·rw[jf nhd];exact e2
   ·rw[jf npd,jf npo,je]
   ·rw[jf nod,je]
  rintro m σ H2 ⟨st,dn,kvs,os,v5,v6,rfl,I,rfl,g1,g2,g3,g4,g5,kp⟩
  simp! [g5]
  have hsq:∀q,q<R.length->hs[q]?=some (hsF hs q):=λq hq=>by
   unfold hsF
   rw[Au,An (by omega)];rfl
  rcases jqu st with rfl|⟨s0,v,rfl⟩
  ·rw[Aa (by simp)]
   refine jei g3 λl hl3=>k l os _ _ ⟨hsF hs,hd,?_⟩ (kp.free hl3) je (g4.kp ((Kp.refl [] _).new hl3)) (kp.new hl3)
   have:dn=ordR R (hsF hs):=I.fin
   rw[this];rfl
  rw[Af (by simp)]
  obtain⟨hv1,hv2⟩:=I.nst v (by simp)
  obtain⟨c,hc,hcr⟩:=(rt.kp kp).get hv2
  have rl:=r3 _ (A0 (show R[v]?=some (R.getD v [])by rw[Au,An hv2];rfl))
  have bd:=I.bound
  rw[Ap,List.length_cons,List.length_nil]at bd
  have kl:=I.kl
  have ol:os.length=dn.length:=by rw[A5 g4];simp[outR]
  refine⟨_,λ_ _ h=>h,nV v,by rw[Od];exact jgz _ _,⟨a,us,(v:Int),.ref c,rfl,rfl,kp.sqT (by simp) hS,jfa hc,?_⟩⟩
  refine⟨c,ph,R.getD v [],hsF hs,rfl,hcr,(ok.d hv2).nn,rl,.inl ⟨hs,g1,λq hq=>hsq q (by have:=jen (ok.d hv2) hq;omega)⟩,λq H3 hq0 hq3 k3=>?_⟩
  have wl:(RwA R (hsF hs) v).length<=100:=by unfold RwA wpR;rw[Ae];exact rl
  refine⟨q,RwA R (hsF hs) v,rfl,hq3,jjj _ _,wl,λpp hpp=>?_⟩
  have k4:Kp [] H3 (upd H3 pp (.lst ((ptR (RwA R (hsF hs) v)).map nV))):=(Kp.refl [] H3).new hpp
  have e4:upd H3 pp (.lst ((ptR (RwA R (hsF hs) v)).map nV)) pp=some (.lst ((ptR (RwA R (hsF hs) v)).map nV)):=je
  generalize upd H3 pp (.lst ((ptR (RwA R (hsF hs) v)).map nV))=H4 at k4 e4⊢
  have k24:=k3.trans k4
  have g14:=k24.old _ _ g1 Ah
  have g24:=k24.old _ _ g2 Ah
  have g34:=k24.old _ _ g3 Ah
  have g44:=g4.kp k24
  have g54:=k24.old _ _ g5 Ah
  have hq4:=k4.tup _ _ hq3
  have kp4:Kp [] H H4:=kp.trans k24
  simp! [e4]
  intro D hD
  have nnD:pn≠D:=jl g24 hD
  have pl:(ptR (RwA R (hsF hs) v)).length<=100:=A7 (List.length_filterMap_le _ _) wl
  refine je6 (notI dn) id e4 hD (by rw[Ae];omega) (λx hx l Q' q=>?_) (λx hx _ l Q' q=>?_) λvv=>?_
  ·obtain⟨y,hy,rfl⟩:=Io.mp hx
   simp!
   refine⟨_,DGet.k (k:=.inl (y:Int)) (by rw[jf nnD];exact g24),?_⟩
   rw[I.num y]
   have:notI dn (nV y)=!(if y∈dn then some (nV (dn.idxOf y))else none).isSome:=by
    show(!decide (y∈dn))=_
    by_cases h:y∈dn <;> simp[h]
   rw[<-this]
   exact q
  ·simp!
   exact q
  rw[List.map_id,jqv]
  have kD:Kp [] H4 (upd H4 D (.lst (((ptR (RwA R (hsF hs) v)).filter λq=>!decide (q∈dn)).map nV))):=(Kp.refl [] H4).new hD
  have eD:upd H4 D (.lst (((ptR (RwA R (hsF hs) v)).filter λq=>!decide (q∈dn)).map nV)) D=some (.lst (((ptR (RwA R (hsF hs) v)).filter λq=>!decide (q∈dn)).map nV)):=je
  generalize upd H4 D (.lst (((ptR (RwA R (hsF hs) v)).filter λq=>!decide (q∈dn)).map nV))=H5 at kD eD⊢
  have g15:=kD.old _ _ g14 Ah
  have g25:=kD.old _ _ g24 Ah
  have g35:=kD.old _ _ g34 Ah
  have g45:=g44.kp kD
  have g55:=kD.old _ _ g54 Ah
  have hq5:=kD.tup _ _ hq4
  have kp5:Kp [] H H5:=kp4.trans kD
  clear g14 g24 g34 g44 g54 hq4 kp4 kD k4 k24 k3 hq3 g1 g2 g3 g4 g5 kp hD hpp
  cases hf:(ptR (RwA R (hsF hs) v)).filter λq=>!decide (q∈dn)with
  |cons p1 rest =>
   rw[hf]at eD
   refine⟨λ_ _=>False,?_,λ_ _ h=>h.elim⟩
   simp! [eD,g55]
   rw[Af (show(!(nV p1::List.map nV rest).isEmpty)=true from rfl)]
   have I':=I.push d hf
   have bd':=I'.bound
   have ll:(s0++[v]++[p1]).length=(s0++[v]).length+1:=by simp
   have l0:(s0++[v]).length=s0.length+1:=by simp
   refine⟨by rw[Ae];omega,_,?_,s0++[v]++[p1],dn,kvs,os,_,_,⟨rfl,rfl⟩,I',rfl,?_,?_,?_,?_,?_,kp5.set g55 (.inr hd0)⟩
   ·omega
   ·rw[jf nhd];exact g15
   ·rw[jf npd];exact g25
   ·rw[jf nod];exact g35
   ·exact g45.kp ((Kp.refl [pd] H5).set g55 (.inl (.head _)))
   ·rw[Od (l₁:=s0++[v])];rfl
  |nil =>
   rw[hf]at eD
   refine⟨λσ' H'=>σ'=[some (.ref a),some (.ref ph),some (.ref pn),some (.ref po),some (.ref pd),some (.ref q),some (.ref D)]/\H5=H',?_,?_⟩
   ·simp! [eD]
    rw[Aa (by simp)]
    trivial
   rintro _ _ ⟨rfl,rfl⟩
   have I':=I.pop d hf
   have all:∀p∈chd R (hsF hs) v,p∈dn:=λp hp=>by
    have:=List.filter_eq_nil_iff.mp hf p hp
    simpa using this
   have dl:(List.map nV (s0++[v])).dropLast=s0.map nV:=by simp
   simp! [g35,g55]
   rw[ol,dl]
   refine⟨nV v,by simp,upd (upd H5 pd (.lst (s0.map nV))) pn (.dK (putK kvs (.inl (v:Int)) (nV dn.length))),DPut.k (k:=.inl (v:Int)) (v:=nV dn.length) (by rw[jf npd];exact g25) (by omega),?_⟩
   have k6:Kp [pd,pn] H5 (upd (upd H5 pd (.lst (s0.map nV))) pn (.dK (putK kvs (.inl (v:Int)) (nV dn.length)))):=jm9 ((Kp.refl [pd,pn] H5).set g55 (.inl (.head _))) (by rw[jf npd];exact g25) (.inl (by simp))
   have kp6:Kp [] H (upd (upd H5 pd (.lst (s0.map nV))) pn (.dK (putK kvs (.inl (v:Int)) (nV dn.length)))):=jm9 (kp5.set g55 (.inr hd0)) (by rw[jf npd];exact g25) (.inr hn0)
   have e6n:upd (upd H5 pd (.lst (s0.map nV))) pn (.dK (putK kvs (.inl (v:Int)) (nV dn.length))) pn=some (.dK (putK kvs (.inl (v:Int)) (nV dn.length))):=je
   have e6d:upd (upd H5 pd (.lst (s0.map nV))) pn (.dK (putK kvs (.inl (v:Int)) (nV dn.length))) pd=some (.lst (s0.map nV)):=by rw[jf npd.symm,je]
   generalize upd (upd H5 pd (.lst (s0.map nV))) pn (.dK (putK kvs (.inl (v:Int)) (nV dn.length)))=H6 at k6 kp6 e6n e6d⊢
   have e6o:=k6.old _ _ g35 (by simp[nod,npo.symm])
   have e6h:=k6.old _ _ g15 (by simp[nhd,nhn])
   refine⟨by rw[e6o];rfl,q,pn,RwA R (hsF hs) v,λx=>dn.idxOf x,rfl,k6.tup _ _ hq5,jjj _ _,wl,.inr ⟨_,e6n,λp hp=>?_⟩,λq2 H7 hq20 hq27 k7=>?_⟩
   ·rw[I'.num p,Af (Iq _ (all p hp)),jb4 (all p hp)]
   have e7o:=k7.old _ _ e6o Ah
   have e7n:=k7.old _ _ e6n Ah
   have e7d:=k7.old _ _ e6d Ah
   have e7h:=k7.old _ _ e6h Ah
   have l0:(s0++[v]).length=s0.length+1:=by simp
   have l1':(dn++[v]).length=dn.length+1:=by simp
   have k8:Kp [po] H7 (upd H7 po (.lst (os++[.ref q2]))):=(Kp.refl [po] H7).set e7o (.inl (.head _))
   refine⟨os,by rw[e7o];rfl,by omega,_,?_,s0,dn++[v],_,os++[.ref q2],_,_,⟨rfl,rfl⟩,I',rfl,?_,?_,rfl,?_,?_,(kp6.trans k7).set e7o (.inr ho0)⟩
   ·omega
   ·rw[jf nho];exact e7h
   ·rw[jf npo];exact e7n
   ·rw[jsl I.inn all]
    exact Uz ((((g45.kp k6).kp k7)).kp k8) ⟨q2,rfl,k8.tup _ _ hq27⟩
   ·rw[jf nod.symm];exact e7d
end
def jnk:Sp:=λvs H Q _=>∃(b:Addr)(m:Int)(o:HO),vs=[.ref b,.int m]/\H b=some o/\BoxO o/\1<=m/\m<=1000/\∀d o' H',0<=d->d<m->BoxO o'->H' b=some o'->Kp [b] H H'->Q (.int d) H'
theorem BoxO.lst{o:HO}(h:BoxO o):∃xs,o=.lst xs:=by obtain⟨c,s,e,_⟩:=h;exact⟨_,e⟩
section
variable{P:Program}{w:World}{K:PySem.W.Frag}{mg:Str->Option Value}{base:Heap}
structure TRow(mg:Str->Option Value)(ft:Addr):Prop where
 m1z:mg "_law_take"=some (.ref ft)
abbrev y6:Stmt:=top 32
theorem sc__law_row_at:FnScope ["_law_box_here","_law_k"] ["_law_box_here","_law_k"] (jk y6):=⟨rfl,rfl,rfl,by decide +kernel,rfl,by decide +kernel,by decide +kernel⟩
theorem ok__law_row_at{f ft:Addr}{fd fdt:FuncData}(F:Fun K "_law_row_at" "_law_row_at" y6 f fd)(T:TRow mg ft)(F1z:Fun K "_law_take" "_law_take" kx ft fdt)(b1z:Binds K fdt ["_law_box_here","_law_wide"] [])
  (G1z:FnOk P w K mg base CX0 1 ft fdt ["_law_box_here","_law_wide"] jdv):FnOk P w K mg base CX0 2 f fd ["_law_box_here","_law_k"] jnk:=by
 refine F.ok sc__law_row_at (λvs H Q E h=>?_) (λcdv A outer s H vs Q E hr h=>?_)
 ·obtain⟨b,m,o,rfl,_⟩:=h
  rfl
 ·obtain⟨b,m,o,rfl,hb,ho,m1,m2,k⟩:=h
  refine⟨_,(QSs.h (jj (jr (ju ix_U (j6 (jc (jq jaf (qpv 1) ji) (jc (jo G1z (hr.mono (by decide)) rfl T.m1z F1z.kp b1z .nil jw (jc (qpv 0) (jc (qpv 1) jd))) jd))) (jo G1z (hr.mono (by decide)) rfl T.m1z F1z.kp b1z .nil jw (jc (qpv 0) (jc ji jd))) (λ_ _=>rfl))))),?_⟩
  have hsz:sizeLine=16777216:=Ak
  simp!
  refine⟨b,m,o,rfl,hb,ho,by omega,by omega,λd o1 d0 d1 ho1=>?_⟩
  refine⟨by omega,λp hp=>?_⟩
  have nbp:b≠p:=jl je hp
  obtain⟨xs0,rfl⟩:=ho.lst
  obtain⟨xs1,rfl⟩:=id ho1.lst
  refine⟨b,2,_,rfl,by rw[jf nbp,je],ho1,by omega,by omega,λe o2 e0 e1 ho2=>?_⟩
  have hp2:upd (upd (upd H b (.lst xs1)) p (.lst [V.int (m-1),V.int d])) b o2 p=some (.lst [V.int (m-1),V.int d]):=by rw[jf nbp.symm,je]
  simp! [hp2]
  have kp:Kp [b] H (upd (upd (upd H b (.lst xs1)) p (.lst [V.int (m-1),V.int d])) b o2):=((((Kp.refl [b] H).set hb (.inl (.head _))).new hp).set (by rw[jf nbp,je]) (.inl (by simp)))
  have:e=0\/e=1:=by omega
  rcases this with rfl|rfl
  ·exact⟨_,jn0 _ _,k _ o2 _ (by omega) (by omega) ho2 je kp⟩
  ·exact⟨_,jn1 _ _ _,k _ o2 _ d0 d1 ho2 je kp⟩
end
def lowS(z:Str):Prop:=∀c∈sg z,97<=c/\c<=122
theorem lowS.app{x y:Str}(h1:lowS x)(h2:lowS y):lowS (x++y):=λc hc=>by
 rw[jdu]at hc
 rcases Ie.mp hc with h|h
 ·exact h1 c h
 ·exact h2 c h
theorem lowS.one{c:Nat}(h:97<=c/\c<=122):lowS ⟨#[c]⟩:=λd hd=>by
 have:d=c:=by simpa[sg]using hd
 rw[this];exact h
theorem lowS.join{l:List Str}(h:∀z∈l,lowS z):lowS (Txt.join (Str.ofString "") l):=λc hc=>by
 rw[jrp]at hc
 obtain⟨m,hm,hc⟩:=List.mem_flatten.mp hc
 obtain⟨z,hz,rfl⟩:=Io.mp hm
 exact h z hz c hc
theorem jlj:∀{xs:List V},(∀x∈xs,∃c:Nat,x=.str ⟨#[c]⟩/\(97<=c/\c<=122))->∃ys:List Str,xs=ys.map V.str/\ys.length=xs.length/\∀y∈ys,y.length=1/\lowS y
 |[],_=>⟨[],rfl,rfl,λ_ h=>nomatch h⟩
 |x::xs,h=>by
  obtain⟨c,rfl,hc⟩:=h x (.head _)
  obtain⟨ys,rfl,hl,hy⟩:=jlj λy hy=>h y (.tail _ hy)
  refine⟨⟨#[c]⟩::ys,rfl,by simp,λy hy'=>?_⟩
  rcases Al.mp hy' with rfl|h
  ·exact⟨rfl,lowS.one hc⟩
  ·exact hy y h
abbrev NW:List V:=[V.str (Str.ofString "yes"),V.str (Str.ofString "is"),V.str (Str.ofString "not"),V.str (Str.ofString "and"),V.str (Str.ofString "or")]
def NmOk(z:Str):Prop:=z.length<=3/\lowS z/\1<=z.length/\inV (.str z) NW=false
theorem jtq(c:Nat):inV (.str (Str.ofString "qq"++⟨#[c]⟩)) NW=false:=by
 have q:sg (Str.ofString "qq")=[113,113]:=by decide +kernel
 have ne:∀x:Str,(sg x).head?≠some 113->¬x=(Str.ofString "qq"++(⟨#[c]⟩:Str)):=λx h e=>h (by rw[e,jdu,q];rfl)
 have h1:=ne (Str.ofString "yes") (by decide +kernel)
 have h2:=ne (Str.ofString "is") (by decide +kernel)
 have h3:=ne (Str.ofString "not") (by decide +kernel)
 have h4:=ne (Str.ofString "and") (by decide +kernel)
 have h5:=ne (Str.ofString "or") (by decide +kernel)
 simp[inV,eqV,NW,h1,h2,h3,h4,h5]
def spPN:Sp:=λvs H Q _=>∃(b:Addr)(m:Nat)(o:HO),vs=[.ref b,.int (m:Int)]/\H b=some o/\BoxO o/\1<=m/\m<=26 /\
 ∀(p:Addr)(zs:List Str)(o':HO)(H':Hp),zs.length=m->(∀z∈zs,NmOk z)->H p=none->H' p=some (.lst (zs.map V.str))->BoxO o'->H' b=some o'->Kp [b] H H'->Q (.ref p) H'
theorem jdj(x y:Str):(x++y).length=x.length+y.length:=by simp[Str.length,Str.cps_append]
theorem jhq(l:List Str)(h:∀a∈l,a.length=1):(Txt.join (Str.ofString "") l).length=l.length:=PySem.W.KT.join_ones l h
theorem ji8(ys:List Str)(lo hi:Option Int):cutV (ys.map V.str) lo hi=((ys.drop (HT.sIx ys.length 0 lo)).take (HT.sIx ys.length ys.length hi-HT.sIx ys.length 0 lo)).map V.str:=by
 simp only[cutV,Ae,List.map_take,List.map_drop]
def JN(H:Hp)(b D c:Addr)(m n:Nat)(sp fi:Int)(i ch:Nat)(v4:Option V)(ys zs:List Str):L2.St->Hp->Prop:=λσ H5=>∃(nm:Str)(o':HO),
 σ=[some (.ref b),some (.int (m:Int)),some (.str "abcdefghijklmnopqrstuvwxyz"),some (.int (1+(n:Int))),some (.ref D),some (.int sp),some (.int fi),some (.ref c),some (.int (0+(i:Int))),some (.str ⟨#[ch]⟩),some (.str nm),v4] /\
 (nm.length<=3/\lowS nm/\1<=nm.length)/\BoxO o'/\H5 b=some o'/\H5 c=some (.lst (zs.map V.str))/\H5 D=some (.lst (ys.map V.str))/\Kp [b] H H5
def JM(H:Hp)(b D c:Addr)(m n:Nat)(sp fi:Int)(i ch:Nat)(v4:Option V)(ys zs:List Str):L2.St->Hp->Prop:=λσ H5=>∃(nm:Str)(o':HO),
 σ=[some (.ref b),some (.int (m:Int)),some (.str "abcdefghijklmnopqrstuvwxyz"),some (.int (1+(n:Int))),some (.ref D),some (.int sp),some (.int fi),some (.ref c),some (.int (0+(i:Int))),some (.str ⟨#[ch]⟩),some (.str nm),v4] /\
 NmOk nm/\BoxO o'/\H5 b=some o'/\H5 c=some (.lst (zs.map V.str))/\H5 D=some (.lst (ys.map V.str))/\Kp [b] H H5
structure TPN(mg:Str->Option Value)(ft:Addr):Prop where
 n_range:mg "range"=none
 m1z:mg "_law_take"=some (.ref ft)
section
variable{P:Program}{w:World}{K:PySem.W.Frag}{mg:Str->Option Value}{base:Heap}
abbrev kz:Stmt:=top 33
theorem ke:FnScope ["_law_box_here","_law_many","_law_letters_here","_law_size","_law_signs","_law_spot","_law_first","_law_found","_law_k","_law_one","_law_name","_law_odd"] ["_law_box_here","_law_many"] (jk kz):=⟨rfl,rfl,rfl,by decide +kernel,rfl,by decide +kernel,by decide +kernel⟩
theorem ok__law_place_names{f ft:Addr}{fd fdt:FuncData}(F:Fun K "_law_place_names" "_law_place_names" kz f fd)(T:TPN mg ft)(F1z:Fun K "_law_take" "_law_take" kx ft fdt)(b1z:Binds K fdt ["_law_box_here","_law_wide"] [])
  (G1z:FnOk P w K mg base CX0 1 ft fdt ["_law_box_here","_law_wide"] jdv):FnOk P w K mg base CX0 2 f fd ["_law_box_here","_law_many"] spPN:=by
 refine F.ok ke (λvs H Q E h=>?_) (λcdv A outer s H vs Q E hr h=>?_)
 ·obtain⟨b,m,o,rfl,_⟩:=h
  rfl
 ·obtain⟨b,m,o,rfl,hb,ho,m1,m2,k⟩:=h
  have hu:=hr.units
  refine⟨_,(QSs.h (jh (jm (i:=2) ke.nd rfl (by first|exact Or.inl rfl|exact Or.inr rfl) jg)
  (jh (jm (i:=3) ke.nd rfl (by first|exact Or.inl rfl|exact Or.inr rfl) (jq jz ji (jo G1z (hr.mono (by decide)) rfl T.m1z F1z.kp b1z .nil jw (jc (qpv 0) (jc ji jd)))))
  (jh (qps_setc (i:=4) ke.nd rfl (by first|exact Or.inl rfl|exact Or.inr rfl) rfl (jdq (sc:=jk kz) (N:=["_law_box_here","_law_many","_law_letters_here","_law_size","_law_signs","_law_spot","_law_first","_law_found","_law_k","_law_one","_law_name","_law_odd"]) (Nc:=["_law_k","_law_letters_here","_law_box_here"]) (js:=[none,some 2,some 0]) (by decide +kernel)) (jav rfl T.n_range (jc (qpv 3) jd)) (λ_ _ _ _=>(kr (i:=0) (show List.Nodup [("_law_k":Str),("_law_letters_here":Str),("_law_box_here":Str)]from by decide +kernel) rfl (by first|exact Or.inl rfl|exact Or.inr rfl))) (λ_ _ _ _=>(ju ix_U (qpv 1) (jo G1z (hr.mono (by decide)) rfl T.m1z F1z.kp b1z .nil jw (jc (qpv 2) (jc ji jd))) (λ_ _=>rfl))))
  (jh (jm (i:=5) ke.nd rfl (by first|exact Or.inl rfl|exact Or.inr rfl) (jo G1z (hr.mono (by decide)) rfl T.m1z F1z.kp b1z .nil jw (jc (qpv 0) (jc (qpv 3) jd))))
  (jh (jm (i:=6) ke.nd rfl (by first|exact Or.inl rfl|exact Or.inr rfl) (jo G1z (hr.mono (by decide)) rfl T.m1z F1z.kp b1z .nil jw (jc (qpv 0) (jc ji jd))))
  (jh (jm (i:=7) ke.nd rfl (by first|exact Or.inl rfl|exact Or.inr rfl) (j6 jd))
  (jh (jac I0 rfl (jav rfl T.n_range (jc (qpv 1) jd)) (kr (i:=8) ke.nd rfl (by first|exact Or.inl rfl|exact Or.inr rfl)) (jh (jm (i:=9) ke.nd rfl (by first|exact Or.inl rfl|exact Or.inr rfl) (ju ix_U (qpv 2) (jq jam (jq jz (qpv 6) (jq jaj ji (qpv 8))) ji) (λ_ _=>rfl)))
  (jh (jm (i:=10) ke.nd rfl (by first|exact Or.inl rfl|exact Or.inr rfl) (jq jz (jq jz (ja5 Uf Ug ja7 jg (jc (yf (jaa (K:=K) rfl) (qpv 4) yz (yg (qpv 5))) jd) jf3) (qpv 9)) (ja5 Uf Ug ja7 jg (jc (yf (jaa (K:=K) rfl) (qpv 4) (yg (jq jz (qpv 5) ji)) yz) jd) jf3)))
  (y0 (j7 (QW.pt (ja6 (jp (j9 hu) (jq jam (qpv 8) ji) ji (jt _)) (ja6 (jp jau (qpv 3) ji (jt _)) (jbl (jp (j9 hu) (jo G1z (hr.mono (by decide)) rfl T.m1z F1z.kp b1z .nil jw (jc (qpv 0) (jc ji jd))) ji (jt _)))))) (jj (jm (i:=10) ke.nd rfl (by first|exact Or.inl rfl|exact Or.inr rfl) (jq jz (qpv 10) jg))) jx)
  (y0 (j7 (jp (zf (K:=K) rfl) (qpv 10) (kf (jc jg (jc jg (jc jg (jc jg (jc jg jd)))))) (by with_unfolding_all rfl)) (jj (jm (i:=10) ke.nd rfl (by first|exact Or.inl rfl|exact Or.inr rfl) (jq jz jg (qpv 9)))) jx)
  (jj (kj (yd Ax Ay ki (qpv 7) (jc (qpv 10) jd) jdd))))))))
  (y0 (j7 (jp (j9 hu) (jo G1z (hr.mono (by decide)) rfl T.m1z F1z.kp b1z .nil jw (jc (qpv 0) (jc ji jd))) ji (jt _)) (jh (jm (i:=11) ke.nd rfl (by first|exact Or.inl rfl|exact Or.inr rfl) (ju ix_U (j6 (jc jg (jc jg (jc jg (jc jg (jc jg (jc jg (jc jg (jc jg jd))))))))) (jo G1z (hr.mono (by decide)) rfl T.m1z F1z.kp b1z .nil jw (jc (qpv 0) (jc ji jd))) (λ_ _=>rfl)))
  (jj (j7 (jp (op_notinU (K:=K) rfl) (qpv 11) (qpv 7) (by with_unfolding_all rfl)) (jj (jce (qpv 11) (jcc (qpv 7) (jo G1z (hr.mono (by decide)) rfl T.m1z F1z.kp b1z .nil jw (jc (qpv 0) (jc (qpv 1) jd))) joj))) jx))) jx)
  (jj (jr (qpv 7)))))))))))),?_⟩
  have hsz:sizeLine=16777216:=Ak
  have la:(Str.ofString "abcdefghijklmnopqrstuvwxyz").length=26:=by decide +kernel
  have l26:(Str.ofString "abcdefghijklmnopqrstuvwxyz").cps.toList.length=26:=by simpa[Str.length]using la
  have lq:(Str.ofString "q").length=1:=by decide +kernel
  have hlq:lowS (Str.ofString "q"):=by unfold lowS;decide +kernel
  have hlqq:lowS (Str.ofString "qq"):=by unfold lowS;decide +kernel
  have hab:∀c∈(Str.ofString "abcdefghijklmnopqrstuvwxyz").cps.toList,97<=c/\c<=122:=by decide +kernel
  have lqq:(Str.ofString "qq").length=2:=by decide +kernel
  simp!
  refine⟨b,3,o,rfl,hb,ho,by omega,by omega,λd o1 d0 d1 ho1=>?_⟩
  obtain⟨n,rfl⟩:∃n:Nat,d=(n:Int):=⟨d.toNat,by omega⟩
  have en:(1+(n:Int)).toNat=n+1:=by omega
  obtain⟨xs0,rfl⟩:=ho.lst
  obtain⟨xs1,rfl⟩:=id ho1.lst
  refine⟨_,rfl,by omega,by omega,λD hD=>?_⟩
  rw[en]
  have nbD:b≠D:=jl je hD
  have hD0:H D=none:=by rw[jf nbD.symm]at hD;exact hD
  refine jqc (λx=>∃c:Nat,x=.str ⟨#[c]⟩/\(97<=c/\c<=122)) je ho1 hD (by omega) (λx H' o' Q' hb' ho' hq=>?_) λv xs o2 hl hP ho2=>?_
  ·simp!
   refine⟨b,26,_,rfl,hb',ho',by omega,by omega,λe o5 e0 e1 ho5=>?_⟩
   simp!
   refine⟨by omega,(Str.ofString "abcdefghijklmnopqrstuvwxyz").cps.toList[e.toNat]'(by omega),jc8 e0 (by simp),hq _ _ ⟨_,rfl,hab _ (Of _)⟩ ho5⟩
  obtain⟨ys,rfl,hy1,hy2'⟩:=jlj hP
  have hy2:∀y∈ys,y.length=1:=λy hy=>(hy2' y hy).1
  rw[Ae]at hl
  obtain⟨xs2,rfl⟩:=id ho2.lst
  have f1:upd (upd (upd H b (.lst xs1)) b (.lst xs2)) D (.lst (ys.map V.str)) b=some (.lst xs2):=by rw[jf nbD,je]
  have f2:upd (upd (upd H b (.lst xs1)) b (.lst xs2)) D (.lst (ys.map V.str)) D=some (.lst (ys.map V.str)):=je
  have f3:Kp [b] H (upd (upd (upd H b (.lst xs1)) b (.lst xs2)) D (.lst (ys.map V.str))):=(((Kp.refl [b] H).set hb (.inl (.head _))).set je (.inl (.head _))).new (by rw[jf nbD.symm];exact hD)
  revert f1 f2 f3
  generalize upd (upd (upd H b (.lst xs1)) b (.lst xs2)) D (.lst (ys.map V.str))=H2
  intro f1 f2 f3
  refine⟨b,_,_,rfl,f1,ho2,by omega,by omega,λsp o3 sp0 sp1 ho3=>?_⟩
  obtain⟨xs3,rfl⟩:=id ho3.lst
  refine⟨b,_,_,rfl,je,ho3,by omega,by omega,λfi o4 fi0 fi1 ho4=>?_⟩
  obtain⟨xs4,rfl⟩:=id ho4.lst
  refine⟨by omega,λc hc=>?_⟩
  rw[jep]at hc⊢
  have g1:upd H2 b (.lst xs4) D=some (.lst (ys.map V.str)):=by rw[jf nbD.symm];exact f2
  have g3:Kp [b] H (upd H2 b (.lst xs4)):=f3.set f1 (.inl (.head _))
  have nbc:b≠c:=jl je hc
  have nDc:D≠c:=jl g1 hc
  have hc0:H c=none:=g3.free hc
  refine⟨by omega,by omega,?_⟩
  rw[Int.toNat_natCast]
  refine jd3 (λi σ H'=>∃(zs:List Str)(o':HO)(v1 v2 v3 v4:Option V),σ=[some (.ref b),some (.int (m:Int)),some (.str "abcdefghijklmnopqrstuvwxyz"),some (.int (1+(n:Int))),some (.ref D),some (.int sp),some (.int fi),some (.ref c),v1,v2,v3,v4] /\
   zs.length=i/\(∀z∈zs,NmOk z)/\H' c=some (.lst (zs.map V.str))/\BoxO o'/\H' b=some o'/\H' D=some (.lst (ys.map V.str))/\Kp [b] H H') ?_ ?_ ?_
  ·exact⟨[],_,none,none,none,none,rfl,rfl,(λ_ h=>nomatch h),je,ho4,by rw[jf nbc,je],by rw[jf nDc];exact g1,g3.new hc⟩
  ·rintro i σ H' hi ⟨zs,o',v1,v2,v3,v4,rfl,hz1,hz2,hc',ho',hb',hD',kp⟩
   simp!
   have q0:=Int.emod_nonneg (fi+5*(0+(i:Int))) (show(26:Int)≠0 by decide)
   have q1:=Yi (fi+5*(0+(i:Int))) (show(0:Int)<26 by decide)
   refine⟨.inl ⟨by omega,by omega⟩,by decide,by omega,(Str.ofString "abcdefghijklmnopqrstuvwxyz").cps.toList[((fi+5*(0+(i:Int)))%26).toNat]'(by omega),jc8 q0 (by simp),?_⟩
   have hch:97<=(Str.ofString "abcdefghijklmnopqrstuvwxyz").cps.toList[((fi+5*(0+(i:Int)))%26).toNat]'(by omega)/\(Str.ofString "abcdefghijklmnopqrstuvwxyz").cps.toList[((fi+5*(0+(i:Int)))%26).toNat]'(by omega)<=122:=hab _ (Of _)
   generalize(Str.ofString "abcdefghijklmnopqrstuvwxyz").cps.toList[((fi+5*(0+(i:Int)))%26).toNat]'(by omega)=ch at hch
   have lch:(⟨#[ch]⟩:Str).length=1:=rfl
   refine rSlU.lst hD' λs1 hs1=>?_
   rw[ji8]
   have a1:HT.sIx ys.length 0 none=0:=rfl
   have a2:HT.sIx ys.length ys.length (some sp)=sp.toNat:=by simp only[HT.sIx];split <;> omega
   have a3:HT.sIx ys.length 0 (some (sp+1))=sp.toNat+1:=by simp only[HT.sIx];split <;> omega
   have a4:HT.sIx ys.length ys.length none=ys.length:=rfl
   generalize hL1:(ys.drop (HT.sIx ys.length 0 none)).take (HT.sIx ys.length ys.length (some sp)-HT.sIx ys.length 0 none)=La
   have l1:La.length=sp.toNat:=by rw[<-hL1,a1,a2,Il,Uk];omega
   have o1:∀z∈La,z.length=1:=λz hz=>by rw[<-hL1]at hz;exact hy2 z (Oz (Op hz))
   have sm:∀L:List Str,(∀z∈L,z.length=1)->(L.map (·.length)).sum=L.length:=by
    intro L
    induction L with
    |nil=>intro _;rfl
    |cons y L ih=>intro h;simp[h y (.head _),ih λz hz=>h z (.tail _ hz)];omega
   refine⟨La,je,by rw[sm La o1];show La.length+La.length*0<=_;omega,?_⟩
   have j1:=jhq La o1
   have w1:lowS (Txt.join (Str.ofString "") La):=lowS.join λz hz=>by rw[<-hL1]at hz;exact(hy2' z (Oz (Op hz))).2
   generalize Txt.join (Str.ofString "") La=t1 at j1 w1⊢
   simp!
   refine⟨by omega,?_⟩
   have nDs:D≠s1:=jl hD' hs1
   have hD2:∀o,upd H' s1 o D=some (.lst (ys.map V.str)):=λo=>by rw[jf nDs];exact hD'
   refine rSlU.lst (hD2 _) λs2 hs2=>?_
   rw[ji8]
   generalize hL2:(ys.drop (HT.sIx ys.length 0 (some (sp+1)))).take (HT.sIx ys.length ys.length none-HT.sIx ys.length 0 (some (sp+1)))=Lb
   have l2:Lb.length=n-sp.toNat:=by rw[<-hL2,a3,a4,Il,Uk];omega
   have o2:∀z∈Lb,z.length=1:=λz hz=>by rw[<-hL2]at hz;exact hy2 z (Oz (Op hz))
   refine⟨Lb,je,by rw[sm Lb o2];show Lb.length+Lb.length*0<=_;omega,?_⟩
   have j2:=jhq Lb o2
   have w2:lowS (Txt.join (Str.ofString "") Lb):=lowS.join λz hz=>by rw[<-hL2]at hz;exact(hy2' z (Oz (Op hz))).2
   generalize Txt.join (Str.ofString "") Lb=t2 at j2 w2⊢
   simp!
   refine⟨by rw[jdj];omega,?_⟩
   have lnm:(t1++(⟨#[ch]⟩:Str)++t2).length=n+1:=by rw[jdj,jdj];omega
   have wnm:lowS (t1++(⟨#[ch]⟩:Str)++t2):=(w1.app (lowS.one hch)).app w2
   generalize t1++(⟨#[ch]⟩:Str)++t2=nm at lnm wnm⊢
   have nbs1:b≠s1:=jl hb' hs1
   have ncs1:c≠s1:=jl hc' hs1
   have e1:upd (upd H' s1 (.lst (La.map V.str))) s2 (.lst (Lb.map V.str)) b=some o':=by rw[jf (jl (by rw[jf nbs1];exact hb') hs2),jf nbs1];exact hb'
   have e2:upd (upd H' s1 (.lst (La.map V.str))) s2 (.lst (Lb.map V.str)) c=some (.lst (zs.map V.str)):=by rw[jf (jl (by rw[jf ncs1];exact hc') hs2),jf ncs1];exact hc'
   have e3:upd (upd H' s1 (.lst (La.map V.str))) s2 (.lst (Lb.map V.str)) D=some (.lst (ys.map V.str)):=by rw[jf (jl (hD2 _) hs2)];exact hD2 _
   have e4:Kp [b] H (upd (upd H' s1 (.lst (La.map V.str))) s2 (.lst (Lb.map V.str))):=(kp.new hs1).new hs2
   revert e1 e2 e3 e4
   generalize upd (upd H' s1 (.lst (La.map V.str))) s2 (.lst (Lb.map V.str))=H5
   intro e1 e2 e3 e4
   refine⟨JN H b D c m n sp fi i ch v4 ys zs,?_,?_⟩
   ·simp!
    refine⟨by decide,ite2 (λh1=>ite2 (λh2=>?_) (λh2=>?_)) (λh1=>?_)⟩
    ·refine⟨b,_,_,rfl,e1,ho',by omega,by omega,λd9 o9 d90 d91 ho9=>?_⟩
     obtain⟨xs9,rfl⟩:=id ho9.lst
     obtain⟨xs8,rfl⟩:=id ho'.lst
     simp!
     have k9:=e4.set (o:=.lst xs9) e1 (.inl (by simp))
     have c9:upd H5 b (.lst xs9) c=some (.lst (zs.map V.str)):=by rw[jf nbc.symm];exact e2
     have D9:upd H5 b (.lst xs9) D=some (.lst (ys.map V.str)):=by rw[jf nbD.symm];exact e3
     refine ite2 (λh3=>?_) (λh3=>?_)
     ·exact⟨by omega,_,_,rfl,⟨by rw[jdj];omega,wnm.app hlq,by rw[jdj];omega⟩,ho9,je,c9,D9,k9⟩
     ·exact⟨_,_,rfl,⟨by omega,wnm,by omega⟩,ho9,je,c9,D9,k9⟩
    ·exact⟨_,_,rfl,⟨by omega,wnm,by omega⟩,ho',e1,e2,e3,e4⟩
    ·exact⟨_,_,rfl,⟨by omega,wnm,by omega⟩,ho',e1,e2,e3,e4⟩
   ·rintro σ6 H6 ⟨nm,o6,rfl,hn6,ho6,hb6,hc6,hD6,kp6⟩
    refine⟨JM H b D c m n sp fi i ch v4 ys zs,?_,?_⟩
    ·simp!
     refine⟨by omega,λp9 hp9=>rInU.tupS (SqT.of je) rfl (by decide) ⟨_,rfl,?_⟩⟩
     have k9:=kp6.new (o:=.tup [V.str (Str.ofString "yes"),V.str (Str.ofString "is"),V.str (Str.ofString "not"),V.str (Str.ofString "and"),V.str (Str.ofString "or")]) hp9
     have b9:=jf (H:=H6) (o:=.tup [V.str (Str.ofString "yes"),V.str (Str.ofString "is"),V.str (Str.ofString "not"),V.str (Str.ofString "and"),V.str (Str.ofString "or")]) (jl hb6 hp9)
     have c9:=jf (H:=H6) (o:=.tup [V.str (Str.ofString "yes"),V.str (Str.ofString "is"),V.str (Str.ofString "not"),V.str (Str.ofString "and"),V.str (Str.ofString "or")]) (jl hc6 hp9)
     have D9:=jf (H:=H6) (o:=.tup [V.str (Str.ofString "yes"),V.str (Str.ofString "is"),V.str (Str.ofString "not"),V.str (Str.ofString "and"),V.str (Str.ofString "or")]) (jl hD6 hp9)
     refine ite2 (λh3=>?_) (λh3=>?_)
     ·exact⟨by omega,_,_,rfl,⟨by rw[jdj];omega,hlqq.app (lowS.one hch),by rw[jdj];omega,jtq ch⟩,ho6,b9.trans hb6,c9.trans hc6,D9.trans hD6,k9⟩
     ·exact⟨_,_,rfl,⟨hn6.1,hn6.2.1,hn6.2.2,by simpa using h3⟩,ho6,b9.trans hb6,c9.trans hc6,D9.trans hD6,k9⟩
    ·rintro σ7 H7 ⟨nm,o7,rfl,hn7,ho7,hb7,hc7,hD7,kp7⟩
     simp! [hc7]
     refine⟨by rw[Ae];omega,zs++[nm],o7,_,_,_,_,⟨rfl,rfl,rfl,rfl⟩,by simp[hz1],λz hz=>?_,by simp,ho7,by rw[jf nbc];exact hb7,by rw[jf nDc];exact hD7,kp7.set hc7 (.inr hc0)⟩
     rcases Ie.mp hz with h|h
     ·exact hz2 z h
     ·rw[Ao.mp h];exact hn7
  ·rintro σ H' ⟨zs,o',v1,v2,v3,v4,rfl,hz1,hz2,hc',ho',hb',hD',kp⟩
   simp!
   refine⟨λσ H9=>σ[7]?=some (some (.ref c))/\∃(zs:List Str)(o':HO),zs.length=m/\(∀z∈zs,NmOk z)/\H9 c=some (.lst (zs.map V.str))/\BoxO o'/\H9 b=some o'/\Kp [b] H H9,?_,?_⟩
   ·simp!
    refine⟨b,_,_,rfl,hb',ho',by omega,by omega,λd9 o9 d90 d91 ho9=>?_⟩
    obtain⟨xs9,rfl⟩:=id ho9.lst
    obtain⟨xs8,rfl⟩:=id ho'.lst
    simp!
    have k9:=kp.set (o:=.lst xs9) hb' (.inl (by simp))
    have c9:upd H' b (.lst xs9) c=some (.lst (zs.map V.str)):=by rw[jf nbc.symm];exact hc'
    refine ite2 (λh3=>?_) (λh3=>?_)
    ·refine⟨by omega,λp2 hp2=>?_⟩
     have nb2:b≠p2:=jl je hp2
     have nc2:c≠p2:=jl c9 hp2
     refine⟨b,_,_,rfl,by rw[jf nb2,je],ho9,by omega,by omega,λd8 o8 d80 d81 ho8=>?_⟩
     obtain⟨xs7,rfl⟩:=id ho8.lst
     have odd:∃od:Str,([V.str (Str.ofString "som"),V.str (Str.ofString "eac"),V.str (Str.ofString "no"),V.str (Str.ofString "an"),V.str (Str.ofString "ors"),V.str (Str.ofString "iss"),V.str (Str.ofString "so"),V.str (Str.ofString "ye")]:List V)[d8.toNat]?=some (.str od)/\NmOk od:=by
      have hn:d8.toNat<8:=by omega
      generalize d8.toNat=e at hn
      have:e=0\/e=1\/e=2\/e=3\/e=4\/e=5\/e=6\/e=7:=by omega
      rcases this with rfl|rfl|rfl|rfl|rfl|rfl|rfl|rfl <;> exact⟨_,rfl,by unfold NmOk lowS;decide +kernel⟩
     obtain⟨od,hod,lod⟩:=odd
     have p8:∀o,upd (upd (upd H' b (.lst xs9)) p2 o) b (.lst xs7) p2=some o:=λo=>by rw[jf nb2.symm,je]
     simp! [p8]
     refine⟨_,jc8 d80 hod,?_⟩
     have c8:∀o,upd (upd (upd H' b (.lst xs9)) p2 o) b (.lst xs7) c=some (.lst (zs.map V.str)):=λo=>by rw[jf nbc.symm,jf nc2];exact c9
     have k8:∀o,Kp [b] H (upd (upd (upd H' b (.lst xs9)) p2 o) b (.lst xs7)):=λo=>(k9.new hp2).set (by rw[jf nb2,je]) (.inl (by simp))
     refine rInU.lst (c8 _) rfl (by simp[List.all_map];intro z _;rfl) ⟨_,rfl,?_⟩
     refine ite2 (λh4=>?_) (λh4=>?_)
     ·refine⟨b,_,_,rfl,je,ho8,by omega,by omega,λd7 o7 d70 d71 ho7=>?_⟩
      obtain⟨xs6,rfl⟩:=id ho7.lst
      have c7:∀o,upd (upd (upd (upd H' b (.lst xs9)) p2 o) b (.lst xs7)) b (.lst xs6) c=some (.lst (zs.map V.str)):=λo=>by rw[jf nbc.symm];exact c8 o
      simp! [c7]
      have c6:∀o,upd (upd (upd H' b (.lst xs9)) p2 o) b (.lst xs6) c=some (.lst (zs.map V.str)):=λo=>by rw[jf nbc.symm,jf nc2];exact c9
      have k6:∀o,Kp [b] H (upd (upd (upd H' b (.lst xs9)) p2 o) b (.lst xs6)):=λo=>(k9.new hp2).set (by rw[jf nb2,je]) (.inl (by simp))
      refine⟨_,by rw[c6];rfl,d7.toNat,by unfold ixN;rw[Af d70,Af (by rw[Ae];omega)],zs.set d7.toNat od,by simp[hz1],λz hz=>?_,by rw[List.map_set],_,ho7,by rw[jf nbc,je],(k6 _).set (c6 _) (.inr hc0)⟩
      rcases List.mem_or_eq_of_mem_set hz with h|h
      ·exact hz2 z h
      ·rw[h];exact lod
     ·exact⟨zs,hz1,hz2,c8 _,_,ho8,je,k8 _⟩
    ·exact⟨zs,hz1,hz2,c9,_,ho9,rfl,k9⟩
   ·rintro σ H9 ⟨e,zs,o',hz1,hz2,hc9,ho9,hb9,kp9⟩
    simp!
    exact⟨_,e,k c zs o' H9 hz1 hz2 hc0 hc9 ho9 hb9 kp9⟩
end
inductive RS where
 |yes|is (x a:Str)|ahead (x y:Str)|no (i:Nat)|bin (b:Bool) (i j:Nat)|qn (b:Bool) (x:Str) (i:Nat)
def bw(b:Bool):Str:=if b then"and"else"or"
def qw(b:Bool):Str:=if b then"some"else"each"
def rowV:RS->List V
 |.yes=>[.str "yes"]
 |.is x a=>[.str "is",.str x,.str a]
 |.ahead x y=>[.str "ahead",.str x,.str y]
 |.no i=>[.str "not",.int (i:Int)]
 |.bin b i j=>[.str (bw b),.int (i:Int),.int (j:Int)]
 |.qn b x i=>[.str (qw b),.str x,.int (i:Int)]
theorem wq4(b:Bool):(qw b=Str.ofString "not")=False:=eq_false (by cases b <;> decide +kernel)
def RS.ok(zs:List Str)(k:Nat):RS->Prop
 |.yes=>True
 |.is x _=>x∈zs
 |.ahead x y=>x∈zs/\y∈zs
 |.no i=>i<k
 |.bin _ i j=>i<k/\j<k
 |.qn _ x i=>x∈zs/\i<k
def okR(zs:List Str)(rs:List RS):Prop:=∀(k:Nat)(r:RS),rs[k]?=some r->r.ok zs k
theorem okR.snoc{zs:List Str}{rs:List RS}{r:RS}(h:okR zs rs)(hr:r.ok zs rs.length):okR zs (rs++[r]):=λk x e=>by
 by_cases hk:k<rs.length
 ·exact h k x (by rwa[Ic hk]at e)
 ·rw[Ik (by omega)]at e
  have:k-rs.length=0:=by
   cases hq:k-rs.length with
   |zero=>rfl
   |succ n=>rw[hq]at e;simp at e
  rw[this]at e
  simp at e
  subst e
  rw[show k=rs.length by omega]
  exact hr
def RS.lt(z:Str):RS->Prop
 |.is _ a=>∃c,c∈z.cps.toList/\a=⟨#[c]⟩
 |_=>True
def okL(z:Str)(rs:List RS):Prop:=∀r∈rs,r.lt z
theorem okL.snoc{z:Str}{rs:List RS}{r:RS}(h:okL z rs)(hr:r.lt z):okL z (rs++[r]):=λx hx=>by
 rcases Ie.mp hx with h1|h1
 ·exact h x h1
 ·rw[Ao.mp h1];exact hr
def RowsAt(H:Hp)(vs:List V)(rs:List RS):Prop:=Paired (λv r=>∃a,v=.ref a/\H a=some (.tup (rowV r))) vs rs
theorem RowsAt.kp{S:List Addr}{H H':Hp}{vs:List V}{rs:List RS}(k:Kp S H H')(h:RowsAt H vs rs):RowsAt H' vs rs:=Paired.mapP h λ_ _ ⟨a,e,h⟩=>⟨a,e,k.tup _ _ h⟩
theorem RowsAt.get:∀{H:Hp}{vs:List V}{rs:List RS}{k:Nat}{v:V},RowsAt H vs rs->vs[k]?=some v->∃r a,rs[k]?=some r/\v=.ref a/\H a=some (.tup (rowV r))
 |H,_,_,k,v,.nil,e=>by simp at e
 |H,_,_,0,v,.cons (b:=b) ⟨a,q1,q2⟩ _,e=>by simp at e;subst e;exact⟨b,a,rfl,q1,q2⟩
 |H,_,_,k+1,v,.cons _ t,e=>by simp at e;obtain⟨r,a,h⟩:=RowsAt.get (rs:=_) t e;exact⟨r,a,by simpa using h.1,h.2⟩
theorem jld{c1 c2 A B:Prop}[Decidable c1][Decidable c2](h1:c1\/c2->A)(h2:¬c1->¬c2->B):if c1 then A else if c2 then A else B:=by
 by_cases a:c1
 ·rw[Af a];exact h1 (.inl a)
 ·rw[Aa a]
  by_cases b:c2
  ·rw[Af b];exact h1 (.inr b)
  ·rw[Aa b];exact h2 a b
def IR(H:Hp)(b p q:Addr)(z:Str)(zn:List Str)(m:Nat)(i:Nat):L2.St->Hp->Prop:=λσ H'=>∃(vs:List V)(rs:List RS)(o:HO)(v5 v6 v7 v8 v9:Option V),σ=[some (.ref b),some (.str z),some (.ref p),some (.int (m:Int)),some (.ref q),v5,v6,v7,v8,v9] /\
 rs.length=i/\RowsAt H' vs rs/\okR zn rs/\okL z rs/\H' q=some (.lst vs)/\BoxO o/\H' b=some o/\Kp [b] H H'
theorem IR.step{H H9:Hp}{b p q:Addr}{z:Str}{zn:List Str}{m i:Nat}{vs:List V}{rs:List RS}{o:HO}{v5 v6 v7 v8 v9:Option V}(r:RS)(t:Addr)(hr:r.ok zn i)(ht:H9 t=some (.tup (rowV r)))(hl:rs.length=i)(ra:RowsAt H9 vs rs)(ok:okR zn rs)
  (hq:H9 q=some (.lst vs)) (hq0:H q=none) (ho:BoxO o) (hb:H9 b=some o) (nbq:b≠q) (kp:Kp [b] H H9) (hL:r.lt z) (okl:okL z rs):IR H b p q z zn m (i+1) [some (.ref b),some (.str z),some (.ref p),some (.int (m:Int)),some (.ref q),v5,v6,v7,v8,v9] (upd H9 q (.lst (vs++[.ref t]))):=by
 have kq:Kp [q] H9 (upd H9 q (.lst (vs++[.ref t]))):=(Kp.refl [q] H9).set hq (.inl (.head _))
 exact⟨vs++[.ref t],rs++[r],o,v5,v6,v7,v8,v9,rfl,by simp[hl],Uz (ra.kp kq) ⟨t,rfl,kq.tup _ _ ht⟩,ok.snoc (by rw[hl];exact hr),okl.snoc hL,je,ho,by rw[jf nbq];exact hb,kp.set hq (.inr hq0)⟩
structure Fc(H:Hp)(b q:Addr)(us:List V)(rs:List RS)(o:HO)(H1:Hp):Prop where
 hb:H1 b=some o
 ho:BoxO o
 hq:H1 q=some (.lst us)
 ra:RowsAt H1 us rs
 kp:Kp [b] H H1
theorem Fc.new{H H1:Hp}{b q:Addr}{us:List V}{rs:List RS}{o x:HO}{t:Addr}(F:Fc H b q us rs o H1)(ht:H1 t=none):Fc H b q us rs o (upd H1 t x) :=
 ⟨by rw[jf (jl F.hb ht)];exact F.hb,F.ho,by rw[jf (jl F.hq ht)];exact F.hq,F.ra.kp ((Kp.refl [b] H1).new ht),F.kp.new ht⟩
theorem Fc.step{H H1 H2:Hp}{b q:Addr}{us:List V}{rs:List RS}{o o':HO}(F:Fc H b q us rs o H1)(nbq:b≠q)(k:Kp [b] H1 H2)(ho:BoxO o')(hb:H2 b=some o'):Fc H b q us rs o' H2 :=
 ⟨hb,ho,k.old _ _ F.hq (by simpa using nbq.symm),F.ra.kp k,F.kp.trans k⟩
theorem Fc.box{H H1:Hp}{b q:Addr}{us:List V}{rs:List RS}{o o':HO}(F:Fc H b q us rs o H1)(nbq:b≠q)(ho:BoxO o'):Fc H b q us rs o' (upd H1 b o'):=by
 obtain⟨xs,rfl⟩:=F.ho.lst
 exact F.step nbq ((Kp.refl [b] H1).set F.hb (.inl (by simp))) ho je
def spSR:Sp:=λvs H Q _=>∃(b p:Addr)(z:Str)(zs:List Str)(m:Nat)(o:HO),vs=[.ref b,.str z,.ref p,.int (m:Int)]/\H b=some o/\BoxO o/\Letters z 4/\H p=some (.lst (zs.map V.str))/\1<=zs.length/\zs.length<=26/\1<=m/\m<=60/\b≠p /\
 ∀(q:Addr)(us:List V)(rs:List RS)(o':HO)(H':Hp),1<=rs.length->rs.length<=m->RowsAt H' us rs->okR zs rs->okL z rs->H q=none->H' q=some (.lst us)->BoxO o'->H' b=some o'->Kp [b] H H'->Q (.ref q) H'
structure TSR(mg:Str->Option Value)(ft fr:Addr):Prop where
 n_range:mg "range"=none
 n_len:mg "len"=none
 m1z:mg "_law_take"=some (.ref ft)
 m5z:mg "_law_row_at"=some (.ref fr)
theorem jkv{zs:List Str}{d:Int}(h0:0<=d)(h:d<(zs.length:Int)):∃y,y∈zs/\atI (zs.map V.str) d=some (.str y) :=
 ⟨zs[d.toNat]'(by omega),Of _,jc8 h0 (by rw[A3];simp)⟩
section
variable{P:Program}{w:World}{K:PySem.W.Frag}{mg:Str->Option Value}{base:Heap}
abbrev yi:Stmt:=top 34
theorem yc:FnScope ["_law_box_here","_law_letters_here","_law_names","_law_most","_law_rows","_law_k","_law_kind","_law_x","_law_y","_law_base"] ["_law_box_here","_law_letters_here","_law_names","_law_most"] (jk yi):=⟨rfl,rfl,rfl,by decide +kernel,rfl,by decide +kernel,by decide +kernel⟩
theorem ok__law_saying_rows{f ft fr:Addr}{fd fdt fdr:FuncData}(F:Fun K "_law_saying_rows" "_law_saying_rows" yi f fd)(T:TSR mg ft fr)(F1z:Fun K "_law_take" "_law_take" kx ft fdt)(b1z:Binds K fdt ["_law_box_here","_law_wide"] [])
  (G1z:FnOk P w K mg base CX0 1 ft fdt ["_law_box_here","_law_wide"] jdv) (F5z:Fun K "_law_row_at" "_law_row_at" y6 fr fdr) (b5z:Binds K fdr ["_law_box_here","_law_k"] [])
  (G5z:FnOk P w K mg base CX0 2 fr fdr ["_law_box_here","_law_k"] jnk):FnOk P w K mg base CX0 3 f fd ["_law_box_here","_law_letters_here","_law_names","_law_most"] spSR:=by
 refine F.ok yc (λvs H Q E h=>?_) (λcdv A outer s H vs Q E hr h=>?_)
 ·obtain⟨b,p,z,zs,m,o,rfl,_⟩:=h
  rfl
 ·obtain⟨b,p,z,zs,m,o,rfl,hb,ho,hz,hp,z1,z2,m1,m2,nbp,k⟩:=h
  have hu:=hr.units
  refine⟨_,(QSs.h (jh (jm (i:=4) yc.nd rfl (by first|exact Or.inl rfl|exact Or.inr rfl) (j6 jd))
  (jh (jac I0 rfl (jav rfl T.n_range (jc (jq jz ji (jo G1z (hr.mono (by decide)) rfl T.m1z F1z.kp b1z .nil jw (jc (qpv 0) (jc (qpv 3) jd)))) jd)) (kr (i:=5) yc.nd rfl (by first|exact Or.inl rfl|exact Or.inr rfl)) (jh (jm (i:=6) yc.nd rfl (by first|exact Or.inl rfl|exact Or.inr rfl) (jo G1z (hr.mono (by decide)) rfl T.m1z F1z.kp b1z .nil jw (jc (qpv 0) (jc ji jd))))
  (jh (jm (i:=7) yc.nd rfl (by first|exact Or.inl rfl|exact Or.inr rfl) (ju ix_U (qpv 2) (jo G1z (hr.mono (by decide)) rfl T.m1z F1z.kp b1z .nil jw (jc (qpv 0) (jc (jv kh (by rfl) T.n_len km (jc (qpv 2) jd)) jd))) (λ_ _=>rfl)))
  (jj (j7 (QW.pt (jag (jp (j9 hu) (qpv 5) ji (jt _)) (jad (jp jau (qpv 6) ji (jt _))))) (jh (jm (i:=8) yc.nd rfl (by first|exact Or.inl rfl|exact Or.inr rfl) (ju ix_U (qpv 2) (jo G1z (hr.mono (by decide)) rfl T.m1z F1z.kp b1z .nil jw (jc (qpv 0) (jc (jv kh (by rfl) T.n_len km (jc (qpv 2) jd)) jd))) (λ_ _=>rfl)))
  (jh (jm (i:=9) yc.nd rfl (by first|exact Or.inl rfl|exact Or.inr rfl) (j6 (jc (kf (jc jg (jc (qpv 7) (jc (ju ix_U (qpv 1) (jo G1z (hr.mono (by decide)) rfl T.m1z F1z.kp b1z .nil jw (jc (qpv 0) (jc (jv kh (by rfl) T.n_len km (jc (qpv 1) jd)) jd))) (λ_ _=>rfl)) jd)))) (jc (kf (jc jg (jc (qpv 7) (jc (qpv 8) jd)))) (jc (kf (jc jg jd)) jd)))))
  (jj (kj (yd Ax Ay ki (qpv 4) (jc (ju ix_U (qpv 9) (ju ix_U (j6 (jc ji (jc ji (jc ji (jc ji (jc ji (jc ji (jc ji jd)))))))) (jo G1z (hr.mono (by decide)) rfl T.m1z F1z.kp b1z .nil jw (jc (qpv 0) (jc ji jd))) (λ_ _=>rfl)) (λ_ _=>rfl)) jd) jdd))))) (jj (j7 (jp jau (qpv 6) ji (jt _)) (jj (kj (yd Ax Ay ki (qpv 4) (jc (kf (jc jg (jc (jo G5z (hr.mono (by decide)) rfl T.m5z F5z.kp b5z .nil jw (jc (qpv 0) (jc (qpv 5) jd))) jd))) jd) jdd))) (jj (j7 (jp jau (qpv 6) ji (jt _)) (jj (kj (yd Ax Ay ki (qpv 4) (jc (kf (jc (ju ix_U (j6 (jc jg (jc jg (jc jg jd)))) (jq jaf (qpv 6) ji) (λ_ _=>rfl)) (jc (jo G5z (hr.mono (by decide)) rfl T.m5z F5z.kp b5z .nil jw (jc (qpv 0) (jc (qpv 5) jd))) (jc (jo G1z (hr.mono (by decide)) rfl T.m1z F1z.kp b1z .nil jw (jc (qpv 0) (jc (qpv 5) jd))) jd)))) jd) jdd))) (jj (kj (yd Ax Ay ki (qpv 4) (jc (kf (jc (ju ix_U (j6 (jc jg (jc jg (jc jg jd)))) (jq jaf (qpv 6) ji) (λ_ _=>rfl)) (jc (qpv 7) (jc (jo G5z (hr.mono (by decide)) rfl T.m5z F5z.kp b5z .nil jw (jc (qpv 0) (jc (qpv 5) jd))) jd)))) jd) jdd))))))))))))
  (jj (jr (qpv 4)))))),?_⟩
  have hsz:sizeLine=16777216:=Ak
  simp!
  refine⟨by omega,λq hq=>?_⟩
  have nbq:b≠q:=jl hb hq
  have npq:p≠q:=jl hp hq
  refine⟨b,(m:Int),o,rfl,by rw[jf nbq];exact hb,ho,by omega,by omega,λd o1 d0 d1 ho1=>?_⟩
  obtain⟨n,rfl⟩:∃n:Nat,d=(n:Int):=⟨d.toNat,by omega⟩
  have en:(1+(n:Int)).toNat=n+1:=by omega
  obtain⟨xs0,rfl⟩:=ho.lst
  obtain⟨xs1,rfl⟩:=id ho1.lst
  simp!
  refine⟨by omega,by omega,?_⟩
  rw[en]
  refine jd3 (IR H b p q z zs m) ?_ ?_ ?_
  ·exact⟨[],[],_,none,none,none,none,none,rfl,rfl,.nil,(λk r e=>by simp at e),(λr h=>by simp at h),by rw[jf nbq.symm,je],ho1,je,((Kp.refl [b] H).new hq).set (by rw[jf nbq];exact hb) (.inl (by simp))⟩
  ·rintro i σ H1 hi ⟨us,rs,o2,v5,v6,v7,v8,v9,rfl,hl,ra,ok,okl,hq1,ho2,hb1,kp⟩
   have hp1:H1 p=some (.lst (zs.map V.str)):=kp.old _ _ hp (by simpa using nbp.symm)
   obtain⟨xs2,rfl⟩:=id ho2.lst
   simp!
   refine⟨b,12,_,rfl,hb1,ho2,by omega,by omega,λkd o3 kd0 kd1 ho3=>?_⟩
   obtain⟨xs3,rfl⟩:=id ho3.lst
   have pA:∀o,upd H1 b o p=some (.lst (zs.map V.str)):=λo=>by rw[jf nbp.symm];exact hp1
   have qA:∀o,upd H1 b o q=some (.lst us):=λo=>by rw[jf nbq.symm];exact hq1
   have kA:∀o,Kp [b] H (upd H1 b o):=λo=>kp.set hb1 (.inl (.head _))
   simp! [pA]
   refine⟨b,_,_,rfl,je,ho3,by rw[Ae];omega,by rw[Ae];omega,λdx o4 dx0 dx1 ho4=>?_⟩
   obtain⟨xs4,rfl⟩:=id ho4.lst
   rw[Ae]at dx1
   simp! [pA]
   obtain⟨x,hx,ax⟩:=jkv dx0 dx1
   refine⟨_,ax,jld (λh1=>?_) (λh1 h2=>ite2 (λh3=>?_) (λh3=>ite2 (λh4=>?_) (λh4=>?_)))⟩
   ·have F0:Fc H b q us rs (.lst xs4) (upd H1 b (.lst xs4)):=⟨je,ho4,qA _,ra.kp ((Kp.refl [b] H1).set hb1 (.inl (.head _))),kA _⟩
    refine⟨b,_,_,rfl,je,ho4,by rw[Ae];omega,by rw[Ae];omega,λdy o5 dy0 dy1 ho5=>?_⟩
    rw[Ae]at dy1
    obtain⟨xs5,rfl⟩:=id ho5.lst
    simp! [pA]
    obtain⟨y,hy,ay⟩:=jkv dy0 dy1
    have:=hz.lo
    have:=hz.hi
    refine⟨_,ay,by omega,b,_,_,rfl,je,ho5,by omega,by omega,λdz o6 dz0 dz1 ho6=>?_⟩
    obtain⟨xs6,rfl⟩:=id ho6.lst
    simp!
    have hzl:z.cps.toList.length=z.length:=by simp[Str.length]
    refine⟨by omega,z.cps.toList[dz.toNat]'(by omega),jc8 dz0 (by simp),by omega,λt1 ht1=>⟨by omega,λt2 ht2=>⟨by omega,λt3 ht3=>⟨by omega,λt4 ht4=>?_⟩⟩⟩⟩
    have F1:Fc H b q us rs (.lst xs6) (upd H1 b (.lst xs6)):=⟨je,ho6,qA _,ra.kp ((Kp.refl [b] H1).set hb1 (.inl (.head _))),kA _⟩
    have hch:z.cps.toList[dz.toNat]'(by omega)∈z.cps.toList:=Of _
    generalize z.cps.toList[dz.toNat]'(by omega)=ch at ht2 ht3 ht4 hch⊢
    have F4:=(((F1.new (x:=.tup [V.str (Str.ofString "is"),V.str x,V.str ⟨#[ch]⟩]) ht1).new (x:=.tup [V.str (Str.ofString "ahead"),V.str x,V.str y]) ht2).new (x:=.tup [V.str (Str.ofString "yes")]) ht3).new (x:=.lst [V.ref t1,V.ref t2,V.ref t3]) ht4
    have n12:t1≠t2:=jl je ht2
    have n23:t2≠t3:=jl je ht3
    have n34:t3≠t4:=jl je ht4
    have n13:t1≠t3:=jl (by rw[jf n12,je]) ht3
    have n24:t2≠t4:=jl (by rw[jf n23,je]) ht4
    have n14:t1≠t4:=jl (by rw[jf n13,jf n12,je]) ht4
    have g1:upd (upd (upd (upd (upd H1 b (.lst xs6)) t1 (.tup [V.str (Str.ofString "is"),V.str x,V.str ⟨#[ch]⟩])) t2 (.tup [V.str (Str.ofString "ahead"),V.str x,V.str y])) t3 (.tup [V.str (Str.ofString "yes")])) t4 (.lst [V.ref t1,V.ref t2,V.ref t3]) t1=some (.tup (rowV (.is x ⟨#[ch]⟩))):=by rw[jf n14,jf n13,jf n12,je];rfl
    have g2:upd (upd (upd (upd (upd H1 b (.lst xs6)) t1 (.tup [V.str (Str.ofString "is"),V.str x,V.str ⟨#[ch]⟩])) t2 (.tup [V.str (Str.ofString "ahead"),V.str x,V.str y])) t3 (.tup [V.str (Str.ofString "yes")])) t4 (.lst [V.ref t1,V.ref t2,V.ref t3]) t2=some (.tup (rowV (.ahead x y))):=by rw[jf n24,jf n23,je];rfl
    have g3:upd (upd (upd (upd (upd H1 b (.lst xs6)) t1 (.tup [V.str (Str.ofString "is"),V.str x,V.str ⟨#[ch]⟩])) t2 (.tup [V.str (Str.ofString "ahead"),V.str x,V.str y])) t3 (.tup [V.str (Str.ofString "yes")])) t4 (.lst [V.ref t1,V.ref t2,V.ref t3]) t3=some (.tup (rowV .yes)):=by rw[jf n34,je];rfl
    have g4:upd (upd (upd (upd (upd H1 b (.lst xs6)) t1 (.tup [V.str (Str.ofString "is"),V.str x,V.str ⟨#[ch]⟩])) t2 (.tup [V.str (Str.ofString "ahead"),V.str x,V.str y])) t3 (.tup [V.str (Str.ofString "yes")])) t4 (.lst [V.ref t1,V.ref t2,V.ref t3]) t4=some (.lst [V.ref t1,V.ref t2,V.ref t3]):=je
    revert F4 g1 g2 g3 g4
    generalize upd (upd (upd (upd (upd H1 b (.lst xs6)) t1 (.tup [V.str (Str.ofString "is"),V.str x,V.str ⟨#[ch]⟩])) t2 (.tup [V.str (Str.ofString "ahead"),V.str x,V.str y])) t3 (.tup [V.str (Str.ofString "yes")])) t4 (.lst [V.ref t1,V.ref t2,V.ref t3])=H5
    intro F4 g1 g2 g3 g4
    refine⟨by rw[F4.hq];rfl,by omega,λt5 ht5=>?_⟩
    have F5:=F4.new (x:=.lst [V.int 0,V.int 0,V.int 0,V.int 1,V.int 1,V.int 1,V.int 2]) ht5
    refine⟨b,_,_,rfl,F5.hb,F5.ho,by omega,by omega,λe o7 e0 e1 ho7=>?_⟩
    have F6:=F5.box nbq ho7
    have nb5:b≠t5:=jl F4.hb ht5
    have nb4:b≠t4:=λz=>by subst z;have:=F4.hb;rw[g4]at this;obtain⟨c,sd,q1,_⟩:=F4.ho;rw[q1]at this;cases this
    have n45:t4≠t5:=jl g4 ht5
    have i5:∀o,upd (upd H5 t5 o) b o7 t5=some o:=λo=>by rw[jf nb5.symm,je]
    have i4:∀o,upd (upd H5 t5 o) b o7 t4=some (.lst [V.ref t1,V.ref t2,V.ref t3]):=λo=>by rw[jf nb4.symm,jf n45];exact g4
    simp! [i5,i4]
    have k6:Kp [b] H5 (upd (upd H5 t5 (.lst [V.int 0,V.int 0,V.int 0,V.int 1,V.int 1,V.int 1,V.int 2])) b o7):=by
     obtain⟨xs9,e9⟩:=F4.ho.lst
     have hb5:=F5.hb
     rw[e9]at hb5
     exact((Kp.refl [b] H5).new ht5).set hb5 (.inl (.head _))
    have pick:∀(r:RS)(t:Addr),r.ok zs i->r.lt z->H5 t=some (.tup (rowV r))->∃xs_1,jdc (upd (upd H5 t5 (.lst [V.int 0,V.int 0,V.int 0,V.int 1,V.int 1,V.int 1,V.int 2])) b o7 q)=some xs_1/\xs_1.length<sizeLine /\
      IR H b p q z zs m (i+1) [some (V.ref b),some (V.str z),some (V.ref p),some (V.int (m:Int)),some (V.ref q),some (V.int (0+(i:Int))),some (V.int kd),some (V.str x),some (V.str y),some (V.ref t4)] (upd (upd (upd H5 t5 (.lst [V.int 0,V.int 0,V.int 0,V.int 1,V.int 1,V.int 1,V.int 2])) b o7) q (.lst (xs_1++[V.ref t]))) :=
     λr t hr hlt ht=>⟨us,by rw[F6.hq];rfl,by have:us.length=rs.length:=A5 ra;omega,IR.step r t hr (k6.tup _ _ ht) hl F6.ra ok F6.hq hq F6.ho F6.hb nbq F6.kp hlt okl⟩
    have:e=0\/e=1\/e=2\/e=3\/e=4\/e=5\/e=6:=by omega
    rcases this with rfl|rfl|rfl|rfl|rfl|rfl|rfl
    ·exact⟨_,jc8 (by decide) rfl,_,by rw[i4];rfl,_,jc8 (by decide) rfl,pick (.is x ⟨#[ch]⟩) t1 hx ⟨ch,hch,rfl⟩ g1⟩
    ·exact⟨_,jc8 (by decide) rfl,_,by rw[i4];rfl,_,jc8 (by decide) rfl,pick (.is x ⟨#[ch]⟩) t1 hx ⟨ch,hch,rfl⟩ g1⟩
    ·exact⟨_,jc8 (by decide) rfl,_,by rw[i4];rfl,_,jc8 (by decide) rfl,pick (.is x ⟨#[ch]⟩) t1 hx ⟨ch,hch,rfl⟩ g1⟩
    ·exact⟨_,jc8 (by decide) rfl,_,by rw[i4];rfl,_,jc8 (by decide) rfl,pick (.ahead x y) t2 ⟨hx,hy⟩ trivial g2⟩
    ·exact⟨_,jc8 (by decide) rfl,_,by rw[i4];rfl,_,jc8 (by decide) rfl,pick (.ahead x y) t2 ⟨hx,hy⟩ trivial g2⟩
    ·exact⟨_,jc8 (by decide) rfl,_,by rw[i4];rfl,_,jc8 (by decide) rfl,pick (.ahead x y) t2 ⟨hx,hy⟩ trivial g2⟩
    ·exact⟨_,jc8 (by decide) rfl,_,by rw[i4];rfl,_,jc8 (by decide) rfl,pick .yes t3 trivial trivial g3⟩
   ·have F0:Fc H b q us rs (.lst xs4) (upd H1 b (.lst xs4)):=⟨je,ho4,qA _,ra.kp ((Kp.refl [b] H1).set hb1 (.inl (.head _))),kA _⟩
    refine⟨by rw[F0.hq];rfl,b,_,_,rfl,F0.hb,F0.ho,by omega,by omega,λe o7 H5 e0 e1 ho7 hb7 k7=>⟨by omega,λt ht=>?_⟩⟩
    obtain⟨j,rfl⟩:∃j:Nat,e=(j:Int):=⟨e.toNat,by omega⟩
    have F6:=(F0.step nbq k7 ho7 hb7).new (x:=.tup [V.str (Str.ofString "not"),V.int (j:Int)]) ht
    exact⟨us,by rw[F6.hq];rfl,by have:us.length=rs.length:=A5 ra;omega,IR.step (.no j) t (show j<i by omega) je hl F6.ra ok F6.hq hq F6.ho F6.hb nbq F6.kp trivial okl⟩
   ·have F0:Fc H b q us rs (.lst xs4) (upd H1 b (.lst xs4)):=⟨je,ho4,qA _,ra.kp ((Kp.refl [b] H1).set hb1 (.inl (.head _))),kA _⟩
    obtain⟨bb,hbb⟩:∃bb:Bool,atI [V.str (Str.ofString "and"),V.str (Str.ofString "and"),V.str (Str.ofString "or")] (kd-6)=some (.str (bw bb)):=by
     have:kd=6\/kd=7\/kd=8:=by omega
     rcases this with rfl|rfl|rfl
     ·exact⟨true,jc8 (by decide) rfl⟩
     ·exact⟨true,jc8 (by decide) rfl⟩
     ·exact⟨false,jc8 (by decide) rfl⟩
    refine⟨by rw[F0.hq];rfl,by omega,λt0 ht0=>⟨_,hbb,?_⟩⟩
    have Fa:=F0.new (x:=.lst [V.str (Str.ofString "and"),V.str (Str.ofString "and"),V.str (Str.ofString "or")]) ht0
    refine⟨b,_,_,rfl,Fa.hb,Fa.ho,by omega,by omega,λe o7 H5 e0 e1 ho7 hb7 k7=>?_⟩
    have Fb:=Fa.step nbq k7 ho7 hb7
    refine⟨b,_,_,rfl,hb7,ho7,by omega,by omega,λe2 o8 e20 e21 ho8=>⟨by omega,λt ht=>?_⟩⟩
    obtain⟨j,rfl⟩:∃j:Nat,e=(j:Int):=⟨e.toNat,by omega⟩
    obtain⟨l,rfl⟩:∃l:Nat,e2=(l:Int):=⟨e2.toNat,by omega⟩
    have F6:=(Fb.box nbq ho8).new (x:=.tup [V.str (bw bb),V.int (j:Int),V.int (l:Int)]) ht
    exact⟨us,by rw[F6.hq];rfl,by have:us.length=rs.length:=A5 ra;omega,IR.step (.bin bb j l) t (show j<i/\l<i by omega) je hl F6.ra ok F6.hq hq F6.ho F6.hb nbq F6.kp trivial okl⟩
   ·have F0:Fc H b q us rs (.lst xs4) (upd H1 b (.lst xs4)):=⟨je,ho4,qA _,ra.kp ((Kp.refl [b] H1).set hb1 (.inl (.head _))),kA _⟩
    obtain⟨bb,hbb⟩:∃bb:Bool,atI [V.str (Str.ofString "some"),V.str (Str.ofString "some"),V.str (Str.ofString "each")] (kd-9)=some (.str (qw bb)):=by
     have:kd=9\/kd=10\/kd=11:=by omega
     rcases this with rfl|rfl|rfl
     ·exact⟨true,jc8 (by decide) rfl⟩
     ·exact⟨true,jc8 (by decide) rfl⟩
     ·exact⟨false,jc8 (by decide) rfl⟩
    refine⟨by rw[F0.hq];rfl,by omega,λt0 ht0=>⟨_,hbb,?_⟩⟩
    have Fa:=F0.new (x:=.lst [V.str (Str.ofString "some"),V.str (Str.ofString "some"),V.str (Str.ofString "each")]) ht0
    refine⟨b,_,_,rfl,Fa.hb,Fa.ho,by omega,by omega,λe o7 H5 e0 e1 ho7 hb7 k7=>⟨by omega,λt ht=>?_⟩⟩
    obtain⟨j,rfl⟩:∃j:Nat,e=(j:Int):=⟨e.toNat,by omega⟩
    have F6:=(Fa.step nbq k7 ho7 hb7).new (x:=.tup [V.str (qw bb),V.str x,V.int (j:Int)]) ht
    exact⟨us,by rw[F6.hq];rfl,by have:us.length=rs.length:=A5 ra;omega,IR.step (.qn bb x j) t ⟨hx,show j<i by omega⟩ je hl F6.ra ok F6.hq hq F6.ho F6.hb nbq F6.kp trivial okl⟩
  ·rintro σ H1 ⟨us,rs,o2,v5,v6,v7,v8,v9,rfl,hl,ra,ok,okl,hq1,ho2,hb1,kp⟩
   simp!
   exact k q us rs o2 H1 (by omega) (by omega) ra ok okl hq hq1 ho2 hb1 kp
end
def NN:List Str:=["yes","is","not","and","or"]
def azB(c:Nat):Bool:=decide (97<=c) && decide (c<=122)
def isNm(z:Str):Bool:=!(decide ((z.length:Int)<1) || decide (3<(z.length:Int)) || inV (.str z) (NN.map V.str)) && z.cps.toList.all azB
def spNm:Sp:=λvs H Q _=>∃z:Str,vs=[.str z]/\z.length<=sizeLine/\∀H',Kp [] H H'->Q (.bl (isNm z)) H'
structure TNm(K:PySem.W.Frag)(mg:Str->Option Value)(an:Addr):Prop where
 n_len:mg "len"=none
 n_all:mg "all"=none
 m_NO_NAMES:mg "NO_NAMES"=some (.ref an)
 k_NO_NAMES:∀H,SqT K H an (NN.map V.str)
section
variable{P:Program}{w:World}{K:PySem.W.Frag}{mg:Str->Option Value}{base:Heap}
abbrev y3:Stmt:=top 15
theorem sc_is_name:FnScope ["text"] ["text"] (jk y3):=⟨rfl,rfl,rfl,by decide +kernel,rfl,by decide +kernel,by decide +kernel⟩
theorem ok_is_name{f an:Addr}{fd:FuncData}(F:Fun K "is_name" "is_name" y3 f fd)(T:TNm K mg an):FnOk P w K mg base CX0 1 f fd ["text"] spNm:=by
 refine F.ok sc_is_name (λvs H Q E h=>?_) (λcdv A outer s H vs Q E hr h=>?_)
 ·obtain⟨z,rfl,_⟩:=h
  rfl
 ·obtain⟨z,rfl,hz,k⟩:=h
  refine⟨_,(QSs.h (jh (j7 (QW.pt (jag (jp jau (jv kh (by rfl) T.n_len km (jc (qpv 0) jd)) ji (jt _)) (jag (jp jb5 (jv kh (by rfl) T.n_len km (jc (qpv 0) jd)) ji (jt _)) (jad (jp (zf (K:=K) rfl) (qpv 0) (yu (v:=.ref _) rfl T.m_NO_NAMES rfl) (by with_unfolding_all rfl)))))) (jj (jr jbr)) jx)
  (jj (jr (jv (jcf rfl) (by rfl) T.n_all jc1 (jc (jbh rfl (jdq (sc:=jk y3) (N:=["text"]) (Nc:=["sign"]) (js:=[none]) (by decide +kernel)) (zy (K:=K) (qpv 0) rfl) (λ_ _ _ _=>(kr (i:=0) (show List.Nodup [("sign":Str)]from by decide +kernel) rfl (by first|exact Or.inl rfl|exact Or.inr rfl))) (λ_ _ _ _=>(jcm jbc jbc jg (qpv 0) jg))) jd)))))),?_⟩
  simp!
  refine⟨hz,ite2 (λh1=>?_) (λh1=>⟨hz,ite2 (λh2=>?_) (λh2=>rInU.tupS (T.k_NO_NAMES H) rfl (by decide) ⟨_,rfl,?_⟩)⟩)⟩
  ·have e:isNm z=false:=by simp[isNm,h1]
   rw[<-e];exact k H (Kp.refl [] H)
  ·have e:isNm z=false:=by simp[isNm,h2]
   rw[<-e];exact k H (Kp.refl [] H)
  simp only[Ih,Oi]
  refine ite2 (λh3=>?_) (λh3=>?_)
  ·have e:isNm z=false:=by simp[isNm,h3]
   rw[<-e];exact k H (Kp.refl [] H)
  have e:isNm z=z.cps.toList.all azB:=by simp[isNm,h1,h2,h3]
  intro D hD
  have ea:(Str.ofString "a").cps.toList=[97]:=by decide +kernel
  have ez:(Str.ofString "z").cps.toList=[122]:=by decide +kernel
  refine jk1 (λc=>.bl (azB c)) hz (λc _ l Q' hq=>?_) λv=>?_
  ·simp! [ea,ez,lt1]
   refine ite2 (λg=>?_) (λg=>?_)
   ·refine(Om (λb=>Q' (.bl b) _) (?_:_=azB c)).mpr hq
    simp at g
    rw[Oj]
    simp[azB]
    omega
   ·refine(Om (λb=>Q' (.bl b) _) (?_:_=azB c)).mpr hq
    simp at g
    rw[Oj]
    simp[azB]
    omega
  ·refine⟨z.cps.toList.map azB,by rw[je,Ov];rfl,?_⟩
   rw[List.all_map]
   exact e▸k _ ((Kp.refl [] H).new hD)
structure TBs(mg:Str->Option Value)(fn:Addr):Prop where
 m2z:mg "is_name"=some (.ref fn)
def bgS:List Str:=["yes","not","(","some","each"]
def bgB(z:Str):Bool:=inV (.str z) (bgS.map V.str) || isNm z
def spBs:Sp:=λvs H Q _=>∃z:Str,vs=[.str z]/\z.length<=sizeLine/\∀H',Kp [] H H'->Q (.bl (bgB z)) H'
abbrev ym:Stmt:=top 27
theorem sc_begins_saying:FnScope ["word"] ["word"] (jk ym):=⟨rfl,rfl,rfl,by decide +kernel,rfl,by decide +kernel,by decide +kernel⟩
theorem ok_begins_saying{f fn:Addr}{fd fdn:FuncData}(F:Fun K "begins_saying" "begins_saying" ym f fd)(T:TBs mg fn)(F2z:Fun K "is_name" "is_name" y3 fn fdn)(b2z:Binds K fdn ["text"] [])
  (G2z:FnOk P w K mg base CX0 1 fn fdn ["text"] spNm):FnOk P w K mg base CX0 2 f fd ["word"] spBs:=by
 refine F.ok sc_begins_saying (λvs H Q E h=>?_) (λcdv A outer s H vs Q E hr h=>?_)
 ·obtain⟨z,rfl,_⟩:=h
  rfl
 ·obtain⟨z,rfl,hz,k⟩:=h
  have hu:=hr.units
  refine exQ (jj (jr (jb7 (yr (zf (K:=K) rfl) (qpv 0) (kf (jc jg (jc jg (jc jg (jc jg (jc jg jd)))))) (by with_unfolding_all rfl)) (jax (jo G2z (hr.mono (by decide)) rfl T.m2z F2z.kp b2z .nil jw (jc (qpv 0) jd)))))) ?_
  simp!
  have hsz:sizeLine=16777216:=Ak
  refine⟨by omega,λp hp=>rInU.tupS (SqT.of je) rfl rfl ⟨_,rfl,ite2 (λh=>?_) (λh=>⟨z,rfl,hz,λH' kp=>?_⟩)⟩⟩
  ·have e:bgB z=true:=by
    unfold bgB
    rw[show inV (.str z) (bgS.map V.str)=true from h]
    rfl
   rw[<-e]
   exact k _ ((Kp.refl [] H).new hp)
  ·have e:bgB z=isNm z:=by
    unfold bgB
    rw[show inV (.str z) (bgS.map V.str)=false from Bool.eq_false_iff.mpr h]
    rfl
   rw[<-e]
   exact k _ (((Kp.refl [] H).new hp).trans kp)
structure TSl(mg:Str->Option Value):Prop where
 n_len:mg "len"=none
def smB(z:Str):Bool:=decide (z.length=1) && z.cps.toList.all azB
def spSl:Sp:=λvs H Q _=>∃z:Str,vs=[.str z]/\z.length<=sizeLine/\∀H',Kp [] H H'->Q (.bl (smB z)) H'
abbrev ya:Stmt:=top 25
theorem sc_is_small_letter:FnScope ["word"] ["word"] (jk ya):=⟨rfl,rfl,rfl,by decide +kernel,rfl,by decide +kernel,by decide +kernel⟩
theorem ok_is_small_letter{f:Addr}{fd:FuncData}(F:Fun K "is_small_letter" "is_small_letter" ya f fd)(T:TSl mg):FnOk P w K mg base CX0 1 f fd ["word"] spSl:=by
 refine F.ok sc_is_small_letter (λvs H Q E h=>?_) (λcdv A outer s H vs Q E hr h=>?_)
 ·obtain⟨z,rfl,_⟩:=h
  rfl
 ·obtain⟨z,rfl,hz,k⟩:=h
  have hu:=hr.units
  refine exQ (jj (jr (jbt (yr (j9 hu) (jv kh (by rfl) T.n_len km (jc (qpv 0) jd)) ji (jt _)) (jax (jcm jbc jbc jg (qpv 0) jg))))) ?_
  simp!
  have ea:(Str.ofString "a").cps.toList=[97]:=by decide +kernel
  have ez:(Str.ofString "z").cps.toList=[122]:=by decide +kernel
  refine⟨hz,ite2 (λh=>?_) (λh=>?_)⟩
  ·obtain⟨c,hc⟩:∃c,z.cps.toList=[c]:=by
    have:z.cps.toList.length=1:=by simp[Str.length]at h⊢;omega
    match z.cps.toList,this with
    |[c],_=>exact⟨c,rfl⟩
   have e:smB z=azB c:=by
    have:z.length=1:=by omega
    simp[smB,this,hc]
   rw[e]at k
   rw[hc,ea,ez]
   simp only[lt1]
   refine ite2 (λg=>?_) (λg=>?_)
   ·refine(Om (λb=>Q (.bl b) _) (?_:_=azB c)).mpr (k H (Kp.refl [] H))
    simp at g
    rw[Oj]
    simp[azB]
    omega
   ·refine(Om (λb=>Q (.bl b) _) (?_:_=azB c)).mpr (k H (Kp.refl [] H))
    simp at g
    rw[Oj]
    simp[azB]
    omega
  ·have e:smB z=false:=by
    have:¬z.length=1:=by omega
    simp[smB,this]
   rw[<-e]
   exact k H (Kp.refl [] H)
end
def wdL(f:Nat->List Str):RS->List Str
 |.yes=>["yes"]
 |.is x a=>[x,"is",a]
 |.ahead x y=>[x,"<",y]
 |.no i=>"not"::f i
 |.bin b i j=>"("::(f i++(bw b::(f j++[Str.ofString ")"])))
 |.qn b x i=>qw b::x::f i
def jup(acc:List (List Str))(r:RS):List (List Str):=acc++[wdL (λi=>acc.getD i []) r]
def wds(rs:List RS):List (List Str):=rs.foldl jup []
def wAt(rs:List RS)(i:Nat):List Str:=(wds rs).getD i []
theorem jfx(rs:List RS)(r:RS):wds (rs++[r])=wds rs++[wdL (wAt rs) r]:=by
 unfold wds
 rw[List.foldl_append]
 rfl
theorem jnu(a:List RS):∀b:List RS,∃t,wds (a++b)=wds a++t/\t.length=b.length:=by
 intro b
 induction b generalizing a with
 |nil=>exact⟨[],by simp,rfl⟩
 |cons r b ih =>
  obtain⟨t,e,l⟩:=ih (a++[r])
  rw[A9,List.singleton_append]at e
  exact⟨wdL (wAt a) r::t,by rw[e,jfx,A9,List.singleton_append],by simp[l]⟩
theorem jdw(rs:List RS):(wds rs).length=rs.length:=by
 obtain⟨t,e,l⟩:=jnu [] rs
 rw[List.nil_append]at e
 rw[e]
 show([]++t).length=_
 simpa using l
theorem jfh(a b:List RS){i:Nat}(h:i<a.length):wAt (a++b) i=wAt a i:=by
 obtain⟨t,e,l⟩:=jnu a b
 unfold wAt
 rw[e,Au,Au,Ic (by rw[jdw];exact h)]
def BdW(rs:List RS)(B:Nat):Prop:=∀j,(wAt rs j).length<=B
theorem BdW.snoc{rs:List RS}{r:RS}{B B':Nat}(h:BdW rs B)(hB:B<=B')(hr:(wdL (wAt rs) r).length<=B'):BdW (rs++[r]) B':=λj=>by
 by_cases hj:j<rs.length
 ·rw[jfh _ _ hj];exact A7 (h j) hB
 ·by_cases e:j=rs.length
  ·subst e
   have:wAt (rs++[r]) rs.length=wdL (wAt rs) r:=by
    unfold wAt
    rw[jfx,Au,Ik (by rw[jdw];exact Ag _),jdw]
    simp
    rfl
   rw[this];exact hr
  ·unfold wAt
   rw[Au,U6 (by rw[jdw];simp;omega)]
   simp
theorem js0{f:Nat->List Str}{B:Nat}(h:∀i,(f i).length<=B)(r:RS):(wdL f r).length<=2*B+3:=by
 cases r with
 |no i=>have:=h i;simp only[wdL,List.length_cons];omega
 |bin b i j=>have:=h i;have:=h j;simp only[wdL,List.length_cons,Ap,List.length_nil];omega
 |qn b x i=>have:=h i;simp only[wdL,List.length_cons];omega
 |_=>simp[wdL]
theorem BdW.all:∀(n:Nat)(rs:List RS),rs.length=n->BdW rs (3*2^n-3)
 |0,rs,h=>by
  rw[List.eq_nil_of_length_eq_zero h]
  intro j
  simp[wAt,wds]
 |n+1,rs,h=>by
  obtain⟨a,r,rfl⟩:∃a r,rs=a++[r]:=⟨rs.dropLast,rs.getLast (λz=>by rw[z]at h;simp at h),(U5 _).symm⟩
  have ih:=BdW.all n a (by simpa using h)
  have p:1<=2^n:=Nat.one_le_two_pow
  have e:2^(n+1)=2*2^n:=by rw[Nat.pow_succ];omega
  refine ih.snoc (by omega) ?_
  have:=js0 (f:=wAt a) ih r
  omega
theorem jb1{α β:Type}{F:α->β->Prop}:∀{l:List α}{m:List β}{k:Nat}{v:α},Paired F l m->l[k]?=some v->∃r,m[k]?=some r/\F v r
 |_,_,k,v,.nil,e=>by simp at e
 |_,_,0,v,.cons (b:=b) h _,e=>by simp at e;subst e;exact⟨b,rfl,h⟩
 |_,_,k+1,v,.cons _ t,e=>by simp at e;obtain⟨r,h⟩:=jb1 t e;exact⟨r,by simpa using h.1,h.2⟩
theorem ixL{H:Hp}{q:Addr}{fs:List V}{j:Nat}{v:V}{Q:VK}(e:H q=some (.lst fs))(a:fs[j]?=some v)(k:Q v H):rIxU (.ref q) (.int (j:Int)) H Q:=⟨fs,by rw[e];rfl,v,jc8 (by omega) (by simpa using a),k⟩
def LsAt(H0:Hp)(q:Addr)(H:Hp)(vs:List V)(ls:List (List Str)):Prop:=Paired (λv ws=>∃p,v=.ref p/\p≠q/\H0 p=none/\H p=some (.lst (ws.map V.str))) vs ls
theorem LsAt.kp{H0 H H':Hp}{q:Addr}{vs:List V}{ls:List (List Str)}(h:LsAt H0 q H vs ls)(k:Kp [q] H H'):LsAt H0 q H' vs ls:=Paired.mapP h λ_ _ ⟨a,e,n,z,h⟩=>⟨a,e,n,z,k.old _ _ h (by simpa using n)⟩
theorem LsAt.get{H0 H:Hp}{q:Addr}{vs:List V}{rs:List RS}(h:LsAt H0 q H vs (wds rs)){i:Nat}(hi:i<rs.length):∃p,vs[i]?=some (.ref p)/\p≠q/\H0 p=none/\H p=some (.lst ((wAt rs i).map V.str)):=by
 obtain⟨v,e⟩:∃v,vs[i]?=some v:=⟨_,An (by rw[A5 h,jdw];exact hi)⟩
 obtain⟨l,e2,p,rfl,n,z,hp⟩:=jb1 h e
 refine⟨p,e,n,z,?_⟩
 unfold wAt
 rw[Au,e2]
 exact hp
def tgW:RS->Fin 8
 |.yes=>0
 |.is _ _=>1
 |.ahead _ _=>2
 |.no _=>3
 |.bin true _ _=>4
 |.bin false _ _=>5
 |.qn true _ _=>6
 |.qn false _ _=>7
def hdW:Fin 8->Str
 |0=>"yes"
 |1=>"is"
 |2=>"ahead"
 |3=>"not"
 |4=>"and"
 |5=>"or"
 |6=>"some"
 |7=>"each"
def hw(r:RS):Str:=hdW (tgW r)
theorem jrl(r:RS):atI (rowV r) 0=some (.str (hw r)):=by
 cases r with
 |bin b=>cases b <;> exact jc8 (by decide) rfl
 |qn b=>cases b <;> exact jc8 (by decide) rfl
 |_=>exact jc8 (by decide) rfl
theorem hwX:∀t u:Fin 8,hdW t=hdW u->t=u:=by decide +kernel
theorem jrm{r:RS}(e:hw r=Str.ofString "is"):∃x a,r=.is x a:=by
 have q:=hwX _ 1 e
 cases r with
 |is x a=>exact⟨x,a,rfl⟩
 |bin b=>cases b <;> cases q
 |qn b=>cases b <;> cases q
 |_=>cases q
theorem jla{r:RS}(e:hw r=Str.ofString "ahead"):∃x a,r=.ahead x a:=by
 have q:=hwX _ 2 e
 cases r with
 |ahead x a=>exact⟨x,a,rfl⟩
 |bin b=>cases b <;> cases q
 |qn b=>cases b <;> cases q
 |_=>cases q
theorem jpg{r:RS}(e:hw r=Str.ofString "not"):∃i,r=.no i:=by
 have q:=hwX _ 3 e
 cases r with
 |no i=>exact⟨i,rfl⟩
 |bin b=>cases b <;> cases q
 |qn b=>cases b <;> cases q
 |_=>cases q
theorem jph{r:RS}(e:hw r=Str.ofString "yes"):r=.yes:=by
 have q:=hwX _ 0 e
 cases r with
 |yes=>rfl
 |bin b=>cases b <;> cases q
 |qn b=>cases b <;> cases q
 |_=>cases q
theorem jpf{r:RS}(e:hw r=Str.ofString "and"\/hw r=Str.ofString "or"):∃b i j,r=.bin b i j:=by
 have q:tgW r=4\/tgW r=5:=e.imp (hwX _ 4) (hwX _ 5)
 cases r with
 |bin b i j=>exact⟨b,i,j,rfl⟩
 |qn b=>cases b <;> rcases q with q|q <;> cases q
 |_=>rcases q with q|q <;> cases q
theorem jrn{r:RS}(e1:¬hw r=Str.ofString "is")(e2:¬hw r=Str.ofString "ahead")(e3:¬hw r=Str.ofString "not")(e4:¬hw r=Str.ofString "and")(e5:¬hw r=Str.ofString "or")(e6:¬hw r=Str.ofString "yes"):∃b x i,r=.qn b x i:=by
 cases r with
 |qn b x i=>exact⟨b,x,i,rfl⟩
 |yes=>exact absurd rfl e6
 |is=>exact absurd rfl e1
 |ahead=>exact absurd rfl e2
 |no=>exact absurd rfl e3
 |bin b=>cases b;exact absurd rfl e5;exact absurd rfl e4
structure WS(H:Hp)(q c:Addr)(fs:List V)(rs:List RS)(r:RS)(H':Hp):Prop where
 hq:H' q=some (.lst fs)
 la:LsAt H q H' fs (wds rs)
 hc:H' c=some (.tup (rowV r))
 kp:Kp [] H H'
theorem WS.new{H H1:Hp}{q c p:Addr}{fs:List V}{rs:List RS}{r:RS}{o:HO}(S:WS H q c fs rs r H1)(hp:H1 p=none):WS H q c fs rs r (upd H1 p o) :=
 ⟨by rw[jf (jl S.hq hp)];exact S.hq,S.la.kp ((Kp.refl [q] H1).new hp),by rw[jf (jl S.hc hp)];exact S.hc,S.kp.new hp⟩
def spWd:Sp:=λvs H Q _=>∃(a:Addr)(us:List V)(rs:List RS)(zs:List Str),vs=[.ref a]/\H a=some (.tup us)/\RowsAt H us rs/\okR zs rs/\1<=rs.length/\rs.length<=1000/\BdW rs 100000 /\
 ∀q H',H q=none->H' q=some (.lst ((wAt rs (rs.length-1)).map V.str))->Kp [] H H'->Q (.ref q) H'
section
variable{P:Program}{w:World}{K:PySem.W.Frag}{mg:Str->Option Value}{base:Heap}
abbrev zh:Stmt:=top 36
theorem yq:FnScope ["_law_saying","_law_found","_law_row","_law_words_here"] ["_law_saying"] (jk zh):=⟨rfl,rfl,rfl,by decide +kernel,rfl,by decide +kernel,by decide +kernel⟩
theorem ok__law_words{f:Addr}{fd:FuncData}(F:Fun K "_law_words" "_law_words" zh f fd):FnOk P w K mg base CX0 1 f fd ["_law_saying"] spWd:=by
 refine F.ok yq (λvs H Q E h=>?_) (λcdv A outer s H vs Q E hr h=>?_)
 ·obtain⟨a,us,rs,zs,rfl,_⟩:=h
  rfl
 ·obtain⟨a,us,rs,zs,rfl,ha,ra,ok,n1,n9,hbw,k⟩:=h
  have hu:=hr.units
  have hsz:sizeLine=16777216:=Ak
  have ul:us.length=rs.length:=A5 ra
  refine exQ (jh (jm (i:=1) yq.nd rfl (by first|exact Or.inl rfl|exact Or.inr rfl) (j6 jd))
  (jh (jac I0 rfl (zy (K:=K) (qpv 0) rfl) (kr (i:=2) yq.nd rfl (by first|exact Or.inl rfl|exact Or.inr rfl)) (y0 (j7 (jp (j9 hu) (ju ix_U (qpv 2) ji (λ_ _=>rfl)) jg (jt _)) (jj (jm (i:=3) yq.nd rfl (by first|exact Or.inl rfl|exact Or.inr rfl) (j6 (jc (ju ix_U (qpv 2) ji (λ_ _=>rfl)) (jc jg (jc (ju ix_U (qpv 2) ji (λ_ _=>rfl)) jd)))))) (jj (j7 (jp (j9 hu) (ju ix_U (qpv 2) ji (λ_ _=>rfl)) jg (jt _)) (jj (jm (i:=3) yq.nd rfl (by first|exact Or.inl rfl|exact Or.inr rfl) (j6 (jc (ju ix_U (qpv 2) ji (λ_ _=>rfl)) (jc jg (jc (ju ix_U (qpv 2) ji (λ_ _=>rfl)) jd)))))) (jj (j7 (jp (j9 hu) (ju ix_U (qpv 2) ji (λ_ _=>rfl)) jg (jt _)) (jj (jm (i:=3) yq.nd rfl (by first|exact Or.inl rfl|exact Or.inr rfl) (jq jz (j6 (jc jg jd)) (ju ix_U (qpv 1) (ju ix_U (qpv 2) ji (λ_ _=>rfl)) (λ_ _=>rfl))))) (jj (j7 (QW.pt (jag (jp (j9 hu) (ju ix_U (qpv 2) ji (λ_ _=>rfl)) jg (jt _)) (jad (jp (j9 hu) (ju ix_U (qpv 2) ji (λ_ _=>rfl)) jg (jt _))))) (jj (jm (i:=3) yq.nd rfl (by first|exact Or.inl rfl|exact Or.inr rfl) (jq jz (jq jz (jq jz (jq jz (j6 (jc jg jd)) (ju ix_U (qpv 1) (ju ix_U (qpv 2) ji (λ_ _=>rfl)) (λ_ _=>rfl))) (j6 (jc (ju ix_U (qpv 2) ji (λ_ _=>rfl)) jd))) (ju ix_U (qpv 1) (ju ix_U (qpv 2) ji (λ_ _=>rfl)) (λ_ _=>rfl))) (j6 (jc jg jd))))) (jj (j7 (jp (j9 hu) (ju ix_U (qpv 2) ji (λ_ _=>rfl)) jg (jt _)) (jj (jm (i:=3) yq.nd rfl (by first|exact Or.inl rfl|exact Or.inr rfl) (j6 (jc jg jd)))) (jj (jm (i:=3) yq.nd rfl (by first|exact Or.inl rfl|exact Or.inr rfl) (jq jz (j6 (jc (ju ix_U (qpv 2) ji (λ_ _=>rfl)) (jc (ju ix_U (qpv 2) ji (λ_ _=>rfl)) jd))) (ju ix_U (qpv 1) (ju ix_U (qpv 2) ji (λ_ _=>rfl)) (λ_ _=>rfl))))))))))))))
  (jj (kj (yd Ax Ay ki (qpv 1) (jc (qpv 3) jd) jdd)))))
  (jj (jr (ju ix_U (qpv 1) (jb8 jib ji) (λ_ _=>rfl)))))) ?_
  simp!
  refine⟨by omega,λq hq=>?_⟩
  obtain⟨W,hW⟩:∃W:Nat->L2.St->Hp->Prop,W=λi σ H'=>∃(fs:List V)(v2 v3:Option V),σ=[some (.ref a),some (.ref q),v2,v3]/\H' q=some (.lst fs)/\LsAt H q H' fs (wds (rs.take i))/\Kp [] H H':=⟨_,rfl⟩
  have haq:∀o,upd H q o a=some (.tup us):=λo=>by rw[jf (jl ha hq)];exact ha
  simp only[haq]
  refine jfi (xs:=us) W ?_ ?_ ?_ ?_
  ·rw[hW];exact⟨[],none,none,rfl,je,.nil,(Kp.refl [] H).new hq⟩
  ·intro i σ H1 _ hw
   rw[hW]at hw
   obtain⟨fs,v2,v3,rfl,hq1,la,kp⟩:=hw
   exact kp.tup _ _ ha
  ·intro i v σ H1 ei hw
   rw[hW]at hw
   obtain⟨fs,v2,v3,rfl,hq1,la,kp⟩:=hw
   obtain⟨r,c,er,rfl,hc⟩:=RowsAt.get (ra.kp kp) ei
   simp! [hc]
   obtain⟨ws,hws⟩:∃ws,ws=(wdL (wAt (rs.take i)) r).map V.str:=⟨_,rfl⟩
   refine⟨λσ H'=>∃p,σ=[some (.ref a),some (.ref q),some (.ref c),some (.ref p)]/\H' q=some (.lst fs)/\LsAt H q H' fs (wds (rs.take i))/\(p≠q/\H p=none/\H' p=some (.lst ws))/\Kp [] H H',?_,?_⟩
   ·have okr:=ok i r er
    have il:i<rs.length:=(Ab.mp er).1
    have tl:(rs.take i).length=i:=by rw[Il];omega
    have S:WS H q c fs (rs.take i) r H1:=⟨hq1,la,hc,kp⟩
    have bd:∀j,((wAt (rs.take i) j).map V.str).length<=100000:=λj=>by
     rw[Ae]
     by_cases hj:j<i
     ·have e:=jfh (rs.take i) (rs.drop i) (i:=j) (by omega)
      rw[U3]at e
      rw[<-e];exact hbw j
     ·unfold wAt
      rw[Au,U6 (by rw[jdw];omega)]
      simp
    have at1:∀{j:Nat}{H2:Hp},j<i->LsAt H q H2 fs (wds (rs.take i))->∃p2,fs[j]?=some (.ref p2)/\p2≠q/\H p2=none/\H2 p2=some (.lst ((wAt (rs.take i) j).map V.str)):=λhj l=>l.get (by omega)
    have last0:∀{p:Addr}{H2:Hp}{ls:List Str},WS H q c fs (rs.take i) r H2->H2 p=none->ls.map V.str=ws->upd H2 p (.lst (ls.map V.str)) q=some (.lst fs)/\LsAt H q (upd H2 p (.lst (ls.map V.str))) fs (wds (rs.take i)) /\
      (p≠q/\H p=none/\ls.map V.str=ws)/\Kp [] H (upd H2 p (.lst (ls.map V.str))):=fun{p H2 ls} S2 hp e=>by
     have S3:=S2.new (o:=.lst (ls.map V.str)) hp
     exact⟨S3.hq,S3.la,⟨(λz=>by rw[z,S2.hq]at hp;cases hp),S2.kp.free hp,e⟩,S3.kp⟩
    have last:∀{p:Addr}{H2:Hp}{ls:List Str},WS H q c fs (rs.take i) r H2->H2 p=none->ls.map V.str=ws->∃p',V.ref p=V.ref p'/\upd H2 p (.lst (ls.map V.str)) q=some (.lst fs)/\LsAt H q (upd H2 p (.lst (ls.map V.str))) fs (wds (rs.take i)) /\
      (p'≠q/\H p'=none/\upd H2 p (.lst (ls.map V.str)) p'=some (.lst ws))/\Kp [] H (upd H2 p (.lst (ls.map V.str))):=fun{p H2 ls} S2 hp e=>by
     obtain⟨h1,h2,⟨h3,h4,h5⟩,h6⟩:=last0 S2 hp e
     exact⟨p,rfl,h1,h2,⟨h3,h4,by rw[je,h5]⟩,h6⟩
    clear la hc kp hq1
    simp! [S.hc,jrl]
    refine ite2 (λe=>?_) (λe1=>ite2 (λe=>?_) (λe2=>ite2 (λe=>?_) (λe3=>?_)))
    ·obtain⟨x,y,rfl⟩:=jrm e
     simp! [S.hc,rowV]
     refine⟨by omega,λp hp=>?_⟩
     exact last0 (ls:=[x,"is",y]) S hp (by rw[hws];rfl)
    ·obtain⟨x,y,rfl⟩:=jla e
     simp! [S.hc,rowV]
     refine⟨by omega,λp hp=>?_⟩
     exact last0 (ls:=[x,"<",y]) S hp (by rw[hws];rfl)
    ·obtain⟨j,rfl⟩:=jpg e
     simp! [S.hc,rowV]
     refine⟨by omega,λp hp=>?_⟩
     have S1:=S.new (o:=.lst [V.str (Str.ofString "not")]) hp
     refine⟨_,by rw[S1.hc];rfl,_,jc8 (by decide) rfl,?_⟩
     obtain⟨p2,e2,n2,z2,h2⟩:=at1 okr S1.la
     refine ixL S1.hq e2 (rAddW.lst je h2 (by have:=bd j;simp only[List.length_cons,List.length_nil];omega) λp3 hp3=>?_)
     exact last (ls:="not"::wAt (rs.take i) j) S1 hp3 (by rw[hws];rfl)
    refine jld (λe=>?_) (λe4 e5=>ite2 (λe=>?_) (λe6=>?_))
    ·obtain⟨b,j,l,rfl⟩:=jpf e
     simp! [S.hc,rowV]
     refine⟨by omega,λp hp=>?_⟩
     have S1:=S.new (o:=.lst [V.str (Str.ofString "(")]) hp
     have u1:upd H1 p (.lst [V.str (Str.ofString "(")]) p=some (.lst [V.str (Str.ofString "(")]):=je
     refine⟨_,by rw[S1.hc];rfl,_,jc8 (by decide) rfl,?_⟩
     generalize upd H1 p (.lst [V.str (Str.ofString "(")])=H2 at S1 u1⊢
     obtain⟨p2,e2,n2,z2,h2⟩:=at1 okr.1 S1.la
     have bj:=bd j
     have bl:=bd l
     refine ixL S1.hq e2 (rAddW.lst u1 h2 (by simp only[List.length_cons,List.length_nil];omega) λp3 hp3=>?_)
     have S2:=S1.new (o:=.lst ([V.str (Str.ofString "(")]++(wAt (rs.take i) j).map V.str)) hp3
     have u2:upd H2 p3 (.lst ([V.str (Str.ofString "(")]++(wAt (rs.take i) j).map V.str)) p3=_:=je
     generalize upd H2 p3 (.lst ([V.str (Str.ofString "(")]++(wAt (rs.take i) j).map V.str))=H3 at S2 u2⊢
     refine⟨_,by rw[S2.hc];rfl,_,jc8 (by decide) rfl,by omega,λp4 hp4=>?_⟩
     have S3:=S2.new (o:=.lst [V.str (bw b)]) hp4
     have u3:upd H3 p4 (.lst [V.str (bw b)]) p3=_:=(jf (jl u2 hp4)).trans u2
     have u4:upd H3 p4 (.lst [V.str (bw b)]) p4=some (.lst [V.str (bw b)]):=je
     show rAddW (.ref p3) (.ref p4) (upd H3 p4 (.lst [V.str (bw b)])) _
     generalize upd H3 p4 (.lst [V.str (bw b)])=H4 at S3 u3 u4⊢
     refine rAddW.lst u3 u4 (by simp only[Ap,List.length_cons,List.length_nil];omega) λp5 hp5=>?_
     have S4:=S3.new (o:=.lst ([V.str (Str.ofString "(")]++(wAt (rs.take i) j).map V.str++[V.str (bw b)])) hp5
     have u5:upd H4 p5 (.lst ([V.str (Str.ofString "(")]++(wAt (rs.take i) j).map V.str++[V.str (bw b)])) p5=_:=je
     generalize upd H4 p5 (.lst ([V.str (Str.ofString "(")]++(wAt (rs.take i) j).map V.str++[V.str (bw b)]))=H5 at S4 u5⊢
     refine⟨_,by rw[S4.hc];rfl,_,jc8 (by decide) rfl,?_⟩
     obtain⟨p6,e6,n6,z6,h6⟩:=at1 okr.2 S4.la
     refine ixL S4.hq e6 (rAddW.lst u5 h6 (by simp only[Ap,List.length_cons,List.length_nil];omega) λp7 hp7=>?_)
     have S5:=S4.new (o:=.lst ([V.str (Str.ofString "(")]++(wAt (rs.take i) j).map V.str++[V.str (bw b)]++(wAt (rs.take i) l).map V.str)) hp7
     have u7:upd H5 p7 (.lst ([V.str (Str.ofString "(")]++(wAt (rs.take i) j).map V.str++[V.str (bw b)]++(wAt (rs.take i) l).map V.str)) p7=_:=je
     generalize upd H5 p7 (.lst ([V.str (Str.ofString "(")]++(wAt (rs.take i) j).map V.str++[V.str (bw b)]++(wAt (rs.take i) l).map V.str))=H6 at S5 u7⊢
     refine⟨by omega,λp8 hp8=>?_⟩
     have S6:=S5.new (o:=.lst [V.str (Str.ofString ")")]) hp8
     refine rAddW.lst ((jf (jl u7 hp8)).trans u7) je (by simp only[Ap,List.length_cons,List.length_nil];omega) λp9 hp9=>?_
     have e9:[V.str (Str.ofString "(")]++(wAt (rs.take i) j).map V.str++[V.str (bw b)]++(wAt (rs.take i) l).map V.str++[V.str (Str.ofString ")")]=(wdL (wAt (rs.take i)) (.bin b j l)).map V.str:=by simp[wdL]
     rw[e9]
     exact last S6 hp9 hws.symm
    ·have e0:=jph e
     subst e0
     simp! [S.hc,rowV]
     refine⟨by omega,λp hp=>?_⟩
     exact last0 (ls:=["yes"]) S hp (by rw[hws];rfl)
    ·obtain⟨b,x,j,rfl⟩:=jrn e1 e2 e3 e4 e5 e6
     rw[show hw (.qn b x j)=qw b by cases b <;> rfl]
     simp! [S.hc,rowV]
     refine⟨by omega,λp hp=>?_⟩
     have S1:=S.new (o:=.lst [V.str (qw b),V.str x]) hp
     refine⟨_,by rw[S1.hc];rfl,_,jc8 (by decide) rfl,?_⟩
     obtain⟨p2,e2,n2,z2,h2⟩:=at1 okr.2 S1.la
     refine ixL S1.hq e2 (rAddW.lst je h2 (by have:=bd j;simp only[List.length_cons,List.length_nil];omega) λp3 hp3=>?_)
     exact last (ls:=qw b::x::wAt (rs.take i) j) S1 hp3 (by rw[hws];rfl)
   ·rintro σ H2 ⟨p,rfl,hq2,la2,⟨np,zp,hp2⟩,kp2⟩
    have fl:fs.length=(rs.take i).length:=by rw[A5 la2,jdw]
    have il:i<rs.length:=(Ab.mp er).1
    simp! [hq2]
    have kq:Kp [q] H2 (upd H2 q (.lst (fs++[.ref p]))):=(Kp.refl [q] H2).set hq2 (.inl (.head _))
    refine⟨by rw[fl,Il];omega,?_⟩
    rw[hW]
    refine⟨_,_,_,rfl,je,?_,kp2.set hq2 (.inr hq)⟩
    have et:rs.take (i+1)=rs.take i++[r]:=by rw[O6,er];rfl
    rw[et,jfx]
    exact Uz (la2.kp kq) ⟨p,rfl,np,zp,by rw[jf np,<-hws];exact hp2⟩
  ·intro σ H1 hw
   rw[hW]at hw
   obtain⟨fs,v2,v3,rfl,hq1,la,kp⟩:=hw
   simp! [hq1]
   rw[ul,Um]at la
   have fl:fs.length=rs.length:=by rw[A5 la,jdw]
   obtain⟨p,e,n,z,hp⟩:=la.get (i:=rs.length-1) (by omega)
   have ef:fs=fs.dropLast++[V.ref p]:=by
    have h0:fs≠[]:=λz=>by rw[z]at fl;simp at fl;omega
    have h1:fs.getLast h0=V.ref p:=by
     rw[List.getLast_eq_getElem]
     have:=(Ab.mp e).2
     simpa[fl]using this
    rw[<-h1,U5]
   exact⟨_,by rw[ef];exact jgz _ _,k p H1 z hp kp⟩
end
theorem jcj{α β:Type}{F:α->β->Prop}:∀{l:List α}{m:List β},Paired F l m->Paired F l.dropLast m.dropLast
 |_,_,.nil=>.nil
 |_,_,.cons _ .nil=>.nil
 |_,_,.cons h (.cons h' t)=>.cons h (jcj (.cons h' t))
inductive Fr where
 |nt|op|qn (b:Bool) (x:Str)|bi (b:Bool) (n:Nat)
def frV:Fr->List V
 |.nt=>[.str "not"]
 |.op=>[.str "("]
 |.qn b x=>[.str (qw b),.str x]
 |.bi b n=>[.str (bw b),.int (n:Int)]
def FrsAt(H:Hp)(us:List V)(W:List Fr):Prop:=Paired (λv f=>∃a,v=.ref a/\H a=some (.tup (frV f))) us W
theorem FrsAt.kp{S:List Addr}{H H':Hp}{us:List V}{W:List Fr}(k:Kp S H H')(h:FrsAt H us W):FrsAt H' us W:=Paired.mapP h λ_ _ ⟨a,e,h⟩=>⟨a,e,k.tup _ _ h⟩
abbrev LQ1:Str:="SayingReading.row_of_name"++".<locals>."++"<lambda>"
abbrev LQ2:Str:="SayingReading.close"++".<locals>."++"<lambda>"
def SF(pw:Addr)(p:Int)(pr pq:Addr):List (Str×V):=[("words",.ref pw),("place",.int p),("rows",.ref pr),("waiting",.ref pq)]
structure SK(K:PySem.W.Frag)(C:Addr):Prop where
 cls:Cls K C
 words:NoAttr K C "words"
 place:NoAttr K C "place"
 rows:NoAttr K C "rows"
 waiting:NoAttr K C "waiting"
structure SR(P1 P2:Addr)(H:Hp)(x C dx pw pr pq:Addr)(ws:List Str)(p:Nat)(R:List RS)(W:List Fr):Prop where
 hx:H x=some (.ins C dx (SF pw (p:Int) pr pq))
 hw:H pw=some (.lst (ws.map V.str))
 hr:∃us,H pr=some (.lst us)/\RowsAt H us R
 hq:∃us,H pq=some (.lst us)/\FrsAt H us W.reverse
 n1:pr≠pq
 n2:pw≠pr
 n3:pw≠pq
 t1:TabOk H P1 LQ1
 t2:TabOk H P2 LQ2
section
variable{K:PySem.W.Frag}{P1 P2:Addr}{H H':Hp}{x C dx pw pr pq:Addr}{ws:List Str}{p p':Nat}{R R':List RS}{W W':List Fr}{σ:L2.St}{i:Nat}{Q:VK}
theorem fld0{fs:List (Str×V)}{f:Str}{v:V}(e:σ[i]?=some (some (.ref x)))(hx:H x=some (.ins C dx fs))(c:Cls K C)(n:NoAttr K C f)(l:fs.lookup f=some v)(q:Q v H):tFld K (tVar i) f σ H Q:=⟨.ref x,e,x,C,dx,fs,v,rfl,hx,c,n,l,q⟩
theorem SR.words(I:SR P1 P2 H x C dx pw pr pq ws p R W)(c:SK K C)(e:σ[i]?=some (some (.ref x)))(q:Q (.ref pw) H):tFld K (tVar i) "words" σ H Q:=fld0 e I.hx c.cls c.words rfl q
theorem SR.place(I:SR P1 P2 H x C dx pw pr pq ws p R W)(c:SK K C)(e:σ[i]?=some (some (.ref x)))(q:Q (.int (p:Int)) H):tFld K (tVar i) "place" σ H Q:=fld0 e I.hx c.cls c.place rfl q
theorem SR.rows(I:SR P1 P2 H x C dx pw pr pq ws p R W)(c:SK K C)(e:σ[i]?=some (some (.ref x)))(q:Q (.ref pr) H):tFld K (tVar i) "rows" σ H Q:=fld0 e I.hx c.cls c.rows rfl q
theorem SR.waiting(I:SR P1 P2 H x C dx pw pr pq ws p R W)(c:SK K C)(e:σ[i]?=some (some (.ref x)))(q:Q (.ref pq) H):tFld K (tVar i) "waiting" σ H Q:=fld0 e I.hx c.cls c.waiting rfl q
theorem SR.no(I:SR P1 P2 H x C dx pw pr pq ws p R W){b:Addr}{o:HO}(e:H b=some o)(n1:∀C dx fs,o≠.ins C dx fs)(n2:∀xs,o≠.lst xs):b∉[x,pr,pq]:=λm=>by
 obtain⟨u1,h1,_⟩:=I.hr
 obtain⟨u2,h2,_⟩:=I.hq
 simp only[Al,Ah,Os]at m
 rcases m with rfl|rfl|rfl
 ·rw[I.hx]at e;exact n1 _ _ _ (Az e).symm
 ·rw[h1]at e;exact n2 _ (Az e).symm
 ·rw[h2]at e;exact n2 _ (Az e).symm
theorem SR.ntab(I:SR P1 P2 H x C dx pw pr pq ws p R W){T:Addr}{qq:Str}(t:TabOk H T qq):T∉[x,pr,pq]:=by
 obtain⟨ps,e,_⟩:=t
 exact I.no e (λ_ _ _ z=>by cases z) (λ_ z=>by cases z)
theorem SR.nx{b:Addr}{xs:List V}(I:SR P1 P2 H x C dx pw pr pq ws p R W)(hp:H b=some (.lst xs)):x≠b:=λz=>by rw[<-z,I.hx]at hp;cases hp
theorem SR.to(I:SR P1 P2 H x C dx pw pr pq ws p R W)(k:Kp [x,pr,pq] H H')(hx':H' x=some (.ins C dx (SF pw (p':Int) pr pq)))(hr':∃us,H' pr=some (.lst us)/\RowsAt H' us R')(hq':∃us,H' pq=some (.lst us)/\FrsAt H' us W'.reverse) :
  SR P1 P2 H' x C dx pw pr pq ws p' R' W':=by
 have tb:∀{T:Addr}{qq:Str},TabOk H T qq->TabOk H' T qq:=λt=>t.kp k (I.ntab t) λc o e=>I.no e (λ_ _ _ z=>by cases z) (λ_ z=>by cases z)
 refine⟨hx',k.old _ _ I.hw ?_,hr',hq',I.n1,I.n2,I.n3,tb I.t1,tb I.t2⟩
 simp only[Al,Ah,Os]
 rintro(z|z|z)
 ·exact I.nx I.hw z.symm
 ·exact I.n2 z
 ·exact I.n3 z
theorem SR.keep(I:SR P1 P2 H x C dx pw pr pq ws p R W)(k:Kp [] H H'):SR P1 P2 H' x C dx pw pr pq ws p R W:=by
 obtain⟨u1,h1,g1⟩:=I.hr
 obtain⟨u2,h2,g2⟩:=I.hq
 exact I.to (k.mono (by simp)) (k.old _ _ I.hx (by simp)) ⟨u1,k.old _ _ h1 Ah,g1.kp k⟩ ⟨u2,k.old _ _ h2 Ah,g2.kp k⟩
theorem jp2{T b:Addr}{o:HO}{qq:Str}(t:TabOk H T qq)(e:H b=some o)(n:∀ps,o≠.tbl ps):b∉[T]:=λm=>by
 obtain⟨ps,h,_⟩:=t
 rw[Ao.mp m,h]at e
 exact n _ (Az e).symm
theorem SR.lam1(I:SR P1 P2 H x C dx pw pr pq ws p R W)(ne:P1≠P2)(k:Kp [P1] H H')(t:TabOk H' P1 LQ1):SR P1 P2 H' x C dx pw pr pq ws p R W:=by
 obtain⟨u1,h1,g1⟩:=I.hr
 obtain⟨u2,h2,g2⟩:=I.hq
 have nn:=fun{b:Addr}{o:HO} (e:H b=some o) (n:∀ps,o≠.tbl ps)=>jp2 I.t1 e n
 exact⟨k.old _ _ I.hx (nn I.hx λ_ z=>by cases z),k.old _ _ I.hw (nn I.hw λ_ z=>by cases z),⟨u1,k.old _ _ h1 (nn h1 λ_ z=>by cases z),g1.kp k⟩,⟨u2,k.old _ _ h2 (nn h2 λ_ z=>by cases z),g2.kp k⟩,I.n1,I.n2,I.n3,t,
  I.t2.kp k (by simpa using ne.symm) λc o e=>nn e λ_ z=>by cases z⟩
theorem SR.lam2(I:SR P1 P2 H x C dx pw pr pq ws p R W)(ne:P1≠P2)(k:Kp [P2] H H')(t:TabOk H' P2 LQ2):SR P1 P2 H' x C dx pw pr pq ws p R W:=by
 obtain⟨u1,h1,g1⟩:=I.hr
 obtain⟨u2,h2,g2⟩:=I.hq
 have nn:=fun{b:Addr}{o:HO} (e:H b=some o) (n:∀ps,o≠.tbl ps)=>jp2 I.t2 e n
 exact⟨k.old _ _ I.hx (nn I.hx λ_ z=>by cases z),k.old _ _ I.hw (nn I.hw λ_ z=>by cases z),⟨u1,k.old _ _ h1 (nn h1 λ_ z=>by cases z),g1.kp k⟩,⟨u2,k.old _ _ h2 (nn h2 λ_ z=>by cases z),g2.kp k⟩,I.n1,I.n2,I.n3,
  I.t1.kp k (by simpa using ne) (λc o e=>nn e λ_ z=>by cases z),t⟩
theorem SR.step(I:SR P1 P2 H x C dx pw pr pq ws p R W)(p':Nat):SR P1 P2 (upd H x (.ins C dx (SF pw (p':Int) pr pq))) x C dx pw pr pq ws p' R W/\Kp [x,pr,pq] H (upd H x (.ins C dx (SF pw (p':Int) pr pq))):=by
 obtain⟨u1,h1,g1⟩:=I.hr
 obtain⟨u2,h2,g2⟩:=I.hq
 have k:Kp [x,pr,pq] H (upd H x (.ins C dx (SF pw (p':Int) pr pq))):=by
  refine⟨λb v e n=>?_,λb xs e=>?_,λb v e=>?_⟩
  ·rw[jf λz=>n (by rw[z];simp)];exact e
  ·rw[jf λz=>by rw[z,I.hx]at e;cases e];exact e
  ·by_cases z:b=x
   ·rw[z,je];exact⟨_,rfl⟩
   ·rw[jf z];exact⟨v,e⟩
 exact⟨I.to k je ⟨u1,by rw[jf (I.nx h1).symm];exact h1,g1.kp k⟩ ⟨u2,by rw[jf (I.nx h2).symm];exact h2,g2.kp k⟩,k⟩
theorem SR.addP(I:SR P1 P2 H x C dx pw pr pq ws p R W)(c:SK K C){D:Ends}{z:Int}(e:σ[i]?=some (some (.ref x)))(q:D.nx σ (upd H x (.ins C dx (SF pw ((p:Int)+z) pr pq)))):jiw K (tVar i) (tC (.int z)) rAdd "place" D σ H:=⟨.ref x,e,x,C,dx,_,.int (p:Int),rfl,I.hx,c.cls,c.place,rfl,p,z,rfl,rfl,dx,_,I.hx,by simp[SF],q⟩
theorem SR.push(I:SR P1 P2 H x C dx pw pr pq ws p R W){us:List V}(h2:H pq=some (.lst us))(g2:FrsAt H us W.reverse){a:Addr}{f:Fr}(ha:H a=some (.tup (frV f))):SR P1 P2 (upd H pq (.lst (us++[.ref a]))) x C dx pw pr pq ws p R (f::W)/\Kp [x,pr,pq] H (upd H pq (.lst (us++[.ref a]))):=by
 obtain⟨u1,h1,g1⟩:=I.hr
 have k:Kp [x,pr,pq] H (upd H pq (.lst (us++[.ref a]))):=(Kp.refl _ H).set h2 (.inl (.tail _ (.tail _ (.head _))))
 refine⟨I.to k (by rw[jf (I.nx h2)];exact I.hx) ⟨u1,by rw[jf I.n1];exact h1,g1.kp k⟩ ⟨_,je,?_⟩,k⟩
 rw[Wu]
 exact Uz (g2.kp k) ⟨a,rfl,k.tup _ _ ha⟩
theorem SR.pop(I:SR P1 P2 H x C dx pw pr pq ws p R W){us:List V}(h2:H pq=some (.lst us))(g2:FrsAt H us W.reverse){f:Fr}{W':List Fr}(e:W=f::W'):∃a,us[us.length-1]?=some (.ref a)/\H a=some (.tup (frV f))/\SR P1 P2 (upd H pq (.lst us.dropLast)) x C dx pw pr pq ws p R W'/\Kp [x,pr,pq] H (upd H pq (.lst us.dropLast)):=by
 obtain⟨u1,h1,g1⟩:=I.hr
 subst e
 have k:Kp [x,pr,pq] H (upd H pq (.lst us.dropLast)):=(Kp.refl _ H).set h2 (.inl (.tail _ (.tail _ (.head _))))
 rw[Wu]at g2
 have ul:us.length=W'.length+1:=by rw[A5 g2];simp
 obtain⟨v,ev⟩:∃v,us[us.length-1]?=some v:=⟨_,An (by omega)⟩
 obtain⟨r,er,a,rfl,ha⟩:=jb1 g2 ev
 rw[Ik (by simp;omega)]at er
 have:us.length-1-W'.reverse.length=0:=by simp;omega
 rw[this]at er
 cases er
 refine⟨a,ev,ha,I.to k (by rw[jf (I.nx h2)];exact I.hx) ⟨u1,by rw[jf I.n1];exact h1,g1.kp k⟩ ⟨_,je,?_⟩,k⟩
 have:=jcj g2
 rw[List.dropLast_concat]at this
 exact FrsAt.kp k this
end
section
variable{K:PySem.W.Frag}{H:Hp}{x C dx:Addr}{fs fs':List (Str×V)}{f:Str}{σ:L2.St}{i:Nat}{D:Ends}
theorem jni(e:σ[i]?=some (some (.ref x)))(hx:H x=some (.ins C dx fs))(c:Cls K C)(n:NoAttr K C f)(l:fs.length<1000)(q:∀p,H p=none->D.nx σ (upd (upd H p (.lst [])) x (.ins C dx (putF f (.ref p) fs)))):sFld K (tVar i) (tLst tNil) f D σ H :=
 ⟨Ix _,λp hp=>⟨.ref x,e,x,C,dx,fs,rfl,by rw[jf (jl hx hp)];exact hx,c,n,l,q p hp⟩⟩
theorem jst{v:V}(e:σ[i]?=some (some (.ref x)))(hx:H x=some (.ins C dx fs))(c:Cls K C)(n:NoAttr K C f)(l:fs.length<1000)(q:D.nx σ (upd H x (.ins C dx (putF f v fs)))):sFld K (tVar i) (tC v) f D σ H:=⟨.ref x,e,x,C,dx,fs,rfl,hx,c,n,l,q⟩
theorem jsu{v:V}{j:Nat}(ev:σ[j]?=some (some v))(e:σ[i]?=some (some (.ref x)))(hx:H x=some (.ins C dx fs))(c:Cls K C)(n:NoAttr K C f)(l:fs.length<1000)(q:D.nx σ (upd H x (.ins C dx (putF f v fs)))):sFld K (tVar i) (tVar j) f D σ H:=⟨v,ev,.ref x,e,x,C,dx,fs,rfl,hx,c,n,l,q⟩
theorem jl3{S:List Addr}(e:H x=some (.ins C dx fs))(m:x∈S):Kp S H (upd H x (.ins C dx fs')):=by
 refine⟨λb v e' n=>?_,λb xs e'=>?_,λb v e'=>?_⟩
 ·rw[jf λz=>n (by rw[z];exact m)];exact e'
 ·rw[jf λz=>by rw[z,e]at e';cases e'];exact e'
 ·by_cases z:b=x
  ·rw[z,je];exact⟨_,rfl⟩
  ·rw[jf z];exact⟨v,e'⟩
theorem jjz{S:List Addr}{p:Addr}(hx:H x=some (.ins C dx fs))(hp:H p=none)(m:x∈S):upd (upd H p (.lst [])) x (.ins C dx fs') x=some (.ins C dx fs')/\upd (upd H p (.lst [])) x (.ins C dx fs') p=some (.lst [])/\Kp S H (upd (upd H p (.lst [])) x (.ins C dx fs')):=by
 have ne:=jl hx hp
 have h1:upd H p (.lst []) x=some (.ins C dx fs):=by rw[jf ne];exact hx
 exact⟨je,by rw[jf ne.symm,je],((Kp.refl S H).new hp).trans (jl3 h1 m)⟩
end
structure TPt(K:PySem.W.Frag)(mg:Str->Option Value)(C:Addr):Prop where
 n_len:mg "len"=none
 rc:SK K C
section
variable{P:Program}{w:World}{K:PySem.W.Frag}{mg:Str->Option Value}{base:Heap}
def spPR(P1 P2 C:Addr):Sp:=λvs H Q _=>∃(x dx pw pr pq a:Addr)(ws:List Str)(p:Nat)(R:List RS)(W:List Fr)(r:RS),vs=[.ref x,.ref a]/\SR P1 P2 H x C dx pw pr pq ws p R W/\H a=some (.tup (rowV r))/\R.length<=100000 /\
 ∀H',SR P1 P2 H' x C dx pw pr pq ws p (R++[r]) W->Kp [x,pr,pq] H H'->Q (.int (R.length:Int)) H'
abbrev z0:Stmt:=je1 (top 26) 6
theorem sc_Rd_put_row:FnScope ["self","row"] ["self","row"] (jk z0):=⟨rfl,rfl,rfl,by decide +kernel,rfl,by decide +kernel,by decide +kernel⟩
theorem ok_put_row{f C P1 P2:Addr}{fd:FuncData}(F:Fun K "put_row" "SayingReading.put_row" z0 f fd)(T:TPt K mg C):FnOk P w K mg base CX0 1 f fd ["self","row"] (spPR P1 P2 C):=by
 refine F.ok sc_Rd_put_row (λvs H Q E h=>?_) (λcdv A outer s H vs Q E hr h=>?_)
 ·obtain⟨x,dx,pw,pr,pq,a,ws,p,R,W,r,rfl,_⟩:=h
  rfl
 ·obtain⟨x,dx,pw,pr,pq,a,ws,p,R,W,r,rfl,I,ha,r9,k⟩:=h
  have hu:=hr.units
  have hsz:sizeLine=16777216:=Ak
  obtain⟨us,er,rr⟩:=I.hr
  obtain⟨u2,h2,g2⟩:=I.hq
  have ul:us.length=R.length:=A5 rr
  refine exQ (jh (kj (yd Ax Ay ki (yb (K:=K) rfl (qpv 0)) (jc (qpv 1) jd) (jet (jf4 _))))
  (jj (jr (jq jaf (jv kh (by rfl) T.n_len km (jc (yb (K:=K) rfl (qpv 0)) jd)) ji)))) ?_
  simp!
  refine I.rows T.rc rfl ⟨by show(jdc (H pr)).isSome=true;rw[er];rfl,?_⟩
  rw[jdk,er]
  refine⟨_,rfl,by omega,?_⟩
  have k1:Kp [x,pr,pq] H (upd H pr (.lst (us++[.ref a]))):=(Kp.refl _ H).set er (.inl (.tail _ (.head _)))
  have e1:upd H pr (.lst (us++[.ref a])) pr=some (.lst (us++[.ref a])):=je
  have I1:SR P1 P2 (upd H pr (.lst (us++[.ref a]))) x C dx pw pr pq ws p (R++[r]) W:=I.to k1 (by rw[jf (I.nx er)];exact I.hx) ⟨_,je,Uz (rr.kp k1) ⟨a,rfl,k1.tup _ _ ha⟩⟩ ⟨u2,by rw[jf I.n1.symm];exact h2,g2.kp k1⟩
  generalize upd H pr (.lst (us++[.ref a]))=H1 at k1 I1 e1⊢
  refine I1.rows T.rc rfl ?_
  rw[jee,e1]
  refine⟨_,rfl,?_⟩
  have e3:(((us++[V.ref a]).length:Int)-1)=(R.length:Int):=by rw[Ap,List.length_singleton];omega
  simp! [e3]
  exact k _ I1 k1
def spIn(P1 P2 C:Addr):Sp:=λvs H Q _=>∃(x dx pw:Addr)(ws:List Str),vs=[.ref x,.ref pw]/\H x=some (.ins C dx [])/\H pw=some (.lst (ws.map V.str))/\TabOk H P1 LQ1/\TabOk H P2 LQ2 /\
 ∀H' pr pq,SR P1 P2 H' x C dx pw pr pq ws 0 [] []->H pr=none->H pq=none->Kp [x] H H'->Q .non H'
abbrev jas:Stmt:=je1 (top 26) 0
theorem sc_Rd_init:FnScope ["self","words"] ["self","words"] (jk jas):=⟨rfl,rfl,rfl,by decide +kernel,rfl,by decide +kernel,by decide +kernel⟩
theorem ok_init{f C P1 P2:Addr}{fd:FuncData}(F:Fun K "__init__" "SayingReading.__init__" jas f fd)(rc:SK K C):FnOk P w K mg base CX0 1 f fd ["self","words"] (spIn P1 P2 C):=by
 refine F.ok sc_Rd_init (λvs H Q E h=>?_) (λcdv A outer s H vs Q E hr h=>?_)
 ·obtain⟨x,dx,pw,ws,rfl,_⟩:=h
  rfl
 ·obtain⟨x,dx,pw,ws,rfl,hx,hw,t1,t2,k⟩:=h
  have hu:=hr.units
  have hsz:sizeLine=16777216:=Ak
  refine exQ (jh (jbu (K:=K) rfl (qpv 0) (qpv 1))
  (jh (jbu (K:=K) rfl (qpv 0) ji)
  (jh (jbu (K:=K) rfl (qpv 0) (j6 jd))
  (jj (jbu (K:=K) rfl (qpv 0) (j6 jd)))))) ?_
  simp!
  have nt:∀{H1:Hp}{fs:List (Str×V)}{T:Addr}{qq:Str},H1 x=some (.ins C dx fs)->TabOk H1 T qq->T∉[x]:=λe t m=>by
   obtain⟨ps,h,_⟩:=t
   rw[Ao.mp m,e]at h
   cases h
  have nf:∀{H1:Hp}{fs:List (Str×V)},H1 x=some (.ins C dx fs)->∀c o,H1 c=some (FZ o)->c∉[x]:=λe c o h m=>by rw[Ao.mp m,e]at h;cases h
  have nl:∀{H1:Hp}{fs:List (Str×V)}{b:Addr}{xs:List V},H1 x=some (.ins C dx fs)->H1 b=some (.lst xs)->b∉[x]:=λe h m=>by rw[Ao.mp m,e]at h;cases h
  refine jsu rfl rfl hx rc.cls rc.words (by simp) ?_
  have k1:=jl3 (S:=[x]) (fs':=putF "words" (.ref pw) []) hx (.head _)
  have x1:upd H x (.ins C dx (putF "words" (.ref pw) [])) x=_:=je
  have w1:=k1.old _ _ hw (nl hx hw)
  have a1:=t1.kp k1 (nt hx t1) (nf hx)
  have b1:=t2.kp k1 (nt hx t2) (nf hx)
  generalize upd H x (.ins C dx (putF "words" (.ref pw) []))=H1 at k1 x1 w1 a1 b1⊢
  simp!
  refine jst rfl x1 rc.cls rc.place (Yj (Uj (rfl:List.length _=1)) (by decide)) ?_
  have k2:=jl3 (S:=[x]) (fs':=putF "place" (.int 0) (putF "words" (.ref pw) [])) x1 (.head _)
  have x2:upd H1 x (.ins C dx (putF "place" (.int 0) (putF "words" (.ref pw) []))) x=_:=je
  have w2:=k2.old _ _ w1 (nl x1 w1)
  have a2:=a1.kp k2 (nt x1 a1) (nf x1)
  have b2:=b1.kp k2 (nt x1 b1) (nf x1)
  generalize upd H1 x (.ins C dx (putF "place" (.int 0) (putF "words" (.ref pw) [])))=H2 at k2 x2 w2 a2 b2⊢
  simp!
  refine jni rfl x2 rc.cls rc.rows (Yj (Uj (rfl:List.length _=2)) (by decide)) λpr hpr=>?_
  obtain⟨x3,p3,k3⟩:=jjz (S:=[x]) x2 hpr (fs':=putF "rows" (.ref pr) (putF "place" (.int 0) (putF "words" (.ref pw) []))) (.head _)
  have w3:=k3.old _ _ w2 (nl x2 w2)
  have a3:=a2.kp k3 (nt x2 a2) (nf x2)
  have b3:=b2.kp k3 (nt x2 b2) (nf x2)
  have hpr0:=(k1.trans k2).free hpr
  have n2:pw≠pr:=jl w2 hpr
  generalize upd (upd H2 pr (.lst [])) x (.ins C dx (putF "rows" (.ref pr) (putF "place" (.int 0) (putF "words" (.ref pw) []))))=H3 at k3 x3 p3 w3 a3 b3⊢
  simp!
  refine jni rfl x3 rc.cls rc.waiting (Yj (Uj (rfl:List.length _=3)) (by decide)) λpq hpq=>?_
  obtain⟨x4,p4,k4⟩:=jjz (S:=[x]) x3 hpq (fs':=SF pw 0 pr pq) (.head _)
  have w4:=k4.old _ _ w3 (nl x3 w3)
  have q4:=k4.old _ _ p3 (nl x3 p3)
  have a4:=a3.kp k4 (nt x3 a3) (nf x3)
  have b4:=b3.kp k4 (nt x3 b3) (nf x3)
  have hpq0:=((k1.trans k2).trans k3).free hpq
  exact k _ pr pq ⟨x4,w4,⟨[],q4,.nil⟩,⟨[],p4,.nil⟩,jl p3 hpq,n2,jl w3 hpq,a4,b4⟩ hpr0 hpq0 (((k1.trans k2).trans k3).trans k4)
end
theorem jub{ws:List Str}{p:Nat}{z:Str}{r:List Str}(h:ws.drop p=z::r):ws[p]?=some z/\ws.drop (p+1)=r:=by
 have hp:p<ws.length:=by
  apply Wf
  intro c
  rw[Wb.mpr (by omega)]at h
  cases h
 rw[A6 hp]at h
 simp only[Iz]at h
 exact⟨by rw[An hp,h.1],h.2⟩
inductive Du where
 |sy|nm|rl|lk|en|lt
def jda:Du->Str->Option (List Du)
 |.sy,w=>if w=Str.ofString "yes"then some []else if w=Str.ofString "not"then some [.sy]else if w=Str.ofString "some"\/w=Str.ofString "each"then some [.nm,.sy]else if w=Str.ofString "("then some [.sy,.lk,.sy,.en]else if isNm w=true then some [.rl]else none
 |.rl,w=>if w=Str.ofString "is"then some [.lt]else if w=Str.ofString "<"then some [.nm]else none
 |.nm,w=>if isNm w=true then some []else none
 |.lk,w=>if w=Str.ofString "and"\/w=Str.ofString "or"then some []else none
 |.en,w=>if w=Str.ofString ")"then some []else none
 |.lt,w=>if smB w=true then some []else none
def fw:Nat->List Du->List Str->Option Nat
 |_,[],[]=>none
 |p,_::_,[]=>some p
 |p,[],_::_=>some p
 |p,d::ds,w::ws=>match jda d w with
  |none=>some p
  |some m=>fw (p+1) (m++ds) ws
def duW:List Fr->List Du
 |[]=>[]
 |.nt::W=>duW W
 |.qn _ _::W=>duW W
 |.op::W=>.lk::.sy::.en::duW W
 |.bi _ _::W=>.en::duW W
theorem jej{p:Nat}{d:Du}{ds:List Du}{ws:List Str}(h:∀z,ws[p]?=some z->jda d z=none):fw p (d::ds) (ws.drop p)=some p:=by
 cases e:ws.drop p with
 |nil=>rfl
 |cons z r =>
  have:=h z (jub e).1
  simp only[fw,this]
theorem jem{p:Nat}{d:Du}{ds m:List Du}{ws:List Str}{z:Str}(e:ws[p]?=some z)(h:jda d z=some m):fw p (d::ds) (ws.drop p)=fw (p+1) (m++ds) (ws.drop (p+1)):=by
 have hp:=(Ab.mp e)
 rw[A6 hp.1,hp.2]
 simp only[fw,h]
def meth(st:Stmt):Stmt:=je1 st 0
def jkh(K:PySem.W.Frag)(fld:Str)(ok:V->Hp->Prop):Sp:=λvs H Q _=>∃(e C D N:Addr)(x:V),vs=[.ref e,x]/\H e=some (ExO e C none)/\XC K C D N/\PySem.W.findIn K (.ref C) fld=some none/\ok x H /\
 ∀dx,H dx=none->Q .non (upd (upd H dx (.xd [(fld,x)])) e (ExO e C (some dx)))
def okI:V->Hp->Prop:=λx _=>∃i:Int,x=.int i/\i.natAbs<10^20
structure TIni(K:PySem.W.Frag)(mg:Str->Option Value)(D:Addr):Prop where
 m_CalmError:mg "CalmError"=some (.ref D)
 xd:XD K D
theorem jth{H:Hp}{e dx:Addr}{o1 o2 d:HO}(he:H e=none)(hd:upd H e o1 dx=none):Kp [] H (jd9 (upd (upd (upd H e o1) dx d) e o2) e)/\jd9 (upd (upd (upd H e o1) dx d) e o2) e dx=some d:=by
 have ne:dx≠e:=λz=>by rw[z,je]at hd;cases hd
 rw[jf ne]at hd
 have go:∀a u,H a=some u->jd9 (upd (upd (upd H e o1) dx d) e o2) e a=some u:=λa u h=>by
  have n1:=jl h he
  have n2:=jl h hd
  rw[jdz n1,jf n1,jf n2,jf n1];exact h
 exact⟨⟨λa u h _=>go a u h,λa xs h=>go a _ h,λa u h=>⟨u,go a u h⟩⟩,by rw[jdz ne,jf ne,je]⟩
def BT(E:XK)(cT P1 P2:Addr)(H:Hp)(S:List Addr)(i:Nat):Prop:=∀dx H',Kp S H H'->H' dx=some (.xd [("at",.int (i:Int))])->TabOk H' P1 LQ1->TabOk H' P2 LQ2->E (.ref cT) (some dx) H'
theorem BT.up{E:XK}{cT P1 P2:Addr}{H H1:Hp}{S S':List Addr}{i:Nat}(h:BT E cT P1 P2 H S' i)(k:Kp S' H H1)(m:∀y∈S,y∈S'):BT E cT P1 P2 H1 S i:=λdx H' k' e t1 t2=>h dx H' (k.trans (k'.mono m)) e t1 t2
structure TBt(K:PySem.W.Frag)(mg:Str->Option Value)(cT NT D fT:Addr):Prop where
 m_BadText:mg "BadText"=some (.ref cT)
 c_BadText:XC K cT D NT
 i_BadText:PySem.W.nsIn K NT "__init__"=some (some (.ref fT))
 f_BadText:∃o,K.lookup fT=some o/\o.cls=.type "function"
 nfT:PySem.W.findIn K (.ref cT) "at"=some none
section
variable{P:Program}{w:World}{K:PySem.W.Frag}{mg:Str->Option Value}{base:Heap}
abbrev yx:Stmt:=meth (top 2)
theorem sc_BadText__init__:FnScope ["self","at"] ["self","at"] (jk yx):=⟨rfl,rfl,rfl,by decide +kernel,rfl,by decide +kernel,by decide +kernel⟩
theorem ok_BadText__init__{f D0:Addr}{fd:FuncData}(F:Fun K "__init__" "BadText.__init__" yx f fd)(T:TIni K mg D0):FnOk P w K mg base CX0 1 f fd ["self","at"] (jkh K "at" okI):=by
 refine F.ok sc_BadText__init__ (λvs H Q E h=>?_) (λcdv A outer s H vs Q E hr h=>?_)
 ·obtain⟨e,C,D,N,x,rfl,_⟩:=h
  rfl
 ·obtain⟨e,C,D,N,x,rfl,he,c,nf,ok,k⟩:=h
  have hu:=hr.units
  have hgd:=hr.gd
  have hsz:sizeLine=16777216:=Ak
  have l0:(Str.empty++Str.ofString "not the form that is due at ").length<=100:=by decide +kernel
  obtain⟨i,rfl,hi⟩:=ok
  refine⟨_,(QSs.h (jh (kj (qpe_excInit rfl T.xd rfl T.m_CalmError (jc (qpv 0) (jc (jbj (jaq jg (jaq (qpe_fmtI (qpv 1)) jcd))) jd))))
  (jj (qps_excSet rfl (qpv 0) (qpv 1) rfl)))),?_⟩
  simp!
  refine⟨by omega,hi,λz hz=>⟨by rw[jdj];omega,by rw[jdj];omega,e,_,⟨rfl,rfl⟩,C,he,D,N,c,C,he,D,N,c,nf,k⟩⟩
theorem jg8{cT NT D fT P1 P2:Addr}(T:TBt K mg cT NT D fT){E:XK}{H H1:Hp}{S:List Addr}{i:Nat}(kp:Kp S H H1)(hi:i<=200000)(t1:TabOk H1 P1 LQ1)(t2:TabOk H1 P2 LQ2)(kT:BT E cT P1 P2 H S i):∀e,H1 e=none->jkh K "at" okI [.ref e,.int (i:Int)] (upd H1 e (ExO e cT none)) (λv H2=>v=.non/\∃C D' N dx,H2 e=some (ExO e C dx)/\XC K C D' N/\H e=none/\E (.ref C) dx (jd9 H2 e)) E0:=by
 intro e he
 refine⟨e,cT,D,NT,_,rfl,je,T.c_BadText,T.nfT,⟨_,rfl,by omega⟩,λdx hdx=>⟨rfl,?_⟩⟩
 obtain⟨k3,e3⟩:=jth (o2:=ExO e cT (some dx)) (d:=.xd [("at",.int (i:Int))]) he hdx
 exact⟨cT,D,NT,some dx,je,T.c_BadText,kp.free he,kT dx _ (kp.trans (k3.mono (by simp))) e3 (t1.kp k3 (by simp) (by simp)) (t2.kp k3 (by simp) (by simp))⟩
def FitB(P:Program)(w:World)(K:PySem.W.Frag)(mg:Str->Option Value)(base:Heap)(H:Hp)(g:Addr)(z:Str)(b:Bool):Prop:=∃(o:Obj)(fd:FuncData)(ps:List Str)(sp:Sp),o.data=.func fd/\FnOk P w K mg base CX0 3 g fd ps sp/\Binds K fd ps []/\FnIn K H g o/\∀Q:VK,(∀H',Kp [] H H'->Q (.bl b) H')->sp [.str z] H Q E0
def spTk(P:Program)(w:World)(K:PySem.W.Frag)(mg:Str->Option Value)(base:Heap)(P1 P2 C cT:Addr):Sp:=λvs H Q E=>∃(x dx pw pr pq g:Addr)(ws:List Str)(p:Nat)(R:List RS)(W:List Fr)(ft:Str->Bool),vs=[.ref x,.ref g]/\SR P1 P2 H x C dx pw pr pq ws p R W/\p<=ws.length/\ws.length<=100000/\(∀z,ws[p]?=some z->FitB P w K mg base H g z (ft z)) /\
 (∀z H',ws[p]?=some z->ft z=true->SR P1 P2 H' x C dx pw pr pq ws (p+1) R W->Kp [x,pr,pq] H H'->Q (.str z) H')/\((∀z,ws[p]?=some z->ft z=false)->BT E cT P1 P2 H [x,pr,pq] p)
structure TTk(K:PySem.W.Frag)(mg:Str->Option Value)(C cT NT D fT:Addr):Prop extends TBt K mg cT NT D fT where
 n_len:mg "len"=none
 rc:SK K C
abbrev jat:Stmt:=je1 (top 26) 1
theorem sc_Rd_take:FnScope ["self","fits"] ["self","fits"] (jk jat):=⟨rfl,rfl,rfl,by decide +kernel,rfl,by decide +kernel,by decide +kernel⟩
theorem ok_take{f C P1 P2 cT NT D fT:Addr}{fd fdT:FuncData}(F:Fun K "take" "SayingReading.take" jat f fd)(T:TTk K mg C cT NT D fT)(b_BadText:Binds K fdT ["self","at"] [])(G_BadText:FnOk P w K mg base CX0 1 fT fdT ["self","at"] (jkh K "at" okI)) :
  FnOk P w K mg base (CXE P w) 4 f fd ["self","fits"] (spTk P w K mg base P1 P2 C cT):=by
 refine F.okE sc_Rd_take (λvs H Q E h=>?_) (λcdv A outer s H vs Q E hr h=>?_)
 ·obtain⟨x,dx,pw,pr,pq,g,ws,p,R,W,ft,rfl,_⟩:=h
  rfl
 ·obtain⟨x,dx,pw,pr,pq,g,ws,p,R,W,ft,rfl,I,pl,w9,hf,k,kE⟩:=h
  have hu:=hr.units
  have hsz:sizeLine=16777216:=Ak
  refine exQ (jh (j7 (QW.pt (jag (jp (j9 hu) (yb (K:=K) rfl (qpv 0)) (jv kh (by rfl) T.n_len km (jc (yb (K:=K) rfl (qpv 0)) jd)) (jt _)) (jad (jbd (zd (qpe_callA (P:=P) (w:=w) (K:=K) (mg:=mg) (base:=base) (k:=3) rfl rfl rfl rfl rfl 1 (hr.mono (by decide)) (jc (ju ix_U (yb (K:=K) rfl (qpv 0)) (yb (K:=K) rfl (qpv 0)) (λ_ _=>rfl)) jd))))))) (jj (jcp rfl rfl rfl leaves_of (jcv rfl T.c_BadText T.i_BadText T.f_BadText G_BadText (hr.mono (by decide)) b_BadText rfl T.m_BadText (jc (yb (K:=K) rfl (qpv 0)) jd)))) jx)
  (jh (qps_fldaug (K:=K) rfl (qpv 0) ji jtb)
  (jj (jr (ju ix_U (yb (K:=K) rfl (qpv 0)) (jq jaf (yb (K:=K) rfl (qpv 0)) ji) (λ_ _=>rfl)))))) ?_
  simp!
  refine I.place T.rc rfl (I.words T.rc rfl ?_)
  rw[jee,I.hw]
  refine⟨_,rfl,?_⟩
  rw[Ae]
  simp!
  refine ite2 (λh=>?_) (λh=>?_)
  ·refine I.place T.rc rfl ?_
   have en:ws[p]?=none:=U6 (by omega)
   exact jg8 T.toTBt (Kp.refl _ _) (by omega) I.t1 I.t2 (kE λz e=>by rw[en]at e;cases e)
  ·have pl':p<ws.length:=by omega
   obtain⟨z,ez⟩:∃z,ws[p]?=some z:=⟨_,An pl'⟩
   obtain⟨o,fd',ps,sp,hd,Fo,hb,hin,hy⟩:=hf z ez
   refine⟨g,o,fd',ps,sp,rfl,hd,Fo,hb,?_⟩
   simp!
   refine I.words T.rc rfl (I.place T.rc rfl (ixL I.hw (by rw[A3,ez];rfl) ⟨hin,hy _ λH1 k1=>⟨ft z,rfl,?_⟩⟩))
   have I1:=I.keep k1
   cases ef:ft z with
   |false =>
    rw[Af (by decide)]
    refine I1.place T.rc rfl ?_
    exact jg8 T.toTBt (k1.mono (by simp)) (by omega) I1.t1 I1.t2 (kE λz' e=>by rw[ez]at e;cases e;exact ef)
   |true =>
    rw[Aa (by decide)]
    refine I1.addP T.rc rfl ?_
    obtain⟨I2,k2⟩:=I1.step (p+1)
    have e2:((p:Int)+1)=((p+1:Nat):Int):=by omega
    rw[e2]
    simp!
    have e3:(((p+1:Nat):Int)-1)=(p:Int):=by omega
    refine I2.words T.rc rfl (I2.place T.rc rfl ?_)
    simp! [e3]
    exact ixL I2.hw (by rw[A3,ez];rfl) (k z _ ez ef I2 ((k1.mono (by simp)).trans k2))
def spEd(P1 P2 C cT:Addr):Sp:=λvs H Q E=>∃(x dx pw pr pq:Addr)(ws:List Str)(p:Nat)(R:List RS)(W:List Fr),vs=[.ref x]/\SR P1 P2 H x C dx pw pr pq ws p R W/\p<=ws.length/\ws.length<=100000/\(p=ws.length->Q .non H)/\(p<ws.length->BT E cT P1 P2 H [x,pr,pq] p)
abbrev jay:Stmt:=je1 (top 26) 5
theorem sc_Rd_end:FnScope ["self"] ["self"] (jk jay):=⟨rfl,rfl,rfl,by decide +kernel,rfl,by decide +kernel,by decide +kernel⟩
theorem ok_end{f C P1 P2 cT NT D fT:Addr}{fd fdT:FuncData}(F:Fun K "end" "SayingReading.end" jay f fd)(T:TTk K mg C cT NT D fT)(b_BadText:Binds K fdT ["self","at"] [])(G_BadText:FnOk P w K mg base CX0 1 fT fdT ["self","at"] (jkh K "at" okI)) :
  FnOk P w K mg base (CXE P w) 4 f fd ["self"] (spEd P1 P2 C cT):=by
 refine F.okE sc_Rd_end (λvs H Q E h=>?_) (λcdv A outer s H vs Q E hr h=>?_)
 ·obtain⟨x,dx,pw,pr,pq,ws,p,R,W,rfl,_⟩:=h
  rfl
 ·obtain⟨x,dx,pw,pr,pq,ws,p,R,W,rfl,I,pl,w9,k,kE⟩:=h
  have hu:=hr.units
  refine exQ (jj (j7 (jp jau (yb (K:=K) rfl (qpv 0)) (jv kh (by rfl) T.n_len km (jc (yb (K:=K) rfl (qpv 0)) jd)) (jt _)) (jj (jcp rfl rfl rfl leaves_of (jcv rfl T.c_BadText T.i_BadText T.f_BadText G_BadText (hr.mono (by decide)) b_BadText rfl T.m_BadText (jc (yb (K:=K) rfl (qpv 0)) jd)))) jx)) ?_
  simp!
  refine I.place T.rc rfl (I.words T.rc rfl ?_)
  rw[jee,I.hw]
  refine⟨_,rfl,?_⟩
  rw[Ae]
  simp!
  refine ite2 (λh=>?_) (λh=>k (by omega))
  refine I.place T.rc rfl ?_
  exact jg8 T.toTBt (Kp.refl _ _) (by omega) I.t1 I.t2 (kE (by omega))
end
theorem in2{K:PySem.W.Frag}{H:Hp}{z a b:Str}{Q:VK}(q:∀p,H p=none->Q (.bl (decide (z=a\/z=b))) (upd H p (.tup [.str a,.str b]))):2<=sizeLine/\∀p,H p=none->rInU K false (.str z) (.ref p) (upd H p (.tup [.str a,.str b])) Q:=by
 refine⟨by rw[Ak];decide,λp hp=>rInU.tupS (SqT.of je) rfl rfl ?_⟩
 have:inV (.str z) [V.str a,V.str b]=decide (z=a\/z=b):=by
  rw[Oj]
  simp[inV,eqV]
  constructor
  ·rintro(h|h)
   ·exact .inl h.symm
   ·exact .inr h.symm
  ·rintro(h|h)
   ·exact .inl h.symm
   ·exact .inr h.symm
 show Q (.bl (inV (.str z) [V.str a,V.str b])) _
 rw[this]
 exact q p hp
theorem jjd(H:Hp):hideC H []=H:=funext λb=>by simp[hideC]
theorem jou(H H':Hp):backC H H' []=H':=funext λb=>by simp[backC]
theorem Caps.none(H:Hp):Caps H [] [] []:=⟨rfl,(λi x v e=>by simp at e),(λx hx=>nomatch hx),(λp hp=>nomatch hp),(λx y c e=>by cases e)⟩
theorem us1{C:List Value->Prop}(h:∀v0:Value,C [v0])(us:List Value)(e:us.length=1):C us:=by
 cases us with
 |nil=>exact absurd e.symm (Im _)
 |cons v0 us =>
  cases us with
  |nil=>exact h v0
  |cons _ _=>exact absurd (Ii (e)) (Im _)
section
variable{P:Program}{w:World}{K:PySem.W.Frag}{mg:Str->Option Value}{base:Heap}
theorem jik{nm qual:Str}{st:Stmt}{f:Addr}{fd:FuncData}{ps:List Str}{sp:Sp}{j:Nat}{H:Hp}{z:Str}{bb:Bool}(F:Fun K nm qual st f fd)(G:FnOk P w K mg base CX0 j f fd ps sp)(hj:j<=3)(b:Binds K fd ps [])(hy:∀Q:VK,(∀H',Kp [] H H'->Q (.bl bb) H')->sp [.str z] H Q E0):FitB P w K mg base H f z bb:=by
 obtain⟨oc,od,kV,doc,pm,an,cdv,ct,osl,rfl,lk,hcd⟩:=F.ex
 exact⟨_,_,ps,sp,rfl,G.mono hj,b,.inr lk,hy⟩
theorem jk5{f:Addr}{fd:FuncData}{H:Hp}{z:Str}(F:Fun K "is_name" "is_name" y3 f fd)(b:Binds K fd ["text"] [])(G:FnOk P w K mg base CX0 1 f fd ["text"] spNm)(l:z.length<=sizeLine):FitB P w K mg base H f z (isNm z) :=
 jik F G (by decide) b λQ q=>⟨z,rfl,l,λH' k=>q H' k⟩
theorem jo9{f:Addr}{fd:FuncData}{H:Hp}{z:Str}(F:Fun K "is_small_letter" "is_small_letter" ya f fd)(b:Binds K fd ["word"] [])(G:FnOk P w K mg base CX0 1 f fd ["word"] spSl)(l:z.length<=sizeLine):FitB P w K mg base H f z (smB z) :=
 jik F G (by decide) b λQ q=>⟨z,rfl,l,λH' k=>q H' k⟩
theorem jo8{f:Addr}{fd:FuncData}{H:Hp}{z:Str}(F:Fun K "begins_saying" "begins_saying" ym f fd)(b:Binds K fd ["word"] [])(G:FnOk P w K mg base CX0 2 f fd ["word"] spBs)(l:z.length<=sizeLine):FitB P w K mg base H f z (bgB z) :=
 jik F G (by decide) b λQ q=>⟨z,rfl,l,λH' k=>q H' k⟩
theorem jil{qual:Str}{params:Arguments}{body:Expr}{scope:Scope}{pm:Value}{f c:Addr}{ct:Value}{H:Hp}{z:Str}{bb:Bool}(S:LamScope ["word"] [] scope)(hb:Binds K (PySem.W.kla_fn "<lambda>" qual params body scope [] pm (.ref c) ct) ["word"] [])
  (e:H f=some (FZ (PySem.W.kla_obj "<lambda>" qual params body scope [] pm c ct))) (cz:CodeZ H c qual)
  (hq:∀(H:Hp)(Q:VK),(∀H',Kp [] H H'->Q (.bl bb) H')->∀(A:Around)(outer:List Env)(s:Shared),Room 2 (A.deeper (PySem.W.envX qual scope s.heap.objs.size f (.ref c) []))->∃t,PE (jhe P w K mg base ["word"] qual scope f (.ref c) [] A outer s H) body t/\t [some (.str z)] H Q):FitB P w K mg base H f z bb:=by
 refine⟨PySem.W.kla_obj "<lambda>" qual params body scope [] pm c ct,PySem.W.kla_fn "<lambda>" qual params body scope [] pm (.ref c) ct,["word"],λvs H Q _=>vs=[.str z]/\H f=some (FZ (PySem.W.kla_obj "<lambda>" qual params body scope [] pm c ct))/\CodeZ H c qual/\∀H',Kp [] H H'->Q (.bl bb) H',rfl,?_,hb,.inl e,λQ q=>⟨rfl,e,cz,q⟩⟩
 refine js9 (fs:=[]) S (λvs H Q E h=>by rw[h.1];rfl) (λvs H Q E h=>?_)
 obtain⟨rfl,e1,c1,q⟩:=h
 refine⟨e1,c1,[],Caps.none H,λA outer s hr=>?_⟩
 obtain⟨t,ht,h⟩:=hq H (λv H'=>(∀c∈([]:List (Str×Addr)).map Prod.snd,H' c=none)->Q v (backC H H' (([]:List (Str×Addr)).map Prod.snd))) (λH' k _=>by show Q _ (backC H H' []);rw[jou];exact q H' k) A outer s hr
 refine⟨t,?_,?_⟩
 ·show PE (jhe P w K mg base ["word"] qual scope f (.ref c) [] A outer s (hideC H [])) body t
  rw[jjd]
  exact ht
 ·show t [some (.str z)] (hideC H []) _
  rw[jjd]
  exact h
abbrev yt:Stmt:=je1 (top 26) 3
theorem sc_Rd_row_of_name:FnScope ["self","name"] ["self","name"] (jk yt):=⟨rfl,rfl,rfl,by decide +kernel,rfl,by decide +kernel,by decide +kernel⟩
def lam1:Expr:=match jy yt with
 |.If (.Compare (.Call _ [l] _ _) _ _ _) _ _ _::_=>l
 |_=>.Name "" ⟨0,0,0,0⟩
def lamA(l:Expr):Arguments:=match l with
 |.Lambda a _ _ _=>a
 |_=>j8 (.Pass ⟨0,0,0,0⟩)
def lamB(l:Expr):Expr:=match l with
 |.Lambda _ b _ _=>b
 |_=>.Name "" ⟨0,0,0,0⟩
def lamS(l:Expr):Scope:=match l with
 |.Lambda _ _ c _=>c
 |_=>jk (.Pass ⟨0,0,0,0⟩)
theorem jti:LamScope ["word"] [] (lamS lam1):=⟨rfl,rfl,rfl,by decide +kernel,by decide +kernel,by decide +kernel,(λx hx=>nomatch hx),λx h=>by
 have hn:(lamS lam1).names=[(Str.ofString "word",.local)]:=rfl
 rw[hn,List.lookup_cons]at h
 split at h
 ·cases h
 ·cases h⟩
theorem jqi{pm:Value}{f c:Addr}{ct:Value}{H:Hp}{z:Str}(e:H f=some (FZ (PySem.W.kla_obj "<lambda>" LQ1 (lamA lam1) (lamB lam1) (lamS lam1) [] pm c ct)))(cz:CodeZ H c LQ1):FitB P w K mg base H f z (decide (z=Str.ofString "is"\/z=Str.ofString "<")):=by
 refine jil jti (.all (us1 λ_=>rfl)) e cz λH Q q A outer s hr=>?_
 refine⟨_,QE.h (show QE _ (lamB lam1) _ from yr (zf (K:=K) rfl) (qpv 0) (kf (jc jg (jc jg jd))) (by with_unfolding_all rfl)),?_⟩
 simp!
 exact in2 λp hp=>q _ ((Kp.refl [] H).new hp)
structure TRN(P:Program)(w:World)(K:PySem.W.Frag)(mg:Str->Option Value)(base:Heap)(C ft fn fs c Pt:Addr)(pm:Value):Prop where
 cls:Cls K C
 d_take:Meth K C "take" ft
 m2z:mg "is_name"=some (.ref fn)
 m25z:mg "is_small_letter"=some (.ref fs)
 pm:(mg "__name__").getD .none=pm
 hd:PySem.W.CodeHd base c Pt
 bl:base.BuiltinsAt mg Pt
def NR(ws:List Str)(p:Nat)(nm:Str)(r:RS):Prop:=(∃a,r=.is nm a/\ws[p]?=some "is"/\ws[p+1]?=some a/\smB a=true/\a.length<=1000)\/∃y,r=.ahead nm y/\ws[p]?=some "<"/\ws[p+1]?=some y/\isNm y=true/\y.length<=1000
def spRN(P1 P2 C cT:Addr):Sp:=λvs H Q E=>∃(x dx pw pr pq:Addr)(nm:Str)(ws:List Str)(p:Nat)(R:List RS)(W:List Fr)(ds:List Du)(wr:Option Nat),vs=[.ref x,.str nm]/\SR P1 P2 H x C dx pw pr pq ws p R W/\p<=ws.length/\ws.length<=20000/\(∀z∈ws,z.length<=1000)/\fw p (.rl::ds) (ws.drop p)=wr /\
 (∀r t H',NR ws p nm r->fw (p+2) ds (ws.drop (p+2))=wr->p+2<=ws.length->H' t=some (.tup (rowV r))->SR P1 P2 H' x C dx pw pr pq ws (p+2) R W->Kp [x,pr,pq,P1,P2] H H'->Q (.ref t) H')/\(∀i,wr=some i->BT E cT P1 P2 H [x,pr,pq,P1,P2] i)
theorem ok_row_of_name{f C Pt P2 cT ft fn fs c:Addr}{fd fdt fdn fds:FuncData}{pm:Value}(ne:Pt≠P2)(F:Fun K "row_of_name" "SayingReading.row_of_name" yt f fd)(T:TRN P w K mg base C ft fn fs c Pt pm)(hcd:fd.code=.ref c)
  (b0z:Binds K fdt ["self","fits"] []) (G0z:FnOk P w K mg base (CXE P w) 4 ft fdt ["self","fits"] (spTk P w K mg base Pt P2 C cT))
  (F2z:Fun K "is_name" "is_name" y3 fn fdn) (b2z:Binds K fdn ["text"] []) (G2z:FnOk P w K mg base CX0 1 fn fdn ["text"] spNm)
  (F25z:Fun K "is_small_letter" "is_small_letter" ya fs fds) (b25z:Binds K fds ["word"] []) (G25z:FnOk P w K mg base CX0 1 fs fds ["word"] spSl):FnOk P w K mg base (CXE P w) 5 f fd ["self","name"] (spRN Pt P2 C cT):=by
 refine F.okCE sc_Rd_row_of_name (λvs H Q E h=>?_) (λA outer s H vs Q E hr h=>?_)
 ·obtain⟨x,dx,pw,pr,pq,nm,ws,p,R,W,ds,wr,rfl,_⟩:=h
  rfl
 ·obtain⟨x,dx,pw,pr,pq,nm,ws,p,R,W,ds,wr,rfl,I,pl,w9,wl,ew,k,kE⟩:=h
  have hu:=hr.units
  have hsz:sizeLine=16777216:=Ak
  refine⟨_,(QSs.h (jh (j7 (jp (j9 hu) (y4 (qpv 0) T.cls T.d_take G0z (hr.mono (by decide)) b0z .nil (leaves_of.passes rfl) (jc (jbk (Pt:=Pt) rfl T.pm hcd T.hd T.bl) jd)) jg (jt _)) (jj (jr (kf (jc jg (jc (qpv 1) (jc (y4 (qpv 0) T.cls T.d_take G0z (hr.mono (by decide)) b0z .nil (leaves_of.passes rfl) (jc (yu (v:=.ref _) rfl T.m25z rfl) jd)) jd)))))) jx)
  (jj (jr (kf (jc jg (jc (qpv 1) (jc (y4 (qpv 0) T.cls T.d_take G0z (hr.mono (by decide)) b0z .nil (leaves_of.passes rfl) (jc (yu (v:=.ref _) rfl T.m2z rfl) jd)) jd)))))))),?_⟩
  simp!
  refine⟨dx,_,I.hx,rfl,I.t1,λg c' ct H1 hg k1 e1 cz tb=>?_⟩
  have I1:=I.lam1 ne k1 tb
  have sub:∀y,y∈[x,pr,pq]->y∈[x,pr,pq,Pt,P2]:=λy hy=>Iq [Pt,P2] hy
  have k1':Kp [x,pr,pq,Pt,P2] H H1:=k1.mono (by simp)
  have zl:∀{q:Nat}{z:Str},ws[q]?=some z->z.length<=sizeLine:=λe=>by have:=wl _ (A0 e);omega
  refine⟨x,dx,pw,pr,pq,g,ws,p,R,W,λz=>decide (z=Str.ofString "is"\/z=Str.ofString "<"),rfl,I1,pl,by omega,λz _=>jqi e1 cz,λz H2 ez hz I2 k2=>?_,λhz=>?_⟩
  ·have p1:p<ws.length:=(Ab.mp ez).1
   have k2':=k1'.trans (k2.mono sub)
   have nis:(Str.ofString "<"=Str.ofString "is")=False:=eq_false (by decide +kernel)
   rcases Ij hz with rfl|rfl
   ·have e2:=(jem (ds:=ds) ez (show jda .rl (Str.ofString "is")=some [.lt]from rfl)).symm.trans ew
    simp!
    refine⟨dx,_,I2.hx,rfl,x,dx,pw,pr,pq,fs,ws,p+1,R,W,smB,rfl,I2,by omega,by omega,λz' ez'=>jo9 F25z b25z G25z (zl ez'),λz' H3 ez' hz' I3 k3=>⟨by omega,λt ht=>?_⟩,λhz'=>?_⟩
    ·have e3:=(jem (ds:=ds) ez' (show jda .lt z'=some []from Af hz')).symm.trans e2
     exact k (.is nm z') t _ (.inl ⟨z',rfl,ez,ez',hz',wl _ (A0 ez')⟩) e3 (Ab.mp ez').1 je (I3.keep ((Kp.refl [] H3).new ht)) ((k2'.trans (k3.mono sub)).new ht)
    ·have e3:=(jej (d:=.lt) (ds:=ds) (p:=p+1) (ws:=ws) λz' ez'=>by show(if smB z'=true then _ else _)=_;rw[Aa (by simp[hz' z' ez'])]).symm.trans e2
     exact(kE _ e3.symm).up k2' sub
   ·have e2:=(jem (ds:=ds) ez (show jda .rl (Str.ofString "<")=some [.nm]by simp only[jda,nis];rfl)).symm.trans ew
    simp! [nis]
    refine⟨dx,_,I2.hx,rfl,x,dx,pw,pr,pq,fn,ws,p+1,R,W,isNm,rfl,I2,by omega,by omega,λz' ez'=>jk5 F2z b2z G2z (zl ez'),λz' H3 ez' hz' I3 k3=>⟨by omega,λt ht=>?_⟩,λhz'=>?_⟩
    ·have e3:=(jem (ds:=ds) ez' (show jda .nm z'=some []from Af hz')).symm.trans e2
     exact k (.ahead nm z') t _ (.inr ⟨z',rfl,ez,ez',hz',wl _ (A0 ez')⟩) e3 (Ab.mp ez').1 je (I3.keep ((Kp.refl [] H3).new ht)) ((k2'.trans (k3.mono sub)).new ht)
    ·have e3:=(jej (d:=.nm) (ds:=ds) (p:=p+1) (ws:=ws) λz' ez'=>by show(if isNm z'=true then _ else _)=_;rw[Aa (by simp[hz' z' ez'])]).symm.trans e2
     exact(kE _ e3.symm).up k2' sub
  ·have e3:=(jej (d:=.rl) (ds:=ds) (p:=p) (ws:=ws) λz' ez'=>by
    have:=Wj (hz z' ez')
    show(if z'=Str.ofString "is"then _ else if z'=Str.ofString "<"then _ else _)=_
    rw[Aa (λq=>this (.inl q)),Aa (λq=>this (.inr q))]).symm.trans ew
   exact(kE _ e3.symm).up k1' sub
end
def RS.lo(k:Nat):RS->Prop
 |.no i=>i<k
 |.bin _ i j=>i<k/\j<k
 |.qn _ _ i=>i<k
 |_=>True
def RS.gd:RS->Prop
 |.is x a=>(isNm x=true/\x.length<=1000)/\smB a=true/\a.length<=1000
 |.ahead x y=>(isNm x=true/\x.length<=1000)/\isNm y=true/\y.length<=1000
 |.qn _ x _=>isNm x=true/\x.length<=1000
 |_=>True
theorem jrr{z y:Str}(h:isNm z=true)(hy:isNm y=false):¬z=y:=λe=>by rw[e,hy]at h;cases h
theorem joq{f g:Nat->List Str}{r:RS}{k:Nat}(ok:r.lo k)(h:∀i,i<k->f i=g i):wdL f r=wdL g r:=by
 cases r with
 |no i=>simp only[wdL];rw[h i ok]
 |bin b i j=>simp only[wdL];rw[h i ok.1,h j ok.2]
 |qn b x i=>simp only[wdL];rw[h i ok]
 |_=>rfl
theorem jhc(R:List RS)(r:RS):wAt (R++[r]) R.length=wdL (wAt R) r:=by
 unfold wAt
 rw[jfx,Au,Ik (by rw[jdw];exact Ag _),jdw]
 simp
 rfl
def RG(R:List RS):Prop:=∀(x:Nat)(r:RS),R[x]?=some r->r.lo x/\r.gd
theorem RG.nil:RG []:=λx r e=>by simp at e
theorem RG.snoc{R:List RS}{r:RS}(h:RG R)(lo:r.lo R.length)(gd:r.gd):RG (R++[r]):=λx r' e=>by
 by_cases hx:x<R.length
 ·rw[Ic hx]at e;exact h x r' e
 ·rw[Ik (by omega)]at e
  have x0:x-R.length=0:=by
   have:=(Ab.mp e).1
   simp at this
   omega
  rw[x0]at e
  cases e
  rw[show x=R.length by omega]
  exact⟨lo,gd⟩
def preW(R:List RS):List Fr->List Str
 |[]=>[]
 |.nt::W=>preW R W++[Str.ofString "not"]
 |.qn b x::W=>preW R W++[qw b,x]
 |.op::W=>preW R W++[Str.ofString "("]
 |.bi b n::W=>preW R W++(Str.ofString "("::(wAt R n++[bw b]))
def Fr.ok(k:Nat):Fr->Prop
 |.bi _ n=>n<k
 |.qn _ x=>isNm x=true/\x.length<=1000
 |_=>True
def FrOk(k:Nat)(W:List Fr):Prop:=∀f∈W,f.ok k
theorem Fr.ok.up{k k':Nat}{f:Fr}(h:f.ok k)(l:k<=k'):f.ok k':=by
 cases f with
 |bi b n=>exact Aw h l
 |_=>exact h
theorem jf7{R:List RS}(r:RS):∀{W:List Fr},FrOk R.length W->preW (R++[r]) W=preW R W
 |[],_=>rfl
 |f::W,h=>by
  have ih:=jf7 r (W:=W) λg hg=>h g (.tail _ hg)
  cases f with
  |bi b n=>simp only[preW];rw[ih,jfh R [r] (h _ (.head _))]
  |nt=>simp only[preW];rw[ih]
  |qn b x=>simp only[preW];rw[ih]
  |op=>simp only[preW];rw[ih]
structure DW(ws:List Str):Prop where
 wl:∀z∈ws,z.length<=1000
 w9:ws.length<=20000
theorem jp4{ws:List Str}{p:Nat}{a b:List Str}(l:p<=ws.length)(e:ws.take p=a++b):b.length<=p:=by
 have:=Om List.length e
 simp at this
 omega
structure ZB(ws:List Str)(wr:Option Nat)(p:Nat)(R:List RS)(W:List Fr):Prop where
 ew:fw p (.sy::duW W) (ws.drop p)=wr
 pl:p<=ws.length
 rg:RG R
 fo:FrOk R.length W
 tk:ws.take p=preW R W
 le:R.length+W.length<=p
 bd:BdW R p
structure ZC(ws:List Str)(wr:Option Nat)(p:Nat)(R:List RS)(W:List Fr):Prop where
 ew:fw p (duW W) (ws.drop p)=wr
 pl:p<=ws.length
 rg:RG R
 fo:FrOk R.length W
 tk:ws.take p=preW R W++wAt R (R.length-1)
 le:R.length+W.length<=p
 bd:BdW R p
 n1:1<=R.length
theorem jex{ws:List Str}{p:Nat}{z:Str}(e:ws[p]?=some z):ws.take (p+1)=ws.take p++[z]:=by rw[O6,e];rfl
theorem jhb{ws:List Str}{p:Nat}{z y:Str}(e:ws[p]?=some z)(e':ws[p+1]?=some y):ws.take (p+2)=ws.take p++[z,y]:=by rw[jex e',jex e,A9];rfl
theorem jqa{z:Str}(h:bgB z=true):z=Str.ofString "yes"\/z=Str.ofString "not"\/z=Str.ofString "("\/(∃b,z=qw b)\/isNm z=true:=by
 unfold bgB at h
 rcases Yc.mp h with h|h
 ·simp[inV,eqV,bgS]at h
  rcases h with h|h|h|h|h
  ·exact .inl h.symm
  ·exact .inr (.inl h.symm)
  ·exact .inr (.inr (.inl h.symm))
  ·exact .inr (.inr (.inr (.inl ⟨true,h.symm⟩)))
  ·exact .inr (.inr (.inr (.inl ⟨false,h.symm⟩)))
 ·exact .inr (.inr (.inr (.inr h)))
theorem jtw{z:Str}(h:bgB z=false):jda .sy z=none:=by
 have nn:∀y:Str,bgB y=true->¬z=y:=λy hy e=>by rw[e,hy]at h;cases h
 have h5:isNm z=false:=by unfold bgB at h;exact(Bool.or_eq_false_iff.mp h).2
 have n1:=nn (Str.ofString "yes") (by decide +kernel)
 have n2:=nn (Str.ofString "not") (by decide +kernel)
 have n3:=nn (Str.ofString "some") (by decide +kernel)
 have n4:=nn (Str.ofString "each") (by decide +kernel)
 have n5:=nn (Str.ofString "(") (by decide +kernel)
 simp only[jda,Aa n1,Aa n2,Aa (not_or.mpr ⟨n3,n4⟩),Aa n5,h5]
 rfl
theorem jty:jda .sy (Str.ofString "yes")=some []:=by simp only[jda,Af]
theorem jtx:jda .sy (Str.ofString "not")=some [.sy]:=by
 have n1:¬Str.ofString "not"=Str.ofString "yes":=by decide +kernel
 simp only[jda,Aa n1,Af]
theorem jur:jda .sy (Str.ofString "(")=some [.sy,.lk,.sy,.en]:=by
 have n1:¬Str.ofString "("=Str.ofString "yes":=by decide +kernel
 have n2:¬Str.ofString "("=Str.ofString "not":=by decide +kernel
 have n3:¬(Str.ofString "("=Str.ofString "some"\/Str.ofString "("=Str.ofString "each"):=by decide +kernel
 simp only[jda,Aa n1,Aa n2,Aa n3,Af]
theorem jrz(b:Bool):jda .sy (qw b)=some [.nm,.sy]:=by
 have n1:¬qw b=Str.ofString "yes":=by cases b <;> decide +kernel
 have n2:¬qw b=Str.ofString "not":=by cases b <;> decide +kernel
 have n3:qw b=Str.ofString "some"\/qw b=Str.ofString "each":=by cases b <;> decide +kernel
 simp only[jda,Aa n1,Aa n2,Af n3]
theorem juq{z:Str}(h:isNm z=true):jda .sy z=some [.rl]:=by
 have ne:=fun{u:Str} (hu:isNm u=false)=>jrr h hu
 have n1:¬z=Str.ofString "yes":=ne (by decide +kernel)
 have n2:¬z=Str.ofString "not":=ne (by decide +kernel)
 have n3:¬(z=Str.ofString "some"\/z=Str.ofString "each"):=not_or.mpr ⟨ne (by decide +kernel),ne (by decide +kernel)⟩
 have n5:¬z=Str.ofString "(":=ne (by decide +kernel)
 simp only[jda,Aa n1,Aa n2,Aa n3,Aa n5,h,Af]
def spBg(P1 P2 C cT:Addr):Sp:=λvs H Q E=>∃(x dx pw pr pq:Addr)(ws:List Str)(p:Nat)(R:List RS)(W:List Fr)(wr:Option Nat),vs=[.ref x]/\SR P1 P2 H x C dx pw pr pq ws p R W/\DW ws/\ZB ws wr p R W /\
 (∀H' p' R' W',SR P1 P2 H' x C dx pw pr pq ws p' R' W'->ZC ws wr p' R' W'->p<p'->Kp [x,pr,pq,P1,P2] H H'->Q (.int ((R'.length-1:Nat):Int)) H')/\(∀i,wr=some i->BT E cT P1 P2 H [x,pr,pq,P1,P2] i)
structure TBg(K:PySem.W.Frag)(mg:Str->Option Value)(C ft fp fr fn fb:Addr):Prop where
 rc:SK K C
 cls:Cls K C
 d_take:Meth K C "take" ft
 d_put_row:Meth K C "put_row" fp
 d_row_of_name:Meth K C "row_of_name" fr
 m2z:mg "is_name"=some (.ref fn)
 m22z:mg "begins_saying"=some (.ref fb)
section
variable{P:Program}{w:World}{K:PySem.W.Frag}{mg:Str->Option Value}{base:Heap}
abbrev jak:Stmt:=je1 (top 26) 2
theorem jbw:FnScope ["self","word"] ["self"] (jk jak):=⟨rfl,rfl,rfl,by decide +kernel,rfl,by decide +kernel,by decide +kernel⟩
theorem ok_begin{f C P1 P2 cT ft fp fr fn fb:Addr}{fd fdt fdp fdr fdn fdb:FuncData}(F:Fun K "begin" "SayingReading.begin" jak f fd)(T:TBg K mg C ft fp fr fn fb)
  (b0z:Binds K fdt ["self","fits"] []) (G0z:FnOk P w K mg base (CXE P w) 4 ft fdt ["self","fits"] (spTk P w K mg base P1 P2 C cT)) (b10z:Binds K fdp ["self","row"] []) (G10z:FnOk P w K mg base CX0 1 fp fdp ["self","row"] (spPR P1 P2 C))
  (b37z:Binds K fdr ["self","name"] []) (G37z:FnOk P w K mg base (CXE P w) 5 fr fdr ["self","name"] (spRN P1 P2 C cT))
  (F2z:Fun K "is_name" "is_name" y3 fn fdn) (b2z:Binds K fdn ["text"] []) (G2z:FnOk P w K mg base CX0 1 fn fdn ["text"] spNm)
  (F22z:Fun K "begins_saying" "begins_saying" ym fb fdb) (b22z:Binds K fdb ["word"] []) (G22z:FnOk P w K mg base CX0 2 fb fdb ["word"] spBs):FnOk P w K mg base (CXE P w) 6 f fd ["self"] (spBg P1 P2 C cT):=by
 refine F.okE jbw (λvs H Q E h=>?_) (λcdv A outer s H vs Q E hr h=>?_)
 ·obtain⟨x,dx,pw,pr,pq,ws,p,R,W,wr,rfl,_⟩:=h
  rfl
 ·obtain⟨x,dx,pw,pr,pq,ws,p,R,W,wr,rfl,I,D,Z,k,kE⟩:=h
  have hu:=hr.units
  have hsz:sizeLine=16777216:=Ak
  refine exQ (jj (ja1 jfk (zd jbr) (jh (jm (i:=1) jbw.nd rfl (by first|exact Or.inl rfl|exact Or.inr rfl) (y4 (qpv 0) T.cls T.d_take G0z (hr.mono (by decide)) b0z .nil (leaves_of.passes rfl) (jc (yu (v:=.ref _) rfl T.m22z rfl) jd)))
  (jj (j7 (jp (zf (K:=K) rfl) (qpv 1) (kf (jc jg (jc jg jd))) (by with_unfolding_all rfl)) (jj (kj (yd Ax Ay ki (yb (K:=K) rfl (qpv 0)) (jc (kf (jc (qpv 1) (jc (y4 (qpv 0) T.cls T.d_take G0z (hr.mono (by decide)) b0z .nil (leaves_of.passes rfl) (jc (yu (v:=.ref _) rfl T.m2z rfl) jd)) jd))) jd) (jet (jf4 _))))) (jj (j7 (jp (zf (K:=K) rfl) (qpv 1) (kf (jc jg (jc jg jd))) (by with_unfolding_all rfl)) (jj (kj (yd Ax Ay ki (yb (K:=K) rfl (qpv 0)) (jc (kf (jc (qpv 1) jd)) jd) (jet (jf4 _))))) (jj (j7 (jp (j9 hu) (qpv 1) jg (jt _)) (jj (jr (y4 (qpv 0) T.cls T.d_put_row G10z (hr.mono (by decide)) b10z .nil jw (jc (kf (jc (qpv 1) jd)) jd)))) (jj (jr (y4 (qpv 0) T.cls T.d_put_row G10z (hr.mono (by decide)) b10z .nil jw (jc (y4 (qpv 0) T.cls T.d_row_of_name G37z (hr.mono (by decide)) b37z .nil (leaves_of.passes rfl) (jc (qpv 1) jd)) jd))))))))))))) ?_
  simp!
  obtain⟨V0,hV⟩:∃V0:Nat->L2.St->Hp->Prop,V0=λμ σ H'=>∃(p1:Nat)(W1:List Fr)(v1:Option V),σ=[some (.ref x),v1]/\SR P1 P2 H' x C dx pw pr pq ws p1 R W1/\ZB ws wr p1 R W1/\p<=p1/\Kp [x,pr,pq,P1,P2] H H'/\μ=ws.length-p1:=⟨_,rfl⟩
  refine⟨V0,?_,?_⟩
  ·rw[hV]
   exact⟨_,p,W,none,rfl,I,Z,Ag _,Kp.refl _ _,rfl⟩
  intro μ σ H1 hw
  rw[hV]at hw
  obtain⟨p1,W1,v1,rfl,I1,Z1,pp,kp,rfl⟩:=hw
  have w9:=D.w9
  have pl:=Z1.pl
  have le:=Z1.le
  have zl:∀{q:Nat}{z:Str},ws[q]?=some z->z.length<=1000:=λe=>D.wl _ (A0 e)
  simp!
  refine⟨λσ' H'=>∃m',m'<ws.length-p1/\V0 m' σ' H',λ_ _ h=>h,?_⟩
  have sub:∀y,y∈[x,pr,pq]->y∈[x,pr,pq,P1,P2]:=λy hy=>Iq [P1,P2] hy
  have k2':∀{H2:Hp},Kp [x,pr,pq] H1 H2->Kp [x,pr,pq,P1,P2] H H2:=λk2=>kp.trans (k2.mono sub)
  have fin:∀{H3:Hp}{a:Addr}{r':RS}{p':Nat},SR P1 P2 H3 x C dx pw pr pq ws p' R W1->Kp [x,pr,pq,P1,P2] H H3->H3 a=some (.tup (rowV r'))->r'.lo R.length->r'.gd->p1<p'->p'<=ws.length->fw p' (duW W1) (ws.drop p')=wr->ws.take p'=preW R W1++wdL (wAt R) r'->spPR P1 P2 C [.ref x,.ref a] H3 Q E0:=by
   intro H3 a r' p' I3 k3 ha lo gd hp hl ew tk
   refine⟨x,dx,pw,pr,pq,a,ws,p',R,W1,r',rfl,I3,ha,by omega,λH4 I4 k4=>?_⟩
   have el:(R++[r']).length-1=R.length:=by simp
   have:=k H4 p' (R++[r']) W1 I4 ⟨ew,hl,Z1.rg.snoc lo gd,λf hf=>(Z1.fo f hf).up (by simp),by rw[el,jf7 r' Z1.fo,jhc];exact tk,by simp;omega,Z1.bd.snoc (by omega) (jp4 hl tk),by simp⟩ (by omega) (k3.trans (k4.mono sub))
   rw[el]at this;exact this
  have push:∀{H3:Hp}{f:Fr}{p':Nat}{v:V}{us:List V}{a:Addr},SR P1 P2 H3 x C dx pw pr pq ws p' R W1->Kp [x,pr,pq,P1,P2] H H3->H3 pq=some (.lst us)->FrsAt H3 us W1.reverse->H3 a=some (.tup (frV f))->p1<p'->p'<=ws.length->f.ok R.length->fw p' (.sy::duW (f::W1)) (ws.drop p')=wr->ws.take p'=preW R (f::W1)->∃m',m'<ws.length-p1/\V0 m' [some (.ref x),some v] (upd H3 pq (.lst (us++[.ref a]))):=by
   intro H3 f p' v us a I3 k3 hq g ha hp hl fo ew tk
   obtain⟨I4,k4⟩:=I3.push hq g ha
   refine⟨ws.length-p',by omega,?_⟩
   rw[hV]
   exact⟨p',f::W1,some v,rfl,I4,⟨ew,hl,Z1.rg,λh hh=>by rcases Al.mp hh with rfl|q;exact fo;exact Z1.fo h q,tk,by simp;omega,λj=>A7 (Z1.bd j) (by omega)⟩,by omega,k3.trans (k4.mono sub),rfl⟩
  refine⟨dx,_,I1.hx,rfl,x,dx,pw,pr,pq,fb,ws,p1,R,W1,bgB,rfl,I1,pl,by omega,λz ez=>jo8 F22z b22z G22z (by have:=zl ez;omega),λz H2 ez hz I2 k2=>?_,λhz=>?_⟩
  ·have l1:=(Ab.mp ez).1
   have e2:=fun{m:List Du} (h:jda .sy z=some m)=>(jem (ds:=duW W1) ez h).symm.trans Z1.ew
   have t2:ws.take (p1+1)=preW R W1++[z]:=by rw[jex ez,Z1.tk]
   refine in2 λt1 ht1=>⟨_,rfl,?_⟩
   have k3:=(Kp.refl [] H2).new (o:=.tup [V.str (Str.ofString "some"),V.str (Str.ofString "each")]) ht1
   have I3:=I2.keep k3
   generalize upd H2 t1 (.tup [V.str (Str.ofString "some"),V.str (Str.ofString "each")])=H3 at k3 I3⊢
   have k3':=(k2' k2).trans (k3.mono (by simp))
   have push1:∀(f:Fr)(H4:Hp),frV f=[.str z]->f.ok R.length->SR P1 P2 H4 x C dx pw pr pq ws (p1+1) R W1->Kp [x,pr,pq,P1,P2] H H4->fw (p1+1) (.sy::duW (f::W1)) (ws.drop (p1+1))=wr->preW R (f::W1)=preW R W1++[z]->tFld K (tVar 0) (Str.ofString "waiting") [some (V.ref x),some (V.str z)] H4 λx_2 H1=>isL x_2 H1/\1<=sizeLine/\∀p,H1 p=none->jfm x_2 [V.ref p] (upd H1 p (HO.tup [V.str z])) λx_3 H1=>(λσ' H'=>∃m',m'<ws.length-p1/\V0 m' σ' H') [some (V.ref x),some (V.str z)] H1:=by
    intro f H4 ef fo I4 k4 ew ep
    obtain⟨us,hq,g⟩:=I4.hq
    refine I4.waiting T.rc rfl ⟨by show(jdc (H4 pq)).isSome=true;rw[hq];rfl,by omega,λa ha=>?_⟩
    have ka:=(Kp.refl [] H4).new (o:=.tup [V.str z]) ha
    have hq':=ka.old _ _ hq (λm=>nomatch m)
    rw[jdk,hq']
    have ul:us.length=W1.length:=by rw[A5 g];simp
    exact⟨_,rfl,by omega,push (f:=f) (I4.keep ka) (k4.new ha) hq' (g.kp ka) (by rw[je,ef]) (by omega) (by omega) fo ew (by rw[t2,ep])⟩
   have two:∀{A1 B1:Hp->Prop},(∀H4,Kp [] H3 H4->SR P1 P2 H4 x C dx pw pr pq ws (p1+1) R W1->if decide (z=Str.ofString "not"\/z=Str.ofString "(")=true then A1 H4 else B1 H4)->2<=sizeLine/\∀p,H3 p=none->rInU K false (V.str z) (V.ref p) (upd H3 p (HO.tup [V.str (Str.ofString "not"),V.str (Str.ofString "(")])) λv H'=>∃k,v=V.bl k/\if k=true then A1 H' else B1 H' :=
    fun{A1 B1} q=>in2 λt2 ht2=>⟨_,rfl,q _ ((Kp.refl [] H3).new ht2) (I3.keep ((Kp.refl [] H3).new ht2))⟩
   rcases jqa hz with rfl|rfl|rfl|⟨b,rfl⟩|hn
   ·rw[Aa (by decide +kernel)]
    refine two λH4 k4 I4=>?_
    rw[Aa (by decide +kernel)]
    simp!
    refine⟨dx,_,I4.hx,rfl,by omega,λa ha=>?_⟩
    exact fin (I4.keep ((Kp.refl [] H4).new ha)) ((k3'.trans (k4.mono (by simp))).new ha) (r':=.yes) je trivial trivial (by omega) (by omega) (e2 jty) t2
   ·rw[Aa (by decide +kernel)]
    refine two λH4 k4 I4=>?_
    rw[Af (by decide +kernel)]
    exact push1 .nt H4 rfl trivial I4 (k3'.trans (k4.mono (by simp))) (e2 jtx) rfl
   ·rw[Aa (by decide +kernel)]
    refine two λH4 k4 I4=>?_
    rw[Af (by decide +kernel)]
    exact push1 .op H4 rfl trivial I4 (k3'.trans (k4.mono (by simp))) (e2 jur) rfl
   ·rw[Af (by cases b <;> decide +kernel)]
    obtain⟨us,hq,g⟩:=I3.hq
    refine I3.waiting T.rc rfl ⟨by show(jdc (H3 pq)).isSome=true;rw[hq];rfl,?_⟩
    refine⟨dx,_,I3.hx,rfl,x,dx,pw,pr,pq,fn,ws,p1+1,R,W1,isNm,rfl,I3,by omega,by omega,λy ey=>jk5 F2z b2z G2z (by have:=zl ey;omega),λy H4 ey hy I4 k4=>⟨by omega,λa ha=>?_⟩,λhy=>?_⟩
    ·obtain⟨us4,hq4,g4⟩:=I4.hq
     have ly:=(Ab.mp ey).1
     have ka:=(Kp.refl [] H4).new (o:=.tup [V.str (qw b),V.str y]) ha
     have hq':=ka.old _ _ hq4 (λm=>nomatch m)
     rw[jdk,hq']
     have ul:us4.length=W1.length:=by rw[A5 g4];simp
     have e3:=(jem (ds:=.sy::duW W1) ey (show jda .nm y=some []from Af hy)).symm.trans (e2 (jrz b))
     exact⟨_,rfl,by omega,push (f:=.qn b y) (I4.keep ka) ((k3'.trans (k4.mono sub)).new ha) hq' (g4.kp ka) je (by omega) (by omega) ⟨hy,zl ey⟩ e3 (by rw[jhb ez ey,Z1.tk];rfl)⟩
    ·have e3:=(jej (d:=.nm) (ds:=.sy::duW W1) (p:=p1+1) (ws:=ws) λy ey=>by show(if isNm y=true then _ else _)=_;rw[Aa (by simp[hy y ey])]).symm.trans (e2 (jrz b))
     exact(kE _ e3.symm).up k3' sub
   ·have ne:=fun{u:Str} (h:isNm u=false)=>jrr hn h
    rw[Aa (by simp[ne (u:=Str.ofString "some") (by decide +kernel),ne (u:=Str.ofString "each") (by decide +kernel)])]
    refine two λH4 k4 I4=>?_
    rw[Aa (by simp[ne (u:=Str.ofString "not") (by decide +kernel),ne (u:=Str.ofString "(") (by decide +kernel)])]
    have e0:(z=Str.ofString "yes")=False:=eq_false (ne (by decide +kernel))
    simp! [e0]
    have k4':=k3'.trans (k4.mono (by simp):Kp [x,pr,pq,P1,P2] H3 H4)
    refine⟨dx,_,I4.hx,rfl,dx,_,I4.hx,rfl,x,dx,pw,pr,pq,z,ws,p1+1,R,W1,duW W1,wr,rfl,I4,by omega,w9,D.wl,e2 (juq hn),λr t H5 nr ew hl ht I5 k5=>?_,λi hi=>(kE i hi).up k4' λy hy=>hy⟩
    have zz:=zl ez
    rcases nr with⟨c,rfl,e3,e4,hc,lc⟩|⟨y,rfl,e3,e4,hy,ly⟩
    ·exact fin I5 (k4'.trans k5) ht trivial ⟨⟨hn,zz⟩,hc,lc⟩ (by omega) (by omega) ew (by rw[jhb e3 e4,t2,A9];rfl)
    ·exact fin I5 (k4'.trans k5) ht trivial ⟨⟨hn,zz⟩,hy,ly⟩ (by omega) (by omega) ew (by rw[jhb e3 e4,t2,A9];rfl)
  ·have e3:=(jej (d:=.sy) (ds:=duW W1) (p:=p1) (ws:=ws) λz ez=>jtw (hz z ez)).symm.trans Z1.ew
   exact(kE _ e3.symm).up kp sub
end
def Sg(r:Row):Prop:=∀z:Str,(Sum.inr z:L2.Key)∈r->PyData.strOk z=true
def keyD:L2.Key->PyData
 |.inl i=>.int i
 |.inr z=>.str z
def rowD(r:Row):PyData:=.tuple (r.map keyD)
theorem jjw(H:Hp):∀r:Row,Reps H (r.map kV) (r.map keyD)
 |[]=>by simp[Reps]
 |k::r=>by
  refine⟨?_,jjw H r⟩
  cases k <;> rfl
theorem jgi{H:Hp}{a:Addr}{r:Row}(h:H a=some (.tup (r.map kV))):Rep H (.ref a) (rowD r):=by
 unfold rowD
 simp only[Rep]
 exact⟨a,_,rfl,h,jjw H r⟩
theorem jg3:∀{r:Row},Sg r->PyData.canLayAll0 (r.map keyD)=true/\PyData.depthAll (r.map keyD)<=1
 |[],_=>by simp[PyData.canLayAll0,PyData.depthAll]
 |.inl i::r,h=>by
  have ih:=jg3 (r:=r) λz hz=>h z (.tail _ hz)
  simp[keyD,PyData.canLayAll0,PyData.canLay0,PyData.depthAll,PyData.depth,ih.1]
  exact ih.2
 |.inr z::r,h=>by
  have ih:=jg3 (r:=r) λz hz=>h z (.tail _ hz)
  simp[keyD,PyData.canLayAll0,PyData.canLay0,PyData.depthAll,PyData.depth,ih.1,h z (.head _)]
  exact ih.2
theorem jle{r:Row}(h:Sg r):(rowD r).canLay0=true/\(rowD r).depth<=2:=by
 have:=jg3 h
 simp[rowD,PyData.canLay0,PyData.depth,this.1]
 omega
theorem jk2:∀r r':Row,PyData.eqvAll (r.map keyD) (r'.map keyD)=decide (r=r')
 |[],[]=>by simp[PyData.eqvAll]
 |[],_::_=>by simp[PyData.eqvAll]
 |_::_,[]=>by simp[PyData.eqvAll]
 |k::r,k'::r'=>by
  have ih:=jk2 r r'
  simp only[Av,PyData.eqvAll,ih]
  cases k with
  |inl i =>
   cases k' with
   |inl j=>by_cases h:i=j <;> simp[keyD,PyData.eqv,h]
   |inr j=>simp[keyD,PyData.eqv]
  |inr i =>
   cases k' with
   |inl j=>simp[keyD,PyData.eqv]
   |inr j=>by_cases h:i=j <;> simp[keyD,PyData.eqv,h]
theorem jm2(r r':Row):PyData.eqv (rowD r) (rowD r')=decide (r=r'):=by
 unfold rowD
 rw[<-jk2]
 simp[PyData.eqv]
theorem jrf{z:Str}(h:z.cps.toList.all azB=true):PyData.strOk z=true:=by
 unfold PyData.strOk
 rw[Uo]
 intro c hc
 have:=Oo.mp h c (by simpa using hc)
 simp[azB]at this
 simp;omega
theorem job{z:Str}(h:isNm z=true):PyData.strOk z=true:=jrf (by unfold isNm at h;exact(Oq.mp h).2)
theorem juo{z:Str}(h:smB z=true):PyData.strOk z=true:=jrf (by unfold smB at h;exact(Oq.mp h).2)
theorem jih{H:Hp}{a b:Addr}{r r':Row}{Q:VK}(ha:H a=some (.tup (r.map kV)))(hb:H b=some (.tup (r'.map kV)))(s:Sg r)(s':Sg r')(q:Q (.bl (decide (r=r'))) H):rEqD (.ref a) (.ref b) H Q:=by
 have sh:∀{r:Row},Sg r->SeqAt.shaped (rowD r)=true:=λs=>by
  have:=jle s
  unfold SeqAt.shaped
  rw[this.1]
  simp
  omega
 exact⟨_,_,jgi ha,jgi hb,sh s,sh s',by rw[jm2];exact q⟩
def frK:Fr->Row
 |.nt=>[.inr "not"]
 |.op=>[.inr "("]
 |.qn b x=>[.inr (qw b),.inr x]
 |.bi b n=>[.inr (bw b),.inl (n:Int)]
theorem juc(f:Fr):(frK f).map kV=frV f:=by cases f <;> rfl
theorem jta{f:Fr}(h:f≠.op):¬frK f=[.inr (Str.ofString "(")]:=λe=>by
 cases f with
 |op=>exact h rfl
 |nt =>
  have e:([Sum.inr (Str.ofString "not")]:Row)=[.inr (Str.ofString "(")]:=e
  simp at e
  exact absurd e (by decide +kernel)
 |qn b x=>simp[frK]at e
 |bi b n=>simp[frK]at e
theorem jt8(b:Bool):PyData.strOk (bw b)=true:=by cases b <;> decide +kernel
theorem jui(b:Bool):PyData.strOk (qw b)=true:=by cases b <;> decide +kernel
theorem jtl(b:Bool):jda .lk (bw b)=some []:=by
 have:bw b=Str.ofString "and"\/bw b=Str.ofString "or":=by cases b <;> decide +kernel
 simp only[jda,Af this]
def spCl(P1 P2 C cT:Addr):Sp:=λvs H Q E=>∃(x dx pw pr pq:Addr)(ws:List Str)(p:Nat)(R:List RS)(W:List Fr)(wr:Option Nat),vs=[.ref x,.int ((R.length-1:Nat):Int)]/\SR P1 P2 H x C dx pw pr pq ws p R W/\DW ws/\ZC ws wr p R W /\
 (∀H' p' R' W',SR P1 P2 H' x C dx pw pr pq ws p' R' W'->ZB ws wr p' R' W'->p<p'->Kp [x,pr,pq,P1,P2] H H'->Q .non H') /\
 (∀H' p' R',SR P1 P2 H' x C dx pw pr pq ws p' R' []->ZC ws wr p' R' []->Kp [x,pr,pq,P1,P2] H H'->Q (.int ((R'.length-1:Nat):Int)) H')/\(∀i,wr=some i->BT E cT P1 P2 H [x,pr,pq,P1,P2] i)
structure TCl(P:Program)(w:World)(K:PySem.W.Frag)(mg:Str->Option Value)(base:Heap)(C ft fp c Pt:Addr)(pm:Value):Prop where
 rc:SK K C
 cls:Cls K C
 d_take:Meth K C "take" ft
 d_put_row:Meth K C "put_row" fp
 pm:(mg "__name__").getD .none=pm
 hd:PySem.W.CodeHd base c Pt
 bl:base.BuiltinsAt mg Pt
section
variable{P:Program}{w:World}{K:PySem.W.Frag}{mg:Str->Option Value}{base:Heap}
abbrev zj:Stmt:=je1 (top 26) 4
theorem jbb:FnScope ["self","number","begun"] ["self","number"] (jk zj):=⟨rfl,rfl,rfl,by decide +kernel,rfl,by decide +kernel,by decide +kernel⟩
def lam2:Expr:=match jy zj with
 |.While _ (_::.If _ (.Expr (.Call _ [.Tuple [.Call _ [l] _ _,_] _ _] _ _) _::_) _ _::_) _ _::_=>l
 |_=>.Name "" ⟨0,0,0,0⟩
def lam3:Expr:=match jy zj with
 |.While _ (_::_::.If _ [.Expr (.Call _ [l] _ _) _] _ _::_) _ _::_=>l
 |_=>.Name "" ⟨0,0,0,0⟩
theorem jtj:LamScope ["word"] [] (lamS lam2):=⟨rfl,rfl,rfl,by decide +kernel,by decide +kernel,by decide +kernel,(λx hx=>nomatch hx),λx h=>by
 have hn:(lamS lam2).names=[(Str.ofString "word",.local)]:=rfl
 rw[hn,List.lookup_cons]at h
 split at h
 ·cases h
 ·cases h⟩
theorem jtk:LamScope ["word"] [] (lamS lam3):=⟨rfl,rfl,rfl,by decide +kernel,by decide +kernel,by decide +kernel,(λx hx=>nomatch hx),λx h=>by
 have hn:(lamS lam3).names=[(Str.ofString "word",.local)]:=rfl
 rw[hn,List.lookup_cons]at h
 split at h
 ·cases h
 ·cases h⟩
theorem jqj{pm:Value}{f c:Addr}{ct:Value}{H:Hp}{z:Str}(e:H f=some (FZ (PySem.W.kla_obj "<lambda>" LQ2 (lamA lam2) (lamB lam2) (lamS lam2) [] pm c ct)))(cz:CodeZ H c LQ2):FitB P w K mg base H f z (decide (z=Str.ofString "and"\/z=Str.ofString "or")):=by
 refine jil jtj (.all (us1 λ_=>rfl)) e cz λH Q q A outer s hr=>?_
 refine⟨_,QE.h (show QE _ (lamB lam2) _ from yr (zf (K:=K) rfl) (qpv 0) (kf (jc jg (jc jg jd))) (by with_unfolding_all rfl)),?_⟩
 simp!
 exact in2 λp hp=>q _ ((Kp.refl [] H).new hp)
theorem jqk{pm:Value}{f c:Addr}{ct:Value}{H:Hp}{z:Str}(e:H f=some (FZ (PySem.W.kla_obj "<lambda>" LQ2 (lamA lam3) (lamB lam3) (lamS lam3) [] pm c ct)))(cz:CodeZ H c LQ2):FitB P w K mg base H f z (decide (z=Str.ofString ")")):=by
 refine jil jtk (.all (us1 λ_=>rfl)) e cz λH Q q A outer s hr=>?_
 have hu:=hr.units
 refine⟨_,QE.h (show QE _ (lamB lam3) _ from yr (j9 hu) (qpv 0) jg (jt _)),?_⟩
 simp!
 exact q _ (Kp.refl [] H)
theorem ok_close{f C P1 Pt cT ft fp c:Addr}{fd fdt fdp:FuncData}{pm:Value}(ne:P1≠Pt)(F:Fun K "close" "SayingReading.close" zj f fd)(T:TCl P w K mg base C ft fp c Pt pm)(hcd:fd.code=.ref c)
  (b0z:Binds K fdt ["self","fits"] []) (G0z:FnOk P w K mg base (CXE P w) 4 ft fdt ["self","fits"] (spTk P w K mg base P1 Pt C cT)) (b10z:Binds K fdp ["self","row"] []) (G10z:FnOk P w K mg base CX0 1 fp fdp ["self","row"] (spPR P1 Pt C)) :
  FnOk P w K mg base (CXE P w) 5 f fd ["self","number"] (spCl P1 Pt C cT):=by
 refine F.okCE jbb (λvs H Q E h=>?_) (λA outer s H vs Q E hr h=>?_)
 ·obtain⟨x,dx,pw,pr,pq,ws,p,R,W,wr,rfl,_⟩:=h
  rfl
 ·obtain⟨x,dx,pw,pr,pq,ws,p,R,W,wr,rfl,I,D,Z,kN,kI,kE⟩:=h
  have hu:=hr.units
  have hsz:sizeLine=16777216:=Ak
  refine⟨_,(QSs.h (jh (ja1 jfk (jbv (yb (K:=K) rfl (qpv 0))) (jh (jm (i:=2) jbb.nd rfl (by first|exact Or.inl rfl|exact Or.inr rfl) (jbg Ud Ue jbf (yb (K:=K) rfl (qpv 0)) (jet (jf4 _))))
  (y0 (j7 (jp (j9 hu) (qpv 2) (kf (jc jg jd)) (jt _)) (jh (kj (yd Ax Ay ki (yb (K:=K) rfl (qpv 0)) (jc (kf (jc (y4 (qpv 0) T.cls T.d_take G0z (hr.mono (by decide)) b0z .nil (leaves_of.passes rfl) (jc (jbk (Pt:=Pt) rfl T.pm hcd T.hd T.bl) jd)) (jc (qpv 1) jd))) jd) (jet (jf4 _))))
  (jj (jr zx))) jx)
  (y0 (j7 (jp (zf (K:=K) rfl) (ju ix_U (qpv 2) ji (λ_ _=>rfl)) (kf (jc jg (jc jg jd))) (by with_unfolding_all rfl)) (jj (kj (y4 (qpv 0) T.cls T.d_take G0z (hr.mono (by decide)) b0z .nil (leaves_of.passes rfl) (jc (jbk (Pt:=Pt) rfl T.pm hcd T.hd T.bl) jd)))) jx)
  (jj (jm (i:=1) jbb.nd rfl (by first|exact Or.inl rfl|exact Or.inr rfl) (y4 (qpv 0) T.cls T.d_put_row G10z (hr.mono (by decide)) b10z .nil jw (jc (jq jz (qpv 2) (kf (jc (qpv 1) jd))) jd))))))))
  (jj (jr (qpv 1))))),?_⟩
  simp!
  obtain⟨V0,hV⟩:∃V0:Nat->L2.St->Hp->Prop,V0=λμ σ H'=>∃(p1:Nat)(R1:List RS)(W1:List Fr)(v1:Option V),σ=[some (.ref x),some (.int ((R1.length-1:Nat):Int)),v1]/\SR P1 Pt H' x C dx pw pr pq ws p1 R1 W1/\ZC ws wr p1 R1 W1/\p<=p1/\Kp [x,pr,pq,P1,Pt] H H'/\μ=W1.length:=⟨_,rfl⟩
  refine⟨V0,?_,?_⟩
  ·rw[hV]
   exact⟨_,p,R,W,none,rfl,I,Z,Ag _,Kp.refl _ _,rfl⟩
  intro μ σ H1 hw
  rw[hV]at hw
  obtain⟨p1,R1,W1,v1,rfl,I1,Z1,pp,kp,rfl⟩:=hw
  obtain⟨us,hq,g⟩:=I1.hq
  simp!
  refine I1.waiting T.rc rfl ?_
  rw[jeu,hq]
  refine⟨us,rfl,?_⟩
  have w9:=D.w9
  have pl:=Z1.pl
  have le:=Z1.le
  have n1:=Z1.n1
  have sub:∀y,y∈[x,pr,pq]->y∈[x,pr,pq,P1,Pt]:=λy hy=>Iq [P1,Pt] hy
  cases W1 with
  |nil =>
   have eu:us=[]:=by cases g;rfl
   subst eu
   rw[Aa (by simp)]
   exact kI _ p1 R1 I1 Z1 kp
  |cons fr W2 =>
   have ul:us.length=W2.length+1:=by rw[A5 g];simp
   rw[Af (by cases us with|nil=>simp at ul|cons a b=>rfl)]
   refine⟨λσ' H'=>∃m',m'<(fr::W2).length/\V0 m' σ' H',λ_ _ h=>h,?_⟩
   obtain⟨a,ea,ha,I2,k2⟩:=I1.pop hq g rfl
   simp!
   refine I1.waiting T.rc rfl ⟨by show(jdc (H1 pq)).isSome=true;rw[hq];rfl,?_⟩
   rw[jfo,hq]
   refine⟨us,rfl,_,ea,?_⟩
   have ha2:=k2.tup _ _ ha
   have k2':=kp.trans (k2.mono sub)
   generalize upd H1 pq (.lst us.dropLast)=H2 at I2 k2 ha2 k2'⊢
   have le:R1.length+(W2.length+1)<=p1:=le
   obtain⟨n,hn⟩:∃n,n=R1.length-1:=⟨_,rfl⟩
   rw[<-hn]
   have nl:n<R1.length:=by omega
   have first:∀{D0:Ends}{A1 B1:Hp->Prop},fr≠.op->Sg (frK fr)->(∀H3,SR P1 Pt H3 x C dx pw pr pq ws p1 R1 W2->H3 a=some (.tup (frV fr))->Kp [x,pr,pq,P1,Pt] H H3->B1 H3) ->
     1<=sizeLine/\∀p,H2 p=none->rEqD (V.ref a) (V.ref p) (upd H2 p (HO.tup [V.str (Str.ofString "(")])) λv H'=>∃k,v=V.bl k/\if k=true then A1 H' else B1 H':=by
    intro D0 A1 B1 no sg q
    refine⟨by omega,λt1 ht1=>?_⟩
    have ka:=(Kp.refl [] H2).new (o:=.tup [V.str (Str.ofString "(")]) ht1
    refine jih (r:=frK fr) (r':=[.inr (Str.ofString "(")]) (by rw[juc];exact ka.tup _ _ ha2) je sg (λz hz=>by simp at hz;subst hz;decide +kernel) ⟨_,rfl,?_⟩
    rw[Aa (by simpa using jta no)]
    exact q _ (I2.keep ka) (ka.tup _ _ ha2) (k2'.trans (ka.mono (by simp)))
   have put:∀{H3:Hp}{r':RS}{p':Nat},SR P1 Pt H3 x C dx pw pr pq ws p' R1 W2->H3 a=some (.tup (frV fr))->Kp [x,pr,pq,P1,Pt] H H3->frV fr++[.int (n:Int)]=rowV r'->r'.lo R1.length->r'.gd->fw p' (duW W2) (ws.drop p')=wr->ws.take p'=preW R1 W2++wdL (wAt R1) r'->p1<=p'->p'<=ws.length ->
     ∀t3,H3 t3=none->rAddW (.ref a) (.ref t3) (upd H3 t3 (.tup [.int (n:Int)])) λv H4=>spPR P1 Pt C [.ref x,v] H4 (λv H5=>∃m',m'<(fr::W2).length/\V0 m' [some (.ref x),some v,some (.ref a)] H5) E0:=by
    intro H3 r' p' I3 ha3 k3 er lo gd ew tk hp hl t3 ht3
    have kt:=(Kp.refl [] H3).new (o:=.tup [.int (n:Int)]) ht3
    have lf:(frV fr).length<=2:=by cases fr <;> simp[frV]
    refine rAddW.tup (kt.tup _ _ ha3) je (by cases fr <;> simp[frV]) (by simp) (by simp;omega) λt4 ht4=>?_
    have ku:=kt.new (o:=.tup (frV fr++[.int (n:Int)])) ht4
    refine⟨x,dx,pw,pr,pq,t4,ws,p',R1,W2,r',rfl,I3.keep ku,by rw[je,er],by omega,λH5 I5 k5=>⟨W2.length,by simp,?_⟩⟩
    rw[hV]
    have el:(R1++[r']).length-1=R1.length:=by simp
    have fo2:FrOk R1.length W2:=λf hf=>Z1.fo f (.tail _ hf)
    exact⟨p',R1++[r'],W2,some (.ref a),by rw[el],I5,⟨ew,hl,Z1.rg.snoc lo gd,λf hf=>(fo2 f hf).up (by simp),by rw[el,jf7 r' fo2,jhc];exact tk,by simp;omega,Z1.bd.snoc (by omega) (jp4 hl tk),by simp⟩,by omega,(k3.trans (ku.mono (by simp))).trans (k5.mono sub),rfl⟩
   have ew1:=Z1.ew
   have tk1:=Z1.tk
   rw[<-hn]at tk1
   have fo1:=Z1.fo fr (.head _)
   cases fr with
   |op =>
    refine⟨λ_ _=>False,?_,λ_ _ h=>h.elim⟩
    simp!
    refine⟨by omega,λt1 ht1=>?_⟩
    have ka:=(Kp.refl [] H2).new (o:=.tup [V.str (Str.ofString "(")]) ht1
    refine jih (r:=frK .op) (r':=[.inr (Str.ofString "(")]) (ka.tup _ _ ha2) je (λz hz=>by simp[frK]at hz;subst hz;decide +kernel) (λz hz=>by simp at hz;subst hz;decide +kernel) ⟨_,rfl,?_⟩
    rw[Af (by simp[frK])]
    have I3:=I2.keep ka
    generalize upd H2 t1 (.tup [V.str (Str.ofString "(")])=H3 at ka I3⊢
    obtain⟨us3,hq3,g3⟩:=I3.hq
    refine I3.waiting T.rc rfl ⟨by show(jdc (H3 pq)).isSome=true;rw[hq3];rfl,dx,_,I3.hx,rfl,I3.t2,λgg c' ct H4 hg k4 e4 cz tb=>?_⟩
    have I4:=I3.lam2 ne k4 tb
    have k4':=(k2'.trans (ka.mono (by simp))).trans (k4.mono (by simp))
    refine⟨x,dx,pw,pr,pq,gg,ws,p1,R1,W2,λz=>decide (z=Str.ofString "and"\/z=Str.ofString "or"),rfl,I4,pl,by omega,λz _=>jqj e4 cz,λz H5 ez hz I5 k5=>⟨by omega,λt5 ht5=>?_⟩,λhz=>?_⟩
    ·have l1:=(Ab.mp ez).1
     obtain⟨us5,hq5,g5⟩:=I5.hq
     obtain⟨b,rfl⟩:∃b,z=bw b:=by
      rcases Ij hz with h|h
      ·exact⟨true,h⟩
      ·exact⟨false,h⟩
     have k6:=(Kp.refl [] H5).new (o:=.tup [.str (bw b),.int (n:Int)]) ht5
     have hq6:=k6.old _ _ hq5 (λm=>nomatch m)
     have ul5:us5.length=W2.length:=by rw[A5 g5];simp
     rw[jdk,hq6]
     refine⟨_,rfl,by omega,?_⟩
     obtain⟨I7,k7⟩:=(I5.keep k6).push (f:=.bi b n) hq6 (g5.kp k6) je
     have e3:=(jem (ds:=.sy::.en::duW W2) ez (jtl b)).symm.trans ew1
     refine kN _ (p1+1) R1 (.bi b n::W2) I7 ⟨e3,by omega,Z1.rg,λf hf=>?_,by rw[jex ez,tk1];simp[preW],by simp;omega,λj=>A7 (Z1.bd j) (by omega)⟩ (by omega) (((k4'.trans (k5.mono sub)).trans (k6.mono (by simp))).trans (k7.mono sub))
     rcases Al.mp hf with rfl|q
     ·exact nl
     ·exact Z1.fo f (.tail _ q)
    ·have e3:=(jej (d:=.lk) (ds:=.sy::.en::duW W2) (p:=p1) (ws:=ws) λz ez=>by
      have:=Wj (hz z ez)
      simp only[jda,Aa this]).symm.trans ew1
     exact(kE _ e3.symm).up k4' sub
   |nt =>
    refine⟨λσ' H'=>σ'=[some (.ref x),some (.int (n:Int)),some (.ref a)]/\SR P1 Pt H' x C dx pw pr pq ws p1 R1 W2/\H' a=some (.tup (frV .nt))/\Kp [x,pr,pq,P1,Pt] H H',?_,?_⟩
    ·simp!
     exact first (D0:=⟨λ_ _=>True,λ_ _=>True,λ_ _=>True,λ_ _=>True⟩) (by nofun) (λz hz=>by simp[frK]at hz;subst hz;decide +kernel) λH3 I3 h3 k3=>⟨I3,h3,k3⟩
    rintro σ' H3 ⟨rfl,I3,ha3,k3⟩
    refine⟨λσ' H'=>σ'=[some (.ref x),some (.int (n:Int)),some (.ref a)]/\SR P1 Pt H' x C dx pw pr pq ws p1 R1 W2/\H' a=some (.tup (frV .nt))/\Kp [x,pr,pq,P1,Pt] H H',?_,?_⟩
    ·simp! [ha3,frV]
     refine in2 λt1 ht1=>⟨_,rfl,?_⟩
     rw[Aa (by decide +kernel)]
     have ka:=(Kp.refl [] H3).new (o:=.tup [V.str (Str.ofString "and"),V.str (Str.ofString "or")]) ht1
     exact⟨I3.keep ka,ka.tup _ _ ha3,k3.trans (ka.mono (by simp))⟩
    rintro σ' H4 ⟨rfl,I4,ha4,k4⟩
    simp!
    exact⟨dx,_,I4.hx,rfl,by omega,put (r':=.no n) I4 ha4 k4 rfl nl trivial ew1 (by rw[tk1];simp[preW,wdL]) (Ag _) pl⟩
   |qn b y =>
    have gr:=fo1
    refine⟨λσ' H'=>σ'=[some (.ref x),some (.int (n:Int)),some (.ref a)]/\SR P1 Pt H' x C dx pw pr pq ws p1 R1 W2/\H' a=some (.tup (frV (.qn b y)))/\Kp [x,pr,pq,P1,Pt] H H',?_,?_⟩
    ·simp!
     exact first (D0:=⟨λ_ _=>True,λ_ _=>True,λ_ _=>True,λ_ _=>True⟩) (by nofun) (λz hz=>by
      simp[frK]at hz
      rcases hz with rfl|rfl
      ·exact jui b
      ·exact job gr.1) λH3 I3 h3 k3=>⟨I3,h3,k3⟩
    rintro σ' H3 ⟨rfl,I3,ha3,k3⟩
    refine⟨λσ' H'=>σ'=[some (.ref x),some (.int (n:Int)),some (.ref a)]/\SR P1 Pt H' x C dx pw pr pq ws p1 R1 W2/\H' a=some (.tup (frV (.qn b y)))/\Kp [x,pr,pq,P1,Pt] H H',?_,?_⟩
    ·simp! [ha3,frV]
     refine in2 λt1 ht1=>⟨_,rfl,?_⟩
     rw[Aa (by cases b <;> decide +kernel)]
     have ka:=(Kp.refl [] H3).new (o:=.tup [V.str (Str.ofString "and"),V.str (Str.ofString "or")]) ht1
     exact⟨I3.keep ka,ka.tup _ _ ha3,k3.trans (ka.mono (by simp))⟩
    rintro σ' H4 ⟨rfl,I4,ha4,k4⟩
    simp!
    exact⟨dx,_,I4.hx,rfl,by omega,put (r':=.qn b y n) I4 ha4 k4 rfl nl gr ew1 (by rw[tk1];simp[preW,wdL]) (Ag _) pl⟩
   |bi b m =>
    refine⟨λσ' H'=>σ'=[some (.ref x),some (.int (n:Int)),some (.ref a)]/\SR P1 Pt H' x C dx pw pr pq ws p1 R1 W2/\H' a=some (.tup (frV (.bi b m)))/\Kp [x,pr,pq,P1,Pt] H H',?_,?_⟩
    ·simp!
     exact first (D0:=⟨λ_ _=>True,λ_ _=>True,λ_ _=>True,λ_ _=>True⟩) (by nofun) (λz hz=>by
      simp[frK]at hz
      rw[hz];exact jt8 b) λH3 I3 h3 k3=>⟨I3,h3,k3⟩
    rintro σ' H3 ⟨rfl,I3,ha3,k3⟩
    have ml:m<R1.length:=fo1
    refine⟨λσ' H'=>σ'=[some (.ref x),some (.int (n:Int)),some (.ref a)]/\SR P1 Pt H' x C dx pw pr pq ws (p1+1) R1 W2/\H' a=some (.tup (frV (.bi b m)))/\Kp [x,pr,pq,P1,Pt] H H'/\ws[p1]?=some (Str.ofString ")"),?_,?_⟩
    ·simp! [ha3,frV]
     refine in2 λt1 ht1=>⟨_,rfl,?_⟩
     rw[Af (by cases b <;> decide +kernel)]
     have ka:=(Kp.refl [] H3).new (o:=.tup [V.str (Str.ofString "and"),V.str (Str.ofString "or")]) ht1
     have I4:=I3.keep ka
     have ha4:=ka.tup _ _ ha3
     generalize upd H3 t1 (.tup [V.str (Str.ofString "and"),V.str (Str.ofString "or")])=H4 at ka I4 ha4⊢
     refine⟨dx,_,I4.hx,rfl,I4.t2,λgg c' ct H5 hg k5 e5 cz tb=>?_⟩
     have I5:=I4.lam2 ne k5 tb
     have k5':=(k3.trans (ka.mono (by simp))).trans (k5.mono (by simp))
     refine⟨x,dx,pw,pr,pq,gg,ws,p1,R1,W2,λz=>decide (z=Str.ofString ")"),rfl,I5,pl,by omega,λz _=>jqk e5 cz,λz H6 ez hz I6 k6=>?_,λhz=>?_⟩
     ·have:=Ij hz
      subst this
      exact⟨I6,k6.tup _ _ (k5.tup _ _ ha4),k5'.trans (k6.mono sub),ez⟩
     ·have e3:=(jej (d:=.en) (ds:=duW W2) (p:=p1) (ws:=ws) λz ez=>by
       have:=Wj (hz z ez)
       simp only[jda,Aa this]).symm.trans ew1
      exact(kE _ e3.symm).up k5' sub
    rintro σ' H4 ⟨rfl,I4,ha4,k4,ez⟩
    have l1:=(Ab.mp ez).1
    have e3:=(jem (ds:=duW W2) ez (show jda .en (Str.ofString ")")=some []by simp only[jda,Af])).symm.trans ew1
    simp!
    exact⟨dx,_,I4.hx,rfl,by omega,put (r':=.bin b m n) I4 ha4 k4 rfl ⟨ml,nl⟩ trivial e3 (by rw[jex ez,tk1];simp[preW,wdL]) (by omega) (by omega)⟩
end
def toks(T:Str):List Str:=(tok [] T.cps.toList).map toS
def spWo:Sp:=λvs H Q _=>∃T:Str,vs=[.str T]/\T.length<=100000/\∀p H',H p=none->H' p=some (.lst ((toks T).map V.str))->Kp [] H H'->Q (.ref p) H'
theorem jnq(z:Str):toS z.cps.toList=z:=by cases z;simp[toS]
theorem jl9(c:Nat)(z l:List Nat):(subs c z l).length<=(z.length+1)*l.length:=by
 induction l with
 |nil=>simp[subs]
 |cons d l ih =>
  simp only[subs,List.flatMap_cons,Ap,List.length_cons]at ih⊢
  have:(if d=c then z else[d]).length<=z.length+1:=by split <;> simp
  rw[Nat.mul_succ]
  omega
theorem jp0(c:Nat):∀l,(sp c l).length<=l.length+1
 |[]=>by simp[sp]
 |x::l=>by
  have ih:=jp0 c l
  obtain⟨p,r,e⟩:=jfc c l
  rw[sp,e]
  rw[e]at ih
  by_cases h:x=c
  ·rw[Af h];simp at ih⊢;omega
  ·rw[Aa h];simp at ih⊢;omega
def neV:V->Bool
 |.str z=>!decide (z=Str.ofString "")
 |_=>true
theorem jrc(T:Str):(((Txt.split (Txt.replace (Txt.replace T (Str.ofString "(") (Str.ofString " ( ")) (Str.ofString ")") (Str.ofString " ) ")) (Str.ofString " ")).map V.str).filter neV).map (λv=>v)=(toks T).map V.str:=by
 have e1:Str.ofString "("=⟨#[40]⟩:=by decide +kernel
 have e2:Str.ofString ")"=⟨#[41]⟩:=by decide +kernel
 have e3:Str.ofString " "=⟨#[32]⟩:=by decide +kernel
 have z1:(Str.ofString " ( ").cps.toList=[32,40,32]:=by decide +kernel
 have z2:(Str.ofString " ) ").cps.toList=[32,41,32]:=by decide +kernel
 have h:=jl6 (Txt.replace (Txt.replace T (Str.ofString "(") (Str.ofString " ( ")) (Str.ofString ")") (Str.ofString " ) ")) 32 (by decide)
 rw[<-e3,e1,e2,jfp,jfp,z1,z2]at h
 obtain⟨p,r,e⟩:=jfc 32 (subs 41 [32,41,32] (subs 40 [32,40,32] T.cps.toList))
 have ht:=jp5 T.cps.toList [] p r e
 rw[List.nil_append,<-e,<-h]at ht
 rw[e1,e2]
 generalize Txt.split (Txt.replace (Txt.replace T ⟨#[40]⟩ (Str.ofString " ( ")) ⟨#[41]⟩ (Str.ofString " ) ")) (Str.ofString " ")=ps at ht⊢
 unfold toks
 rw[<-ht]
 have e0:(Str.ofString "").cps.toList=[]:=by decide +kernel
 clear ht h e
 induction ps with
 |nil=>rfl
 |cons q ps ih =>
  have eq:neV (V.str q)=!q.cps.toList.isEmpty:=by
   unfold neV
   by_cases c:q=Str.ofString ""
   ·rw[c,e0];simp
   ·have:¬q.cps.toList=[]:=λz=>c (jfd (by rw[z,e0]))
    cases hq:q.cps.toList with
    |nil=>exact absurd hq this
    |cons a b=>simp[c]
  simp only[Av,Iv,neL,eq]at ih⊢
  by_cases c:(!q.cps.toList.isEmpty)=true
  ·rw[Af c,Af c]
   simp only[Av]
   rw[ih,jnq]
  ·rw[Aa c,Aa c]
   exact ih
section
variable{P:Program}{w:World}{K:PySem.W.Frag}{mg:Str->Option Value}{base:Heap}
abbrev zr:Stmt:=top 24
theorem jbz:FnScope ["text","parted"] ["text"] (jk zr):=⟨rfl,rfl,rfl,by decide +kernel,rfl,by decide +kernel,by decide +kernel⟩
theorem ok_words_of{f:Addr}{fd:FuncData}(F:Fun K "words_of" "words_of" zr f fd):FnOk P w K mg base CX0 1 f fd ["text"] spWo:=by
 refine jpb F jbz (λvs H Q E h=>?_) (by rfl) (λcdv A outer s H vs Q E hr h=>?_)
 ·obtain⟨T,rfl,_⟩:=h
  rfl
 ·obtain⟨T,rfl,t9,k⟩:=h
  have hu:=hr.units
  have hsz:sizeLine=16777216:=Ak
  refine⟨_,jq0 (i:=1) jbz.nd rfl (by first|exact Or.inl rfl|exact Or.inr rfl) (jfl (by decide +kernel) (by decide +kernel) (jfl (by decide +kernel) (by decide +kernel) (jpt (pv 0)))) (jj (jr (jbi rfl (jdq (sc:=jk zr) (N:=["text","parted"]) (Nc:=["word"]) (js:=[none]) (by decide +kernel)) (zy (K:=K) (ja5 PySem.F.slot_str_split PySem.F.type_str_split mt_splitU (qpv 1) (jc jg jd) jdd) rfl) (λ_ _ _ _=>(kr (i:=0) (show List.Nodup [("word":Str)]from by decide +kernel) rfl (by first|exact Or.inl rfl|exact Or.inr rfl))) (λ_ _ _ _=>(jp (jb6 hu) (qpv 0) jg (jt _))) (λ_ _ _ _=>(qpv 0))))),?_⟩
  simp! [jok]
  have e1:Str.ofString "("=⟨#[40]⟩:=by decide +kernel
  have e2:Str.ofString ")"=⟨#[41]⟩:=by decide +kernel
  have e3:Str.ofString " "=⟨#[32]⟩:=by decide +kernel
  have z1:(Str.ofString " ( ").cps.toList=[32,40,32]:=by decide +kernel
  have z2:(Str.ofString " ) ").cps.toList=[32,41,32]:=by decide +kernel
  have sl:∀z:Str,z.length=z.cps.toList.length:=λz=>by simp[Str.length]
  have h1:(Txt.replace T (Str.ofString "(") (Str.ofString " ( ")).length<=400000:=by
   rw[sl,e1,jfp,z1]
   have:=jl9 40 [32,40,32] T.cps.toList
   have:=sl T
   simp at *
   omega
  have h2:(Txt.replace (Txt.replace T (Str.ofString "(") (Str.ofString " ( ")) (Str.ofString ")") (Str.ofString " ) ")).length<=1600000:=by
   rw[sl,e2,jfp,z2]
   have:=jl9 41 [32,41,32] (Txt.replace T (Str.ofString "(") (Str.ofString " ( ")).cps.toList
   have:=sl (Txt.replace T (Str.ofString "(") (Str.ofString " ( "))
   simp at *
   omega
  have we:=jrc T
  have h3:(Txt.split (Txt.replace (Txt.replace T (Str.ofString "(") (Str.ofString " ( ")) (Str.ofString ")") (Str.ofString " ) ")) (Str.ofString " ")).length<=1600001:=by
   have h:=jl6 (Txt.replace (Txt.replace T (Str.ofString "(") (Str.ofString " ( ")) (Str.ofString ")") (Str.ofString " ) ")) 32 (by decide)
   have:=jp0 32 (Txt.replace (Txt.replace T (Str.ofString "(") (Str.ofString " ( ")) (Str.ofString ")") (Str.ofString " ) ")).cps.toList
   rw[<-h,Ae,<-sl,<-e3]at this
   omega
  refine⟨by omega,by omega,by decide +kernel,by omega,by omega,λp hp D hD=>?_⟩
  generalize Txt.split (Txt.replace (Txt.replace T (Str.ofString "(") (Str.ofString " ( ")) (Str.ofString ")") (Str.ofString " ) ")) (Str.ofString " ")=ps at we h3 hD⊢
  refine je6 neV (λv=>v) je hD (by rw[Ae];omega) (λx hx l Q' q=>?_) (λx hx _ l Q' q=>by simp!;exact q) λv=>?_
  ·obtain⟨z,hz,rfl⟩:=Io.mp hx
   simp!
   exact q
  ·rw[we]
   exact k _ _ ((Kp.refl [] H).new hp |>.free hD) je (((Kp.refl [] H).new hp).new hD)
end
def rowK:RS->Row
 |.yes=>[.inr "yes"]
 |.is x a=>[.inr "is",.inr x,.inr a]
 |.ahead x y=>[.inr "ahead",.inr x,.inr y]
 |.no i=>[.inr "not",.inl (i:Int)]
 |.bin b i j=>[.inr (bw b),.inl (i:Int),.inl (j:Int)]
 |.qn b x i=>[.inr (qw b),.inr x,.inl (i:Int)]
theorem jpv(r:RS):(rowK r).map kV=rowV r:=by cases r <;> rfl
theorem jq3(r:RS):(rowK r).length<=3:=by cases r <;> simp[rowK]
theorem jul{H:Hp}{us:List V}{R:List RS}(h:RowsAt H us R):RowsT H us (R.map rowK):=by
 induction h with
 |nil=>exact .nil
 |cons h _ ih=>obtain⟨a,e,g⟩:=h;exact .cons ⟨a,e,by rw[jpv];exact g⟩ ih
def RS.ren(φ:Nat->Nat):RS->RS
 |.no i=>.no (φ i)
 |.bin b i j=>.bin b (φ i) (φ j)
 |.qn b x i=>.qn b x (φ i)
 |r=>r
theorem jg9(φ:Nat->Nat)(r:RS):wpR φ (rowK r)=rowK (r.ren φ):=by cases r <;> simp[rowK,RS.ren,wpR,mapR]
theorem jso{k:Nat}{r:RS}(h:r.lo k):RowOk k (rowK r):=by
 intro i hi
 cases r with
 |no j=>simp[rowK]at hi;subst hi;exact⟨by omega,by have:j<k:=h;omega⟩
 |bin b j l=>simp[rowK]at hi;have:=h.1;have:=h.2;rcases hi with rfl|rfl <;> omega
 |qn b x j=>simp[rowK]at hi;subst hi;have:j<k:=h;omega
 |yes=>simp[rowK]at hi
 |is x a=>simp[rowK]at hi
 |ahead x y=>simp[rowK]at hi
theorem jl2{R:List RS}(h:∀(x:Nat) (r:RS),R[x]?=some r->r.lo x):OkR (R.map rowK):=λk r e=>by
 rw[A3]at e
 cases er:R[k]? with
 |none=>rw[er]at e;cases e
 |some r0=>rw[er]at e;cases e;exact jso (h k r0 er)
def spRS(P1 P2 cT:Addr):Sp:=λvs H Q E=>∃(T:Str),vs=[.str T]/\T.length<=100000/\DW (toks T)/\TabOk H P1 LQ1/\TabOk H P2 LQ2 /\
 (fw 0 [.sy] (toks T)=none->∀q us' F H' (R:List RS),RG R->1<=R.length->R.length<=(toks T).length->BdW R (toks T).length->wAt R (R.length-1)=toks T->TidP (R.map rowK) F->H' q=some (.tup us')->RowsT H' us' F->TabOk H' P1 LQ1->TabOk H' P2 LQ2->Kp [P1,P2] H H'->Q (.ref q) H') /\
 (∀i,fw 0 [.sy] (toks T)=some i->BT E cT P1 P2 H [P1,P2] i)
structure TRS(K:PySem.W.Frag)(mg:Str->Option Value)(C fi fb fc fe fw fo:Addr):Prop where
 rc:SK K C
 cls:Cls K C
 mkR:Mk K C fi
 m_SayingReading:mg "SayingReading"=some (.ref C)
 n_tuple:mg "tuple"=none
 d_begin:Meth K C "begin" fb
 d_close:Meth K C "close" fc
 d_end:Meth K C "end" fe
 m30z:mg "words_of"=some (.ref fw)
 m24z:mg "in_order"=some (.ref fo)
section
variable{P:Program}{w:World}{K:PySem.W.Frag}{mg:Str->Option Value}{base:Heap}
abbrev za:Stmt:=top 23
theorem jal:FnScope ["text","reading","number"] ["text"] (jk za):=⟨rfl,rfl,rfl,by decide +kernel,rfl,by decide +kernel,by decide +kernel⟩
theorem ok_read_saying{f C P1 P2 cT fi fb fc fe fw' fo:Addr}{fd fdi fdb fdc fde fdw fdo:FuncData}(ne:P1≠P2)(F:Fun K "read_saying" "read_saying" za f fd)(T:TRS K mg C fi fb fc fe fw' fo)
  (b36z:Binds K fdi ["self","words"] []) (G36z:FnOk P w K mg base CX0 1 fi fdi ["self","words"] (spIn P1 P2 C)) (b34z:Binds K fdb ["self"] []) (G34z:FnOk P w K mg base (CXE P w) 6 fb fdb ["self"] (spBg P1 P2 C cT))
  (b35z:Binds K fdc ["self","number"] []) (G35z:FnOk P w K mg base (CXE P w) 5 fc fdc ["self","number"] (spCl P1 P2 C cT)) (b_end:Binds K fde ["self"] []) (G_end:FnOk P w K mg base (CXE P w) 4 fe fde ["self"] (spEd P1 P2 C cT))
  (F30z:Fun K "words_of" "words_of" zr fw' fdw) (b30z:Binds K fdw ["text"] []) (G30z:FnOk P w K mg base CX0 1 fw' fdw ["text"] spWo)
  (F24z:Fun K "in_order" "in_order" zc fo fdo) (b24z:Binds K fdo ["rows"] []) (G24z:FnOk P w K mg base CX0 3 fo fdo ["rows"] (spIO K)):FnOk P w K mg base (CXE P w) 7 f fd ["text"] (spRS P1 P2 cT):=by
 refine F.okE jal (λvs H Q E h=>?_) (λcdv A outer s H vs Q E hr h=>?_)
 ·obtain⟨T,rfl,_⟩:=h
  rfl
 ·obtain⟨Tx,rfl,t9,D,t1,t2,k,kE⟩:=h
  have hu:=hr.units
  have hsz:sizeLine=16777216:=Ak
  refine exQ (jh (jm (i:=1) jal.nd rfl (by first|exact Or.inl rfl|exact Or.inr rfl) (qpe_make T.mkR G36z (hr.mono (by decide)) rfl T.m_SayingReading b36z .nil jw (jc (jo G30z (hr.mono (by decide)) rfl T.m30z F30z.kp b30z .nil jw (jc (qpv 0) jd)) jd)))
  (jh (jm (i:=2) jal.nd rfl (by first|exact Or.inl rfl|exact Or.inr rfl) zx)
  (jh (ja1 jfk (jp jct (qpv 2) zx (jt _)) (jj (jm (i:=2) jal.nd rfl (by first|exact Or.inl rfl|exact Or.inr rfl) (y4 (qpv 1) T.cls T.d_close G35z (hr.mono (by decide)) b35z .nil (leaves_of.passes rfl) (jc (jco (qpv 1) T.cls T.d_begin G34z (hr.mono (by decide)) b34z .nil (leaves_of.passes rfl)) jd)))))
  (jh (kj (jco (qpv 1) T.cls T.d_end G_end (hr.mono (by decide)) b_end .nil (leaves_of.passes rfl)))
  (jj (jr (jo G24z (hr.mono (by decide)) rfl T.m24z F24z.kp b24z .nil jw (jc (zi jaz (by rfl) T.n_tuple jbe (jc (yb (K:=K) rfl (qpv 1)) jd)) jd)))))))) ?_
  simp!
  obtain⟨ws,hws⟩:∃ws,ws=toks Tx:=⟨_,rfl⟩
  rw[<-hws]at D k kE
  obtain⟨wr,hwr⟩:∃wr,wr=fw 0 [.sy] ws:=⟨_,rfl⟩
  rw[<-hwr]at k kE
  have w9:=D.w9
  refine⟨Tx,rfl,t9,λpw H1 hpw hw k1 x dx hx hdx nd=>?_⟩
  rw[<-hws]at hw
  have hx1:upd H1 dx (.own x) x=none:=by rw[jf nd.symm];exact hx
  have k1':Kp [] H1 (upd (upd H1 dx (.own x)) x (.ins C dx [])):=((Kp.refl [] H1).new hdx).new hx1
  have kH:=k1.trans k1'
  have hx0:=k1.free hx
  have tb:∀{H':Hp}{T0:Addr}{qq:Str},Kp [] H H'->TabOk H T0 qq->TabOk H' T0 qq:=λk t=>t.kp k (by simp) (by simp)
  refine⟨x,dx,pw,ws,rfl,je,k1'.old _ _ hw Ah,tb kH t1,tb kH t2,λH2 pr pq I2 hpr hpq k2=>⟨rfl,?_⟩⟩
  have hpr0:=kH.free hpr
  have hpq0:=kH.free hpq
  clear t1 t2
  have kH2:Kp [P1,P2] H H2:=(kH.mono (by simp)).trans' k2 λy hy=>.inr (by rw[Ao.mp hy];exact hx0)
  obtain⟨V0,hV⟩:∃V0:Nat->L2.St->Hp->Prop,V0=λμ σ H'=>Kp [P1,P2] H H'/\((σ=[some (.str Tx),some (.ref x),some .non]/\∃p R W,SR P1 P2 H' x C dx pw pr pq ws p R W/\ZB ws wr p R W/\μ=ws.length-p+1) \/
   ∃(p:Nat)(R:List RS),σ=[some (.str Tx),some (.ref x),some (.int ((R.length-1:Nat):Int))]/\SR P1 P2 H' x C dx pw pr pq ws p R []/\ZC ws wr p R []):=⟨_,rfl⟩
  refine⟨V0,?_,?_⟩
  ·rw[hV]
   exact⟨_,kH2,.inl ⟨rfl,0,[],[],I2,⟨by rw[Wn];exact hwr.symm,Ix _,RG.nil,(λf hf=>nomatch hf),rfl,by simp,λj=>by simp[wAt,wds]⟩,rfl⟩⟩
  intro μ σ H3 hw3
  rw[hV]at hw3
  obtain⟨k3,hw3⟩:=hw3
  have kk:∀{H4:Hp},Kp [x,pr,pq,P1,P2] H3 H4->Kp [P1,P2] H H4:=λk4=>k3.trans' k4 λy hy=>by
   simp only[Al,Ah,Os]at hy
   rcases hy with rfl|rfl|rfl|rfl|rfl
   ·exact .inr hx0
   ·exact .inr hpr0
   ·exact .inr hpq0
   ·exact .inl (by simp)
   ·exact .inl (by simp)
  have bt:∀{H4:Hp}{i:Nat}{S:List Addr},(∀y∈S,y∈[x,pr,pq,P1,P2])->Kp [x,pr,pq,P1,P2] H3 H4->wr=some i->BT E cT P1 P2 H4 S i:=λm k4 hi dx' H' k' e a b=>kE _ hi dx' H' (kk (k4.trans (k'.mono m))) e a b
  rcases hw3 with⟨rfl,p,R,W,I,Z,rfl⟩|⟨p,R,rfl,I,Z⟩
  ·simp!
   refine⟨λσ' H'=>∃m',m'<ws.length-p+1/\V0 m' σ' H',λ_ _ h=>h,?_⟩
   have pl:=Z.pl
   refine⟨dx,_,I.hx,rfl,dx,_,I.hx,rfl,x,dx,pw,pr,pq,ws,p,R,W,wr,rfl,I,D,Z,λH4 p4 R4 W4 I4 Z4 h4 k4=>?_,λi hi=>bt (λy hy=>hy) (Kp.refl _ _) hi⟩
   refine⟨x,dx,pw,pr,pq,ws,p4,R4,W4,wr,rfl,I4,D,Z4,λH5 p5 R5 W5 I5 Z5 h5 k5=>?_,λH5 p5 R5 I5 Z5 k5=>?_,λi hi=>bt (λy hy=>hy) k4 hi⟩
   ·have:=Z5.pl
    refine⟨ws.length-p5+1,by omega,?_⟩
    rw[hV]
    exact⟨kk (k4.trans k5),.inl ⟨rfl,p5,R5,W5,I5,Z5,rfl⟩⟩
   ·refine⟨0,by omega,?_⟩
    rw[hV]
    exact⟨kk (k4.trans k5),.inr ⟨p5,R5,rfl,I5,Z5⟩⟩
  ·simp!
   obtain⟨us,hu3,ra⟩:=I.hr
   have pl:=Z.pl
   have n1:=Z.n1
   have le:R.length+0<=p:=Z.le
   have ew:=Z.ew
   refine⟨dx,_,I.hx,rfl,x,dx,pw,pr,pq,ws,p,R,[],rfl,I,pl,by omega,λhp=>?_,λhp=>?_⟩
   ·simp!
    refine I.rows T.rc rfl (jei hu3 λt ht=>?_)
    have kt:=(Kp.refl [] H3).new (o:=.tup us) ht
    have It:=I.keep kt
    have wn:wr=none:=by
     rw[hp,List.drop_length]at ew
     rw[<-ew]
     rfl
    refine⟨t,us,R.map rowK,rfl,SqT.of je,jul (ra.kp kt),jl2 λy r e=>(Z.rg y r e).1,λr hr'=>?_,by simpa using n1,by rw[Ae];omega,λq us' F1 H5 tid hq0 hq' rt kq=>?_⟩
    ·obtain⟨r0,_,rfl⟩:=Io.mp hr'
     have:=jq3 r0
     omega
    ·have I5:=It.keep kq
     refine k wn q us' F1 H5 R Z.rg n1 (by omega) (λj=>A7 (Z.bd j) (by omega)) ?_ tid hq' rt I5.t1 I5.t2 (kk ((kt.trans kq).mono (by simp)))
     have:=Z.tk
     rw[hp,Um]at this
     rw[this]
     rfl
   ·have e3:wr=some p:=by
     rw[A6 hp]at ew
     rw[<-ew]
     rfl
    exact bt (λy hy=>Iq [P1,P2] hy) (Kp.refl _ _) e3
end
def duN:Du->Str
 |.sy=>"saying"
 |.nm=>"name"
 |.rl=>"relation"
 |.lk=>"link"
 |.en=>"end"
 |.lt=>"letter"
theorem jeg{d e:Du}(h:duN d=duN e):d=e:=by revert h;cases d <;> cases e <;> first|(intro _;rfl)|(intro h;exact absurd h (by decide +kernel))
def gD2(d:Du)(z:Str):Prop:=(d=.nm/\isNm z=true)\/(d=.lk/\(z=Str.ofString "and"\/z=Str.ofString "or"))\/(d=.en/\z=Str.ofString ")")
theorem jge{α:Type}{p q:Prop}[Decidable p][Decidable q](a b:α)(h:q↔p):(if p then a else b)=if q then a else b:=by
 by_cases hp:p
 ·rw[Af hp,Af (h.mpr hp)]
 ·rw[Aa hp,Aa λz=>hp (h.mp z)]
def dV(m:List Du):List V:=(m.reverse.map duN).map V.str
def DM(o:Option (List Du))(H:Hp)(Q:VK):Prop:=match o with
 |none=>∀H',Kp [] H H'->Q .non H'
 |some m=>∀p H',H p=none->H' p=some (.lst (dV m))->Kp [] H H'->Q (.ref p) H'
theorem DM.kp{o:Option (List Du)}{H H1:Hp}{Q:VK}(h:DM o H Q)(k:Kp [] H H1):DM o H1 Q:=by
 cases o with
 |none=>exact λH' k'=>h H' (k.trans k')
 |some m=>exact λp H' hp e k'=>h p H' (k.free hp) e (k.trans k')
theorem DM.new{m:List Du}{H:Hp}{Q:VK}(h:DM (some m) H Q){p:Addr}(hp:H p=none):Q (.ref p) (upd H p (.lst (dV m))):=h p _ hp je ((Kp.refl [] H).new hp)
theorem jms(c:Nat):decide (c∈(Str.ofString "abcdefghijklmnopqrstuvwxyz").cps.toList)=azB c:=by
 have e:(Str.ofString "abcdefghijklmnopqrstuvwxyz").cps.toList=(List.range 26).map (97+·):=by decide +kernel
 rw[Oj,e]
 simp only[decide_eq_true_eq,Io,Wk,azB,On]
 constructor
 ·rintro⟨i,hi,rfl⟩;omega
 ·intro h;exact⟨c-97,by omega,by omega⟩
structure TIs(mg:Str->Option Value):Prop where
 n_len:mg "len"=none
 n_all:mg "all"=none
section
variable{P:Program}{w:World}{K:PySem.W.Frag}{mg:Str->Option Value}{base:Heap}
abbrev yj:Stmt:=top 38
theorem sc__law_is_name:FnScope ["_law_word"] ["_law_word"] (jk yj):=⟨rfl,rfl,rfl,by decide +kernel,rfl,by decide +kernel,by decide +kernel⟩
theorem ok__law_is_name{f:Addr}{fd:FuncData}(F:Fun K "_law_is_name" "_law_is_name" yj f fd)(T:TIs mg):FnOk P w K mg base CX0 1 f fd ["_law_word"] spNm:=by
 refine F.ok sc__law_is_name (λvs H Q E h=>?_) (λcdv A outer s H vs Q E hr h=>?_)
 ·obtain⟨z,rfl,_⟩:=h
  rfl
 ·obtain⟨z,rfl,hz,k⟩:=h
  have hsz:sizeLine=16777216:=Ak
  refine exQ (jh (j7 (QW.pt (jag (jp (zf (K:=K) rfl) (qpv 0) (kf (jc jg (jc jg (jc jg (jc jg (jc jg jd)))))) (by with_unfolding_all rfl)) (jad (jbd (qpt_chain jbc jbc ji (jv kh (by rfl) T.n_len km (jc (qpv 0) jd)) ji))))) (jj (jr jbr)) jx)
  (jj (jr (jv (jcf rfl) (by rfl) T.n_all jc1 (jc (jbh rfl (jdq (sc:=jk yj) (N:=["_law_word"]) (Nc:=["_law_sign"]) (js:=[none]) (by decide +kernel)) (zy (K:=K) (qpv 0) rfl) (λ_ _ _ _=>(kr (i:=0) (show List.Nodup [("_law_sign":Str)]from by decide +kernel) rfl (by first|exact Or.inl rfl|exact Or.inr rfl))) (λ_ _ _ _=>(yr (zf (K:=K) rfl) (qpv 0) jg (by with_unfolding_all rfl)))) jd))))) ?_
  simp!
  refine⟨by omega,λp hp=>rInU.tupS (xs:=NN.map V.str) (SqT.of je) rfl (by decide) ⟨_,rfl,?_⟩⟩
  have kp1:∀o,Kp [] H (upd H p o):=λo=>(Kp.refl [] H).new hp
  refine ite2 (λh3=>?_) (λh3=>?_)
  ·have h3:inV (.str z) (NN.map V.str)=true:=h3
   have e:isNm z=false:=by simp[isNm,h3]
   rw[<-e];exact k _ (kp1 _)
  have h3:inV (.str z) (NN.map V.str)=false:=Bool.eq_false_iff.mpr h3
  refine⟨hz,ite2 (λc1=>ite2 (λc2=>?_) (λc2=>?_)) (λc1=>?_)⟩
  ·have e:isNm z=false:=by
    have:¬(z.length:Int)<=3:=by simpa using c2
    have h5:decide (3<(z.length:Int))=true:=Og (by omega)
    simp[isNm,h5]
   rw[<-e];exact k _ (kp1 _)
  ·have c2:(z.length:Int)<=3:=by simpa using c2
   have e:isNm z=z.cps.toList.all azB:=by
    have h4:decide ((z.length:Int)<1)=false:=Ia (by omega)
    have h5:decide (3<(z.length:Int))=false:=Ia (by omega)
    simp[isNm,h3,h4,h5]
   intro D hD
   refine jk1 (λc=>.bl (azB c)) hz (λc _ l Q' hq=>?_) λv=>?_
   ·simp! [jk9,jms]
    exact hq
   ·refine⟨z.cps.toList.map azB,by rw[je,Ov];rfl,?_⟩
    rw[List.all_map]
    exact e▸k _ ((kp1 _).new hD)
  ·have e:isNm z=false:=by
    have h4:decide ((z.length:Int)<1)=true:=Og (by omega)
    simp[isNm,h4]
   rw[<-e];exact k _ (kp1 _)
structure TDb(mg:Str->Option Value)(fn:Addr):Prop where
 m4z:mg "_law_is_name"=some (.ref fn)
def spDB:Sp:=λvs H Q _=>∃z:Str,vs=[.str z]/\z.length<=sizeLine/\DM (jda .sy z) H Q
abbrev yk:Stmt:=top 39
theorem sc__law_due_behind:FnScope ["_law_word"] ["_law_word"] (jk yk):=⟨rfl,rfl,rfl,by decide +kernel,rfl,by decide +kernel,by decide +kernel⟩
theorem ok__law_due_behind{f fn:Addr}{fd fdn:FuncData}(F:Fun K "_law_due_behind" "_law_due_behind" yk f fd)(T:TDb mg fn)(F4z:Fun K "_law_is_name" "_law_is_name" yj fn fdn)(b4z:Binds K fdn ["_law_word"] [])
  (G4z:FnOk P w K mg base CX0 1 fn fdn ["_law_word"] spNm):FnOk P w K mg base CX0 2 f fd ["_law_word"] spDB:=by
 refine F.ok sc__law_due_behind (λvs H Q E h=>?_) (λcdv A outer s H vs Q E hr h=>?_)
 ·obtain⟨z,rfl,_⟩:=h
  rfl
 ·obtain⟨z,rfl,hz,k⟩:=h
  have hu:=hr.units
  have hsz:sizeLine=16777216:=Ak
  refine exQ (jh (j7 (jp (j9 hu) (qpv 0) jg (jt _)) (jj (jr (j6 jd))) jx)
  (jh (j7 (jp (j9 hu) (qpv 0) jg (jt _)) (jj (jr (j6 (jc jg jd)))) jx)
  (jh (j7 (QW.pt (jag (jp (j9 hu) (qpv 0) jg (jt _)) (jad (jp (j9 hu) (qpv 0) jg (jt _))))) (jj (jr (j6 (jc jg (jc jg jd))))) jx)
  (jh (j7 (jp (j9 hu) (qpv 0) jg (jt _)) (jj (jr (j6 (jc jg (jc jg (jc jg (jc jg jd))))))) jx)
  (jh (j7 (zd (jo G4z (hr.mono (by decide)) rfl T.m4z F4z.kp b4z .nil jw (jc (qpv 0) jd))) (jj (jr (j6 (jc jg jd)))) jx)
  (jj (jr zx))))))) ?_
  simp!
  simp only[jda]at k
  by_cases c1:z=Str.ofString "yes"
  ·rw[Af c1]at k⊢
   exact⟨by omega,λp hp=>k.new hp⟩
  rw[Aa c1]at k⊢
  by_cases c2:z=Str.ofString "not"
  ·rw[Af c2]at k⊢
   exact⟨by omega,λp hp=>k.new hp⟩
  rw[Aa c2]at k⊢
  refine jld (λc3=>?_) (λc3 c4=>?_)
  ·rw[Af c3]at k
   exact⟨by omega,λp hp=>k.new hp⟩
  rw[Aa (not_or.mpr ⟨c3,c4⟩)]at k
  by_cases c5:z=Str.ofString "("
  ·rw[Af c5]at k⊢
   exact⟨by omega,λp hp=>k.new hp⟩
  rw[Aa c5]at k⊢
  refine⟨z,rfl,hz,λH1 k1=>⟨_,rfl,?_⟩⟩
  cases c6:isNm z with
  |true =>
   rw[c6,Af rfl]at k
   rw[Af rfl]
   exact⟨by omega,λp hp=>(k.kp k1).new hp⟩
  |false =>
   rw[c6,Aa (by decide)]at k
   rw[Aa (by decide)]
   exact k H1 k1
structure TDm(mg:Str->Option Value)(fn fb:Addr):Prop where
 n_len:mg "len"=none
 m4z:mg "_law_is_name"=some (.ref fn)
 m12z:mg "_law_due_behind"=some (.ref fb)
def spDM:Sp:=λvs H Q _=>∃(d:Du)(z:Str),vs=[.str (duN d),.str z]/\z.length<=sizeLine/\DM (jda d z) H Q
abbrev yv:Stmt:=top 40
theorem jar:FnScope ["_law_due_here","_law_word","_law_good"] ["_law_due_here","_law_word"] (jk yv):=⟨rfl,rfl,rfl,by decide +kernel,rfl,by decide +kernel,by decide +kernel⟩
theorem ok__law_due_more{f fn fb:Addr}{fd fdn fdb:FuncData}(F:Fun K "_law_due_more" "_law_due_more" yv f fd)(T:TDm mg fn fb)(F4z:Fun K "_law_is_name" "_law_is_name" yj fn fdn)(b4z:Binds K fdn ["_law_word"] [])
  (G4z:FnOk P w K mg base CX0 1 fn fdn ["_law_word"] spNm) (F12z:Fun K "_law_due_behind" "_law_due_behind" yk fb fdb) (b12z:Binds K fdb ["_law_word"] []) (G12z:FnOk P w K mg base CX0 2 fb fdb ["_law_word"] spDB):FnOk P w K mg base CX0 3 f fd ["_law_due_here","_law_word"] spDM:=by
 refine F.ok jar (λvs H Q E h=>?_) (λcdv A outer s H vs Q E hr h=>?_)
 ·obtain⟨d,z,rfl,_⟩:=h
  rfl
 ·obtain⟨d,z,rfl,hz,k⟩:=h
  have hu:=hr.units
  have hsz:sizeLine=16777216:=Ak
  refine exQ (y0 (j7 (jp (j9 hu) (qpv 0) jg (jt _)) (jj (jr (jo G12z (hr.mono (by decide)) rfl T.m12z F12z.kp b12z .nil jw (jc (qpv 1) jd)))) jx)
  (y0 (j7 (QW.pt (ja6 (jp (j9 hu) (qpv 0) jg (jt _)) (jbl (jp (j9 hu) (qpv 1) jg (jt _))))) (jj (jr (j6 (jc jg jd)))) jx)
  (y0 (j7 (QW.pt (ja6 (jp (j9 hu) (qpv 0) jg (jt _)) (jbl (jp (j9 hu) (qpv 1) jg (jt _))))) (jj (jr (j6 (jc jg jd)))) jx)
  (y0 (jm (i:=2) jar.nd rfl (by first|exact Or.inl rfl|exact Or.inr rfl) (jbt (yr (j9 hu) (qpv 0) jg (jt _)) (jax (jo G4z (hr.mono (by decide)) rfl T.m4z F4z.kp b4z .nil jw (jc (qpv 1) jd)))))
  (y0 (jm (i:=2) jar.nd rfl (by first|exact Or.inl rfl|exact Or.inr rfl) (jb7 (qpv 2) (jb7 (jbt (yr (j9 hu) (qpv 0) jg (jt _)) (jax (yr (zf (K:=K) rfl) (qpv 1) (kf (jc jg (jc jg jd))) (by with_unfolding_all rfl)))) (jax (jbt (yr (j9 hu) (qpv 0) jg (jt _)) (jax (yr (j9 hu) (qpv 1) jg (jt _))))))))
  (y0 (j7 (QW.pt (jag (zd (qpv 2)) (jad (QW.pt (ja6 (jp (j9 hu) (qpv 0) jg (jt _)) (ja6 (jp (j9 hu) (jv kh (by rfl) T.n_len km (jc (qpv 1) jd)) ji (jt _)) (jbl (jp (zf (K:=K) rfl) (qpv 1) jg (by with_unfolding_all rfl))))))))) (jj (jr (j6 jd))) jx)
  (jj (jr zx)))))))) ?_
  refine⟨λσ' H'=>d≠.sy/\σ'=[some (.str (duN d)),some (.str z),none]/\H'=H,?_,?_⟩
  ·simp!
   refine ite2 (λe=>?_) (λe c=>e (by rw[c];rfl))
   have e':d=.sy:=jeg (e:=.sy) e
   subst e'
   exact⟨z,rfl,hz,k⟩
  rintro _ H' ⟨d1,rfl,e1⟩
  rw[e1]
  refine⟨λσ' H'=>¬(d=.rl/\z=Str.ofString "is")/\σ'=[some (.str (duN d)),some (.str z),none]/\H'=H,?_,?_⟩
  ·simp!
   refine ite2 (λe=>ite2 (λc=>?_) λc c'=>c c'.2) (λe c=>e (by rw[c.1];rfl))
   have e':d=.rl:=jeg (e:=.rl) e
   subst e'
   simp only[jda]at k
   rw[Af c]at k
   exact⟨by omega,λp hp=>k.new hp⟩
  rintro _ H' ⟨d2,rfl,e2⟩
  rw[e2]
  refine⟨λσ' H'=>¬(d=.rl/\z=Str.ofString "<")/\σ'=[some (.str (duN d)),some (.str z),none]/\H'=H,?_,?_⟩
  ·simp!
   refine ite2 (λe=>ite2 (λc=>?_) λc c'=>c c'.2) (λe c=>e (by rw[c.1];rfl))
   have e':d=.rl:=jeg (e:=.rl) e
   subst e'
   simp only[jda]at k
   rw[Aa λq=>d2 ⟨rfl,q⟩,Af c]at k
   exact⟨by omega,λp hp=>k.new hp⟩
  rintro _ H' ⟨d3,rfl,e3⟩
  rw[e3]
  refine⟨λσ' H'=>∃c:Bool,σ'=[some (.str (duN d)),some (.str z),some (.bl c)]/\Kp [] H H'/\(c=true↔d=.nm/\isNm z=true),?_,?_⟩
  ·simp!
   refine ite2 (λe=>⟨z,rfl,hz,λH1 k1=>⟨_,rfl,k1,?_⟩⟩) (λe=>⟨Kp.refl _ _,?_⟩)
   ·exact⟨λh=>⟨jeg (e:=.nm) e,h⟩,λh=>h.2⟩
   ·exact⟨False.elim,λh=>e (by rw[h.1];rfl)⟩
  rintro _ H1 ⟨c1,rfl,k1,i1⟩
  refine⟨λσ' H'=>∃c:Bool,σ'=[some (.str (duN d)),some (.str z),some (.bl c)]/\Kp [] H H'/\(c=true↔gD2 d z),?_,?_⟩
  ·simp!
   have en:∀H9,Kp [] H H9->¬c1=true->¬(d=.lk/\(z=Str.ofString "and"\/z=Str.ofString "or"))->(if duN d=Str.ofString "end"then Kp [] H H9/\(z=Str.ofString ")"↔gD2 d z)else Kp [] H H9/\(False↔gD2 d z)):=by
    intro H9 k9 n1 n2
    rw[i1]at n1
    refine ite2 (λe=>⟨k9,?_⟩) (λe=>⟨k9,?_⟩)
    ·have e':d=.en:=jeg (e:=.en) e
     exact⟨λh=>.inr (.inr ⟨e',h⟩),λh=>h.elim (λh=>absurd h n1) λh=>h.elim (λh=>absurd h n2) λh=>h.2⟩
    ·exact⟨False.elim,λh=>h.elim n1 λh=>h.elim n2 λh=>e (by rw[h.1];rfl)⟩
   refine ite2 (λe=>⟨k1,λ_=>.inl (i1.mp e),λ_=>trivial⟩) (λn1=>ite2 (λe=>in2 λt1 ht1=>⟨_,rfl,?_⟩) (λe=>en H1 k1 n1 λh=>e (by rw[h.1];rfl)))
   have k9:=k1.new (o:=.tup [V.str (Str.ofString "and"),V.str (Str.ofString "or")]) ht1
   have e':d=.lk:=jeg (e:=.lk) e
   refine ite2 (λc=>⟨k9,λ_=>.inr (.inl ⟨e',Ij c⟩),λ_=>trivial⟩) (λc=>en _ k9 n1 λh=>c (Og h.2))
  rintro _ H2 ⟨c2,rfl,k2,i2⟩
  have kd:∀c:Bool,(c=true↔gD2 d z\/(d=.lt/\smB z=true))->DM (if c=true then some []else none) H Q:=by
   intro c hc
   have e:jda d z=if c=true then some []else none:=by
    cases d with
    |sy=>exact absurd rfl d1
    |rl =>
     have hn:¬c=true:=λh=>by rcases hc.mp h with(⟨h,_⟩|⟨h,_⟩|⟨h,_⟩)|⟨h,_⟩ <;> cases h
     rw[Aa hn]
     show(if z=Str.ofString "is"then _ else if z=Str.ofString "<"then _ else _)=_
     rw[Aa λq=>d2 ⟨rfl,q⟩,Aa λq=>d3 ⟨rfl,q⟩]
    |nm=>exact jge _ _ (by rw[hc];simp[gD2])
    |lk=>exact jge _ _ (by rw[hc];simp[gD2])
    |en=>exact jge _ _ (by rw[hc];simp[gD2])
    |lt=>exact jge _ _ (by rw[hc];simp[gD2])
   rw[<-e];exact k
  have ky:gD2 d z\/(d=.lt/\smB z=true)->0<=sizeLine/\∀p,H2 p=none->Q (V.ref p) (upd H2 p (.lst [])):=λh=>⟨Ix _,λp hp=>((kd true ⟨λ_=>h,λ_=>rfl⟩).kp k2).new hp⟩
  have kn:¬gD2 d z->¬(d=.lt/\smB z=true)->DM none H Q/\Kp [] H H2:=λh1 h2=>⟨kd false ⟨λh=>(by cases h),λh=>h.elim (λh=>absurd h h1) λh=>absurd h h2⟩,k2⟩
  refine⟨λσ' H'=>DM none H Q/\Kp [] H H',?_,?_⟩
  ·simp!
   refine ite2 (λc=>ky (.inl (i2.mp c))) (λc=>?_)
   rw[i2]at c
   refine ite2 (λe=>⟨hz,?_⟩) (λe=>kn c λh=>e (by rw[h.1];rfl))
   have e':d=.lt:=jeg (e:=.lt) e
   refine ite2 (λc1=>?_) (λc1=>kn c λh=>?_)
   ·obtain⟨c0,rfl⟩:∃c,z=⟨#[c]⟩:=by
     have:z.cps.toList.length=1:=by simp[Str.length]at c1⊢;omega
     match h:z.cps.toList,this with
     |[c],_=>exact⟨c,jfd h⟩
    have es:smB ⟨#[c0]⟩=azB c0:=by simp[smB,Str.length]
    rw[jk9,jms,<-es]
    exact ite2 (λh=>ky (.inr ⟨e',h⟩)) (λh=>kn c λq=>h q.2)
   ·have:¬z.length=1:=by omega
    simp[smB,this]at h
  rintro σ' H' ⟨k3,k4⟩
  simp!
  exact k3 H' k4
structure TFw(mg:Str->Option Value)(fm:Addr):Prop where
 n_enumerate:mg "enumerate"=none
 n_len:mg "len"=none
 m13z:mg "_law_due_more"=some (.ref fm)
def spFW:Sp:=λvs H Q _=>∃(a:Addr)(ws:List Str),vs=[.ref a]/\H a=some (.lst (ws.map V.str))/\DW ws/\∀H',Kp [] H H'->Q (match fw 0 [.sy] ws with|none=>.non|some i=>.int (i:Int)) H'
theorem jr8:∀(d:Du)(z:Str)(m:List Du),jda d z=some m->m.length<=4:=by
 intro d z m h
 cases d <;> simp only[jda]at h <;> (repeat' split at h) <;> (try cases h) <;> simp
abbrev yh:Stmt:=top 41
theorem yn:FnScope ["_law_words_here","_law_due_here","_law_at","_law_word","_law_more"] ["_law_words_here"] (jk yh):=⟨rfl,rfl,rfl,by decide +kernel,rfl,by decide +kernel,by decide +kernel⟩
theorem ok__law_first_wrong{f fm:Addr}{fd fdm:FuncData}(F:Fun K "_law_first_wrong" "_law_first_wrong" yh f fd)(T:TFw mg fm)(F13z:Fun K "_law_due_more" "_law_due_more" yv fm fdm)(b13z:Binds K fdm ["_law_due_here","_law_word"] [])
  (G13z:FnOk P w K mg base CX0 3 fm fdm ["_law_due_here","_law_word"] spDM):FnOk P w K mg base CX0 4 f fd ["_law_words_here"] spFW:=by
 refine F.ok yn (λvs H Q E h=>?_) (λcdv A outer s H vs Q E hr h=>?_)
 ·obtain⟨a,ws,rfl,_⟩:=h
  rfl
 ·obtain⟨a,ws,rfl,ha,D,k⟩:=h
  have hu:=hr.units
  have hsz:sizeLine=16777216:=Ak
  have w9:=D.w9
  refine exQ (jh (jm (i:=1) yn.nd rfl (by first|exact Or.inl rfl|exact Or.inr rfl) (j6 (jc jg jd)))
  (jh (jac I0 rfl (qpi_enumF rfl T.n_enumerate (jc (qpv 0) jd)) (jc0 (n:=2) rfl (ja9 (kr (i:=2) yn.nd rfl (by first|exact Or.inl rfl|exact Or.inr rfl)) (ja9 (kr (i:=3) yn.nd rfl (by first|exact Or.inl rfl|exact Or.inr rfl)) jcw)) (K:=K) rfl) (jh (j7 (jp (j9 hu) (jv kh (by rfl) T.n_len km (jc (qpv 1) jd)) ji (jt _)) (jj (jr (qpv 2))) jx)
  (jh (jm (i:=4) yn.nd rfl (by first|exact Or.inl rfl|exact Or.inr rfl) (jo G13z (hr.mono (by decide)) rfl T.m13z F13z.kp b13z .nil jw (jc (jbg Ud Ue jbf (qpv 1) jdd) (jc (qpv 3) jd))))
  (jh (j7 (jp jct (qpv 4) zx (jt _)) (jj (jr (qpv 2))) jx)
  (jj (jm (i:=1) yn.nd rfl (by first|exact Or.inl rfl|exact Or.inr rfl) (jq jz (qpv 1) (qpv 4))))))))
  (jh (j7 (jp jb5 (jv kh (by rfl) T.n_len km (jc (qpv 1) jd)) ji (jt _)) (jj (jr (jv kh (by rfl) T.n_len km (jc (qpv 0) jd)))) jx)
  (jj (jr zx))))) ?_
  simp!
  refine⟨by omega,λq hq=>?_⟩
  have naq:a≠q:=jl ha hq
  obtain⟨wr,hwr⟩:∃wr,wr=fw 0 [.sy] ws:=⟨_,rfl⟩
  rw[<-hwr]at k
  obtain⟨V0,hV⟩:∃V0:Nat->L2.St->Hp->Prop,V0=λi σ H'=>∃(l:Addr)(ds:List Du)(v2 v3 v4:Option V),σ=[some (.ref a),some (.ref l),v2,v3,v4]/\H' l=some (.lst (dV ds))/\H l=none/\ds.length<=4*(i+1)/\fw i ds (ws.drop i)=wr/\Kp [] H H':=⟨_,rfl⟩
  have haq:∀o,upd H q o a=some (.lst (ws.map V.str)):=λo=>by rw[jf naq];exact ha
  refine⟨_,haq _,jsh (xs:=ws.map V.str) V0 ?_ ?_ ?_ ?_⟩
  ·rw[hV]
   exact⟨q,[.sy],none,none,none,rfl,je,hq,by simp,by rw[Wn];exact hwr.symm,(Kp.refl [] H).new hq⟩
  ·intro i σ H1 _ hw
   rw[hV]at hw
   obtain⟨l,ds,v2,v3,v4,rfl,hl,hl0,dl,ew,k1⟩:=hw
   exact k1.old _ _ ha (λm=>nomatch m)
  ·intro i v σ H1 t ei hw ht
   rw[hV]at hw
   obtain⟨l,ds,v2,v3,v4,rfl,hl,hl0,dl,ew,k1⟩:=hw
   rw[A3]at ei
   obtain⟨z,ez,rfl⟩:=O7.mp ei
   have zl:=D.wl z (A0 ez)
   have il:=(Ab.mp ez).1
   have k2:=k1.new (o:=.tup [.int (i:Int),.str z]) ht
   have hl2:=((Kp.refl [] H1).new (o:=.tup [.int (i:Int),.str z]) ht).old _ _ hl (λm=>nomatch m)
   refine⟨t,_,rfl,.of je,rfl,_,_,rfl,_,_,rfl,rfl,?_⟩
   generalize upd H1 t (.tup [.int (i:Int),.str z])=H2 at k2 hl2⊢
   have nt:l≠t:=jl hl ht
   show tSeq _ _ _ [some (V.ref a),some (V.ref l),some (V.int (i:Int)),some (V.str z),v4] H2
   simp! [hl2]
   have dlen:(dV ds).length=ds.length:=by simp[dV]
   rw[dlen]
   cases ds with
   |nil =>
    simp only[List.length_nil]
    rw[Af (by simp)]
    have e3:wr=some i:=by
     rw[A6 il]at ew
     rw[<-ew];rfl
    rw[e3]at k
    exact k H2 k2
   |cons d r =>
    rw[Aa (by simp;omega)]
    have ed:dV (d::r)=dV r++[.str (duN d)]:=by simp[dV]
    have rl:(dV r).length=r.length:=by simp[dV]
    refine⟨.str (duN d),by rw[ed,Ik (by simp[rl]),rl];simp,?_⟩
    rw[ed,List.dropLast_concat]
    have k3:Kp [] H (upd H2 l (.lst (dV r))):=k2.set hl2 (.inr hl0)
    have hl3:upd H2 l (.lst (dV r)) l=some (.lst (dV r)):=je
    generalize upd H2 l (.lst (dV r))=H3 at k3 hl3⊢
    refine⟨d,z,rfl,by omega,?_⟩
    cases em:jda d z with
    |none =>
     intro H4 k4
     simp only[Af]
     have e3:=(jej (d:=d) (ds:=r) (p:=i) (ws:=ws) λz' ez'=>by rw[ez]at ez';cases ez';exact em).symm.trans ew
     rw[<-e3]at k
     exact k H4 (k3.trans k4)
    |some m =>
     intro p4 H4 hp4 e4 k4
     rw[Aa (by simp)]
     have ml:=jr8 d z m em
     have e3:=(jem (ds:=r) ez em).symm.trans ew
     have dl':r.length+1<=4*(i+1):=dl
     have dm:(dV m).length=m.length:=by simp[dV]
     refine rAddW.lst (k4.old _ _ hl3 (λm=>nomatch m)) e4 (by omega) λl5 hl5=>?_
     rw[hV]
     have e5:dV r++dV m=dV (m++r):=by simp[dV]
     rw[e5]
     exact⟨l5,m++r,_,_,_,rfl,je,(k3.trans k4).free hl5,by simp;omega,e3,(k3.trans k4).new hl5⟩
  ·intro σ H1 hw
   rw[hV]at hw
   obtain⟨l,ds,v2,v3,v4,rfl,hl,hl0,dl,ew,k1⟩:=hw
   rw[Ae,List.drop_length]at ew
   have ha1:=k1.old _ _ ha (λm=>nomatch m)
   have dlen:(dV ds).length=ds.length:=by simp[dV]
   simp! [hl,ha1]
   rw[dlen,Ae]
   cases ds with
   |nil =>
    rw[Aa (by simp)]
    rw[<-ew]at k
    exact k H1 k1
   |cons d r =>
    rw[Af (by simp)]
    rw[<-ew]at k
    exact k H1 k1
end
def spG(D:Hp->V->List V->Prop):Sp:=λvs H Q _=>∃v l,vs=[v]/\D H v l/\∀p H',H' p=some (.lst l)->H p=none->Kp [] H H'->Q (.ref p) H'
def spSg(D:Hp->V->List V->Prop)(fp:Addr):Sp:=λvs H Q _=>∃a rows pc T,vs=[.ref a,.ref fp]/\H a=some (.tup rows)/\(∀k v,rows[k]?=some v->D H v (pc k))/\Wr rows.length pc T/\∀H',Kp [] H H'->Q (.int (tx T (rows.length-1)).length) H'
def spWn(D:Hp->V->List V->Prop)(fp:Addr):Sp:=λvs H Q _=>∃a rows pc T,vs=[.ref a,.ref fp]/\H a=some (.tup rows)/\(∀k v,rows[k]?=some v->D H v (pc k))/\Wr rows.length pc T/\∀H',Kp [] H H'->Q (.str (tx T (rows.length-1))) H'
structure TSg(K:PySem.W.Frag)(mg:Str->Option Value)(tk:Tok):Prop where
 n_isinstance:mg "isinstance"=none
 n_min:mg "min"=none
 n_len:mg "len"=none
 n_sum:mg "sum"=none
 n_str:mg "str"=none
 m_MOST_SIGNS:mg "MOST_SIGNS"=some (.int 100000 tk)
 iss:PySem.W.kitOne K (.type "str") (.type "str")=some true
 isi:PySem.W.kitOne K (.type "int") (.type "str")=some false
def lnI(T:List Str)(x:V):V:=.int ((pcL T x).length:Int)
section
variable{P:Program}{w:World}{K:PySem.W.Frag}{mg:Str->Option Value}{base:Heap}
abbrev zq:Stmt:=top 19
theorem ja0:FnScope ["rows","pieces","counts","row","count"] ["rows","pieces"] (jk zq):=⟨rfl,rfl,rfl,by decide +kernel,rfl,by decide +kernel,by decide +kernel⟩
theorem ok_signs_of{D:Hp->V->List V->Prop}(hD:∀H H' v l,Kp [] H H'->D H v l->D H' v l){f fp:Addr}{fd fdp:FuncData}{tk:Tok}{xp qp:Str}{stp:Stmt}{psp:List Str}(F:Fun K "signs_of" "signs_of" zq f fd)(T:TSg K mg tk)
  (F33z:Fun K xp qp stp fp fdp) (b33z:Binds K fdp psp []) (G33z:FnOk P w K mg base CX0 3 fp fdp psp (spG D)):FnOk P w K mg base CX0 4 f fd ["rows","pieces"] (spSg D fp):=by
 refine F.ok ja0 (λvs H Q E h=>?_) (λcdv A outer s H vs Q E hr h=>?_)
 ·obtain⟨a,rows,pc,T,rfl,_⟩:=h
  rfl
 ·obtain⟨a,rows,pc,TT,rfl,ha,hrows,W,k⟩:=h
  refine⟨_,(QSs.h (jh (jm (i:=2) ja0.nd rfl (by first|exact Or.inl rfl|exact Or.inr rfl) (j6 jd))
  (jh (jac I0 rfl (zy (K:=K) (qpv 0) rfl) (kr (i:=3) ja0.nd rfl (by first|exact Or.inl rfl|exact Or.inr rfl)) (jh (jm (i:=4) ja0.nd rfl (by first|exact Or.inl rfl|exact Or.inr rfl) (jv (call_sumU rfl) (by rfl) T.n_sum bt_sum (jc (jbh rfl (jdq (sc:=jk zq) (N:=["rows","pieces","counts","row","count"]) (Nc:=["piece","counts"]) (js:=[none,some 2]) (by decide +kernel)) (zy (K:=K) (jcl 1 G33z (hr.mono (by decide)) F33z.kp b33z .nil jw (jc (qpv 3) jd)) rfl) (λ_ _ _ _=>(kr (i:=0) (show List.Nodup [("piece":Str),("counts":Str)]from by decide +kernel) rfl (by first|exact Or.inl rfl|exact Or.inr rfl))) (λ_ _ _ _=>(jcn (zd (jv (yy (K:=K) rfl) (by rfl) T.n_isinstance yp (jc (qpv 0) (jc (jap (v:=.ty "str") rfl T.n_str jc3 rfl) jd)))) (jv kh (by rfl) T.n_len km (jc (qpv 0) jd)) (ju ix_U (qpv 1) (qpv 0) (λ_ _=>rfl))))) jd)))
  (jj (kj (yd Ax Ay ki (qpv 2) (jc (jv (jci rfl) (by rfl) T.n_min jc2 (jc (qpv 4) (jc (jq jz (yu (v:=.int 100000) rfl T.m_MOST_SIGNS ⟨_,rfl⟩) ji) jd))) jd) jdd)))))
  (jj (jr (ju ix_U (qpv 2) (jb8 jib ji) (λ_ _=>rfl))))))),?_⟩
  have hsz:sizeLine=16777216:=Ak
  simp!
  refine⟨by omega,λc hc=>?_⟩
  have hac:a≠c:=jl ha hc
  have ha2:∀o,upd H c o a=some (.tup rows):=λo=>by rw[jf hac];exact ha
  simp! [ha2]
  refine jfi (xs:=rows) (λi σ H'=>∃v1 v2,σ=[some (.ref a),some (.ref fp),some (.ref c),v1,v2]/\Kp [] H H'/\H' c=some (.lst ((List.range i).map λj=>.int ((tx TT j).length:Int)))) ?_ ?_ ?_ ?_
  ·exact⟨none,none,rfl,(Kp.refl [] H).new hc,je⟩
  ·rintro i σ H' _ ⟨v1,v2,rfl,kp,_⟩
   exact kp.tup _ _ ha
  ·rintro i x σ H' hx ⟨v1,v2,rfl,kp,hc'⟩
   have hi:i<rows.length:=(Ab.mp hx).1
   simp!
   refine⟨x,pc i,rfl,hD _ _ _ _ kp (hrows i x hx),λp H1 hp1 hp0 kp1=>?_⟩
   simp! [hp1]
   intro D2 hD2
   have hc1:H1 c=some (.lst ((List.range i).map λj=>.int ((tx TT j).length:Int))):=kp1.old _ _ hc' Ah
   have ncD:c≠D2:=jl hc1 hD2
   have hz:(pc i).length<=sizeLine:=by have:=W.sz i hi;omega
   refine joy (lnI TT) hp1 hD2 hz (λy hy l Q' hq=>?_) λv=>?_
   ·rcases W.ok i hi y hy with⟨s,rfl⟩|⟨j,rfl,hj⟩
    ·simp!
     refine⟨_,TyOf.str _,true,T.iss,?_⟩
     simp!
     refine⟨?_,?_⟩
     ·have:=W.pc_le hi hy
      simp only[pcL,jd8]at this
      omega
     ·exact(Om (λn:Nat=>Q' (.int (n:Int)) _) (jd8 s)).mp hq
    ·simp!
     refine⟨_,TyOf.int _,false,T.isi,?_⟩
     simp!
     refine⟨_,by rw[jf ncD,hc1];rfl,.int ((tx TT j).length:Int),jc8 (by omega) (by simp[hj]),?_⟩
     have:lnI TT (.int (j:Int))=.int ((tx TT j).length:Int):=by simp[lnI,pcL,jd8]
     rw[this]at hq
     exact hq
   ·refine⟨(pc i).map λx=>((pcL TT x).length:Int),by rw[je,Ov];rfl,?_⟩
    have e1:((pc i).map λx=>((pcL TT x).length:Int)).sum=(((tx TT i).length:Nat):Int):=by
     rw[<-W.sum hi,<-jno,Ov];rfl
    have b1:=W.bd i
    rw[e1]
    refine⟨λn hn=>?_,by omega,?_⟩
    ·obtain⟨x,_,rfl⟩:=Io.mp hn
     omega
    have hc3:upd H1 D2 (.lst ((pc i).map (lnI TT))) c=some (.lst ((List.range i).map λj=>.int ((tx TT j).length:Int))):=by rw[jf ncD];exact hc1
    simp! [hc3]
    rw[Aa (by omega)]
    have few:=W.few
    refine⟨by simp;omega,_,_,⟨rfl,rfl⟩,?_,?_⟩
    ·refine((kp.trans kp1).new hD2).set hc3 (.inr hc)
    ·rw[We,Od];rfl
  ·rintro σ H' ⟨v1,v2,rfl,kp,hc'⟩
   simp! [hc']
   have:=W.pos
   exact⟨_,jot (by rw[Ae,U0,A3,List.getElem?_range (by omega)];rfl),k H' kp⟩
structure TWn(mg:Str->Option Value)(fs:Addr)(tk:Tok):Prop where
 n_isinstance:mg "isinstance"=none
 n_list:mg "list"=none
 n_reversed:mg "reversed"=none
 n_len:mg "len"=none
 n_str:mg "str"=none
 m_MOST_SIGNS:mg "MOST_SIGNS"=some (.int 100000 tk)
 m29z:mg "signs_of"=some (.ref fs)
abbrev jah:Stmt:=top 18
theorem ja3:FnScope ["rows","pieces","texts","due","piece"] ["rows","pieces"] (jk jah):=⟨rfl,rfl,rfl,by decide +kernel,rfl,by decide +kernel,by decide +kernel⟩
def je0(H:Hp)(a:Addr):List V:=(jdc (H a)).getD []
theorem ok_written{D:Hp->V->List V->Prop}(hD:∀H H' v l,Kp [] H H'->D H v l->D H' v l){f fp fs:Addr}{fd fdp fds:FuncData}{tk:Tok}{xp qp:Str}{stp:Stmt}{psp:List Str}(F:Fun K "written" "written" jah f fd)(T:TWn mg fs tk)
  (iss:PySem.W.kitOne K (.type "str") (.type "str")=some true) (isi:PySem.W.kitOne K (.type "int") (.type "str")=some false)
  (F33z:Fun K xp qp stp fp fdp) (b33z:Binds K fdp psp []) (G33z:FnOk P w K mg base CX0 3 fp fdp psp (spG D))
  (F29z:Fun K "signs_of" "signs_of" zq fs fds) (b29z:Binds K fds ["rows","pieces"] []) (G29z:FnOk P w K mg base CX0 4 fs fds ["rows","pieces"] (spSg D fp)):FnOk P w K mg base CX0 5 f fd ["rows","pieces"] (spWn D fp):=by
 refine F.ok ja3 (λvs H Q E h=>?_) (λcdv A outer s H vs Q E hr h=>?_)
 ·obtain⟨a,rows,pc,T,rfl,_⟩:=h
  rfl
 ·obtain⟨a,rows,pc,TT,rfl,ha,hrows,W,k⟩:=h
  refine⟨_,(QSs.h (jh (j7 (jp jb5 (jo G29z (hr.mono (by decide)) rfl T.m29z F29z.kp b29z .nil jw (jc (qpv 0) (jc (qpv 1) jd))) (yu (v:=.int 100000) rfl T.m_MOST_SIGNS ⟨_,rfl⟩) (jt _)) (jj qps_never) jx)
  (jh (jm (i:=2) ja3.nd rfl (by first|exact Or.inl rfl|exact Or.inr rfl) (j6 jd))
  (jh (jm (i:=3) ja3.nd rfl (by first|exact Or.inl rfl|exact Or.inr rfl) (j6 (jc (jq jaf (jv kh (by rfl) T.n_len km (jc (qpv 0) jd)) ji) jd)))
  (jh (ja1 I0 (jbv (qpv 3)) (jh (jm (i:=4) ja3.nd rfl (by first|exact Or.inl rfl|exact Or.inr rfl) (jbg Ud Ue jbf (qpv 3) jdd))
  (jj (j7 (zd (jv (yy (K:=K) rfl) (by rfl) T.n_isinstance yp (jc (qpv 4) (jc (jap (v:=.ty "str") rfl T.n_str jc3 rfl) jd)))) (jj (kj (yd Ax Ay ki (qpv 2) (jc (qpv 4) jd) jdd))) (jj (kj (yd PySem.F.slot_list_extend PySem.F.type_list_extend mt_extendU (qpv 3) (jc (qpe_listRev rfl rfl T.n_list rfl T.n_reversed (jcl 1 G33z (hr.mono (by decide)) F33z.kp b33z .nil jw (jc (ju ix_U (qpv 0) (qpv 4) (λ_ _=>rfl)) jd))) jd) jdd)))))))
  (jj (jr (ja5 Uf Ug ja7 jg (jc (qpv 2) jd) jf3)))))))),?_⟩
  have hsz:sizeLine=16777216:=Ak
  have hpos:=W.pos
  have few:=W.few
  simp!
  refine⟨a,rows,pc,TT,rfl,ha,hrows,W,λH1 kp1=>?_⟩
  have bd:=W.bd (rows.length-1)
  refine⟨_,rfl,?_⟩
  rw[Aa (by omega)]
  have ha1:=kp1.tup _ _ ha
  refine⟨by omega,λt ht=>?_⟩
  have hat:a≠t:=jl ha1 ht
  have ha2:∀o,upd H1 t o a=some (.tup rows):=λo=>by rw[jf hat];exact ha1
  simp! [ha2]
  refine⟨by omega,λd hd=>?_⟩
  have htd:t≠d:=jl je hd
  have hd0:H1 d=none:=by rw[jf htd.symm]at hd;exact hd
  refine jra (λσ H'=>∃(v1:Option V)(ys:List Str)(xs:List V),σ=[some (.ref a),some (.ref fp),some (.ref t),some (.ref d),v1]/\Kp [] H1 H'/\H' t=some (.lst (ys.map V.str))/\H' d=some (.lst xs)/\(∀x∈xs,isPc rows.length x) /\
   (ys.map sg).flatten++cat TT xs.reverse=sg (tx TT (rows.length-1))/\ys.length+wsum TT xs<=200000) (λ_ H'=>wsum TT (je0 H' d)) ?_ ?_ ?_
  ·refine⟨none,[],[.int ((rows.length:Int)-1)],rfl,((Kp.refl [] H1).new ht).new hd,by rw[jf htd,je];rfl,je,?_,?_,?_⟩
   ·intro x hx
    simp at hx
    subst hx
    exact .inr ⟨rows.length-1,by congr 1;omega,by omega⟩
   ·have e:((rows.length:Int)-1).toNat=rows.length-1:=by omega
    simp[cat,pcL,e]
   ·have e:((rows.length:Int)-1).toNat=rows.length-1:=by omega
    simp[wsum,pw,e]
    omega
  ·rintro σ H' ⟨v1,ys,xs,rfl,kp,hT,hd',hok,heq,hw⟩
   simp! [hd']
   have hge:=ji1 TT (λi hi=>W.one hi) xs hok
   cases hxs:xs.isEmpty with
   |true =>
    have:xs=[]:=Wx.mp hxs
    subst this
    simp! [hT]
    have e:(ys.map sg).flatten=sg (tx TT (rows.length-1)):=by simpa[cat]using heq
    have e2:Txt.join (Str.ofString "") ys=tx TT (rows.length-1):=jtv (by rw[jrp,e])
    have e3:(ys.map (·.length)).sum=(tx TT (rows.length-1)).length:=by
     rw[<-jd8,<-e,List.length_flatten,Ov]
     have:∀l:List Str,(l.map (·.length)).sum=(l.map (List.length∘sg)).sum:=by
      intro l
      induction l with
      |nil=>rfl
      |cons z l ih=>simp only[Av,List.sum_cons,ih,Function.comp,jd8]
     exact this ys
    refine⟨ys,hT,?_,?_⟩
    ·rw[e3]
     show _+ys.length*0<=_
     omega
    ·rw[e2]
     exact k H' (kp1.trans kp)
   |false =>
    have hne:xs≠[]:=by intro z;subst z;simp at hxs
    obtain⟨y,hy⟩:∃y,xs[xs.length-1]?=some y:=by
     have:0<xs.length:=List.length_pos_iff.mpr hne
     exact⟨xs[xs.length-1]'(by omega),by simp⟩
    have exs:=jna hy
    have hym:y∈xs:=A0 hy
    have hl0:wsum TT (je0 H' d)=wsum TT xs.dropLast+pw TT y:=by
     have:je0 H' d=xs:=by simp[je0,hd',jdc]
     rw[this]
     conv=>lhs;rw[exs]
     rw[jey]
     simp[wsum]
    have hw2:wsum TT xs=wsum TT xs.dropLast+pw TT y:=by
     conv=>lhs;rw[exs]
     rw[jey]
     simp[wsum]
    have hcat:cat TT xs.reverse=pcL TT y++cat TT xs.dropLast.reverse:=by
     conv=>lhs;rw[exs]
     rw[List.reverse_append,jmu]
     simp[cat]
    have hokd:∀x∈xs.dropLast,isPc rows.length x:=λx hx=>hok x (List.dropLast_subset _ hx)
    simp!
    refine⟨y,hy,?_⟩
    have kp2:Kp [] H1 (upd H' d (.lst xs.dropLast)):=kp.set hd' (.inr hd0)
    have ht2:∀o,upd H' d o t=some (.lst (ys.map V.str)):=λo=>by rw[jf htd];exact hT
    rcases hok y hym with⟨z,rfl⟩|⟨i,rfl,hi⟩
    ·simp!
     refine⟨_,TyOf.str _,iss,by rw[ht2];rfl,ys.map V.str,by rw[ht2];rfl,by rw[Ae];omega,⟨kp2.set (ht2 _) (.inr ht),ys++[z],by simp,xs.dropLast,by rw[jf htd.symm,je],hokd,?_,?_⟩,?_⟩
     ·rw[<-heq,hcat,Od,List.flatten_append,A9]
      simp[pcL]
     ·rw[hw2]at hw
      simp[pw]at hw
      rw[Ap]
      simp
      omega
     ·rw[hl0]
      have:je0 (upd (upd H' d (.lst xs.dropLast)) t (.lst (ys.map V.str++[.str z]))) d=xs.dropLast:=by simp[je0,jf htd.symm,je,jdc]
      rw[this]
      simp[pw]
    ·simp!
     refine⟨_,TyOf.int _,false,isi,?_⟩
     have ha3:=kp2.tup _ _ ha1
     simp! [ha3]
     obtain⟨v,hv⟩:∃v,rows[i]?=some v:=⟨rows[i]'hi,by simp⟩
     refine⟨_,jc8 (by omega) (by simpa using hv),?_⟩
     refine⟨v,pc i,rfl,hD _ _ _ _ (kp1.trans kp2) (hrows i v hv),λp H2 hp hp0 kp3=>?_⟩
     simp! [hp]
     intro l hl
     have hd2:H2 d=some (.lst xs.dropLast):=kp3.old _ _ je Ah
     have hdl:d≠l:=jl hd2 hl
     have hd3:∀o,upd H2 l o d=some (.lst xs.dropLast):=λo=>by rw[jf hdl];exact hd2
     simp! [hd3]
     have hwt:=W.wt i hi
     have e4:pw TT (.int (i:Int))=2*(tx TT i).length:=by simp[pw]
     rw[e4]at hw2 hl0
     have hge2:=ji1 TT (λi hi=>W.one hi) _ hokd
     have hsz2:=W.sz i hi
     refine⟨by rw[List.length_reverse];omega,?_⟩
     have hT2:H2 t=some (.lst (ys.map V.str)):=kp3.old _ _ (ht2 _) Ah
     have htl:t≠l:=jl hT2 hl
     refine⟨⟨((kp2.trans kp3).new hl).set (hd3 _) (.inr hd0),ys,by rw[jf htd,jf htl];exact hT2,?_,?_,?_⟩,?_⟩
     ·intro x hx
      rcases Ie.mp hx with h|h
      ·exact hokd x h
      ·exact(W.ok i hi x (List.mem_reverse.mp h)).mono (by omega)
     ·rw[<-heq,hcat,List.reverse_append,List.reverse_reverse,jmu,<-W.eq i hi]
      simp[pcL]
     ·rw[jey,jhd]
      omega
     ·rw[hl0]
      have:je0 (upd (upd H2 l (.lst (pc i).reverse)) d (.lst (xs.dropLast++(pc i).reverse))) d=xs.dropLast++(pc i).reverse:=by simp[je0,je,jdc]
      rw[this,jey,jhd]
      omega
  ·intro σ H' Q1 Q2 hq h
   obtain⟨v,e,h⟩:=h
   refine⟨v,e,?_⟩
   replace h:rTru v H' Q1:=h
   show rTru v H' Q2
   unfold rTru at h⊢
   split at h
   ·exact hq _ _ h
   ·exact hq _ _ h
   ·exact hq _ _ h
   ·exact⟨h.1,hq _ _ h.2⟩
   ·obtain⟨xs,e,h⟩:=h
    exact⟨xs,e,hq _ _ h⟩
   ·exact h.elim
end
def pcs:RS->List V
 |.yes=>[.str "yes"]
 |.is x a=>[.str x,.str " is ",.str a]
 |.ahead x y=>[.str x,.str " < ",.str y]
 |.no i=>[.str "not ",.int (i:Int)]
 |.bin b i j=>[.str "(",.int (i:Int),.str (if b then" and "else" or "),.int (j:Int),.str ")"]
 |.qn b x i=>[.str (if b then"some "else"each "),.str x,.str " ",.int (i:Int)]
def DSh(H:Hp)(v:V)(l:List V):Prop:=∃r a,v=.ref a/\H a=some (.tup (rowV r))/\l=pcs r
theorem DSh.kp{H H':Hp}{v:V}{l:List V}(k:Kp [] H H')(h:DSh H v l):DSh H' v l:=by
 obtain⟨r,a,e,ha,hl⟩:=h
 exact⟨r,a,e,k.tup _ _ ha,hl⟩
theorem wbi(b:Bool):inV (.str (bw b)) [.str "and",.str "or"]=true:=by cases b <;> decide +kernel
theorem wqi(b:Bool):inV (.str (qw b)) [.str "and",.str "or"]=false:=by cases b <;> decide +kernel
theorem wbe(b:Bool):Str.empty++Str.ofString " "++bw b++Str.ofString " "=(if b then" and "else" or ":Str):=by cases b <;> decide +kernel
theorem wqe(b:Bool):Str.empty++qw b++Str.ofString " "=(if b then"some "else"each ":Str):=by cases b <;> decide +kernel
theorem wbel(b:Bool):(if b=true then Str.ofString " and "else Str.ofString " or ").length<=5:=by cases b <;> decide +kernel
theorem wqel(b:Bool):(if b=true then Str.ofString "some "else Str.ofString "each ").length=5:=by cases b <;> decide +kernel
theorem bwl(b:Bool):(bw b).length<=3:=by cases b <;> decide +kernel
theorem qwl(b:Bool):(qw b).length=4:=by cases b <;> decide +kernel
theorem jgy(x y:Str):(x++y).length=x.length+y.length:=by rw[<-jd8,jdu,Ap,jd8,jd8]
theorem jix:(Str.ofString " ").length=1:=by decide +kernel
theorem jo3:Str.empty.length=0:=rfl
section
variable{P:Program}{w:World}{K:PySem.W.Frag}{mg:Str->Option Value}{base:Heap}
abbrev jae:Stmt:=top 22
theorem jbs:FnScope ["row","word"] ["row"] (jk jae):=⟨rfl,rfl,rfl,by decide +kernel,rfl,by decide +kernel,by decide +kernel⟩
theorem ok_pieces_of{f:Addr}{fd:FuncData}(F:Fun K "pieces_of" "pieces_of" jae f fd):FnOk P w K mg base CX0 3 f fd ["row"] (spG DSh):=by
 refine F.ok jbs (λvs H Q E h=>?_) (λcdv A outer s H vs Q E hr h=>?_)
 ·obtain⟨v,l,rfl,_⟩:=h
  rfl
 ·obtain⟨v,l,rfl,⟨r,a,rfl,ha,rfl⟩,k⟩:=h
  have hu:=hr.units
  refine⟨_,(QSs.h (jh (jm (i:=1) jbs.nd rfl (by first|exact Or.inl rfl|exact Or.inr rfl) (ju ix_U (qpv 0) ji (λ_ _=>rfl)))
  (jh (j7 (jp (j9 hu) (qpv 1) jg (jt _)) (jj (jr (j6 (jc jg jd)))) jx)
  (jh (j7 (jp (j9 hu) (qpv 1) jg (jt _)) (jj (jr (j6 (jc (ju ix_U (qpv 0) ji (λ_ _=>rfl)) (jc jg (jc (ju ix_U (qpv 0) ji (λ_ _=>rfl)) jd)))))) jx)
  (jh (j7 (jp (j9 hu) (qpv 1) jg (jt _)) (jj (jr (j6 (jc (ju ix_U (qpv 0) ji (λ_ _=>rfl)) (jc jg (jc (ju ix_U (qpv 0) ji (λ_ _=>rfl)) jd)))))) jx)
  (jh (j7 (jp (j9 hu) (qpv 1) jg (jt _)) (jj (jr (j6 (jc jg (jc (ju ix_U (qpv 0) ji (λ_ _=>rfl)) jd))))) jx)
  (jh (j7 (jp (zf (K:=K) rfl) (qpv 1) (kf (jc jg (jc jg jd))) (by with_unfolding_all rfl)) (jj (jr (j6 (jc jg (jc (ju ix_U (qpv 0) ji (λ_ _=>rfl)) (jc (jbj (jaq jg (jaq (jcz (qpv 1)) (jaq jg jcd)))) (jc (ju ix_U (qpv 0) ji (λ_ _=>rfl)) (jc jg jd)))))))) jx)
  (jj (jr (j6 (jc (jbj (jaq (jcz (qpv 1)) (jaq jg jcd))) (jc (ju ix_U (qpv 0) ji (λ_ _=>rfl)) (jc jg (jc (ju ix_U (qpv 0) ji (λ_ _=>rfl)) jd)))))))))))))),?_⟩
  have hsz:sizeLine=16777216:=Ak
  have hb:∀(b:Bool)(i j:Nat),hw (.bin b i j)=bw b:=λb i j=>by cases b <;> rfl
  have hq:∀(b:Bool)(x:Str)(i:Nat),hw (.qn b x i)=qw b:=λb x i=>by cases b <;> rfl
  simp! [ha,jrl]
  refine ite2 (λe=>?_) (λe1=>ite2 (λe=>?_) (λe2=>ite2 (λe=>?_) (λe3=>ite2 (λe=>?_) (λe4=>?_))))
  ·have e0:=jph e
   subst e0
   exact⟨by omega,λp hp=>k p _ je hp ((Kp.refl [] H).new hp)⟩
  ·obtain⟨x,y,rfl⟩:=jrm e
   exact⟨_,jc8 (by decide) rfl,_,jc8 (by decide) rfl,by omega,λp hp=>k p _ je hp ((Kp.refl [] H).new hp)⟩
  ·obtain⟨x,y,rfl⟩:=jla e
   exact⟨_,jc8 (by decide) rfl,_,jc8 (by decide) rfl,by omega,λp hp=>k p _ je hp ((Kp.refl [] H).new hp)⟩
  ·obtain⟨i,rfl⟩:=jpg e
   exact⟨_,jc8 (by decide) rfl,by omega,λp hp=>k p _ je hp ((Kp.refl [] H).new hp)⟩
  by_cases e5:hw r=Str.ofString "and"\/hw r=Str.ofString "or"
  ·obtain⟨b,i,j,rfl⟩:=jpf e5
   rw[hb]
   refine⟨by omega,λp hp=>rInU.tupS (SqT.of je) rfl (by decide) ?_⟩
   have hap:a≠p:=jl ha hp
   have ha2:∀o,upd H p o a=some (.tup (rowV (.bin b i j))):=λo=>by rw[jf hap];exact ha
   simp! [ha2,wbi,rowV,wbe,jgy,jix,jo3]
   have:=bwl b
   have:=wbel b
   refine⟨by omega,by omega,by omega,by omega,by omega,by omega,λq hq=>?_⟩
   have hpq:H q=none:=by
    by_cases z:q=p
    ·subst z;exact hp
    ·rw[jf z]at hq;exact hq
   exact k q _ je hpq (((Kp.refl [] H).new hp).new hq)
  ·obtain⟨b,x,i,rfl⟩:=jrn e2 e3 e4 (λz=>e5 (.inl z)) (λz=>e5 (.inr z)) e1
   rw[hq]
   refine⟨by omega,λp hp=>rInU.tupS (SqT.of je) rfl (by decide) ?_⟩
   have hap:a≠p:=jl ha hp
   have ha2:∀o,upd H p o a=some (.tup (rowV (.qn b x i))):=λo=>by rw[jf hap];exact ha
   simp! [ha2,wqi,rowV,wqe,jgy,jix,jo3,qwl,wqel]
   refine⟨by omega,by omega,by omega,by omega,by omega,λq hq=>?_⟩
   have hpq:H q=none:=by
    by_cases z:q=p
    ·subst z;exact hp
    ·rw[jf z]at hq;exact hq
   exact k q _ je hpq (((Kp.refl [] H).new hp).new hq)
end
def tw(T:List Str):RS->Str
 |.yes=>"yes"
 |.is x a=>x++Str.ofString " is "++a
 |.ahead x y=>x++Str.ofString " < "++y
 |.no i=>Str.ofString "not "++tx T i
 |.bin b i j=>Str.ofString "("++tx T i++Str.ofString " "++bw b++Str.ofString " "++tx T j++Str.ofString ")"
 |.qn b x i=>qw b++Str.ofString " "++x++Str.ofString " "++tx T i
def RS.okS(k:Nat):RS->Prop
 |.yes=>True
 |.is x a=>x.length<=3/\a.length<=1
 |.ahead x y=>x.length<=3/\y.length<=3
 |.no i=>i<k
 |.bin _ i j=>i<k/\j<k
 |.qn _ x i=>x.length<=3/\i<k
def txts(rs:List RS):List Str:=rs.foldl (λT r=>T++[tw T r]) []
theorem jj2(rs:List RS)(r:RS):txts (rs++[r])=txts rs++[tw (txts rs) r]:=by simp[txts,List.foldl_append]
theorem jl5{α:Type}{M:List α->Prop}(h0:M [])(h1:∀l x,M l->M (l++[x])):∀l,M l:=by
 intro l
 have:∀l:List α,M l.reverse:=by
  intro l
  induction l with
  |nil=>exact h0
  |cons x l ih=>rw[Wu];exact h1 _ _ ih
 have:=this l.reverse
 rwa[List.reverse_reverse]at this
theorem jfv:∀rs:List RS,(txts rs).length=rs.length:=jl5 rfl λl x ih=>by rw[jj2,Ap,Ap,ih];rfl
theorem juv{T:List Str}{t:Str}{i:Nat}(h:i<T.length):tx (T++[t]) i=tx T i:=by simp[tx,Ic h]
theorem jut(T:List Str)(t:Str):tx (T++[t]) T.length=t:=by simp[tx]
theorem juu{T:List Str}{i:Nat}(h:T.length<=i):tx T i=⟨#[]⟩:=by simp[tx,Wd.mpr h]
theorem jnr{T T':List Str}{k:Nat}(h:∀i,i<k->tx T i=tx T' i):∀{r:RS},r.okS k->tw T r=tw T' r
 |.yes,_=>rfl
 |.is _ _,_=>rfl
 |.ahead _ _,_=>rfl
 |.no i,q=>by simp only[tw];rw[h i q]
 |.bin b i j,q=>by simp only[tw];rw[h i q.1,h j q.2]
 |.qn b x i,q=>by simp only[tw];rw[h i q.2]
def okS(rs:List RS):Prop:=∀(k:Nat)(r:RS),rs[k]?=some r->r.okS k
theorem okS.pre{rs:List RS}{r:RS}(h:okS (rs++[r])):okS rs:=λk x e=>h k x (by rw[Ic (Ab.mp e).1];exact e)
theorem okS.last{rs:List RS}{r:RS}(h:okS (rs++[r])):r.okS rs.length:=h rs.length r (by simp)
theorem jop:∀rs:List RS,okS rs->∀k r,rs[k]?=some r->tx (txts rs) k=tw (txts rs) r:=by
 refine jl5 (λ_ k r e=>by simp at e) λl x ih ok k r e=>?_
 have ok1:=ok.pre
 rw[jj2]
 have cg:∀i,i<l.length->tx (txts l++[tw (txts l) x]) i=tx (txts l) i:=λi hi=>juv (by rw[jfv];exact hi)
 by_cases hk:k<l.length
 ·rw[Ic hk]at e
  rw[cg k hk,ih ok1 k r e]
  exact(jnr (k:=k) (λi hi=>cg i (by omega)) (ok1 k r e)).symm
 ·have hk':k=l.length:=by
   have:=(Ab.mp e).1
   simp at this
   omega
  subst hk'
  simp at e
  subst e
  have e2:=jut (txts l) (tw (txts l) x)
  rw[jfv]at e2
  rw[e2]
  exact(jnr cg ok.last).symm
theorem juf:(Str.ofString "yes").length=3:=by decide +kernel
theorem l_is:(Str.ofString " is ").length=4:=by decide +kernel
theorem l_ah:(Str.ofString " < ").length=3:=by decide +kernel
theorem l_no:(Str.ofString "not ").length=4:=by decide +kernel
theorem l_op:(Str.ofString "(").length=1:=by decide +kernel
theorem l_cl:(Str.ofString ")").length=1:=by decide +kernel
theorem jum(b:Bool):sg (if b=true then Str.ofString " and "else Str.ofString " or ")=sg (Str.ofString " ")++sg (bw b)++sg (Str.ofString " "):=by cases b <;> decide +kernel
theorem jun(b:Bool):sg (if b=true then Str.ofString "some "else Str.ofString "each ")=sg (qw b)++sg (Str.ofString " "):=by cases b <;> decide +kernel
theorem juy{rs:List RS}(h0:0<rs.length)(h1:rs.length<=1000)(ok:okS rs)(bd:∀i,(tx (txts rs) i).length<=50000):Wr rs.length (λk=>match rs[k]? with|some r=>pcs r|none=>[]) (txts rs):=by
 have at_:∀k,k<rs.length->∃r,rs[k]?=some r:=λk hk=>⟨rs[k]'hk,by simp⟩
 refine⟨h0,h1,jfv rs,λk hk x hx=>?_,λk hk=>?_,λk hk=>?_,bd,λk hk=>?_⟩
 ·obtain⟨r,e⟩:=at_ k hk
  simp only[e]at hx
  have q:=ok k r e
  cases r with
  |yes=>simp[pcs]at hx;exact .inl ⟨_,hx⟩
  |is a b=>simp[pcs]at hx;rcases hx with h|h|h <;> exact .inl ⟨_,h⟩
  |ahead a b=>simp[pcs]at hx;rcases hx with h|h|h <;> exact .inl ⟨_,h⟩
  |no i=>simp[pcs]at hx;rcases hx with h|h;exact .inl ⟨_,h⟩;exact .inr ⟨i,h,q⟩
  |bin b i j =>
   simp[pcs]at hx
   rcases hx with h|h|h|h|h
   ·exact .inl ⟨_,h⟩
   ·exact .inr ⟨i,h,q.1⟩
   ·exact .inl ⟨_,h⟩
   ·exact .inr ⟨j,h,q.2⟩
   ·exact .inl ⟨_,h⟩
  |qn b x i =>
   simp[pcs]at hx
   rcases hx with h|h|h|h
   ·exact .inl ⟨_,h⟩
   ·exact .inl ⟨_,h⟩
   ·exact .inl ⟨_,h⟩
   ·exact .inr ⟨i,h,q.2⟩
 ·obtain⟨r,e⟩:=at_ k hk
  simp only[e]
  cases r <;> simp[pcs]
 ·obtain⟨r,e⟩:=at_ k hk
  simp only[e]
  rw[jop rs ok k r e]
  cases r <;> simp[tw,pcs,cat,pcL,jdu,jum,jun]
 ·obtain⟨r,e⟩:=at_ k hk
  simp only[e]
  rw[jop rs ok k r e]
  cases r <;> simp[tw,pcs,wsum,pw,jgy,juf,l_is,l_ah,l_no,l_op,l_cl,jix,qwl] <;> omega
structure Say(H:Hp)(vs:List V)(rs:List RS):Prop where
 at_:RowsAt H vs rs
 pos:0<rs.length
 few:rs.length<=1000
 ok:okS rs
 bd:∀i,(tx (txts rs) i).length<=50000
def jpz:Sp:=λvs H Q _=>∃a rows rs,vs=[.ref a]/\H a=some (.tup rows)/\Say H rows rs/\∀H',Kp [] H H'->Q (.str (tx (txts rs) (rs.length-1))) H'
section
variable{P:Program}{w:World}{K:PySem.W.Frag}{mg:Str->Option Value}{base:Heap}
structure TSh(mg:Str->Option Value)(fw fp:Addr):Prop where
 m31z:mg "written"=some (.ref fw)
 m32z:mg "pieces_of"=some (.ref fp)
abbrev zb:Stmt:=top 21
theorem sc_show_saying:FnScope ["saying"] ["saying"] (jk zb):=⟨rfl,rfl,rfl,by decide +kernel,rfl,by decide +kernel,by decide +kernel⟩
theorem ok_show_saying{f fw fp:Addr}{fd fdw:FuncData}(F:Fun K "show_saying" "show_saying" zb f fd)(T:TSh mg fw fp)
  (F31z:Fun K "written" "written" jah fw fdw) (b31z:Binds K fdw ["rows","pieces"] []) (G31z:FnOk P w K mg base CX0 5 fw fdw ["rows","pieces"] (spWn DSh fp)):FnOk P w K mg base CX0 6 f fd ["saying"] jpz:=by
 refine F.ok sc_show_saying (λvs H Q E h=>?_) (λcdv A outer s H vs Q E hr h=>?_)
 ·obtain⟨a,rows,rs,rfl,_⟩:=h
  rfl
 ·obtain⟨a,rows,rs,rfl,ha,S,k⟩:=h
  refine⟨_,(QSs.h (jj (jr (jo G31z (hr.mono (by decide)) rfl T.m31z F31z.kp b31z .nil jw (jc (qpv 0) (jc (yu (v:=.ref _) rfl T.m32z rfl) jd)))))),?_⟩
  simp!
  have hl:rows.length=rs.length:=A5 S.at_
  have W:=juy S.pos (by have:=S.few;omega) S.ok (λi=>by have:=S.bd i;omega)
  refine⟨a,rows,_,txts rs,rfl,ha,λk v hv=>?_,by rw[hl];exact W,λH' kp=>by rw[hl];exact k H' kp⟩
  obtain⟨r,b,e1,e2,e3⟩:=S.at_.get hv
  exact⟨r,b,e2,e3,by simp only[e1]⟩
end
theorem wAtG{rs:List RS}(g:RG rs){i:Nat}{r:RS}(e:rs[i]?=some r):wAt rs i=wdL (wAt rs) r:=by
 have hi:=(Ab.mp e).1
 have er:rs=rs.take i++([r]++rs.drop (i+1)):=by
  have:=(Ab.mp e).2
  rw[List.singleton_append,<-this,<-A6 hi,U3]
 have lt:(rs.take i).length=i:=by rw[Il];omega
 have e1:wAt rs i=wAt (rs.take i++[r]) i:=by
  conv=>lhs;rw[er,<-A9]
  exact jfh _ _ (by simp[lt])
 have e2:wAt (rs.take i++[r]) i=wdL (wAt (rs.take i)) r:=by
  have:=jhc (rs.take i) r
  rwa[lt]at this
 rw[e1,e2]
 refine joq (g i r e).1 λj hj=>?_
 conv=>rhs;rw[er]
 exact(jfh _ _ (by omega)).symm
def Wel(ws:List Str):Prop:=(∃h t,ws=h::t/\h≠cB)/\(∃a l,ws=a++[l]/\l≠oB)/\∀w∈ws,wdOk w/\w.length<=5
theorem jkw{y:Str}(h:y.cps.toList.all azB=true)(l1:1<=y.length):wdOk y:=.inr (.inr ⟨λe=>by
  have:y.length=y.cps.toList.length:=by simp[Str.length]
  rw[this,show y.cps.toList=[]from e]at l1;simp at l1,λc hc=>by
  have:=Oo.mp h c hc
  simp[azB]at this
  omega⟩)
theorem jdr{y:Str}(h:isNm y=true):1<=y.length/\y.length<=3/\y.cps.toList.all azB=true:=by
 unfold isNm at h
 obtain⟨h1,h2⟩:=Oq.mp h
 refine⟨?_,?_,h2⟩ <;> (simp at h1;omega)
theorem jfb{y:Str}(h:smB y=true):y.length=1/\y.cps.toList.all azB=true:=by
 unfold smB at h
 exact⟨Ij (Oq.mp h).1,(Oq.mp h).2⟩
theorem jht{y:Str}(h:y.cps.toList.all azB=true):y≠oB:=λe=>by rw[e]at h;exact absurd h (by decide +kernel)
theorem jhs{y:Str}(h:y.cps.toList.all azB=true):y≠cB:=λe=>by rw[e]at h;exact absurd h (by decide +kernel)
theorem jd1(s:String)(h:((Str.ofString s).cps.toList.all λc=>decide (c≠32/\c≠40/\c≠41))=true)(n:(Str.ofString s).cps.toList.isEmpty=false)(l:decide ((Str.ofString s).length<=5)=true):wdOk (Str.ofString s)/\(Str.ofString s).length<=5 :=
 ⟨.inr (.inr ⟨λe=>(by rw[show(Str.ofString s).cps.toList=[]from e]at n;cases n),λc hc=>Ij (Oo.mp h c hc)⟩),Ij l⟩
theorem jku{y:Str}(h:isNm y=true):wdOk y/\y.length<=5:=⟨jkw (jdr h).2.2 (jdr h).1,by have:=(jdr h).2.1;omega⟩
theorem juw{y:Str}(h:smB y=true):wdOk y/\y.length<=5:=⟨jkw (jfb h).2 (by rw[(jfb h).1];exact Ag _),by rw[(jfb h).1];decide⟩
theorem jos(b:Bool):(wdOk (qw b)/\(qw b).length<=5)/\qw b≠cB/\qw b≠oB:=by
 cases b
 ·exact⟨jd1 "each" (by decide +kernel) (by decide +kernel) (by decide +kernel),by decide +kernel,by decide +kernel⟩
 ·exact⟨jd1 "some" (by decide +kernel) (by decide +kernel) (by decide +kernel),by decide +kernel,by decide +kernel⟩
theorem jor(b:Bool):(wdOk (bw b)/\(bw b).length<=5)/\bw b≠cB/\bw b≠oB:=by
 cases b
 ·exact⟨jd1 "or" (by decide +kernel) (by decide +kernel) (by decide +kernel),by decide +kernel,by decide +kernel⟩
 ·exact⟨jd1 "and" (by decide +kernel) (by decide +kernel) (by decide +kernel),by decide +kernel,by decide +kernel⟩
theorem js1{f:Nat->List Str}{k:Nat}{r:RS}(lo:r.lo k)(gd:r.gd)(h:∀i,i<k->Wel (f i)):Wel (wdL f r):=by
 cases r with
 |yes=>exact⟨⟨_,[],rfl,by decide +kernel⟩,⟨[],_,rfl,by decide +kernel⟩,λw hw=>by simp only[wdL,Ao]at hw;subst hw;exact jd1 "yes" (by decide +kernel) (by decide +kernel) (by decide +kernel)⟩
 |is x a =>
  obtain⟨⟨hx,_⟩,ha,_⟩:=gd
  refine⟨⟨x,_,rfl,jhs (jdr hx).2.2⟩,⟨[x,Str.ofString "is"],a,rfl,jht (jfb ha).2⟩,λw hw=>?_⟩
  simp only[wdL,Al,Ah,Os]at hw
  rcases hw with rfl|rfl|rfl
  ·exact jku hx
  ·exact jd1 "is" (by decide +kernel) (by decide +kernel) (by decide +kernel)
  ·exact juw ha
 |ahead x y =>
  obtain⟨⟨hx,_⟩,hy,_⟩:=gd
  refine⟨⟨x,_,rfl,jhs (jdr hx).2.2⟩,⟨[x,Str.ofString "<"],y,rfl,jht (jdr hy).2.2⟩,λw hw=>?_⟩
  simp only[wdL,Al,Ah,Os]at hw
  rcases hw with rfl|rfl|rfl
  ·exact jku hx
  ·exact jd1 "<" (by decide +kernel) (by decide +kernel) (by decide +kernel)
  ·exact jku hy
 |no i =>
  obtain⟨_,⟨a,l,e,nl⟩,al⟩:=h i lo
  refine⟨⟨_,_,rfl,by decide +kernel⟩,⟨Str.ofString "not"::a,l,by simp only[wdL];rw[e];rfl,nl⟩,λw hw=>?_⟩
  simp only[wdL,Al]at hw
  rcases hw with rfl|hw
  ·exact jd1 "not" (by decide +kernel) (by decide +kernel) (by decide +kernel)
  ·exact al w hw
 |bin b i j =>
  have hi:=(h i lo.1).2.2
  have hj:=(h j lo.2).2.2
  refine⟨⟨_,_,rfl,by decide +kernel⟩,⟨Str.ofString "("::(f i++(bw b::f j)),Str.ofString ")",by simp[wdL],by decide +kernel⟩,λw hw=>?_⟩
  simp only[wdL,Al,Ie,Ah,Os]at hw
  rcases hw with rfl|hw|rfl|hw|rfl
  ·exact⟨.inl rfl,by decide +kernel⟩
  ·exact hi w hw
  ·exact(jor b).1
  ·exact hj w hw
  ·exact⟨.inr (.inl rfl),by decide +kernel⟩
 |qn b x i =>
  obtain⟨_,⟨a,l,e,nl⟩,al⟩:=h i lo
  refine⟨⟨_,_,rfl,(jos b).2.1⟩,⟨qw b::x::a,l,by simp only[wdL];rw[e];rfl,nl⟩,λw hw=>?_⟩
  simp only[wdL,Al]at hw
  rcases hw with rfl|rfl|hw
  ·exact(jos b).1
  ·exact jku gd.1
  ·exact al w hw
theorem ji0{rs:List RS}(g:RG rs):∀i,i<rs.length->Wel (wAt rs i):=by
 intro i
 induction i using Nat.strongRecOn with
 |ind i ih =>
  intro hi
  have e:rs[i]?=some rs[i]:=An hi
  rw[wAtG g e]
  exact js1 (g i _ e).1 (g i _ e).2 λj hj=>ih j hj (by omega)
theorem jpy{a b:Str}(h1:a≠oB)(h2:b≠cB):sepW a b=[32]:=Aa (not_or.mpr ⟨h1,h2⟩)
theorem sp_L:sg (Str.ofString " ")=[32]:=by decide +kernel
theorem jeb{w h:Str}{t:List Str}(h1:w≠oB)(h2:h≠cB):fmtW (w::h::t)=tL w++(32::fmtW (h::t)):=by
 show tL w++(sepW w h++fmtW (h::t))=_
 rw[jpy h1 h2];rfl
theorem jsa{f:Nat->List Str}{T:List Str}{k:Nat}{r:RS}(lo:r.lo k)(gd:r.gd)(h:∀i,i<k->Wel (f i)/\sg (tx T i)=fmtW (f i)):sg (tw T r)=fmtW (wdL f r):=by
 have eis:sg (Str.ofString " is ")=32::(tL (Str.ofString "is")++[32]):=by decide +kernel
 have eah:sg (Str.ofString " < ")=32::(tL (Str.ofString "<")++[32]):=by decide +kernel
 have eno:sg (Str.ofString "not ")=tL (Str.ofString "not")++[32]:=by decide +kernel
 have nis:Str.ofString "is"≠oB/\Str.ofString "is"≠cB:=by decide +kernel
 have nah:Str.ofString "<"≠oB/\Str.ofString "<"≠cB:=by decide +kernel
 have nno:Str.ofString "not"≠oB:=by decide +kernel
 cases r with
 |yes=>rfl
 |is x a =>
  obtain⟨⟨hx,_⟩,ha,_⟩:=gd
  show sg (x++Str.ofString " is "++a)=fmtW [x,Str.ofString "is",a]
  rw[jeb (jht (jdr hx).2.2) nis.2,jeb nis.1 (jhs (jfb ha).2),jdu,jdu,eis]
  simp[fmtW,tL,sg]
 |ahead x y =>
  obtain⟨⟨hx,_⟩,hy,_⟩:=gd
  show sg (x++Str.ofString " < "++y)=fmtW [x,Str.ofString "<",y]
  rw[jeb (jht (jdr hx).2.2) nah.2,jeb nah.1 (jhs (jdr hy).2.2),jdu,jdu,eah]
  simp[fmtW,tL,sg]
 |no i =>
  obtain⟨⟨⟨hd,tl,e,nc⟩,_,_⟩,es⟩:=h i lo
  show sg (Str.ofString "not "++tx T i)=fmtW (Str.ofString "not"::f i)
  rw[jdu,es,eno,e,jeb nno nc]
  simp
 |bin b i j =>
  obtain⟨⟨⟨h1,t1,e1,n1⟩,⟨a1,l1,g1,m1⟩,_⟩,es1⟩:=h i lo.1
  obtain⟨⟨⟨h2,t2,e2,n2⟩,⟨a2,l2,g2,m2⟩,_⟩,es2⟩:=h j lo.2
  show sg (Str.ofString "("++tx T i++Str.ofString " "++bw b++Str.ofString " "++tx T j++Str.ofString ")")=fmtW (Str.ofString "("::(f i++(bw b::(f j++[Str.ofString ")"]))))
  have p1:∀l:List Str,fmtW (Str.ofString "("::(f i++l))=tL oB++fmtW (f i++l):=λl=>by
   rw[e1]
   show tL oB++(sepW oB h1++fmtW (h1::(t1++l)))=_
   rw[show sepW oB h1=[]from Af (.inl rfl)]
   rfl
  have p2:fmtW (f i++(bw b::(f j++[Str.ofString ")"])))=fmtW (f i)++(32::fmtW (bw b::(f j++[Str.ofString ")"]))):=by
   rw[g1,jim,jpy m1 (jor b).2.1];rfl
  have p3:fmtW (bw b::(f j++[Str.ofString ")"]))=tL (bw b)++(32::fmtW (f j++[Str.ofString ")"])):=by
   rw[e2]
   exact jeb (jor b).2.2 n2
  have p4:fmtW (f j++[Str.ofString ")"])=fmtW (f j)++tL cB:=by
   rw[g2,jim,show sepW l2 (Str.ofString ")")=[]from Af (.inr rfl)];rfl
  rw[p1,p2,p3,p4]
  simp only[jdu,es1,es2,sp_L]
  simp[tL,sg,oB,cB]
 |qn b x i =>
  obtain⟨⟨⟨hd,tl,e,nc⟩,_,_⟩,es⟩:=h i lo
  have nx:=(jdr gd.1).2.2
  show sg (qw b++Str.ofString " "++x++Str.ofString " "++tx T i)=fmtW (qw b::x::f i)
  rw[jeb (jos b).2.2 (jhs nx),e,jeb (jht nx) nc]
  simp only[jdu,es,sp_L,e]
  simp[tL,sg]
theorem jpr{rs:List RS}(g:RG rs):okS rs:=λk r e=>by
 obtain⟨lo,gd⟩:=g k r e
 cases r with
 |yes=>trivial
 |is x a=>exact⟨(jdr gd.1.1).2.1,Uj (jfb gd.2.1).1⟩
 |ahead x y=>exact⟨(jdr gd.1.1).2.1,(jdr gd.2.1).2.1⟩
 |no i=>exact lo
 |bin b i j=>exact lo
 |qn b x i=>exact⟨(jdr gd.1).2.1,lo⟩
theorem jns{rs:List RS}(g:RG rs):∀i,i<rs.length->sg (tx (txts rs) i)=fmtW (wAt rs i):=by
 intro i
 induction i using Nat.strongRecOn with
 |ind i ih =>
  intro hi
  have e:rs[i]?=some rs[i]:=An hi
  rw[jop rs (jpr g) i _ e,wAtG g e]
  exact jsa (g i _ e).1 (g i _ e).2 λj hj=>⟨ji0 g j (by omega),ih j hj (by omega)⟩
theorem jsr(a b:Str):(sepW a b).length<=1:=by unfold sepW;split <;> simp
theorem jm3:∀ws:List Str,(∀w∈ws,w.length<=10)->(fmtW ws).length<=11*ws.length
 |[],_=>by simp[fmtW]
 |[w],h=>by
  have:=h w (.head _)
  have e:(tL w).length=w.length:=by simp[tL,Str.length]
  show(tL w).length<=11
  omega
 |w::w'::r,h=>by
  have ih:=jm3 (w'::r) λv hv=>h v (.tail _ hv)
  have:=h w (.head _)
  have e:(tL w).length=w.length:=by simp[tL,Str.length]
  have:=jsr w w'
  show(tL w++(sepW w w'++fmtW (w'::r))).length<=_
  simp only[Ap,List.length_cons]at ih⊢
  omega
theorem jq2{r r':RS}(h:rowK r=rowK r'):r=r':=by
 have nb:∀b:Bool,bw b≠Str.ofString "yes"/\bw b≠Str.ofString "is"/\bw b≠Str.ofString "ahead"/\bw b≠Str.ofString "not":=λb=>by cases b <;> decide +kernel
 have nq:∀b:Bool,qw b≠Str.ofString "yes"/\qw b≠Str.ofString "is"/\qw b≠Str.ofString "ahead"/\qw b≠Str.ofString "not":=λb=>by cases b <;> decide +kernel
 have bi:∀b b':Bool,bw b=bw b'->b=b':=λb b'=>by cases b <;> cases b' <;> decide +kernel
 have qi:∀b b':Bool,qw b=qw b'->b=b':=λb b'=>by cases b <;> cases b' <;> decide +kernel
 have n1:Str.ofString "is"≠Str.ofString "ahead":=by decide +kernel
 cases r <;> cases r' <;> simp only[rowK,Iz,Yk,Sum.inl.injEq,List.nil_eq,List.cons_ne_nil,reduceCtorEq,and_true,and_false,false_and]at h
 ·rfl
 ·obtain⟨_,rfl,rfl⟩:=h;rfl
 ·exact absurd h.1 n1
 ·exact absurd h.1.symm n1
 ·obtain⟨_,rfl,rfl⟩:=h;rfl
 ·rw[Yl h.2]
 ·obtain⟨hb,h1,h2⟩:=h
  rw[bi _ _ hb,Yl h1,Yl h2]
 ·obtain⟨hb,rfl,h2⟩:=h
  rw[qi _ _ hb,Yl h2]
theorem jt5{rs rs':List RS}{g:Nat->Nat}(r:RS)(h:∀p∈ptR (rowK r),wAt rs p=wAt rs' (g p)):wdL (wAt rs) r=wdL (wAt rs') (r.ren g):=by
 cases r with
 |no i=>simp only[wdL,RS.ren];rw[h i (by simp[rowK,ptR,ptK])]
 |bin b i j=>simp only[wdL,RS.ren];rw[h i (by simp[rowK,ptR,ptK]),h j (by simp[rowK,ptR,ptK])]
 |qn b x i=>simp only[wdL,RS.ren];rw[h i (by simp[rowK,ptR,ptK])]
 |_=>rfl
theorem RG.r{rs:List RS}(g:RG rs):OkR (rs.map rowK):=jl2 λx r e=>(g x r e).1
theorem jk8{rs:List RS}{k:Nat}(h:k<rs.length):rs[k]?=some (rs.getD k .yes):=by rw[Au,An h];rfl
theorem jsf{n:Nat}{S:List Nat}(nd:S.Nodup)(h:∀r∈S,r<n):S.length<=n:=by
 have q:=jf5 (zs:=List.range n) nd λx hx=>Wk.mpr (h x hx)
 simpa using q
theorem jt2{rs:List RS}(ok:RG rs)(n1:1<=rs.length){F:List Row}(t:TidP (rs.map rowK) F):∃rs',F=rs'.map rowK/\RG rs'/\1<=rs'.length/\rs'.length<=rs.length/\wAt rs' (rs'.length-1)=wAt rs (rs.length-1)/\∀k,k<rs'.length->∃v,v<rs.length/\wAt rs' k=wAt rs v:=by
 obtain⟨h,H,rfl⟩:=t
 have n1':1<=(rs.map rowK).length:=by rw[Ae];exact n1
 have O:=jhu ok.r H n1'
 have la:=jqx ok.r H n1'
 have ef:tidR (rs.map rowK) h=((ordR (rs.map rowK) h).map λv=>((rs.getD v .yes).ren h).ren λx=>(ordR (rs.map rowK) h).idxOf x).map rowK:=by
  rw[Ov]
  refine Up λv hv=>?_
  have vl:=O.lt v hv
  rw[Ae]at vl
  show wpR _ (RwA (rs.map rowK) h v)=rowK _
  unfold RwA
  rw[Au,A3,jk8 vl]
  show wpR _ (wpR h (rowK _))=_
  rw[jg9,jg9]
 obtain⟨rs',er⟩:∃rs',rs'=(ordR (rs.map rowK) h).map λv=>((rs.getD v .yes).ren h).ren λx=>(ordR (rs.map rowK) h).idxOf x:=⟨_,rfl⟩
 rw[<-er]at ef
 have ll:rs'.length=(ordR (rs.map rowK) h).length:=by rw[er,Ae]
 have g':RG rs':=λk r e=>by
  have rk:=jt1 ok.r H n1'
  have rk2:=rk k (rowK r) (by rw[ef,A3,e];rfl)
  rw[er,A3]at e
  obtain⟨v,ev,rfl⟩:=O7.mp e
  have vl:=O.lt v (A0 ev)
  rw[Ae]at vl
  have hv:=ok v _ (jk8 vl)
  generalize rs.getD v .yes=r at hv rk2
  cases r with
  |yes=>exact⟨trivial,trivial⟩
  |is x a=>exact⟨trivial,hv.2⟩
  |ahead x a=>exact⟨trivial,hv.2⟩
  |no i =>
   have:=rk2 ((ordR (rs.map rowK) h).idxOf (h i):Int) (by simp[rowK,RS.ren])
   refine⟨?_,trivial⟩
   show(ordR (rs.map rowK) h).idxOf (h i)<k
   omega
  |bin w i j =>
   have h1:=rk2 ((ordR (rs.map rowK) h).idxOf (h i):Int) (by simp[rowK,RS.ren])
   have h2:=rk2 ((ordR (rs.map rowK) h).idxOf (h j):Int) (by simp[rowK,RS.ren])
   refine⟨?_,trivial⟩
   show(ordR (rs.map rowK) h).idxOf (h i)<k/\(ordR (rs.map rowK) h).idxOf (h j)<k
   omega
  |qn b x i =>
   have:=rk2 ((ordR (rs.map rowK) h).idxOf (h i):Int) (by simp[rowK,RS.ren])
   refine⟨?_,hv.2⟩
   show(ordR (rs.map rowK) h).idxOf (h i)<k
   omega
 have key:∀x,(h x∈ordR (rs.map rowK) h/\x<(rs.map rowK).length)->wAt rs x=wAt rs' ((ordR (rs.map rowK) h).idxOf (h x)):=by
  intro x
  induction x using Nat.strongRecOn with
  |ind x ih =>
   rintro⟨h1,h2⟩
   have rw:=jq1 H h2 h1
   have h2':x<rs.length:=by rwa[Ae]at h2
   have ex:=jk8 h2'
   have eg:(rs.map rowK).getD x []=rowK (rs.getD x .yes):=by rw[Au,A3,ex];rfl
   rw[eg,ef,jg9,A3]at rw
   obtain⟨s,es,eq⟩:=O7.mp rw
   rw[jq2 eq]at es
   rw[wAtG ok ex,wAtG g' es]
   refine jt5 _ λp hp=>?_
   have hp':p∈own (rs.map rowK) x:=by unfold own;rw[eg];exact hp
   have pl:=jto ok.r x h2 p hp'
   refine ih p pl ⟨jtn ok.r H n1' h1 _ ?_,by omega⟩
   rw[jqb H h2]
   exact Io.mpr ⟨p,hp',rfl⟩
 have sl:h ((rs.map rowK).length-1)∈ordR (rs.map rowK) h:=by
  obtain⟨t,e⟩:=O.la
  rw[e];simp
 refine⟨rs',ef,g',by rw[ll];exact la.2,?_,?_,λk hk=>?_⟩
 ·rw[ll]
  have:=jsf O.nd O.lt
  rwa[Ae]at this
 ·have:=key (rs.length-1) ⟨by rw[Ae]at sl;exact sl,by rw[Ae];omega⟩
  rw[this,ll,<-la.1,Ae]
 ·rw[ll]at hk
  have ek:(ordR (rs.map rowK) h)[k]?=some (ordR (rs.map rowK) h)[k]:=An hk
  have vm:=Of hk
  have vl:=O.lt _ vm
  have hv:h (ordR (rs.map rowK) h)[k]=(ordR (rs.map rowK) h)[k]:=O.hd _ vm
  have:=key (ordR (rs.map rowK) h)[k] ⟨by rw[hv];exact vm,vl⟩
  refine⟨_,by rw[Ae]at vl;exact vl,?_⟩
  rw[this,hv,jc6 O.nd ek]
theorem jrw{H:Hp}:∀{us:List V}{rs:List RS},RowsT H us (rs.map rowK)->RowsAt H us rs
 |_,[],.nil=>.nil
 |_,r::rs,.cons ⟨a,e,g⟩ t=>.cons ⟨a,e,by rw[<-jpv];exact g⟩ (jrw t)
theorem jtt{H:Hp}{us:List V}{R:List RS}{F:List Row}{ws:List Str}(g:RG R)(n1:1<=R.length)(n9:R.length<=ws.length)(bd:BdW R ws.length)(ew:wAt R (R.length-1)=ws)(w9:ws.length<=900)(t:TidP (R.map rowK) F)(rt:RowsT H us F) :
  ∃rs,Say H us rs/\tx (txts rs) (rs.length-1)=toS (fmtW ws):=by
 obtain⟨rs,rfl,g',m1,ml,el,ek⟩:=jt2 g n1 t
 refine⟨rs,⟨jrw rt,m1,by omega,jpr g',λi=>?_⟩,?_⟩
 ·by_cases hi:i<rs.length
  ·have e:=jns g' i hi
   have l:(tx (txts rs) i).length=(sg (tx (txts rs) i)).length:=by simp[sg,Str.length]
   obtain⟨v,vl,ev⟩:=ek i hi
   have h1:=jm3 (wAt rs i) λw hw=>by
    have:=((ji0 g' i hi).2.2 w hw).2
    omega
   have h2:=bd v
   rw[l,e]
   rw[ev]at h1⊢
   omega
  ·have:tx (txts rs) i=⟨#[]⟩:=juu (by rw[jfv];omega)
   rw[this]
   show 0<=50000
   decide
 ·have e:=jns g' (rs.length-1) (by omega)
  rw[el,ew]at e
  refine jfd ?_
  show sg _=_
  rw[e]
  simp[toS]
def brS(w:Str):Prop:=w=Str.ofString "("\/w=Str.ofString ")"
def plS(w:Str):Prop:=w.cps.toList≠[]/\∀c∈w.cps.toList,c≠32/\c≠40/\c≠41
def okW(w:Str):Prop:=(brS w\/plS w)/\w.length<=10
theorem okW.wd{w:Str}(h:okW w):wdOk w:=by
 rcases h.1 with(h|h)|h
 ·exact .inl h
 ·exact .inr (.inl h)
 ·exact .inr (.inr h)
theorem jpj:∀ws:List Str,(∀w∈ws,w.length<=10)->(jnW ws).length<=11*ws.length/\(midW ws).length<=11*ws.length
 |[],_=>by simp[jnW,midW]
 |[w],h=>by
  have:=h w (.head _)
  have e:(tL w).length=w.length:=by simp[tL,Str.length]
  show(tL w).length<=11/\(tL w).length<=11
  omega
 |w::w'::r,h=>by
  have ih:=jpj (w'::r) λv hv=>h v (.tail _ hv)
  have:=h w (.head _)
  have e:(tL w).length=w.length:=by simp[tL,Str.length]
  have:(if w=oB then([]:List Nat)else[32]).length<=1:=by split <;> simp
  show(tL w++(32::jnW (w'::r))).length<=_/\(tL w++((if w=oB then[]else[32])++midW (w'::r))).length<=_
  simp only[Ap,List.length_cons]at ih⊢
  omega
theorem js6{ws:List Str}(h:∀w∈ws,wdOk w):(Txt.replace (Str.join (Str.ofString " ") ws) (Str.ofString "( ") (Str.ofString "(")).cps.toList=midW ws /\
  Txt.replace (Txt.replace (Str.join (Str.ofString " ") ws) (Str.ofString "( ") (Str.ofString "(")) (Str.ofString " )") (Str.ofString ")")=toS (fmtW ws):=by
 have e1:Str.ofString "( "=⟨#[40,32]⟩:=by decide +kernel
 have e2:Str.ofString " )"=⟨#[32,41]⟩:=by decide +kernel
 have z1:(Str.ofString "(").cps.toList=[40]:=by decide +kernel
 have z2:(Str.ofString ")").cps.toList=[41]:=by decide +kernel
 have h1:(Txt.replace (Str.join (Str.ofString " ") ws) (Str.ofString "( ") (Str.ofString "(")).cps.toList=midW ws:=by
  rw[e1,jl1 _ (by decide),jio,z1,jng ws h]
 refine⟨h1,jfd ?_⟩
 rw[e2,jl1 _ (by decide),h1,z2,jnh ws h]
 simp[toS]
def tdV(ws:List Str):List V:=match fw 0 [.sy] ws with
 |none=>[.str (Str.ofString "read"),.str (toS (fmtW ws))]
 |some i=>[.str (Str.ofString "refused"),.int (i:Int)]
theorem jmb{ws:List Str}(h:fw 0 [.sy] ws=none):tdV ws=[.str (Str.ofString "read"),.str (toS (fmtW ws))]:=by unfold tdV;rw[h]
theorem jmc{ws:List Str}{i:Nat}(h:fw 0 [.sy] ws=some i):tdV ws=[.str (Str.ofString "refused"),.int (i:Int)]:=by unfold tdV;rw[h]
structure KCl(K:PySem.W.Frag)(c D N:Addr)(fld:Str)(os:List Addr):Prop where
 xc:XC K c D N
 xi:XI K c
 nf:PySem.W.findIn K (.ref c) fld=some none
 ko:∀o∈os,PySem.W.kitOne K (.ref c) (.ref o)=some false
theorem KCl.any{K:PySem.W.Frag}{c D N:Addr}{fld:Str}{os:List Addr}(h:KCl K c D N fld os):∀l:List Addr,(∀o∈l,o∈os)->PySem.W.kitAny K (.ref c) (l.map Value.ref)=some false
 |[],_=>rfl
 |o::l,hl=>by
  simp only[Av,PySem.W.kitAny,h.ko o (hl o (.head _)),h.any l λx hx=>hl x (.tail _ hx)]
def spTo(P1 P2:Addr):Sp:=λvs H Q _=>∃(T:Str),vs=[.str T]/\T.length<=100000/\DW (toks T)/\(toks T).length<=900/\TabOk H P1 LQ1/\TabOk H P2 LQ2 /\
 ∀q H',H' q=some (.tup (tdV (toks T)))->TabOk H' P1 LQ1->TabOk H' P2 LQ2->Kp [P1,P2] H H'->Q (.ref q) H'
structure TTo(K:PySem.W.Frag)(mg:Str->Option Value)(D cT NT fr fs:Addr)(cW cG cM cO cK:Addr):Prop where
 n_isinstance:mg "isinstance"=none
 n_ValueError:mg "ValueError"=none
 n_int:mg "int"=none
 n_bool:mg "bool"=none
 m27z:mg "read_saying"=some (.ref fr)
 m28z:mg "show_saying"=some (.ref fs)
 m_CalmError:mg "CalmError"=some (.ref D)
 xt_CalmError:XT K D
 m_BadText:mg "BadText"=some (.ref cT)
 m_BadRow:mg "BadRow"=some (.ref cW)
 m_TooLong:mg "TooLong"=some (.ref cG)
 m_NoName:mg "NoName"=some (.ref cM)
 m_NoRow:mg "NoRow"=some (.ref cO)
 m_NotClosed:mg "NotClosed"=some (.ref cK)
 kT:KCl K cT D NT "at" [cW,cG,cM,cO,cK]
 kV:PySem.W.kitOne K (.ref cT) (.type "ValueError")=some true
 ii:PySem.W.kitOne K (.type "int") (.type "int")=some true
 ib:PySem.W.kitOne K (.type "int") (.type "bool")=some false
section
variable{P:Program}{w:World}{K:PySem.W.Frag}{mg:Str->Option Value}{base:Heap}
abbrev zu:Stmt:=top 45
theorem jai:FnScope ["_law_text","_law_caught","_law_heard","e"] ["_law_text"] (jk zu):=⟨rfl,rfl,rfl,by decide +kernel,rfl,by decide +kernel,by decide +kernel⟩
theorem ok__law_told{f D cT NT fr fs cW cG cM cO cK P1 P2:Addr}{fd fdr fds:FuncData}(ne:P1≠P2)(F:Fun K "_law_told" "_law_told" zu f fd)(T:TTo K mg D cT NT fr fs cW cG cM cO cK)
  (F27z:Fun K "read_saying" "read_saying" za fr fdr) (b27z:Binds K fdr ["text"] []) (G27z:FnOk P w K mg base (CXE P w) 7 fr fdr ["text"] (spRS P1 P2 cT))
  (F28z:Fun K "show_saying" "show_saying" zb fs fds) (b28z:Binds K fds ["saying"] []) (G28z:FnOk P w K mg base CX0 6 fs fds ["saying"] jpz):FnOk P w K mg base CX0 8 f fd ["_law_text"] (spTo P1 P2):=by
 refine F.ok jai (λvs H Q E h=>?_) (λcdv A outer s H vs Q E hr h=>?_)
 ·obtain⟨z,rfl,_⟩:=h
  rfl
 ·obtain⟨z,rfl,z9,D0,w9,t1,t2,k⟩:=h
  have hu:=hr.units
  have hgd:=hr.gd
  have hsz:sizeLine=16777216:=Ak
  refine exQ (jh (jm (i:=1) jai.nd rfl (by first|exact Or.inl rfl|exact Or.inr rfl) zx)
  (jh (jm (i:=2) jai.nd rfl (by first|exact Or.inl rfl|exact Or.inr rfl) zx)
  (jh (qps_tryB (i:=2) (j:=3) rfl G28z (hr.mono (by decide)) rfl T.m28z F28z.kp b28z G27z (hr.mono (by decide)) rfl T.m27z F27z.kp b27z (jc (qpv 0) jd) T.xt_CalmError rfl T.m_CalmError (λA' h1 h2 h3 h4=>(jj (jm (i:=1) jai.nd rfl (by first|exact Or.inl rfl|exact Or.inr rfl) (qpv 3)))) ⟨rfl,rfl⟩ rfl (λ_ _ z=>z) jai.nd rfl rfl rfl rfl)
  (jh (j7 (jp jct (qpv 1) zx (jt _)) (jj (jr (kf (jc jg (jc (qpv 2) jd))))) jx)
  (jh (j7 (QW.pt (jag (jbd (zd (jv (jb0 (K:=K) rfl) (by rfl) T.n_isinstance yp (jc (qpv 1) (jc (yu (v:=.ref _) rfl T.m_BadText rfl) jd))))) (jad (zd (jv (jb0 (K:=K) rfl) (by rfl) T.n_isinstance yp (jc (qpv 1) (jc (kf (jc (yu (v:=.ref _) rfl T.m_BadRow rfl) (jc (yu (v:=.ref _) rfl T.m_TooLong rfl) (jc (yu (v:=.ref _) rfl T.m_NoName rfl) (jc (yu (v:=.ref _) rfl T.m_NoRow rfl) (jc (yu (v:=.ref _) rfl T.m_NotClosed rfl) jd)))))) jd))))))) (jj (jr (kf (jc jg (jc ji jd))))) jx)
  (jh (j7 (jbd (zd (jv (jb0 (K:=K) rfl) (by rfl) T.n_isinstance yp (jc (qpv 1) (jc (jap (v:=.ty "ValueError") rfl T.n_ValueError bt_ValueError rfl) jd))))) (jj (jr (kf (jc jg (jc ji jd))))) jx)
  (jh (j7 (QW.pt (jag (jbd (zd (jv (yy (K:=K) rfl) (by rfl) T.n_isinstance yp (jc (jba rfl (qpv 1) rfl) (jc (jap (v:=.ty "int") rfl T.n_int jbo rfl) jd))))) (jad (zd (jv (yy (K:=K) rfl) (by rfl) T.n_isinstance yp (jc (jba rfl (qpv 1) rfl) (jc (jap (v:=.ty "bool") rfl T.n_bool bt_bool rfl) jd))))))) (jj (jr (kf (jc jg (jc ji jd))))) jx)
  (jj (jr (kf (jc jg (jc (jba rfl (qpv 1) rfl) jd)))))))))))) ?_
  simp! [jr1]
  refine⟨z,rfl,z9,D0,t1,t2,λe q us' F1 H' R g n1 n9 bd ew tid hq rt t1' t2' kp=>?_,λi e dx H' kp hd t1' t2'=>?_⟩
  ·obtain⟨rs,S,et⟩:=jtt g n1 n9 bd ew w9 tid rt
   refine⟨q,us',rs,rfl,hq,S,λH2 k2=>?_⟩
   rw[et]
   simp!
   refine⟨by omega,λp hp=>?_⟩
   have k3:=k2.new (o:=.tup [.str (Str.ofString "read"),.str (toS (fmtW (toks z)))]) hp
   exact k p _ (by rw[je,jmb e]) (t1'.kp k3 (by simp) (by simp)) (t2'.kp k3 (by simp) (by simp)) (kp.trans (k3.mono (by simp)))
  ·refine⟨cT,D,NT,rfl,T.kT.xc,.inl rfl,λa ha=>?_⟩
   simp! [decide_false]
   have k1:Kp [] H' (upd H' a (ExW a cT (some dx))):=(Kp.refl [] H').new ha
   have ha1:upd H' a (ExW a cT (some dx)) a=some (ExW a cT (some dx)):=je
   generalize upd H' a (ExW a cT (some dx))=H1 at k1 ha1⊢
   have hd1:=k1.old _ _ hd Ah
   have ea:ExAtW H1 a cT:=⟨some dx,ha1,λd e=>by cases e;exact⟨_,hd1⟩⟩
   refine⟨cT,ea,D,NT,T.kT.xc,T.kT.xi,true,.inl jqo,?_⟩
   simp only[Ut,Ih,Oi]
   refine⟨by omega,λp' hp'=>?_⟩
   have k2:Kp [] H1 (upd H1 p' (.tup [.ref cW,.ref cG,.ref cM,.ref cO,.ref cK])):=(Kp.refl [] H1).new hp'
   have et:jiz (upd H1 p' (.tup [.ref cW,.ref cG,.ref cM,.ref cO,.ref cK])) p' [cW,cG,cM,cO,cK]:=je
   have ha2:upd H1 p' (.tup [.ref cW,.ref cG,.ref cM,.ref cO,.ref cK]) a=some (ExW a cT (some dx)):=by rw[jf (jl ha1 hp')];exact ha1
   generalize upd H1 p' (.tup [.ref cW,.ref cG,.ref cM,.ref cO,.ref cK])=H2 at k2 et ha2⊢
   have hd2:=k2.old _ _ hd1 Ah
   have ea2:ExAtW H2 a cT:=⟨some dx,ha2,λd e=>by cases e;exact⟨_,hd2⟩⟩
   refine⟨cT,ea2,D,NT,T.kT.xc,T.kT.xi,false,.inr ⟨_,et,T.kT.any _ λo ho=>ho⟩,?_⟩
   simp only[Ut,Ih,Oi]
   refine⟨cT,ea2,D,NT,T.kT.xc,T.kT.xi,true,T.kV,?_⟩
   simp only[Ut,Ih,Oi]
   refine⟨cT,D,NT,dx,ha2,_,hd2,T.kT.xc,T.kT.nf,.int (i:Int),rfl,.type "int",.int _,true,T.ii,?_⟩
   simp only[Ut,Ih,Oi]
   refine⟨cT,D,NT,dx,ha2,_,hd2,T.kT.xc,T.kT.nf,.int (i:Int),rfl,.type "int",.int _,false,T.ib,?_⟩
   simp only[Ut,Ih,Oi]
   refine⟨cT,D,NT,dx,ha2,_,hd2,T.kT.xc,T.kT.nf,.int (i:Int),rfl,by omega,λp hp=>?_⟩
   have k3:=(k1.trans k2).new (o:=.tup [.str (Str.ofString "refused"),.int (i:Int)]) hp
   exact k p _ (by rw[je,jmc e]) (t1'.kp k3 (by simp) (by simp)) (t2'.kp k3 (by simp) (by simp)) (kp.trans (k3.mono (by simp)))
abbrev z7:Stmt:=top 46
theorem jbx:FnScope ["_law_words_here","_law_wrong"] ["_law_words_here"] (jk z7):=⟨rfl,rfl,rfl,by decide +kernel,rfl,by decide +kernel,by decide +kernel⟩
def spDu:Sp:=λvs H Q _=>∃(a:Addr)(ws:List Str),vs=[.ref a]/\H a=some (.lst (ws.map V.str))/\DW ws/\ws.length<=900/\(∀w∈ws,okW w) /\
 ∀q H',H' q=some (.tup (tdV ws))->Kp [] H H'->Q (.ref q) H'
structure TDu(mg:Str->Option Value)(fw:Addr):Prop where
 m15z:mg "_law_first_wrong"=some (.ref fw)
theorem ok__law_due{f fi:Addr}{fd fdi:FuncData}(F:Fun K "_law_due" "_law_due" z7 f fd)(T:TDu mg fi)(F15z:Fun K "_law_first_wrong" "_law_first_wrong" yh fi fdi)(b15z:Binds K fdi ["_law_words_here"] [])
  (G15z:FnOk P w K mg base CX0 4 fi fdi ["_law_words_here"] spFW):FnOk P w K mg base CX0 5 f fd ["_law_words_here"] spDu:=by
 refine jpb F jbx (λvs H Q E h=>?_) (by rfl) (λcdv A outer s H vs Q E hr h=>?_)
 ·obtain⟨a,ws,rfl,_⟩:=h
  rfl
 ·obtain⟨a,ws,rfl,ha,D0,w9,ok,k⟩:=h
  have hu:=hr.units
  have hsz:sizeLine=16777216:=Ak
  refine⟨_,(jjk (jm (i:=1) jbx.nd rfl (by first|exact Or.inl rfl|exact Or.inr rfl) (jo G15z (hr.mono (by decide)) rfl T.m15z F15z.kp b15z .nil jw (jc (qpv 0) jd))) (jjk (j7 (jp op_notN (qpv 1) zx (jt _)) (jj (jr (kf (jc jg (jc (qpv 1) jd))))) jx) (jqz (jqy jg (jfl (by decide +kernel) (by decide +kernel) (jfl (by decide +kernel) (by decide +kernel) (jpt (QE.h (ja5 Uf Ug ja7 jg (jc (qpv 0) jd) jf3))))))))),?_⟩
  simp! [jok]
  refine⟨a,ws,rfl,ha,D0,λH1 k1=>?_⟩
  cases e:fw 0 [.sy] ws with
  |some i =>
   simp!
   rw[Af (by simp)]
   exact⟨by omega,λp hp=>k p _ (by rw[je,jmc e]) (k1.new hp)⟩
  |none =>
   simp!
   rw[Aa (by simp)]
   have ha1:=k1.old _ _ ha Ah
   have wo:∀w∈ws,wdOk w:=λw hw=>(ok w hw).wd
   obtain⟨d1,d2⟩:=js6 wo
   obtain⟨j1,j2⟩:=jpj ws λw hw=>(ok w hw).2
   have sl:∀z:Str,z.length=z.cps.toList.length:=λz=>by simp[Str.length]
   have ls:∀l:List Str,(∀w∈l,w.length<=10)->(l.map (·.length)).sum<=10*l.length:=λl=>by
    induction l with
    |nil=>simp
    |cons w l ih =>
     intro h
     have:=ih λv hv=>h v (.tail _ hv)
     have:=h w (.head _)
     simp only[Av,List.sum_cons,List.length_cons]
     omega
   have s9:=ls ws λw hw=>(ok w hw).2
   have l1:(Str.ofString " ").length=1:=by decide +kernel
   refine⟨ws,ha1,by rw[l1];omega,?_⟩
   rw[show Txt.join (Str.ofString " ") ws=Str.join (Str.ofString " ") ws from PySem.StrLaws.glued_eq_join _ _]
   refine⟨_,rfl,by rw[sl,jio];omega,by rw[sl,d1];omega,by omega,λp hp=>?_⟩
   rw[d2]
   exact k p _ (by rw[je,jmb e]) (k1.new hp)
end
structure SB(H:Hp)(b:Addr)(H':Hp):Prop where
 kp:Kp [b] H H'
 bx:∃o,H' b=some o/\BoxO o
theorem SB.take{H H':Hp}{b:Addr}{o1:HO}(h:SB H b H')(ho1:BoxO o1):SB H b (upd H' b o1):=by
 obtain⟨kp,o,hb,ho⟩:=h
 obtain⟨xs,rfl⟩:=ho.lst
 exact⟨kp.set hb (.inl (.head _)),o1,je,ho1⟩
theorem SB.new{H H':Hp}{b p:Addr}{x:HO}(h:SB H b H')(hp:H' p=none):SB H b (upd H' p x):=by
 obtain⟨kp,o,hb,ho⟩:=h
 exact⟨kp.new hp,o,by rw[jf (jl hb hp)];exact hb,ho⟩
theorem SB.keep{H H' H2:Hp}{b:Addr}(h:SB H b H')(k:Kp [] H' H2):SB H b H2:=by
 obtain⟨kp,o,hb,ho⟩:=h
 exact⟨kp.trans (k.mono (by simp)),o,k.old _ _ hb Ah,ho⟩
theorem SB.trans{H H' H2:Hp}{b:Addr}(h:SB H b H')(k:SB H' b H2):SB H b H2:=⟨h.kp.trans k.kp,k.bx⟩
theorem SB.tq{H H':Hp}{b:Addr}(h:SB H b H'){w:Int}(w0:0<w)(w1:w<1073741824){Q:VK}{E:XK}(q:∀d H2,0<=d->d<w->SB H b H2->Kp [b] H' H2->Q (.int d) H2):jdv [.ref b,.int w] H' Q E:=by
 obtain⟨o,hb,ho⟩:=h.bx
 refine⟨b,w,o,rfl,hb,ho,w0,w1,λd o' d0 d1 ho'=>q d _ d0 d1 (h.take ho') ?_⟩
 obtain⟨xs,rfl⟩:=ho.lst
 exact(Kp.refl [b] H').set hb (.inl (.head _))
theorem SB.ne{H H':Hp}{b p:Addr}(h:SB H b H')(hp:H' p=none):p≠b:=by
 obtain⟨o,hb,_⟩:=h.bx
 exact(jl hb hp).symm
theorem js4{l:List V}{M:V->Prop}(h:∀v∈l,M v){d:Int}(d0:0<=d)(d1:d<(l.length:Int)):∃v,atI l d=some v/\M v:=by
 have hd:d.toNat<l.length:=by omega
 exact⟨l[d.toNat],jc8 d0 (An hd),h _ (Of hd)⟩
structure GR(zs:List Str)(z:Str)(rs:List RS)(B:Nat):Prop where
 ok:okR zs rs
 lt:okL z rs
 bw:BdW rs B
theorem GR.snoc{zs:List Str}{z:Str}{rs:List RS}{B B':Nat}{x:RS}(g:GR zs z rs B)(hr:x.ok zs rs.length)(hl:x.lt z)(hB:B<=B')(hx:(wdL (wAt rs) x).length<=B'):GR zs z (rs++[x]) B':=⟨g.ok.snoc hr,g.lt.snoc hl,g.bw.snoc hB hx⟩
def IC(H:Hp)(b p r q:Addr)(zs:List Str)(z:Str)(B n0 m:Nat)(i:Nat):L2.St->Hp->Prop:=λσ H'=>∃(us:List V)(rs:List RS)(o:HO)(v5 v6 v7:Option V),σ=[some (.ref b),some (.ref p),some (.ref r),some (.int (m:Int)),some (.ref q),v5,v6,v7] /\
 1<=rs.length/\rs.length=n0+i/\GR zs z rs (B+2*i)/\Fc H b q us rs o H'
theorem IC.step{H H9:Hp}{b p r q:Addr}{zs:List Str}{z:Str}{B n0 m i:Nat}{us:List V}{rs:List RS}{o:HO}{v5 v6 v7:Option V}(x:RS)(t:Addr)(hr:x.ok zs rs.length)(hlt:x.lt z)(ht:H9 t=some (.tup (rowV x)))(hl:rs.length=n0+i)(g:GR zs z rs (B+2*i))(hx:(wdL (wAt rs) x).length<=B+2*(i+1))
  (F:Fc H b q us rs o H9) (hq0:H q=none) (nbq:b≠q):IC H b p r q zs z B n0 m (i+1) [some (.ref b),some (.ref p),some (.ref r),some (.int (m:Int)),some (.ref q),v5,v6,v7] (upd H9 q (.lst (us++[.ref t]))):=by
 have kq:Kp [q] H9 (upd H9 q (.lst (us++[.ref t]))):=(Kp.refl [q] H9).set F.hq (.inl (by simp))
 exact⟨us++[.ref t],rs++[x],o,v5,v6,v7,rfl,by simp,by simp[hl];omega,g.snoc hr hlt (by omega) hx,⟨by rw[jf nbq];exact F.hb,F.ho,je,Uz (F.ra.kp kq) ⟨t,rfl,kq.tup _ _ ht⟩,F.kp.set F.hq (.inr hq0)⟩⟩
def spCh:Sp:=λvs H Q _=>∃(b p r:Addr)(m B:Nat)(zs:List Str)(z:Str)(us:List V)(rs:List RS)(o:HO),vs=[.ref b,.ref p,.ref r,.int (m:Int)]/\H b=some o/\BoxO o/\H p=some (.lst (zs.map V.str))/\1<=zs.length/\zs.length<=26/\b≠p/\m<=60 /\
 H r=some (.lst us)/\RowsAt H us rs/\GR zs z rs B/\1<=rs.length/\rs.length<=100 /\
 ∀(t:Addr)(us':List V)(rs':List RS)(o':HO)(H':Hp),H' t=some (.tup us')->RowsAt H' us' rs'->GR zs z rs' (B+2*m)->rs'.length=rs.length+m->BoxO o'->H' b=some o'->Kp [b] H H'->Q (.ref t) H'
structure TCh(mg:Str->Option Value)(ft:Addr):Prop where
 n_range:mg "range"=none
 n_len:mg "len"=none
 n_list:mg "list"=none
 n_tuple:mg "tuple"=none
 m1z:mg "_law_take"=some (.ref ft)
section
variable{P:Program}{w:World}{K:PySem.W.Frag}{mg:Str->Option Value}{base:Heap}
abbrev zg:Stmt:=top 35
theorem jab:FnScope ["_law_box_here","_law_names","_law_rows","_law_many","_law_found","_law_k","_law_name","_law_word"] ["_law_box_here","_law_names","_law_rows","_law_many"] (jk zg):=⟨rfl,rfl,rfl,by decide +kernel,rfl,by decide +kernel,by decide +kernel⟩
theorem ok__law_chain{f ft:Addr}{fd fdt:FuncData}(F:Fun K "_law_chain" "_law_chain" zg f fd)(T:TCh mg ft)(F1z:Fun K "_law_take" "_law_take" kx ft fdt)(b1z:Binds K fdt ["_law_box_here","_law_wide"] [])
  (G1z:FnOk P w K mg base CX0 1 ft fdt ["_law_box_here","_law_wide"] jdv):FnOk P w K mg base CX0 2 f fd ["_law_box_here","_law_names","_law_rows","_law_many"] spCh:=by
 refine F.ok jab (λvs H Q E h=>?_) (λcdv A outer s H vs Q E hr h=>?_)
 ·obtain⟨b,p,r,m,B,zs,z,us,rs,o,rfl,_⟩:=h
  rfl
 ·obtain⟨b,p,r,m,B,zs,z,us,rs,o,rfl,hb,ho,hp,z1,z2,nbp,m20,hr0,ra,g0,l1,l9,k⟩:=h
  have hu:=hr.units
  have hsz:sizeLine=16777216:=Ak
  have ul0:us.length=rs.length:=A5 ra
  refine exQ (jh (jm (i:=4) jab.nd rfl (by first|exact Or.inl rfl|exact Or.inr rfl) (zi (jb3 rfl) (by rfl) T.n_list jb9 (jc (qpv 2) jd)))
  (jh (jac I0 rfl (jav rfl T.n_range (jc (qpv 3) jd)) (kr (i:=5) jab.nd rfl (by first|exact Or.inl rfl|exact Or.inr rfl)) (jh (jm (i:=6) jab.nd rfl (by first|exact Or.inl rfl|exact Or.inr rfl) (ju ix_U (qpv 1) (jo G1z (hr.mono (by decide)) rfl T.m1z F1z.kp b1z .nil jw (jc (qpv 0) (jc (jv kh (by rfl) T.n_len km (jc (qpv 1) jd)) jd))) (λ_ _=>rfl)))
  (jh (jm (i:=7) jab.nd rfl (by first|exact Or.inl rfl|exact Or.inr rfl) (ju ix_U (j6 (jc jg (jc jg (jc jg jd)))) (jo G1z (hr.mono (by decide)) rfl T.m1z F1z.kp b1z .nil jw (jc (qpv 0) (jc ji jd))) (λ_ _=>rfl)))
  (jj (j7 (jp (j9 hu) (qpv 7) jg (jt _)) (jj (kj (yd Ax Ay ki (qpv 4) (jc (kf (jc jg (jc (jq jaf (jv kh (by rfl) T.n_len km (jc (qpv 4) jd)) ji) jd))) jd) jdd))) (jj (kj (yd Ax Ay ki (qpv 4) (jc (kf (jc (qpv 7) (jc (qpv 6) (jc (jq jaf (jv kh (by rfl) T.n_len km (jc (qpv 4) jd)) ji) jd)))) jd) jdd))))))))
  (jj (jr (zi jaz (by rfl) T.n_tuple jbe (jc (qpv 4) jd)))))) ?_
  simp! [hr0]
  intro q hq
  have nbq:b≠q:=jl hb hq
  refine⟨by omega,by omega,?_⟩
  rw[Int.toNat_natCast]
  refine jd3 (IC H b p r q zs z B rs.length m) ?_ ?_ ?_
  ·exact⟨us,rs,o,none,none,none,rfl,l1,rfl,g0,by rw[jf nbq];exact hb,ho,je,ra.kp ((Kp.refl [] H).new hq),(Kp.refl [b] H).new hq⟩
  ·rintro i σ H1 hi ⟨us1,rs1,o1,v5,v6,v7,rfl,l1',hl,g1,F1⟩
   have hp1:H1 p=some (.lst (zs.map V.str)):=F1.kp.old _ _ hp (by simpa using nbp.symm)
   obtain⟨xs1,e1⟩:=F1.ho.lst
   subst e1
   simp! [hp1]
   refine⟨b,_,_,rfl,F1.hb,F1.ho,by rw[Ae];omega,by rw[Ae];omega,λdx o4 dx0 dx1 ho4=>?_⟩
   rw[Ae]at dx1
   have F2:=F1.box nbq ho4
   have pA:upd H1 b o4 p=some (.lst (zs.map V.str)):=by rw[jf nbp.symm];exact hp1
   simp! [pA]
   obtain⟨x,hx,ax⟩:=jkv dx0 dx1
   refine⟨_,ax,by omega,λt0 ht0=>?_⟩
   have F3:=F2.new (x:=.lst [V.str (Str.ofString "not"),V.str (Str.ofString "some"),V.str (Str.ofString "each")]) ht0
   have nb0:b≠t0:=jl F2.hb ht0
   refine⟨b,_,_,rfl,F3.hb,F3.ho,by omega,by omega,λd o5 d0 d1 ho5=>?_⟩
   have F4:=F3.box nbq ho5
   have h0:∀o,upd (upd (upd H1 b o4) t0 o) b o5 t0=some o:=λo=>by rw[jf nb0.symm,je]
   simp! [h0]
   have lus:us1.length=rs1.length:=A5 F4.ra
   have ei:((us1.length:Int)-1)=((rs1.length-1:Nat):Int):=by omega
   have w7:(Str.ofString "some"=Str.ofString "not")=False:=wq4 true
   have w8:(Str.ofString "each"=Str.ofString "not")=False:=wq4 false
   have bd:=g1.bw (rs1.length-1)
   have:d=0\/d=1\/d=2:=by omega
   rcases this with rfl|rfl|rfl
   ·refine⟨_,jc8 (by decide) rfl,?_⟩
    simp! [F4.hq,ei]
    refine⟨by omega,λt ht=>?_⟩
    have F5:=F4.new (x:=.tup [V.str (Str.ofString "not"),V.int ((rs1.length-1:Nat):Int)]) ht
    exact⟨us1,by rw[F5.hq];rfl,by omega,IC.step (.no (rs1.length-1)) t (show rs1.length-1<rs1.length by omega) trivial je hl g1 (by simp only[wdL,List.length_cons];omega) F5 hq nbq⟩
   ·refine⟨_,jc8 (by decide) rfl,?_⟩
    simp! [F4.hq,ei,w7]
    refine⟨by omega,λt ht=>?_⟩
    have F5:=F4.new (x:=.tup [V.str (Str.ofString "some"),V.str x,V.int ((rs1.length-1:Nat):Int)]) ht
    exact⟨us1,by rw[F5.hq];rfl,by omega,IC.step (.qn true x (rs1.length-1)) t ⟨hx,by omega⟩ trivial je hl g1 (by simp only[wdL,List.length_cons];omega) F5 hq nbq⟩
   ·refine⟨_,jc8 (by decide) rfl,?_⟩
    simp! [F4.hq,ei,w8]
    refine⟨by omega,λt ht=>?_⟩
    have F5:=F4.new (x:=.tup [V.str (Str.ofString "each"),V.str x,V.int ((rs1.length-1:Nat):Int)]) ht
    exact⟨us1,by rw[F5.hq];rfl,by omega,IC.step (.qn false x (rs1.length-1)) t ⟨hx,by omega⟩ trivial je hl g1 (by simp only[wdL,List.length_cons];omega) F5 hq nbq⟩
  ·rintro σ H1 ⟨us1,rs1,o1,v5,v6,v7,rfl,l1',hl,g1,F1⟩
   simp!
   refine jei F1.hq λt ht=>?_
   exact k t us1 rs1 o1 _ je (F1.ra.kp ((Kp.refl [] H1).new ht)) g1 hl F1.ho (by rw[jf (jl F1.hb ht)];exact F1.hb) (F1.kp.new ht)
end
def toL(w:Str):List Nat:=w.cps.toList
def curL(last:Str):List Nat:=if last=Str.ofString "("\/last=Str.ofString ")"then[]else toL last
def Spd(T:Str)(ds:List Str)(last:Str):Prop:=∃E,Cut (toL T) E (curL last)/\E++fl (curL last)=ds.map toL
theorem jfg(x y:Str):toL (x++y)=toL x++toL y:=by unfold toL;rw[Str.cps_append];simp
theorem jov{w:Str}(h:brS w):∃c,toL w=[c]/\(c=40\/c=41):=by
 rcases h with rfl|rfl
 ·exact⟨40,by decide +kernel,.inl rfl⟩
 ·exact⟨41,by decide +kernel,.inr rfl⟩
theorem pl_br{w:Str}(h:plS w):¬brS w:=λb=>by
 obtain⟨c,e,hc⟩:=jov b
 have:=h.2 c (by show c∈toL w;rw[e];exact .head _)
 omega
theorem Spd.step{T w last S:Str}{ds:List Str}{n:Nat}(h:Spd T ds last)(hw:okW w)(hS:toL S=List.replicate n 32)(hn:¬(brS w\/brS last)->1<=n):Spd (T++S++w) (ds++[w]) w:=by
 obtain⟨E,hc,he⟩:=h
 have cut0:∃E',Cut (toL (T++S)) E' []/\E'=ds.map toL\/(n=0/\∃E',Cut (toL (T++S)) E' (curL last)/\E'++fl (curL last)=ds.map toL):=by
  by_cases c0:n=0
  ·refine⟨[],.inr ⟨c0,E,?_,he⟩⟩
   rw[jfg,hS,c0]
   simpa using hc
  ·refine⟨E++fl (curL last),.inl ⟨?_,he⟩⟩
   rw[jfg,hS]
   exact hc.sp1 (by omega)
 obtain⟨E0,hh⟩:=cut0
 rcases hw.1 with hb|hp
 ·obtain⟨c,ec,hc'⟩:=jov hb
  have cu:curL w=[]:=Af hb
  have:∃E2 cur2,Cut (toL (T++S)) E2 cur2/\E2++fl cur2=ds.map toL:=by
   rcases hh with⟨h1,h2⟩|⟨_,E1,h1,h2⟩
   ·exact⟨E0,[],h1,by rw[h2];simp[fl]⟩
   ·exact⟨E1,_,h1,h2⟩
  obtain⟨E2,cur2,h1,h2⟩:=this
  refine⟨E2++fl cur2++[[c]],?_,?_⟩
  ·rw[jfg,ec,cu];exact h1.br hc'
  ·rw[cu,h2,Od]
   show _++fl []=_++[toL w]
   rw[ec];simp[fl]
 ·have nb:=pl_br hp
  have cu:curL w=toL w:=Aa nb
  have:Cut (toL (T++S)) (ds.map toL) []:=by
   rcases hh with⟨h1,h2⟩|⟨n0,E1,h1,h2⟩
   ·rw[<-h2];exact h1
   ·have bl:brS last:=by
     apply Wf
     intro z
     have:=hn (by rintro(q|q);exact nb q;exact z q)
     omega
    have cl:curL last=[]:=Af bl
    rw[cl]at h1 h2
    have:E1=ds.map toL:=by rw[<-h2];simp[fl]
    rw[<-this];exact h1
  refine⟨ds.map toL,?_,?_⟩
  ·rw[jfg,cu];exact this.word hp.2
  ·rw[cu,Od]
   have:toL w≠[]:=hp.1
   simp[fl,this]
theorem Spd.last{T S last:Str}{ds:List Str}{n:Nat}(h:Spd T ds last)(hS:toL S=List.replicate n 32):toks (T++S)=ds:=by
 obtain⟨E,hc,he⟩:=h
 have:tok [] (toL (T++S))=ds.map toL:=by
  rw[jfg,hS]
  by_cases c0:n=0
  ·rw[c0]
   have:=hc.done
   simp only[List.replicate_zero,Ib]
   rw[this,he]
  ·have:=(hc.sp1 (n:=n) (by omega)).done
   rw[this,he];simp[fl]
 unfold toks
 show(tok [] (toL (T++S))).map toS=ds
 rw[this,Ov]
 have:(λw=>toS (toL w))=(id:Str->Str):=funext λw=>jnq w
 show ds.map (λw=>toS (toL w))=ds
 rw[this,List.map_id]
theorem Spd.first{S:Str}{n:Nat}(hS:toL S=List.replicate n 32):Spd S [] (Str.ofString "("):=by
 have cu:curL (Str.ofString "(")=[]:=Af (.inl rfl)
 refine⟨[],?_,by rw[cu];simp[fl]⟩
 rw[cu,hS]
 exact Cut.nil.sps n
def spSd:Sp:=λvs H Q _=>∃(b q:Addr)(ws:List Str),vs=[.ref b,.ref q,.int 2]/\(∃o,H b=some o/\BoxO o)/\b≠q/\H q=some (.lst (ws.map V.str))/\(∀w∈ws,okW w)/\ws.length<=2000 /\
 ∀T H',toks T=ws->T.length<=100000->SB H b H'->Q (.str T) H'
structure TSd(mg:Str->Option Value)(ft:Addr):Prop where
 n_int:mg "int"=none
 m1z:mg "_law_take"=some (.ref ft)
section
variable{P:Program}{w:World}{K:PySem.W.Frag}{mg:Str->Option Value}{base:Heap}
abbrev y8:Stmt:=top 37
theorem y2:FnScope ["_law_box_here","_law_words_here","_law_wide","_law_text","_law_last","_law_word","_law_gap"] ["_law_box_here","_law_words_here","_law_wide"] (jk y8):=⟨rfl,rfl,rfl,by decide +kernel,rfl,by decide +kernel,by decide +kernel⟩
theorem ok__law_spaced{f ft:Addr}{fd fdt:FuncData}(F:Fun K "_law_spaced" "_law_spaced" y8 f fd)(T:TSd mg ft)(F1z:Fun K "_law_take" "_law_take" kx ft fdt)(b1z:Binds K fdt ["_law_box_here","_law_wide"] [])
  (G1z:FnOk P w K mg base CX0 1 ft fdt ["_law_box_here","_law_wide"] jdv):FnOk P w K mg base CX0 2 f fd ["_law_box_here","_law_words_here","_law_wide"] spSd:=by
 refine F.ok y2 (λvs H Q E h=>?_) (λcdv A outer s H vs Q E hr h=>?_)
 ·obtain⟨b,q,ws,rfl,_⟩:=h
  rfl
 ·obtain⟨b,q,ws,rfl,⟨o,hb,ho⟩,nbq,hq,okw,w9,k⟩:=h
  have hu:=hr.units
  have hsz:sizeLine=16777216:=Ak
  refine exQ (jh (jm (i:=3) y2.nd rfl (by first|exact Or.inl rfl|exact Or.inr rfl) (jq ja4 jg (jo G1z (hr.mono (by decide)) rfl T.m1z F1z.kp b1z .nil jw (jc (qpv 0) (jc (qpv 2) jd)))))
  (jh (jm (i:=4) y2.nd rfl (by first|exact Or.inl rfl|exact Or.inr rfl) jg)
  (jh (jac I0 rfl (zy (K:=K) (qpv 1) rfl) (kr (i:=5) y2.nd rfl (by first|exact Or.inl rfl|exact Or.inr rfl)) (jh (jm (i:=6) y2.nd rfl (by first|exact Or.inl rfl|exact Or.inr rfl) (jq jaf ji (zi jch (by rfl) T.n_int jbo (jc (jb7 (yr (zf (K:=K) rfl) (qpv 5) (kf (jc jg (jc jg jd))) (by with_unfolding_all rfl)) (jax (yr (zf (K:=K) rfl) (qpv 4) (kf (jc jg (jc jg jd))) (by with_unfolding_all rfl)))) jd))))
  (jh (jm (i:=3) y2.nd rfl (by first|exact Or.inl rfl|exact Or.inr rfl) (jq jz (jq jz (qpv 3) (jq ja4 jg (jq jz (qpv 6) (jo G1z (hr.mono (by decide)) rfl T.m1z F1z.kp b1z .nil jw (jc (qpv 0) (jc (qpv 2) jd)))))) (qpv 5)))
  (jj (jm (i:=4) y2.nd rfl (by first|exact Or.inl rfl|exact Or.inr rfl) (qpv 5))))))
  (jj (jr (jq jz (qpv 3) (jq ja4 jg (jo G1z (hr.mono (by decide)) rfl T.m1z F1z.kp b1z .nil jw (jc (qpv 0) (jc (qpv 2) jd)))))))))) ?_
  simp!
  have S0:SB H b H:=⟨Kp.refl _ _,o,hb,ho⟩
  refine S0.tq (by decide) (by decide) λd H1 d0 d1 S1 k1=>?_
  have es:Str.ofString " "=⟨#[32]⟩:=by decide +kernel
  have tr:∀n:Nat,toL (repC 32 n)=List.replicate n 32:=λn=>by simp[toL,repC]
  have lr:∀n:Nat,(repC 32 n).length=n:=λn=>by simp[repC,Str.length]
  obtain⟨n,rfl⟩:∃n:Nat,d=(n:Int):=⟨d.toNat,by omega⟩
  refine⟨32,n,by rw[es],rfl,by omega,?_⟩
  have hq1:=k1.old _ _ hq (by simpa using nbq.symm)
  simp! [hq1]
  obtain⟨W,hW⟩:∃W:Nat->L2.St->Hp->Prop,W=λi σ H'=>∃(T0 last:Str)(v5 v6:Option V),σ=[some (.ref b),some (.ref q),some (.int 2),some (.str T0),some (.str last),v5,v6]/\Spd T0 (ws.take i) last/\T0.length<=20*(i+1)/\SB H b H':=⟨_,rfl⟩
  refine jf2 (xs:=ws.map V.str) W ?_ ?_ ?_ ?_
  ·rw[hW]
   exact⟨_,_,none,none,rfl,Spd.first (tr n),by rw[lr];omega,S1⟩
  ·intro i σ H2 _ hw
   rw[hW]at hw
   obtain⟨T0,last,v5,v6,rfl,sd,tl,S2⟩:=hw
   exact S2.kp.old _ _ hq (by simpa using nbq.symm)
  ·intro i v σ H2 ei hw
   rw[hW]at hw
   obtain⟨T0,last,v5,v6,rfl,sd,tl,S2⟩:=hw
   rw[A3]at ei
   obtain⟨wd,ew,rfl⟩:=O7.mp ei
   have ow:=okw wd (A0 ew)
   simp!
   have il:i<ws.length:=(Ab.mp ew).1
   have tk:ws.take (i+1)=ws.take i++[wd]:=by rw[O6,ew];rfl
   have go:∀{g:Nat}{H3:Hp},SB H b H3->g<=1->(¬(brS wd\/brS last)->1<=g)->jdv [.ref b,.int 2] H3 (λy H2=>rAddW (.int (g:Int)) y H2 λy H2=>jrt (.str (Str.ofString " ")) y H2 λy H2=>rAddW (.str T0) y H2 λx H1=>rAddW x (.str wd) H1 λx H1 =>
     W (i+1) [some (.ref b),some (.ref q),some (.int 2),some x,some (.str wd),some (.str wd),some (.int (g:Int))] H1) E0:=by
    intro g H3 S3 g1 hg
    refine S3.tq (by decide) (by decide) λd2 H4 e0 e1 S4 k4=>?_
    obtain⟨n2,rfl⟩:∃n2:Nat,d2=(n2:Int):=⟨d2.toNat,by omega⟩
    rw[je2]
    have l2:=lr (g+n2)
    have lw:=ow.2
    refine⟨32,g+n2,by rw[es],by rw[Int.natCast_add],by omega,?_⟩
    show rAddW (.str T0) (.str (repC 32 (g+n2))) H4 _
    rw[je3]
    refine⟨by omega,?_⟩
    rw[je3]
    refine⟨by rw[jdj];omega,?_⟩
    rw[hW]
    refine⟨_,_,_,_,rfl,?_,by rw[jdj,jdj];omega,S4⟩
    rw[tk]
    exact sd.step ow (tr (g+n2)) λh=>by have:=hg h;omega
   refine in2 λt1 ht1=>⟨_,rfl,?_⟩
   have S3:=S2.new (x:=.tup [V.str (Str.ofString "("),V.str (Str.ofString ")")]) ht1
   generalize upd H2 t1 (.tup [V.str (Str.ofString "("),V.str (Str.ofString ")")])=H3 at S3⊢
   refine ite2 (λhb1=>?_) (λhb1=>in2 λt2 ht2=>?_)
   ·exact go (g:=0) S3 (by decide) λh=>absurd (.inl (show wd=Str.ofString "("\/wd=Str.ofString ")"from Ij hb1)) h
   ·have S4:=S3.new (x:=.tup [V.str (Str.ofString "("),V.str (Str.ofString ")")]) ht2
    by_cases hl:last=Str.ofString "("\/last=Str.ofString ")"
    ·rw[Og hl]
     exact⟨1,rfl,go (g:=0) S4 (by decide) λh=>absurd (.inr hl) h⟩
    ·rw[Ia hl]
     exact⟨0,rfl,go (g:=1) S4 (by decide) λ_=>Ag _⟩
  ·intro σ H2 hw
   rw[hW]at hw
   obtain⟨T0,last,v5,v6,rfl,sd,tl,S2⟩:=hw
   simp!
   refine S2.tq (by decide) (by decide) λd2 H3 e0 e1 S3 k3=>?_
   obtain⟨n2,rfl⟩:∃n2:Nat,d2=(n2:Int):=⟨d2.toNat,by omega⟩
   refine⟨32,n2,by rw[es],rfl,by omega,?_⟩
   rw[Ae]at sd tl
   rw[Um]at sd
   have l2:=lr n2
   simp!
   refine⟨by omega,k _ _ (sd.last (tr n2)) (by rw[jdj];omega) S3⟩
end
def okV(v:V):Prop:=∃w,v=.str w/\okW w
def okWb(w:Str):Bool:=(decide (w=Str.ofString "(") || decide (w=Str.ofString ")") || (!w.cps.toList.isEmpty && w.cps.toList.all λc=>decide (c≠32/\c≠40/\c≠41))) && decide (w.length<=10)
theorem jsk{w:Str}(h:okWb w=true):okW w:=by
 unfold okWb at h
 obtain⟨h1,h2⟩:=Oq.mp h
 refine⟨?_,Ij h2⟩
 rcases Yc.mp h1 with h|h
 ·rcases Yc.mp h with h|h
  ·exact .inl (.inl (Ij h))
  ·exact .inl (.inr (Ij h))
 ·obtain⟨h3,h4⟩:=Oq.mp h
  exact .inr ⟨(λe=>by rw[e]at h3;cases h3),λc hc=>Ij (Oo.mp h4 c hc)⟩
def okVb:V->Bool
 |.str w=>okWb w
 |_=>false
theorem jir{l:List V}(h:l.all okVb=true):∀v∈l,okV v:=λv hv=>by
 have:=Oo.mp h v hv
 cases v with
 |str w=>exact⟨w,rfl,jsk this⟩
 |_=>cases this
def oddA:List V:=[V.str (Str.ofString "yes"),V.str (Str.ofString "is"),V.str (Str.ofString "not"),V.str (Str.ofString "and"),V.str (Str.ofString "or"),V.str (Str.ofString "<"),V.str (Str.ofString "some"),V.str (Str.ofString "each"),V.str (Str.ofString "("),V.str (Str.ofString ")"),V.str (Str.ofString "x<y"),V.str (Str.ofString "X"),V.str (Str.ofString "xx1"),V.str (Str.ofString "abcd"),V.str (Str.ofString "a"),V.str (Str.ofString "zzz"),V.str (Str.ofString "&")]
def oddB:List V:=[V.str (Str.ofString "="),V.str (Str.ofString "1"),V.str (Str.ofString "Yes"),V.str (Str.ofString "-"),V.str (Str.ofString "ahead"),V.str (Str.ofString "<="),V.str (Str.ofString "Not"),V.str (Str.ofString "no"),V.str (Str.ofString "|"),V.str (Str.ofString ">"),V.str (Str.ofString "A"),V.str (Str.ofString "so"),V.str (Str.ofString "yess"),V.str (Str.ofString "x,"),V.str (Str.ofString "\""),V.str (Str.ofString "[")]
theorem oddA_ok:(∀v∈oddA,okV v)/\oddA.length=17:=⟨jir (by decide +kernel),rfl⟩
theorem oddB_ok:(∀v∈oddB,okV v)/\oddB.length=16:=⟨jir (by decide +kernel),rfl⟩
def OV(H:Hp)(q:Addr)(n:Nat):Prop:=∃vs,H q=some (.lst vs)/\(∀v∈vs,okV v)/\vs.length<=n
theorem OV.kp{S:List Addr}{H H':Hp}{q:Addr}{n:Nat}(h:OV H q n)(k:Kp S H H')(hq:q∉S):OV H' q n:=by
 obtain⟨vs,e,o,l⟩:=h
 exact⟨vs,k.old _ _ e hq,o,l⟩
theorem jli:∀{vs:List V},(∀v∈vs,okV v)->∃ws:List Str,vs=ws.map V.str/\∀w∈ws,okW w
 |[],_=>⟨[],rfl,λw hw=>nomatch hw⟩
 |v::vs,h=>by
  obtain⟨w,rfl,ow⟩:=h v (.head _)
  obtain⟨ws,rfl,o⟩:=jli λu hu=>h u (.tail _ hu)
  exact⟨w::ws,rfl,λu hu=>by rcases Al.mp hu with rfl|hu;exact ow;exact o u hu⟩
theorem je9{xs ys:List V}(h:∀v∈xs,okV v)(h':∀v∈ys,okV v):∀v∈xs++ys,okV v:=λv hv=>by
 rcases Ie.mp hv with hv|hv
 ·exact h v hv
 ·exact h' v hv
theorem jl8{ws:List Str}(h:∀w∈ws,okW w):∀v∈ws.map V.str,okV v:=λv hv=>by
 obtain⟨w,hw,rfl⟩:=Io.mp hv
 exact⟨w,rfl,h w hw⟩
theorem jps{y:Str}(h:y.cps.toList.all azB=true)(l1:1<=y.length)(l3:y.length<=10):okW y :=
 ⟨.inr ⟨(λe=>by have:y.length=y.cps.toList.length:=(by simp[Str.length]);rw[this,e]at l1;simp at l1),λc hc=>by
  have:=Oo.mp h c hc
  simp[azB]at this
  omega⟩,l3⟩
theorem jtm{y:Str}(h:NmOk y):okW y:=jps (Oo.mpr λc hc=>by
  have:=h.2.1 c hc
  simp[azB];omega) h.2.2.1 (by have:=h.1;omega)
def spOd:Sp:=λvs H Q _=>∃(b p:Addr)(z:Str)(zs:List Str),vs=[.ref b,.ref p,.str z]/\(∃o,H b=some o/\BoxO o)/\b≠p/\H p=some (.lst (zs.map V.str))/\zs.length<=26/\(∀y∈zs,NmOk y)/\Letters z 4/\∀w H',okW w->SB H b H'->Q (.str w) H'
structure TOd(mg:Str->Option Value)(ft:Addr):Prop where
 n_len:mg "len"=none
 m1z:mg "_law_take"=some (.ref ft)
section
variable{P:Program}{w:World}{K:PySem.W.Frag}{mg:Str->Option Value}{base:Heap}
abbrev yw:Stmt:=top 42
theorem z8:FnScope ["_law_box_here","_law_names","_law_letters_here","_law_some"] ["_law_box_here","_law_names","_law_letters_here"] (jk yw):=⟨rfl,rfl,rfl,by decide +kernel,rfl,by decide +kernel,by decide +kernel⟩
theorem ok__law_odd_word{f ft:Addr}{fd fdt:FuncData}(F:Fun K "_law_odd_word" "_law_odd_word" yw f fd)(T:TOd mg ft)(F1z:Fun K "_law_take" "_law_take" kx ft fdt)(b1z:Binds K fdt ["_law_box_here","_law_wide"] [])
  (G1z:FnOk P w K mg base CX0 1 ft fdt ["_law_box_here","_law_wide"] jdv):FnOk P w K mg base CX0 2 f fd ["_law_box_here","_law_names","_law_letters_here"] spOd:=by
 refine F.ok z8 (λvs H Q E h=>?_) (λcdv A outer s H vs Q E hr h=>?_)
 ·obtain⟨b,p,z,zs,rfl,_⟩:=h
  rfl
 ·obtain⟨b,p,z,zs,rfl,⟨o,hb,ho⟩,nbp,hp,zl,nm,hz,k⟩:=h
  have hu:=hr.units
  have hsz:sizeLine=16777216:=Ak
  refine exQ (jh (jm (i:=3) z8.nd rfl (by first|exact Or.inl rfl|exact Or.inr rfl) (j6 (jc jg (jc jg (jc jg (jc jg (jc jg (jc jg (jc jg (jc jg (jc jg (jc jg (jc jg (jc jg (jc jg (jc jg (jc jg (jc jg (jc jg jd)))))))))))))))))))
  (jh (jm (i:=3) z8.nd rfl (by first|exact Or.inl rfl|exact Or.inr rfl) (jq jz (qpv 3) (j6 (jc jg (jc jg (jc jg (jc jg (jc jg (jc jg (jc jg (jc jg (jc jg (jc jg (jc jg (jc jg (jc jg (jc jg (jc jg (jc jg jd)))))))))))))))))))
  (jh (kj (yd Ax Ay ki (qpv 3) (jc jg jd) jdd))
  (jh (jm (i:=3) z8.nd rfl (by first|exact Or.inl rfl|exact Or.inr rfl) (jq jz (jq jz (qpv 3) (qpv 1)) (j6 (jc (ju ix_U (qpv 2) (jo G1z (hr.mono (by decide)) rfl T.m1z F1z.kp b1z .nil jw (jc (qpv 0) (jc (jv kh (by rfl) T.n_len km (jc (qpv 2) jd)) jd))) (λ_ _=>rfl)) jd))))
  (jj (jr (ju ix_U (qpv 3) (jo G1z (hr.mono (by decide)) rfl T.m1z F1z.kp b1z .nil jw (jc (qpv 0) (jc (jv kh (by rfl) T.n_len km (jc (qpv 3) jd)) jd))) (λ_ _=>rfl)))))))) ?_
  simp!
  rw[show[V.str (Str.ofString "yes"),V.str (Str.ofString "is"),V.str (Str.ofString "not"),V.str (Str.ofString "and"),V.str (Str.ofString "or"),V.str (Str.ofString "<"),V.str (Str.ofString "some"),V.str (Str.ofString "each"),V.str (Str.ofString "("),V.str (Str.ofString ")"),V.str (Str.ofString "x<y"),V.str (Str.ofString "X"),V.str (Str.ofString "xx1"),V.str (Str.ofString "abcd"),V.str (Str.ofString "a"),V.str (Str.ofString "zzz"),V.str (Str.ofString "&")]=oddA from rfl,show[V.str (Str.ofString "="),V.str (Str.ofString "1"),V.str (Str.ofString "Yes"),V.str (Str.ofString "-"),V.str (Str.ofString "ahead"),V.str (Str.ofString "<="),V.str (Str.ofString "Not"),V.str (Str.ofString "no"),V.str (Str.ofString "|"),V.str (Str.ofString ">"),V.str (Str.ofString "A"),V.str (Str.ofString "so"),V.str (Str.ofString "yess"),V.str (Str.ofString "x,"),V.str (Str.ofString "\""),V.str (Str.ofString "[")]=oddB from rfl]
  have S0:SB H b H:=⟨Kp.refl _ _,o,hb,ho⟩
  refine⟨by omega,λp1 hp1=>⟨by omega,λp2 hp2=>?_⟩⟩
  have S1:=S0.new (x:=.lst oddA) hp1
  have e1:upd H p1 (.lst oddA) p1=some (.lst oddA):=je
  have h1p:upd H p1 (.lst oddA) p=some (.lst (zs.map V.str)):=by rw[jf (jl hp hp1)];exact hp
  generalize upd H p1 (.lst oddA)=H1 at S1 e1 h1p hp2⊢
  have S2:=S1.new (x:=.lst oddB) hp2
  have k2:=(Kp.refl [] H1).new (o:=.lst oddB) hp2
  have e2:upd H1 p2 (.lst oddB) p2=some (.lst oddB):=je
  generalize upd H1 p2 (.lst oddB)=H2 at S2 k2 e2⊢
  have la:=oddA_ok.2
  have lb:=oddB_ok.2
  refine rAddW.lst (k2.old _ _ e1 Ah) e2 (by omega) λp3 hp3=>?_
  have S3:=S2.new (x:=.lst (oddA++oddB)) hp3
  have k3:=k2.new (o:=.lst (oddA++oddB)) hp3
  have e3:upd H2 p3 (.lst (oddA++oddB)) p3=some (.lst (oddA++oddB)):=je
  have nb3:b≠p3:=(S2.ne hp3).symm
  have h3p:=k3.old _ _ h1p Ah
  have n3p:p≠p3:=jl (k2.old _ _ h1p Ah) hp3
  have hp30:H p3=none:=S2.kp.free hp3
  generalize upd H2 p3 (.lst (oddA++oddB))=H3 at S3 k3 e3 h3p⊢
  refine⟨by show(jdc (H3 p3)).isSome=true;rw[e3];rfl,?_⟩
  rw[jdk,e3]
  refine⟨_,rfl,by rw[Ap];omega,?_⟩
  obtain⟨L,hL,oL,lL⟩:∃L,L=oddA++oddB++[V.str (Str.ofString "isa")]/\(∀v∈L,okV v)/\L.length=34:=⟨_,rfl,je9 (je9 oddA_ok.1 oddB_ok.1) (jir (by decide +kernel)),by rw[Ap,Ap,la,lb];rfl⟩
  rw[<-hL]
  have S4:SB H b (upd H3 p3 (.lst L)):=by
   obtain⟨o3,hb3,ho3⟩:=S3.bx
   exact⟨S3.kp.set e3 (.inr hp30),o3,by rw[jf nb3];exact hb3,ho3⟩
  have e4:upd H3 p3 (.lst L) p3=some (.lst L):=je
  have h4p:upd H3 p3 (.lst L) p=some (.lst (zs.map V.str)):=by rw[jf n3p];exact h3p
  generalize upd H3 p3 (.lst L)=H4 at S4 e4 h4p⊢
  refine rAddW.lst e4 h4p (by rw[Ae];omega) λp5 hp5=>?_
  have oL2:=je9 oL (jl8 λy hy=>jtm (nm y hy))
  have lL2:(L++zs.map V.str).length=34+zs.length:=by rw[Ap,Ae,lL]
  generalize L++zs.map V.str=L2 at oL2 lL2⊢
  have S5:=S4.new (x:=.lst L2) hp5
  have e5:upd H4 p5 (.lst L2) p5=some (.lst L2):=je
  have nb5:b≠p5:=(S4.ne hp5).symm
  generalize upd H4 p5 (.lst L2)=H5 at S5 e5⊢
  have z1:=hz.lo
  have z4:=hz.hi
  refine⟨by omega,S5.tq (by omega) (by omega) λd H6 d0 d1 S6 k6=>?_⟩
  rw[jg7]
  have zl':z.length=z.cps.toList.length:=by simp[Str.length]
  have hd:d.toNat<z.cps.toList.length:=by omega
  refine⟨by omega,_,jc8 d0 (An hd),by omega,λp7 hp7=>?_⟩
  have cz:=hz.az _ (Of hd)
  generalize z.cps.toList[d.toNat]=c at cz⊢
  have S7:=S6.new (x:=.lst [V.str ⟨#[c]⟩]) hp7
  have k7:=k6.new (o:=.lst [V.str ⟨#[c]⟩]) hp7
  have e7:upd H6 p7 (.lst [V.str ⟨#[c]⟩]) p7=some (.lst [V.str ⟨#[c]⟩]):=je
  generalize upd H6 p7 (.lst [V.str ⟨#[c]⟩])=H7 at S7 k7 e7⊢
  refine rAddW.lst (k7.old _ _ e5 (by simpa using nb5.symm)) e7 (by simp;omega) λp8 hp8=>?_
  have oL3:∀v∈L2++[V.str ⟨#[c]⟩],okV v:=je9 oL2 λv hv=>by
   rw[Ao.mp hv]
   exact⟨_,rfl,jps (by simp[azB];omega) (by show 1<=1;decide) (by show 1<=10;decide)⟩
  have lL3:(L2++[V.str ⟨#[c]⟩]).length=35+zs.length:=by rw[Ap,lL2];simp;omega
  generalize L2++[V.str ⟨#[c]⟩]=L3 at oL3 lL3⊢
  have S8:=S7.new (x:=.lst L3) hp8
  have e8:upd H7 p8 (.lst L3) p8=some (.lst L3):=je
  have nb8:b≠p8:=(S7.ne hp8).symm
  generalize upd H7 p8 (.lst L3)=H8 at S8 e8⊢
  rw[jee,e8]
  refine⟨_,rfl,S8.tq (by omega) (by omega) λd2 H9 e0 e1' S9 k9=>?_⟩
  obtain⟨v,ev,w',rfl,ow⟩:=js4 oL3 e0 e1'
  rw[jd0,k9.old _ _ e8 (by simpa using nb8.symm)]
  exact⟨_,rfl,_,ev,k w' H9 ow S9⟩
def spFd:Sp:=λvs H Q _=>∃(w:Str)(kd:Nat),vs=[.str w,.int (kd:Int)]/\kd<=1/\okW w/\w.length<=9/\∀p H',H p=none->Kp [] H H'->OV H' p 2->Q (.ref p) H'
abbrev zk:Stmt:=top 43
theorem jby:FnScope ["_law_word","_law_kind","_law_parts"] ["_law_word","_law_kind"] (jk zk):=⟨rfl,rfl,rfl,by decide +kernel,rfl,by decide +kernel,by decide +kernel⟩
theorem ok__law_fed{f:Addr}{fd:FuncData}(F:Fun K "_law_fed" "_law_fed" zk f fd):FnOk P w K mg base CX0 1 f fd ["_law_word","_law_kind"] spFd:=by
 refine F.ok jby (λvs H Q E h=>?_) (λcdv A outer s H vs Q E hr h=>?_)
 ·obtain⟨z,kd,rfl,_⟩:=h
  rfl
 ·obtain⟨z,kd,rfl,k1,oz,z9,k⟩:=h
  have hu:=hr.units
  have hsz:sizeLine=16777216:=Ak
  refine exQ (jh (jm (i:=2) jby.nd rfl (by first|exact Or.inl rfl|exact Or.inr rfl) (j6 (jc (jq ja4 jg (qpv 1)) (jc (qpv 0) (jc (jq ja4 jg (jq jaf ji (qpv 1))) jd)))))
  (jh (j7 (QW.pt (jag (jp (j9 hu) (qpv 0) jg (jt _)) (jad (jp (j9 hu) (qpv 0) jg (jt _))))) (jj (jr (jbi rfl (jdq (sc:=jk zk) (N:=["_law_word","_law_kind","_law_parts"]) (Nc:=["_law_part"]) (js:=[none]) (by decide +kernel)) (zy (K:=K) (qpv 2) rfl) (λ_ _ _ _=>(kr (i:=0) (show List.Nodup [("_law_part":Str)]from by decide +kernel) rfl (by first|exact Or.inl rfl|exact Or.inr rfl))) (λ_ _ _ _=>(jp (jb6 hu) (qpv 0) jg (jt _))) (λ_ _ _ _=>(qpv 0))))) jx)
  (jj (jr (j6 (jc (ja5 Uf Ug ja7 jg (jc (qpv 2) jd) jf3) jd)))))) ?_
  simp!
  have en:Str.ofString "\n"=⟨#[10]⟩:=by decide +kernel
  have e0:(Str.ofString "").cps.toList=[]:=by decide +kernel
  have rl:∀n:Nat,(repC 10 n).cps.toList=List.replicate n 10:=λn=>by simp[repC]
  have r0:repC 10 0=Str.ofString "":=jfd (by rw[rl,e0];rfl)
  have r1:okV (.str (repC 10 1)):=⟨_,rfl,.inr ⟨(by rw[rl];simp),λc hc=>by rw[rl]at hc;simp at hc;subst hc;decide⟩,by show 1<=10;decide⟩
  have nz:neV (V.str (Str.ofString ""))=false:=by simp[neV]
  refine⟨10,kd,by rw[en],rfl,by omega,10,1-kd,by rw[en],by congr 1;omega,by omega,by omega,λp hp=>?_⟩
  have k1':Kp [] H (upd H p (.lst [V.str (repC 10 kd),V.str z,V.str (repC 10 (1-kd))])):=(Kp.refl [] H).new hp
  have ep:upd H p (.lst [V.str (repC 10 kd),V.str z,V.str (repC 10 (1-kd))]) p=some (.lst [V.str (repC 10 kd),V.str z,V.str (repC 10 (1-kd))]):=je
  generalize upd H p (.lst [V.str (repC 10 kd),V.str z,V.str (repC 10 (1-kd))])=H1 at k1' ep⊢
  have fin:∀D,H1 D=none->jdn (Itl K p) (jdo 0) (jff D (jfu (tOp rNeU (tVar 0) (tC (V.str (Str.ofString ""))))) (tVar 0)) {nx:=λx H'=>Q (V.ref D) H',rt:=λx x_2=>False} [none] (upd H1 D (HO.lst [])):=by
   intro D hD
   refine je6 neV (λv=>v) ep hD (by simp only[List.length_cons,List.length_nil];omega) (λx hx l Q' q=>?_) (λx hx _ l Q' q=>by simp!;exact q) λv=>?_
   ·have:∃y,x=.str y:=by
     simp only[Al,Ah,Os]at hx
     rcases hx with rfl|rfl|rfl <;> exact⟨_,rfl⟩
    obtain⟨y,rfl⟩:=this
    simp!
    exact q
   ·refine k D _ (k1'.free hD) (k1'.new hD) ⟨_,je,?_,?_⟩
    ·intro v hv
     obtain⟨v',hv',e⟩:=Io.mp hv
     have e:v'=v:=e
     subst e
     obtain⟨hv,hn⟩:=Ot.mp hv'
     simp only[Al,Ah,Os]at hv
     have:kd=0\/kd=1:=by omega
     rcases this with rfl|rfl
     ·rcases hv with rfl|rfl|rfl
      ·rw[r0,nz]at hn;cases hn
      ·exact⟨z,rfl,oz⟩
      ·exact r1
     ·rcases hv with rfl|rfl|rfl
      ·exact r1
      ·exact⟨z,rfl,oz⟩
      ·rw[r0,nz]at hn;cases hn
    ·rw[Ae]
     have:kd=0\/kd=1:=by omega
     rcases this with rfl|rfl
     ·rw[r0,Iv,nz,Aa (by decide)]
      exact A7 (Oy _ _) (by simp)
     ·rw[show(1-1:Nat)=0 from rfl,r0,show([V.str (repC 10 1),V.str z,V.str (Str.ofString "")]:List V)=[V.str (repC 10 1),V.str z]++[V.str (Str.ofString "")]from rfl,O9,Iv (xs:=[]),nz,Aa (by decide),List.filter_nil,Ib]
      exact A7 (Oy _ _) (by simp)
  by_cases c1:z=Str.ofString "("
  ·rw[Af c1];exact fin
  rw[Aa c1]
  by_cases c2:z=Str.ofString ")"
  ·rw[Af c2];exact fin
  rw[Aa c2]
  have pz:plS z:=by
   rcases oz.1 with(h|h)|h
   ·exact absurd h c1
   ·exact absurd h c2
   ·exact h
  have l0:(Str.ofString "").length=0:=by decide +kernel
  have lr:∀n:Nat,(repC 10 n).length=n:=λn=>by simp[repC,Str.length]
  refine⟨[repC 10 kd,z,repC 10 (1-kd)],ep,by simp[lr,l0];omega,by omega,λq hq=>?_⟩
  have ej:(Txt.join (Str.ofString "") [repC 10 kd,z,repC 10 (1-kd)]).cps.toList=List.replicate kd 10++(z.cps.toList++List.replicate (1-kd) 10):=by
   rw[show Txt.join (Str.ofString "") [repC 10 kd,z,repC 10 (1-kd)]=Str.join (Str.ofString "") [repC 10 kd,z,repC 10 (1-kd)]from PySem.StrLaws.glued_eq_join _ _,jds,jds,e0,rl]
   show _++([]++(_++([]++(repC 10 (1-kd)).cps.toList)))=_
   rw[rl];simp
  refine k q _ (k1'.free hq) (k1'.new hq) ⟨_,je,λv hv=>?_,by simp⟩
  rw[Ao.mp hv]
  refine⟨_,rfl,.inr ⟨λe=>?_,λc hc=>?_⟩,?_⟩
  ·rw[ej]at e
   simp at e
   exact pz.1 (by simp[e])
  ·rw[ej]at hc
   simp only[Ie,List.mem_replicate]at hc
   rcases hc with hc|hc|hc
   ·rw[hc.2];decide
   ·exact pz.2 c hc
   ·rw[hc.2];decide
  ·have:∀y:Str,y.length=y.cps.toList.length:=λy=>by simp[Str.length]
   rw[this,ej]
   have:=this z
   simp only[Ap,List.length_replicate]
   omega
end
theorem jrg(xs:List V){d:Int}(h:0<=d):(cutV xs none (some d)).length<=d.toNat:=by
 obtain⟨k,rfl⟩:∃k:Nat,d=(k:Int):=⟨d.toNat,by omega⟩
 unfold cutV
 rw[HT.sIx_none,HT.sIx_nat,Il]
 omega
theorem jj8(xs:List V){d:Int}(h:0<=d):(cutV xs (some d) none).length<=xs.length-d.toNat:=by
 obtain⟨k,rfl⟩:∃k:Nat,d=(k:Int):=⟨d.toNat,by omega⟩
 unfold cutV
 rw[HT.sIx_none,HT.sIx_nat,Il,Uk]
 omega
theorem jrh(xs:List V){d e:Int}(h:0<=d)(he:e=d+1):(cutV xs (some d) (some e)).length<=1:=by
 obtain⟨k,rfl⟩:∃k:Nat,d=(k:Int):=⟨d.toNat,by omega⟩
 obtain rfl:e=((k+1:Nat):Int):=by omega
 unfold cutV
 rw[HT.sIx_nat,HT.sIx_nat,Il,Uk]
 omega
theorem OV.add{H0 H:Hp}{b q1 q2:Addr}{n1 n2:Nat}{Q:VK}(S:SB H0 b H)(a:OV H q1 n1)(c:OV H q2 n2)(l:n1+n2<=10000)(k:∀p H',SB H0 b H'->Kp [] H H'->b≠p->OV H' p (n1+n2)->Q (.ref p) H'):rAddW (.ref q1) (.ref q2) H Q:=by
 obtain⟨vs,e,o,hl⟩:=a
 obtain⟨vs',e',o',hl'⟩:=c
 have hsz:sizeLine=16777216:=Ak
 refine rAddW.lst e e' (by omega) λp hp=>k p _ (S.new hp) ((Kp.refl [] H).new hp) (S.ne hp).symm ⟨_,je,je9 o o',by rw[Ap];omega⟩
theorem OV.add1{H0 H:Hp}{b q1:Addr}{n1:Nat}{w:Str}{Q:VK}(S:SB H0 b H)(a:OV H q1 n1)(ow:okW w)(l:n1<=9000)(k:∀p H',SB H0 b H'->Kp [] H H'->b≠p->OV H' p (n1+1)->Q (.ref p) H'):1<=sizeLine/\∀p,H p=none->rAddW (.ref q1) (.ref p) (upd H p (.lst [.str w])) Q:=by
 have hsz:sizeLine=16777216:=Ak
 refine⟨by omega,λp hp=>?_⟩
 have k1:=(Kp.refl [] H).new (o:=.lst [.str w]) hp
 exact OV.add (S.new hp) (a.kp k1 (by simp)) ⟨_,je,(λv hv=>by rw[Ao.mp hv];exact⟨w,rfl,ow⟩),Ag _⟩ (by simp only[List.length_cons,List.length_nil];omega) λp' H' S' k' n' o'=>k p' H' S' (k1.trans k') n' o'
theorem OV.cut{K:PySem.W.Frag}{H0 H:Hp}{b a:Addr}{m:Nat}{W:List V}{lo hi:Option Int}{Q:VK}(S:SB H0 b H)(ha:H a=some (.lst W))(oW:∀v∈W,okV v)(hm:(cutV W lo hi).length<=m)(k:∀p H',SB H0 b H'->Kp [] H H'->b≠p->OV H' p m->Q (.ref p) H'):rSlU K (.ref a) lo hi H Q :=
 rSlU.lst ha λp hp=>k p _ (S.new hp) ((Kp.refl [] H).new hp) (S.ne hp).symm ⟨_,je,λv hv=>oW v (jqe hv),hm⟩
theorem OV.mono{H:Hp}{q:Addr}{n m:Nat}(h:OV H q n)(l:n<=m):OV H q m:=by
 obtain⟨vs,e,o,hl⟩:=h
 exact⟨vs,e,o,by omega⟩
def spSp:Sp:=λvs H Q _=>∃(b a p:Addr)(z:Str)(zs ws:List Str),vs=[.ref b,.ref a,.ref p,.str z]/\(∃o,H b=some o/\BoxO o)/\b≠p/\b≠a/\H p=some (.lst (zs.map V.str))/\zs.length<=26/\(∀y∈zs,NmOk y)/\Letters z 4/\H a=some (.lst (ws.map V.str))/\1<=ws.length/\ws.length<=800/\(∀w∈ws,okW w/\w.length<=9) /\
 ∀q H',SB H b H'->b≠q->OV H' q (ws.length+2)->Q (.ref q) H'
structure TSpl(mg:Str->Option Value)(ft fo ff:Addr):Prop where
 n_len:mg "len"=none
 m1z:mg "_law_take"=some (.ref ft)
 m17z:mg "_law_odd_word"=some (.ref fo)
 m14z:mg "_law_fed"=some (.ref ff)
section
variable{P:Program}{w:World}{K:PySem.W.Frag}{mg:Str->Option Value}{base:Heap}
abbrev y9:Stmt:=top 44
theorem ze:FnScope ["_law_box_here","_law_words_here","_law_names","_law_letters_here","_law_kind","_law_at","_law_word","_law_both"] ["_law_box_here","_law_words_here","_law_names","_law_letters_here"] (jk y9):=⟨rfl,rfl,rfl,by decide +kernel,rfl,by decide +kernel,by decide +kernel⟩
theorem ok__law_spoilt{f ft fo ff:Addr}{fd fdt fdo fdf:FuncData}(F:Fun K "_law_spoilt" "_law_spoilt" y9 f fd)(T:TSpl mg ft fo ff)(F1z:Fun K "_law_take" "_law_take" kx ft fdt)(b1z:Binds K fdt ["_law_box_here","_law_wide"] [])
  (G1z:FnOk P w K mg base CX0 1 ft fdt ["_law_box_here","_law_wide"] jdv) (F17z:Fun K "_law_odd_word" "_law_odd_word" yw fo fdo) (b17z:Binds K fdo ["_law_box_here","_law_names","_law_letters_here"] []) (G17z:FnOk P w K mg base CX0 2 fo fdo ["_law_box_here","_law_names","_law_letters_here"] spOd)
  (F14z:Fun K "_law_fed" "_law_fed" zk ff fdf) (b14z:Binds K fdf ["_law_word","_law_kind"] []) (G14z:FnOk P w K mg base CX0 1 ff fdf ["_law_word","_law_kind"] spFd):FnOk P w K mg base CX0 3 f fd ["_law_box_here","_law_words_here","_law_names","_law_letters_here"] spSp:=by
 refine F.ok ze (λvs H Q E h=>?_) (λcdv A outer s H vs Q E hr h=>?_)
 ·obtain⟨b,a,p,z,zs,ws,rfl,_⟩:=h
  rfl
 ·obtain⟨b,a,p,z,zs,ws,rfl,⟨o,hb,ho⟩,nbp,nba,hp,zl,nm,hz,ha,w1,w8,okw,k⟩:=h
  have hu:=hr.units
  have hsz:sizeLine=16777216:=Ak
  refine exQ (jh (jm (i:=4) ze.nd rfl (by first|exact Or.inl rfl|exact Or.inr rfl) (jo G1z (hr.mono (by decide)) rfl T.m1z F1z.kp b1z .nil jw (jc (qpv 0) (jc ji jd))))
  (jh (jm (i:=5) ze.nd rfl (by first|exact Or.inl rfl|exact Or.inr rfl) (jo G1z (hr.mono (by decide)) rfl T.m1z F1z.kp b1z .nil jw (jc (qpv 0) (jc (jv kh (by rfl) T.n_len km (jc (qpv 1) jd)) jd))))
  (jh (jm (i:=6) ze.nd rfl (by first|exact Or.inl rfl|exact Or.inr rfl) (jo G17z (hr.mono (by decide)) rfl T.m17z F17z.kp b17z .nil jw (jc (qpv 0) (jc (qpv 2) (jc (qpv 3) jd)))))
  (jh (j7 (jp jau (qpv 4) ji (jt _)) (jj (jr (jq jz (jq jz (yf (jaa (K:=K) rfl) (qpv 1) yz (yg (qpv 5))) (j6 (jc (qpv 6) jd))) (yf (jaa (K:=K) rfl) (qpv 1) (yg (qpv 5)) yz)))) jx)
  (jh (j7 (jp jau (qpv 4) ji (jt _)) (jj (jr (jq jz (jq jz (yf (jaa (K:=K) rfl) (qpv 1) yz (yg (qpv 5))) (j6 (jc (qpv 6) jd))) (yf (jaa (K:=K) rfl) (qpv 1) (yg (jq jz (qpv 5) ji)) yz)))) jx)
  (jh (j7 (jp (j9 hu) (qpv 4) ji (jt _)) (jj (jr (jq jz (yf (jaa (K:=K) rfl) (qpv 1) yz (yg (qpv 5))) (yf (jaa (K:=K) rfl) (qpv 1) (yg (jq jz (qpv 5) ji)) yz)))) jx)
  (jh (j7 (jp (j9 hu) (qpv 4) ji (jt _)) (jh (jm (i:=7) ze.nd rfl (by first|exact Or.inl rfl|exact Or.inr rfl) (jq jz (yf (jaa (K:=K) rfl) (qpv 1) (yg (jq jz (qpv 5) ji)) (yg (jq jz (qpv 5) ji))) (yf (jaa (K:=K) rfl) (qpv 1) (yg (qpv 5)) (yg (jq jz (qpv 5) ji)))))
  (jj (jr (jq jz (jq jz (yf (jaa (K:=K) rfl) (qpv 1) yz (yg (qpv 5))) (qpv 7)) (yf (jaa (K:=K) rfl) (qpv 1) (yg (jq jz (qpv 5) ji)) yz))))) jx)
  (jh (j7 (jp (j9 hu) (qpv 4) ji (jt _)) (jj (jr (yf (jaa (K:=K) rfl) (qpv 1) yz (yg (qpv 5))))) jx)
  (jh (j7 (jp (j9 hu) (qpv 4) ji (jt _)) (jj (jr (jq jz (qpv 1) (j6 (jc (qpv 6) jd))))) jx)
  (jh (jm (i:=5) ze.nd rfl (by first|exact Or.inl rfl|exact Or.inr rfl) (ju ix_U (j6 (jc (qpv 5) (jc (jq jaf (jv kh (by rfl) T.n_len km (jc (qpv 1) jd)) ji) jd))) (jo G1z (hr.mono (by decide)) rfl T.m1z F1z.kp b1z .nil jw (jc (qpv 0) (jc ji jd))) (λ_ _=>rfl)))
  (jj (jr (jq jz (jq jz (yf (jaa (K:=K) rfl) (qpv 1) yz (yg (qpv 5))) (jo G14z (hr.mono (by decide)) rfl T.m14z F14z.kp b14z .nil jw (jc (ju ix_U (qpv 1) (qpv 5) (λ_ _=>rfl)) (jc (jo G1z (hr.mono (by decide)) rfl T.m1z F1z.kp b1z .nil jw (jc (qpv 0) (jc ji jd))) jd)))) (yf (jaa (K:=K) rfl) (qpv 1) (yg (jq jz (qpv 5) ji)) yz)))))))))))))) ?_
  simp!
  have S0:SB H b H:=⟨Kp.refl _ _,o,hb,ho⟩
  have oW:∀v∈ws.map V.str,okV v:=jl8 λw hw=>(okw w hw).1
  have lW:(ws.map V.str).length=ws.length:=Ae ..
  have aof:∀{H1:Hp},SB H b H1->H1 a=some (.lst (ws.map V.str)):=λS=>S.kp.old _ _ ha (by simpa using nba.symm)
  have pof:∀{H1:Hp},SB H b H1->H1 p=some (.lst (zs.map V.str)):=λS=>S.kp.old _ _ hp (by simpa using nbp.symm)
  refine S0.tq (by decide) (by decide) λkd H1 kd0 kd9 S1 _=>?_
  refine⟨_,by rw[aof S1];rfl,?_⟩
  rw[lW]
  refine S1.tq (by omega) (by omega) λat' H2 at0 at1 S2 _=>?_
  refine⟨b,p,z,zs,rfl,S2.bx,nbp,pof S2,zl,nm,hz,λw H3 ow S3'=>?_⟩
  have S3:=S2.trans S3'
  clear S3'
  simp!
  have tk0:=jrg (ws.map V.str) at0
  have dr0:=jj8 (ws.map V.str) at0
  have dr1:=jj8 (ws.map V.str) (d:=at'+1) (by omega)
  have dr2:=jj8 (ws.map V.str) (d:=at'+2) (by omega)
  have c12:=jrh (ws.map V.str) (d:=at'+1) (e:=at'+2) (by omega) (by omega)
  have c01:=jrh (ws.map V.str) (d:=at') (e:=at'+1) (by omega) (by omega)
  rw[lW]at dr0 dr1 dr2
  refine ite2 (λ_=>?_) (λ_=>ite2 (λ_=>?_) (λ_=>ite2 (λ_=>?_) (λ_=>ite2 (λ_=>?_) (λ_=>ite2 (λ_=>?_) (λ_=>ite2 (λ_=>?_) (λ_=>?_))))))
  ·refine OV.cut S3 (aof S3) oW tk0 λq1 H4 S4 k4 n4 o1=>OV.add1 S4 o1 ow (by omega) λq2 H5 S5 k5 n5 o2=>?_
   refine OV.cut S5 (aof S5) oW dr0 λq3 H6 S6 k6 n6 o3=>OV.add S6 (o2.kp k6 (by simp)) o3 (by omega) λq4 H7 S7 k7 n7 o4=>k q4 H7 S7 n7 (o4.mono (by omega))
  ·refine OV.cut S3 (aof S3) oW tk0 λq1 H4 S4 k4 n4 o1=>OV.add1 S4 o1 ow (by omega) λq2 H5 S5 k5 n5 o2=>?_
   refine OV.cut S5 (aof S5) oW dr1 λq3 H6 S6 k6 n6 o3=>OV.add S6 (o2.kp k6 (by simp)) o3 (by omega) λq4 H7 S7 k7 n7 o4=>k q4 H7 S7 n7 (o4.mono (by omega))
  ·refine OV.cut S3 (aof S3) oW tk0 λq1 H4 S4 k4 n4 o1=>OV.cut S4 (aof S4) oW dr1 λq3 H6 S6 k6 n6 o3=>OV.add S6 (o1.kp k6 (by simp)) o3 (by omega) λq4 H7 S7 k7 n7 o4=>k q4 H7 S7 n7 (o4.mono (by omega))
  ·refine OV.cut S3 (aof S3) oW c12 λq1 H4 S4 k4 n4 o1=>OV.cut S4 (aof S4) oW c01 λq2 H5 S5 k5 n5 o2=>OV.add S5 (o1.kp k5 (by simp)) o2 (by omega) λq3 H6 S6 k6 n6 o3=>?_
   refine OV.cut S6 (aof S6) oW tk0 λq4 H7 S7 k7 n7 o4=>OV.add S7 o4 (o3.kp k7 (by simp)) (by omega) λq5 H8 S8 k8 n8 o5=>?_
   refine OV.cut S8 (aof S8) oW dr2 λq6 H9 S9 k9 n9 o6=>OV.add S9 (o5.kp k9 (by simp)) o6 (by omega) λq7 H10 S10 k10 n10 o7=>k q7 H10 S10 n10 (o7.mono (by omega))
  ·exact OV.cut S3 (aof S3) oW tk0 λq1 H4 S4 k4 n4 o1=>k q1 H4 S4 n4 (o1.mono (by omega))
  ·exact OV.add1 (n1:=ws.length) S3 ⟨_,aof S3,oW,Uj lW⟩ ow (by omega) λq2 H5 S5 k5 n5 o2=>k q2 H5 S5 n5 (o2.mono (by omega))
  ·refine⟨_,by rw[aof S3];rfl,by omega,λp4 hp4=>?_⟩
   rw[lW]
   have S4:=S3.new (x:=.lst [V.int at',V.int ((ws.length:Int)-1)]) hp4
   have e4:upd H3 p4 (.lst [V.int at',V.int ((ws.length:Int)-1)]) p4=some (.lst [V.int at',V.int ((ws.length:Int)-1)]):=je
   have nb4:b≠p4:=(S3.ne hp4).symm
   generalize upd H3 p4 (.lst [V.int at',V.int ((ws.length:Int)-1)])=H4 at S4 e4⊢
   refine S4.tq (by decide) (by decide) λd H5 d0 d1 S5 k5=>?_
   have e5:=k5.old _ _ e4 (by simpa using nb4.symm)
   obtain⟨a2,ea,a20,a21⟩:∃a2:Int,atI [V.int at',V.int ((ws.length:Int)-1)] d=some (.int a2)/\0<=a2/\a2<ws.length:=by
    have:d=0\/d=1:=by omega
    rcases this with rfl|rfl
    ·exact⟨_,jc8 (by decide) rfl,at0,at1⟩
    ·exact⟨_,jc8 (by decide) rfl,by omega,by omega⟩
   rw[jd0,e5]
   refine⟨_,rfl,_,ea,?_⟩
   have tk2:=jrg (ws.map V.str) a20
   have dr3:=jj8 (ws.map V.str) (d:=a2+1) (by omega)
   rw[lW]at dr3
   refine⟨a2,rfl,OV.cut S5 (aof S5) oW tk2 λq1 H6 S6 k6 n6 o1=>?_⟩
   have hd:a2.toNat<ws.length:=by omega
   have ew:(ws.map V.str)[a2.toNat]?=some (.str ws[a2.toNat]):=by rw[A3,An hd];rfl
   have ow2:=okw _ (Of hd)
   generalize ws[a2.toNat]=w2 at ew ow2
   rw[jd0,aof S6]
   refine⟨_,rfl,_,jc8 a20 ew,S6.tq (by decide) (by decide) λe H7 e0 e1 S7 k7=>?_⟩
   obtain⟨kn,rfl⟩:∃kn:Nat,e=(kn:Int):=⟨e.toNat,by omega⟩
   refine⟨w2,kn,rfl,by omega,ow2.1,ow2.2,λq3 H8 hq3 k8 o3=>?_⟩
   have o1':OV H8 q1 a2.toNat:=(o1.kp k7 (by simpa using n6.symm)).kp k8 (by simp)
   refine OV.add (S7.keep k8) o1' o3 (by omega) λq5 H9 S9 k9 n9 o5=>?_
   rw[je2]
   refine⟨_,rfl,OV.cut S9 (aof S9) oW dr3 λq6 H10 S10 k10 n10 o6=>OV.add S10 (o5.kp k10 (by simp)) o6 (by omega) λq7 H11 S11 k11 n11 o7=>k q7 H11 S11 n11 (o7.mono (by omega))⟩
end
theorem ok_lo{zs:List Str}{k:Nat}{r:RS}(h:r.ok zs k):r.lo k:=by
 cases r with
 |no j=>exact h
 |bin b j l=>exact h
 |qn b x j=>exact h.2
 |_=>trivial
theorem juh{y:Str}(h:NmOk y):isNm y=true:=by
 obtain⟨h1,h2,h3,h4⟩:=h
 have e1:decide ((y.length:Int)<1)=false:=Ia (by omega)
 have e2:decide ((3:Int)<(y.length:Int))=false:=Ia (by omega)
 have e3:inV (.str y) (NN.map V.str)=false:=h4
 have e4:y.cps.toList.all azB=true:=Oo.mpr λc hc=>by
  have:=h2 c hc
  simp[azB];omega
 unfold isNm
 rw[e1,e2,e3,e4]
 rfl
theorem jud{zs:List Str}{z:Str}{rs:List RS}(hn:∀y∈zs,NmOk y)(hz:Letters z 4)(ok:okR zs rs)(lt:okL z rs):RG rs:=λi r er=>by
 have okr:=ok i r er
 have ltr:=lt r (A0 er)
 have nn:∀y,y∈zs->isNm y=true/\y.length<=1000:=λy hy=>⟨juh (hn y hy),by have:=(hn y hy).1;omega⟩
 refine⟨ok_lo okr,?_⟩
 cases r with
 |is x a =>
  obtain⟨c,hc,rfl⟩:=ltr
  refine⟨nn x okr,?_,by show(1:Nat)<=1000;decide⟩
  have:=hz.az c hc
  unfold smB
  simp[Str.length,azB]
  omega
 |ahead x y=>exact⟨nn x okr.1,nn y okr.2⟩
 |qn b x j=>exact nn x okr.1
 |_=>trivial
theorem jt4{w:Str}(h:wdOk w/\w.length<=5):okW w/\w.length<=9:=by
 refine⟨⟨?_,by omega⟩,by omega⟩
 rcases h.1 with h|h|h
 ·exact .inl (.inl h)
 ·exact .inl (.inr h)
 ·exact .inr h
def tdR(ws:List Str):Row:=match fw 0 [.sy] ws with
 |none=>[.inr (Str.ofString "read"),.inr (toS (fmtW ws))]
 |some i=>[.inr (Str.ofString "refused"),.inl (i:Int)]
theorem jus(ws:List Str):(tdR ws).map kV=tdV ws:=by
 unfold tdR tdV
 cases fw 0 [.sy] ws <;> rfl
theorem jua{d:Du}{w:Str}{m:List Du}(h:jda d w=some m):PyData.strOk w=true:=by
 cases d with
 |sy =>
  simp only[jda]at h
  by_cases c1:w=Str.ofString "yes"
  ·rw[c1];decide +kernel
  rw[Aa c1]at h
  by_cases c2:w=Str.ofString "not"
  ·rw[c2];decide +kernel
  rw[Aa c2]at h
  by_cases c3:w=Str.ofString "some"\/w=Str.ofString "each"
  ·rcases c3 with c|c <;> (rw[c];decide +kernel)
  rw[Aa c3]at h
  by_cases c4:w=Str.ofString "("
  ·rw[c4];decide +kernel
  rw[Aa c4]at h
  by_cases c5:isNm w=true
  ·exact job c5
  rw[Aa c5]at h
  cases h
 |rl =>
  simp only[jda]at h
  by_cases c1:w=Str.ofString "is"
  ·rw[c1];decide +kernel
  rw[Aa c1]at h
  by_cases c2:w=Str.ofString "<"
  ·rw[c2];decide +kernel
  rw[Aa c2]at h
  cases h
 |nm =>
  simp only[jda]at h
  by_cases c5:isNm w=true
  ·exact job c5
  rw[Aa c5]at h
  cases h
 |lk =>
  simp only[jda]at h
  by_cases c3:w=Str.ofString "and"\/w=Str.ofString "or"
  ·rcases c3 with c|c <;> (rw[c];decide +kernel)
  rw[Aa c3]at h
  cases h
 |en =>
  simp only[jda]at h
  by_cases c1:w=Str.ofString ")"
  ·rw[c1];decide +kernel
  rw[Aa c1]at h
  cases h
 |lt =>
  simp only[jda]at h
  by_cases c5:smB w=true
  ·exact juo c5
  rw[Aa c5]at h
  cases h
theorem jpd:∀(ws:List Str)(p:Nat)(ds:List Du),fw p ds ws=none->∀w∈ws,PyData.strOk w=true
 |[],_,_,_=>λw hw=>nomatch hw
 |w::ws,p,[],h=>by simp[fw]at h
 |w::ws,p,d::ds,h=>by
  simp only[fw]at h
  cases e:jda d w with
  |none=>rw[e]at h;cases h
  |some m =>
   rw[e]at h
   intro v hv
   rcases Al.mp hv with rfl|hv
   ·exact jua e
   ·exact jpd ws _ _ h v hv
theorem jr0{w:Str}(h:PyData.strOk w=true):∀c∈tL w,c<0x110000:=λc hc=>by
 unfold PyData.strOk at h
 rw[Uo]at h
 have:=h c (by simpa[tL]using hc)
 simpa using this
theorem jtu(a b:Str):∀c∈sepW a b,c<0x110000:=λc hc=>by
 unfold sepW at hc
 split at hc
 ·cases hc
 ·rw[Ao.mp hc];decide
theorem jpa:∀ws:List Str,(∀w∈ws,PyData.strOk w=true)->∀c∈fmtW ws,c<0x110000
 |[],_=>λc hc=>nomatch hc
 |[w],h=>jr0 (h w (.head _))
 |w::w'::r,h=>λc hc=>by
  have ih:=jpa (w'::r) λv hv=>h v (.tail _ hv)
  have hc:c∈tL w++(sepW w w'++fmtW (w'::r)):=hc
  rcases Ie.mp hc with hc|hc
  ·exact jr0 (h w (.head _)) c hc
  ·rcases Ie.mp hc with hc|hc
   ·exact jtu _ _ c hc
   ·exact ih c hc
theorem jt0(ws:List Str):Sg (tdR ws):=by
 unfold tdR
 cases e:fw 0 [.sy] ws with
 |none =>
  intro z hz
  simp only[Al,Yk,Ah,Os]at hz
  rcases hz with rfl|rfl
  ·decide +kernel
  ·unfold PyData.strOk
   rw[Uo]
   intro c hc
   have:=jpa ws (jpd ws 0 _ e) c (by simpa[toS]using hc)
   simpa using this
 |some i =>
  intro z hz
  simp only[Al,Yk,Ah,Os,reduceCtorEq]at hz
  rw[hz]
  decide +kernel
theorem jpp{H:Hp}{a b:Addr}{ws:List Str}{Q:VK}(ha:H a=some (.tup (tdV ws)))(hb:H b=some (.tup (tdV ws)))(q:Q (.bl false) H):rNeD (.ref a) (.ref b) H Q:=by
 rw[<-jus]at ha hb
 have:=jle (jt0 ws)
 have sh:SeqAt.shaped (rowD (tdR ws))=true:=by
  unfold SeqAt.shaped
  rw[this.1]
  simp
  omega
 exact⟨_,_,jgi ha,jgi hb,sh,sh,by rw[jm2];simpa using q⟩
theorem jgo{H H':Hp}{b Pt:Addr}{qual:Str}(hb:∃o,H b=some o/\BoxO o)(t:TabOk H Pt qual)(k:Kp [b] H H'):TabOk H' Pt qual:=by
 obtain⟨o,hb,ho⟩:=hb
 obtain⟨xs,rfl⟩:=ho.lst
 refine t.kp k (λm=>?_) (λc o e m=>?_)
 ·obtain⟨ps,e,_⟩:=t
  rw[Ao.mp m,hb]at e;cases e
 ·rw[Ao.mp m,hb]at e
  cases e
theorem jdi{H:Hp}{p Pt:Addr}{qual:Str}{xs:List V}(hp:H p=some (.lst xs))(t:TabOk H Pt qual):p≠Pt:=λz=>by
 obtain⟨ps,e,_⟩:=t
 rw[<-z,hp]at e
 cases e
def jh2(K:PySem.W.Frag)(P1 P2:Addr):Sp:=λvs H Q _=>∃(a:Addr)(ns:List Int),vs=[.ref a]/\SqL K H a (ns.map V.int)/\ns.length<=63/\a≠P1/\a≠P2/\TabOk H P1 LQ1/\TabOk H P2 LQ2/\∀H',Q (.bl true) H'
structure TLw(mg:Str->Option Value)(fbx flt fpn ft fsr fch fwd fsl fsd fto fdu:Addr):Prop where
 n_range:mg "range"=none
 n_max:mg "max"=none
 n_min:mg "min"=none
 n_len:mg "len"=none
 m7z:mg "_law_box"=some (.ref fbx)
 m16z:mg "_law_letters"=some (.ref flt)
 m18z:mg "_law_place_names"=some (.ref fpn)
 m1z:mg "_law_take"=some (.ref ft)
 m19z:mg "_law_saying_rows"=some (.ref fsr)
 m11z:mg "_law_chain"=some (.ref fch)
 m21z:mg "_law_words"=some (.ref fwd)
 m20z:mg "_law_spoilt"=some (.ref fsl)
 m9z:mg "_law_spaced"=some (.ref fsd)
 m6z:mg "_law_told"=some (.ref fto)
 m8z:mg "_law_due"=some (.ref fdu)
section
variable{P:Program}{w:World}{K:PySem.W.Frag}{mg:Str->Option Value}{base:Heap}
abbrev ja2:Stmt:=top 47
theorem jaw:FnScope ["_law_script","_law_box_here","_law_letters_here","_law_names","_law_rows","_law_words_here","_law_k","_law_wrong"] ["_law_script"] (jk ja2):=⟨rfl,rfl,rfl,by decide +kernel,rfl,by decide +kernel,by decide +kernel⟩
theorem ok_law{f fbx flt fpn ft fsr fch fwd fsl fsd fto fdu P1 P2:Addr}{fd fdbx fdlt fdpn fdt fdsr fdch fdwd fdsl fdsd fdto fddu:FuncData}(F:Fun K "law" "law" ja2 f fd)(T:TLw mg fbx flt fpn ft fsr fch fwd fsl fsd fto fdu)
  (F7z:Fun K "_law_box" "_law_box" z5 fbx fdbx) (b7z:Binds K fdbx ["_law_script","_law_k"] []) (G7z:FnOk P w K mg base CX0 1 fbx fdbx ["_law_script","_law_k"] (jrx K))
  (F16z:Fun K "_law_letters" "_law_letters" y1 flt fdlt) (b16z:Binds K fdlt ["_law_box_here","_law_most"] []) (G16z:FnOk P w K mg base CX0 2 flt fdlt ["_law_box_here","_law_most"] jj0)
  (F18z:Fun K "_law_place_names" "_law_place_names" kz fpn fdpn) (b18z:Binds K fdpn ["_law_box_here","_law_many"] []) (G18z:FnOk P w K mg base CX0 2 fpn fdpn ["_law_box_here","_law_many"] spPN)
  (F1z:Fun K "_law_take" "_law_take" kx ft fdt) (b1z:Binds K fdt ["_law_box_here","_law_wide"] []) (G1z:FnOk P w K mg base CX0 1 ft fdt ["_law_box_here","_law_wide"] jdv)
  (F19z:Fun K "_law_saying_rows" "_law_saying_rows" yi fsr fdsr) (b19z:Binds K fdsr ["_law_box_here","_law_letters_here","_law_names","_law_most"] []) (G19z:FnOk P w K mg base CX0 3 fsr fdsr ["_law_box_here","_law_letters_here","_law_names","_law_most"] spSR)
  (F11z:Fun K "_law_chain" "_law_chain" zg fch fdch) (b11z:Binds K fdch ["_law_box_here","_law_names","_law_rows","_law_many"] []) (G11z:FnOk P w K mg base CX0 2 fch fdch ["_law_box_here","_law_names","_law_rows","_law_many"] spCh)
  (F21z:Fun K "_law_words" "_law_words" zh fwd fdwd) (b21z:Binds K fdwd ["_law_saying"] []) (G21z:FnOk P w K mg base CX0 1 fwd fdwd ["_law_saying"] spWd)
  (F20z:Fun K "_law_spoilt" "_law_spoilt" y9 fsl fdsl) (b20z:Binds K fdsl ["_law_box_here","_law_words_here","_law_names","_law_letters_here"] []) (G20z:FnOk P w K mg base CX0 3 fsl fdsl ["_law_box_here","_law_words_here","_law_names","_law_letters_here"] spSp)
  (F9z:Fun K "_law_spaced" "_law_spaced" y8 fsd fdsd) (b9z:Binds K fdsd ["_law_box_here","_law_words_here","_law_wide"] []) (G9z:FnOk P w K mg base CX0 2 fsd fdsd ["_law_box_here","_law_words_here","_law_wide"] spSd)
  (F6z:Fun K "_law_told" "_law_told" zu fto fdto) (b6z:Binds K fdto ["_law_text"] []) (G6z:FnOk P w K mg base CX0 8 fto fdto ["_law_text"] (spTo P1 P2))
  (F8z:Fun K "_law_due" "_law_due" z7 fdu fddu) (b8z:Binds K fddu ["_law_words_here"] []) (G8z:FnOk P w K mg base CX0 5 fdu fddu ["_law_words_here"] spDu):FnOk P w K mg base CX0 9 f fd ["_law_script"] (jh2 K P1 P2):=by
 refine F.ok jaw (λvs H Q E h=>?_) (λcdv A outer s H vs Q E hr h=>?_)
 ·obtain⟨a,ns,rfl,_⟩:=h
  rfl
 ·obtain⟨a,ns,rfl,hS,n9,na1,na2,t1,t2,k⟩:=h
  have hu:=hr.units
  have hsz:sizeLine=16777216:=Ak
  refine exQ (jh (jm (i:=1) jaw.nd rfl (by first|exact Or.inl rfl|exact Or.inr rfl) (jo G7z (hr.mono (by decide)) rfl T.m7z F7z.kp b7z .nil jw (jc (qpv 0) (jc ji jd))))
  (jh (jm (i:=2) jaw.nd rfl (by first|exact Or.inl rfl|exact Or.inr rfl) (jo G16z (hr.mono (by decide)) rfl T.m16z F16z.kp b16z .nil jw (jc (qpv 1) (jc ji jd))))
  (jh (jm (i:=3) jaw.nd rfl (by first|exact Or.inl rfl|exact Or.inr rfl) (jo G18z (hr.mono (by decide)) rfl T.m18z F18z.kp b18z .nil jw (jc (qpv 1) (jc (jq jz ji (jo G1z (hr.mono (by decide)) rfl T.m1z F1z.kp b1z .nil jw (jc (qpv 1) (jc ji jd)))) jd))))
  (jh (jm (i:=4) jaw.nd rfl (by first|exact Or.inl rfl|exact Or.inr rfl) (jo G19z (hr.mono (by decide)) rfl T.m19z F19z.kp b19z .nil jw (jc (qpv 1) (jc (qpv 2) (jc (qpv 3) (jc ji jd))))))
  (jh (jm (i:=5) jaw.nd rfl (by first|exact Or.inl rfl|exact Or.inr rfl) (jo G21z (hr.mono (by decide)) rfl T.m21z F21z.kp b21z .nil jw (jc (jo G11z (hr.mono (by decide)) rfl T.m11z F11z.kp b11z .nil jw (jc (qpv 1) (jc (qpv 3) (jc (qpv 4) (jc (ju ix_U (j6 (jc ji (jc (jo G1z (hr.mono (by decide)) rfl T.m1z F1z.kp b1z .nil jw (jc (qpv 1) (jc ji jd))) jd))) (jo G1z (hr.mono (by decide)) rfl T.m1z F1z.kp b1z .nil jw (jc (qpv 1) (jc ji jd))) (λ_ _=>rfl)) jd))))) jd)))
  (jh (jac I0 rfl (qpi_range2 rfl T.n_range (jc ji (jc (jv (call_maxU rfl) (by rfl) T.n_max bt_max (jc ji (jc (jv (jci rfl) (by rfl) T.n_min jc2 (jc (jv zw (by rfl) T.n_len km (jc (qpv 0) jd)) (jc ji jd))) jd))) jd))) (kr (i:=6) jaw.nd rfl (by first|exact Or.inl rfl|exact Or.inr rfl)) (jh (jm (i:=1) jaw.nd rfl (by first|exact Or.inl rfl|exact Or.inr rfl) (jo G7z (hr.mono (by decide)) rfl T.m7z F7z.kp b7z .nil jw (jc (qpv 0) (jc (qpv 6) jd))))
  (jh (jm (i:=7) jaw.nd rfl (by first|exact Or.inl rfl|exact Or.inr rfl) (jo G20z (hr.mono (by decide)) rfl T.m20z F20z.kp b20z .nil jw (jc (qpv 1) (jc (qpv 5) (jc (qpv 3) (jc (qpv 2) jd))))))
  (jh (j7 (jp (jb6 hu) (jo G6z (hr.mono (by decide)) rfl T.m6z F6z.kp b6z .nil jw (jc (jo G9z (hr.mono (by decide)) rfl T.m9z F9z.kp b9z .nil jw (jc (qpv 1) (jc (qpv 7) (jc ji jd)))) jd)) (jo G8z (hr.mono (by decide)) rfl T.m8z F8z.kp b8z .nil jw (jc (qpv 7) jd)) (jt _)) (jj (jr jbr)) jx)
  (jj (j7 (jp (jb6 hu) (jo G6z (hr.mono (by decide)) rfl T.m6z F6z.kp b6z .nil jw (jc (jo G9z (hr.mono (by decide)) rfl T.m9z F9z.kp b9z .nil jw (jc (qpv 1) (jc (qpv 5) (jc ji jd)))) jd)) (jo G8z (hr.mono (by decide)) rfl T.m8z F8z.kp b8z .nil jw (jc (qpv 5) jd)) (jt _)) (jj (jr jbr)) jx))))))
  (jj (jr (yr (j9 hu) (jo G6z (hr.mono (by decide)) rfl T.m6z F6z.kp b6z .nil jw (jc (jq ja4 jg (jo G1z (hr.mono (by decide)) rfl T.m1z F1z.kp b1z .nil jw (jc (qpv 1) (jc ji jd)))) jd)) (kf (jc jg (jc ji jd))) (jt _)))))))))) ?_
  simp!
  refine⟨a,0,ns,rfl,hS,by decide,by decide,λb o hb ho=>?_⟩
  have kb:Kp [] H (upd H b o):=(Kp.refl [] H).new hb
  have eb:upd H b o b=some o:=je
  generalize upd H b o=H2 at kb eb⊢
  refine⟨b,4,o,rfl,eb,ho,by omega,by omega,λz o1 H3 hz ho1 eb1 k3=>?_⟩
  have S3:SB H2 b H3:=⟨k3,o1,eb1,ho1⟩
  refine S3.tq (by decide) (by decide) λd1 H4 d10 d11 S4 k4=>?_
  obtain⟨mn,emn,mn1,mn6⟩:∃mn:Nat,(1+d1:Int)=(mn:Int)/\1<=mn/\mn<=26:=⟨(1+d1).toNat,by omega,by omega,by omega⟩
  simp! [emn]
  obtain⟨o5,eb5,ho5⟩:=S4.bx
  refine⟨b,mn,o5,rfl,eb5,ho5,mn1,mn6,λpn zs o6 H6 zl hn hpn hp6 ho6 eb6 k6=>?_⟩
  have S6:SB H2 b H6:=⟨S4.kp.trans k6,o6,eb6,ho6⟩
  have nbn:b≠pn:=jl eb5 hpn
  refine⟨b,pn,z,zs,7,o6,rfl,eb6,ho6,hz,hp6,by omega,by omega,by decide,by decide,nbn,λq us rs o7 H7 r1 r7 ra ok okl hq hq7 ho7 eb7 k7=>?_⟩
  have S7:SB H2 b H7:=⟨S6.kp.trans k7,o7,eb7,ho7⟩
  have nbq:b≠q:=jl eb6 hq
  have hp7:=k7.old _ _ hp6 (by simpa using nbn.symm)
  have bw0:BdW rs 381:=λj=>A7 (BdW.all rs.length rs rfl j) (by
   have:2^rs.length<=2^7:=Nat.pow_le_pow_right (by decide) r7
   omega)
  have g0:GR zs z rs 381:=⟨ok,okl,bw0⟩
  simp!
  refine S7.tq (by decide) (by decide) λd2 H8 d20 d21 S8 k8=>⟨by omega,λp9 hp9=>?_⟩
  have S9:=S8.new (x:=.lst [V.int 0,V.int d2]) hp9
  have k9:=k8.new (o:=.lst [V.int 0,V.int d2]) hp9
  have e9:upd H8 p9 (.lst [V.int 0,V.int d2]) p9=some (.lst [V.int 0,V.int d2]):=je
  have nb9:b≠p9:=(S8.ne hp9).symm
  generalize upd H8 p9 (.lst [V.int 0,V.int d2])=H9 at S9 k9 e9⊢
  refine S9.tq (by decide) (by decide) λd3 H10 d30 d31 S10 k10=>?_
  obtain⟨m,em,m10⟩:∃m:Nat,atI [V.int 0,V.int d2] d3=some (.int (m:Int))/\m<=10:=by
   have:d3=0\/d3=1:=by omega
   rcases this with rfl|rfl
   ·exact⟨0,jc8 (by decide) rfl,by decide⟩
   ·refine⟨d2.toNat,?_,by omega⟩
    rw[Int.toNat_of_nonneg d20]
    exact jc8 (by decide) rfl
  rw[jd0,k10.old _ _ e9 (by simpa using nb9.symm)]
  refine⟨_,rfl,_,em,?_⟩
  obtain⟨o10,eb10,ho10⟩:=S10.bx
  have k710:=k9.trans k10
  refine⟨b,pn,q,m,381,zs,z,us,rs,o10,rfl,eb10,ho10,k710.old _ _ hp7 (by simpa using nbn.symm),by omega,by omega,nbn,by omega,k710.old _ _ hq7 (by simpa using nbq.symm),ra.kp k710,g0,r1,by omega,λt us' rs' o11 H11 ht ra' g' e' ho11 eb11 k11=>?_⟩
  have S11:SB H2 b H11:=⟨S10.kp.trans k11,o11,eb11,ho11⟩
  have hp11:=(k710.trans k11).old _ _ hp7 (by simpa using nbn.symm)
  have bwl:=g'.bw (rs'.length-1)
  have rg:=jud hn hz g'.ok g'.lt
  refine⟨t,us',rs',zs,rfl,ht,ra',g'.ok,by omega,by omega,λj=>by have:=g'.bw j;omega,λwl H12 hwl ewl k12=>?_⟩
  have wel:=ji0 rg (rs'.length-1) (by omega)
  obtain⟨ws,hws⟩:∃ws,ws=wAt rs' (rs'.length-1):=⟨_,rfl⟩
  rw[<-hws]at bwl ewl wel
  have w1:1<=ws.length:=by
   obtain⟨⟨h,tl,e,_⟩,_⟩:=wel
   rw[e];simp
  have w8:ws.length<=800:=by omega
  have okw:∀w∈ws,okW w/\w.length<=9:=λw hw=>jt4 (wel.2.2 w hw)
  have kA:Kp [] H H12:=(kb.trans' S11.kp λy hy=>.inr (by rw[Ao.mp hy];exact hb)).trans k12
  have eb12:=k12.old _ _ eb11 Ah
  have hp12:=k12.old _ _ hp11 Ah
  have dw:∀{vs:List Str},(∀w∈vs,okW w)->vs.length<=900->DW vs:=λh l=>⟨λw hw=>by have:=(h w hw).2;omega,by omega⟩
  refine⟨_,.inl (kA.seq (by simp) hS),_,_,⟨rfl,rfl⟩,?_⟩
  rw[Ae]
  obtain⟨jn,ej,j13⟩:∃jn:Nat,(if(if(13:Int)<(ns.length:Int)then(13:Int)else(ns.length:Int))>4 then if(13:Int)<(ns.length:Int)then(13:Int)else(ns.length:Int)else 4)=(jn:Int)/\jn<=13:=by
   by_cases c1:(13:Int)<(ns.length:Int)
   ·rw[Af c1];exact⟨13,by simp,by omega⟩
   ·rw[Aa c1]
    by_cases c2:(ns.length:Int)>4
    ·rw[Af c2];exact⟨ns.length,rfl,by omega⟩
    ·rw[Aa c2];exact⟨4,rfl,by omega⟩
  rw[ej]
  refine⟨⟨by decide,by decide,by omega,by omega⟩,?_⟩
  obtain⟨V0,hV⟩:∃V0:L2.St->Hp->Prop,V0=λσ H'=>∃(b':Addr)(v6 v7:Option V),σ=[some (.ref a),some (.ref b'),some (.str z),some (.ref pn),some (.ref q),some (.ref wl),v6,v7]/\(∃o,H' b'=some o/\BoxO o)/\H' pn=some (.lst (zs.map V.str))/\H' wl=some (.lst (ws.map V.str))/\TabOk H' P1 LQ1/\TabOk H' P2 LQ2/\Kp [P1,P2] H H':=⟨_,rfl⟩
  refine jd3 (λ_=>V0) ?_ ?_ ?_
  ·rw[hV]
   exact⟨b,none,none,rfl,⟨o11,eb12,ho11⟩,hp12,ewl,t1.kp kA (by simp) (by simp),t2.kp kA (by simp) (by simp),kA.mono (by simp)⟩
  ·intro i σ H13 hi hw
   rw[hV]at hw
   obtain⟨b',v6,v7,rfl,_,hp13,hw13,tb1,tb2,k13⟩:=hw
   clear S3 S4 S6 S7 S8 S9 S10 S11 k3 k4 k6 k7 k8 k9 k10 k11 k710 k12 kA ra ra' hp6 hp7 hp9 hp11 hp12 ewl ht eb eb1 eb5 eb6 eb7 eb10 eb11 eb12
   simp!
   refine⟨a,_,ns,rfl,k13.seq (by simp[na1,na2]) hS,by omega,by omega,λc oc hc hoc=>?_⟩
   have hc0:H c=none:=k13.free hc
   have kc:Kp [] H13 (upd H13 c oc):=(Kp.refl [] H13).new hc
   have ec:upd H13 c oc c=some oc:=je
   generalize upd H13 c oc=H14 at kc ec⊢
   have ncp:c≠pn:=(jl hp13 hc).symm
   have ncw:c≠wl:=(jl hw13 hc).symm
   have hp14:=kc.old _ _ hp13 Ah
   have hw14:=kc.old _ _ hw13 Ah
   refine⟨c,wl,pn,z,zs,ws,rfl,⟨oc,ec,hoc⟩,ncp,ncw,hp14,by omega,hn,hz,hw14,w1,w8,okw,λr H15 S15 ncr ov=>?_⟩
   obtain⟨vs,er,ovs,vl⟩:=ov
   obtain⟨wr,rfl,okr⟩:=jli ovs
   rw[Ae]at vl
   refine⟨c,r,wr,rfl,S15.bx,ncr,er,okr,by omega,λT0 H16 etk t9 S16=>?_⟩
   have k16:Kp [] H13 H16:=kc.trans' (S15.kp.trans S16.kp) λy hy=>.inr (by rw[Ao.mp hy];exact hc)
   have tc1:=tb1.kp k16 (by simp) (by simp)
   have tc2:=tb2.kp k16 (by simp) (by simp)
   have er16:=S16.kp.old _ _ er (by simpa using ncr.symm)
   refine⟨T0,rfl,t9,by rw[etk];exact dw okr (by omega),by rw[etk];omega,tc1,tc2,λq5 H17 e5 td1 td2 k17=>?_⟩
   rw[etk]at e5
   have er17:=k17.old _ _ er16 (by simp[jdi er16 tc1,jdi er16 tc2])
   refine⟨r,wr,rfl,er17,dw okr (by omega),by omega,okr,λq6 H18 e6 k18=>?_⟩
   show rNeU (.ref q5) (.ref q6) H18 _
   rw[jfn]
   refine jpp (k18.tup _ _ e5) e6 ⟨false,rfl,?_⟩
   rw[Aa (by decide)]
   have hw16:=k16.old _ _ hw13 Ah
   have hp16:=k16.old _ _ hp13 Ah
   have hw18:=k18.old _ _ (k17.old _ _ hw16 (by simp[jdi hw16 tc1,jdi hw16 tc2])) (by simp)
   have hp18:=k18.old _ _ (k17.old _ _ hp16 (by simp[jdi hp16 tc1,jdi hp16 tc2])) (by simp)
   obtain⟨o16,ec16,ho16⟩:=S16.bx
   obtain⟨xs16,rfl⟩:=ho16.lst
   have ec18:=k18.old _ _ (k17.old _ _ ec16 (by simp[jdi ec16 tc1,jdi ec16 tc2])) (by simp)
   have te1:=td1.kp k18 (by simp) (by simp)
   have te2:=td2.kp k18 (by simp) (by simp)
   have kH18:Kp [P1,P2] H H18:=((k13.trans (k16.mono (by simp))).trans k17).trans (k18.mono (by simp))
   clear k17 k18 e5 e6 er16 er17 hw16 hp16 tc1 tc2 td1 td2 S15 S16 k16 er ec16
   refine⟨c,wl,ws,rfl,⟨_,ec18,ho16⟩,ncw,hw18,λw hw=>(okw w hw).1,by omega,λT1 H19 etk1 t91 S19=>?_⟩
   have tf1:=jgo ⟨_,ec18,ho16⟩ te1 S19.kp
   have tf2:=jgo ⟨_,ec18,ho16⟩ te2 S19.kp
   have okw':∀w∈ws,okW w:=λw hw=>(okw w hw).1
   have hw19:=S19.kp.old _ _ hw18 (by simpa using ncw.symm)
   have hp19:=S19.kp.old _ _ hp18 (by simpa using ncp.symm)
   refine⟨T1,rfl,t91,by rw[etk1];exact dw okw' (by omega),by rw[etk1];omega,tf1,tf2,λq7 H20 e7 tg1 tg2 k20=>?_⟩
   rw[etk1]at e7
   have hw20:=k20.old _ _ hw19 (by simp[jdi hw19 tf1,jdi hw19 tf2])
   have hp20:=k20.old _ _ hp19 (by simp[jdi hp19 tf1,jdi hp19 tf2])
   refine⟨wl,ws,rfl,hw20,dw okw' (by omega),by omega,okw',λq8 H21 e8 k21=>?_⟩
   show rNeU (.ref q7) (.ref q8) H21 _
   rw[jfn]
   refine jpp (k21.tup _ _ e7) e8 ⟨false,rfl,?_⟩
   rw[Aa (by decide),hV]
   obtain⟨o19,ec19,ho19⟩:=S19.bx
   obtain⟨xs19,rfl⟩:=ho19.lst
   have ec21:=k21.old _ _ (k20.old _ _ ec19 (by simp[jdi ec19 tf1,jdi ec19 tf2])) (by simp)
   exact⟨c,_,_,rfl,⟨_,ec21,ho19⟩,k21.old _ _ hp20 Ah,k21.old _ _ hw20 Ah,tg1.kp k21 (by simp) (by simp),tg2.kp k21 (by simp) (by simp),((kH18.trans' S19.kp λy hy=>.inr (by rw[Ao.mp hy];exact hc0)).trans k20).trans (k21.mono (by simp))⟩
  ·intro σ H13 hw
   rw[hV]at hw
   obtain⟨b',v6,v7,rfl,hb',hp13,hw13,tb1,tb2,k13⟩:=hw
   simp!
   have S13:SB H13 b' H13:=⟨Kp.refl _ _,hb'⟩
   refine S13.tq (by decide) (by decide) λd H14 d0 d1 S14 k14=>?_
   obtain⟨n,rfl⟩:∃n:Nat,d=(n:Int):=⟨d.toNat,by omega⟩
   have es:Str.ofString " "=⟨#[32]⟩:=by decide +kernel
   have lr:(repC 32 n).length=n:=by simp[repC,Str.length]
   have et:toks (repC 32 n)=[]:=by
    unfold toks
    have:(repC 32 n).cps.toList=List.replicate n 32++[]:=by simp[repC]
    rw[this,jgp]
    rfl
   refine⟨32,n,by rw[es],rfl,by omega,_,rfl,by omega,by rw[et];exact dw (λw hw=>nomatch hw) (by decide),by rw[et];decide,jgo hb' tb1 k14,jgo hb' tb2 k14,λq5 H15 e5 tc1 tc2 k15=>⟨by omega,λq6 hq6=>?_⟩⟩
   rw[et]at e5
   have e5':H15 q5=some (.tup (([.inr (Str.ofString "refused"),.inl 0]:Row).map kV)):=e5
   have k16:=(Kp.refl [] H15).new (o:=.tup [V.str (Str.ofString "refused"),V.int 0]) hq6
   have sr:Sg ([.inr (Str.ofString "refused"),.inl 0]:Row):=λz hz=>by
    simp only[Al,Yk,Ah,Os,reduceCtorEq]at hz
    rw[hz];decide +kernel
   exact jih (r:=[.inr (Str.ofString "refused"),.inl 0]) (r':=[.inr (Str.ofString "refused"),.inl 0]) (k16.tup _ _ e5') je sr sr (by rw[Og rfl];exact k _)
end
theorem c_of{K:PySem.W.Frag}{hh:Heap}{tb:Addr}{m:Str}(X:K.In hh){C b c:Addr}{fd:FuncData}{oc:Value}{od:Option Addr}{osl:Array (Option Value)}(h2:PySem.W.nsIn K mainGlobals "SayingReading"=some (some (.ref C)))(h3:PySem.W.findIn K (.ref C) m=some (some (.ref b)))(h4:K.lookup b=some ⟨oc,od,.func fd,osl⟩)(h5:fd.code=.ref c)(h6:PySem.W.codeHdIn K c tb=true):∃c,PySem.W.CodeHd hh c tb:=⟨c,Yd X h6⟩
theorem us2{C:List Value->Prop}(h:∀v0 v1:Value,C [v0,v1])(us:List Value)(e:us.length=2):C us:=by
 cases us with
 |nil=>exact absurd e.symm (Im _)
 |cons v0 us =>
  cases us with
  |nil=>exact absurd (Ii (e.symm)) (Im _)
  |cons v1 us =>
   cases us with
   |nil=>exact h v0 v1
   |cons _ _=>exact absurd (Ii (Ii (e))) (Im _)
theorem us3{C:List Value->Prop}(h:∀v0 v1 v2:Value,C [v0,v1,v2])(us:List Value)(e:us.length=3):C us:=by
 cases us with
 |nil=>exact absurd e.symm (Im _)
 |cons v0 us =>
  cases us with
  |nil=>exact absurd (Ii (e.symm)) (Im _)
  |cons v1 us =>
   cases us with
   |nil=>exact absurd (Ii (Ii (e.symm))) (Im _)
   |cons v2 us =>
    cases us with
    |nil=>exact h v0 v1 v2
    |cons _ _=>exact absurd (Ii (Ii (Ii (e)))) (Im _)
theorem us4{C:List Value->Prop}(h:∀v0 v1 v2 v3:Value,C [v0,v1,v2,v3])(us:List Value)(e:us.length=4):C us:=by
 cases us with
 |nil=>exact absurd e.symm (Im _)
 |cons v0 us =>
  cases us with
  |nil=>exact absurd (Ii (e.symm)) (Im _)
  |cons v1 us =>
   cases us with
   |nil=>exact absurd (Ii (Ii (e.symm))) (Im _)
   |cons v2 us =>
    cases us with
    |nil=>exact absurd (Ii (Ii (Ii (e.symm)))) (Im _)
    |cons v3 us =>
     cases us with
     |nil=>exact h v0 v1 v2 v3
     |cons _ _=>exact absurd (Ii (Ii (Ii (Ii (e))))) (Im _)
theorem all_mk{l:PySem.W.OpenLaw}{w:World}{K:PySem.W.Frag}{h:Heap}{mg:Str->Option Value}{fa f1 f2 f3 f4 f5 f6 f7 f8 f9 f10 f11 f12 f13 f14 f15 f16 f17 f18 f19 f20 f21 f22 f23 f24 f25 f26 f27 f28 f29 f30 f31 f32:Addr}(X:K.In h)(G:h.Ns mainGlobals mg)(hfa:mg "law"=some (.ref fa))
  {od1 od2 od3 od4 od5 od6 od7 od8 od9 od10 od11 od12 od13 od14 od15 od16 od17 od18 od19 od20 od21 od22 od23 od24 od25 od26 od27 od28 od29 od30 od31 od32 an1 an2 an3 an4 an5 an6 an7 an8 an9 an10 an11 an12 an13 an14 an15 an16 an17 an18 an19 an20 an21 an22 an23 an24 an25 an26 an27 an28 an29 an30 an31 an32:Option Addr}{sl1 sl2 sl3 sl4 sl5 sl6 sl7 sl8 sl9 sl10 sl11 sl12 sl13 sl14 sl15 sl16 sl17 sl18 sl19 sl20 sl21 sl22 sl23 sl24 sl25 sl26 sl27 sl28 sl29 sl30 sl31 sl32:Array (Option Value)}{oc1 kV1 dc1 pm1 cd1 ct1 oc2 kV2 dc2 pm2 cd2 ct2 oc3 kV3 dc3 pm3 cd3 ct3 oc4 kV4 dc4 pm4 cd4 ct4 oc5 kV5 dc5 pm5 cd5 ct5 oc6 kV6 dc6 pm6 cd6 ct6 oc7 kV7 dc7 pm7 cd7 ct7 oc8 kV8 dc8 pm8 cd8 ct8 oc9 kV9 dc9 pm9 cd9 ct9 oc10 kV10 dc10 pm10 cd10 ct10 oc11 kV11 dc11 pm11 cd11 ct11 oc12 kV12 dc12 pm12 cd12 ct12 oc13 kV13 dc13 pm13 cd13 ct13 oc14 kV14 dc14 pm14 cd14 ct14 oc15 kV15 dc15 pm15 cd15 ct15 oc16 kV16 dc16 pm16 cd16 ct16 oc17 kV17 dc17 pm17 cd17 ct17 oc18 kV18 dc18 pm18 cd18 ct18 oc19 kV19 dc19 pm19 cd19 ct19 oc20 kV20 dc20 pm20 cd20 ct20 oc21 kV21 dc21 pm21 cd21 ct21 oc22 kV22 dc22 pm22 cd22 ct22 oc23 kV23 dc23 pm23 cd23 ct23 oc24 kV24 dc24 pm24 cd24 ct24 oc25 kV25 dc25 pm25 cd25 ct25 oc26 kV26 dc26 pm26 cd26 ct26 oc27 kV27 dc27 pm27 cd27 ct27 oc28 kV28 dc28 pm28 cd28 ct28 oc29 kV29 dc29 pm29 cd29 ct29 oc30 kV30 dc30 pm30 cd30 ct30 oc31 kV31 dc31 pm31 cd31 ct31 oc32 kV32 dc32 pm32 cd32 ct32:Value}
  {C cx cy:Addr}{M0:Addr}{vd0 va0:Option Addr}{vs0:Array (Option Value)}{vo0 vk0 vq0 vp0 vc0 vt0:Value}{M1:Addr}{vd1 va1:Option Addr}{vs1:Array (Option Value)}{vo1 vk1 vq1 vp1 vc1 vt1:Value}{M2:Addr}{vd2 va2:Option Addr}{vs2:Array (Option Value)}{vo2 vk2 vq2 vp2 vc2 vt2:Value}{M3:Addr}{vd3 va3:Option Addr}{vs3:Array (Option Value)}{vo3 vk3 vq3 vp3 vc3 vt3:Value}{M4:Addr}{vd4 va4:Option Addr}{vs4:Array (Option Value)}{vo4 vk4 vq4 vp4 vc4 vt4:Value}{M5:Addr}{vd5 va5:Option Addr}{vs5:Array (Option Value)}{vo5 vk5 vq5 vp5 vc5 vt5:Value}{M6:Addr}{vd6 va6:Option Addr}{vs6:Array (Option Value)}{vo6 vk6 vq6 vp6 vc6 vt6:Value}{an:Addr}{odn:Option Addr}{itn:Array Value}{nn:Nat}{sln:Array (Option Value)}{tkm:Tok}{D:Addr}{ND:Addr}{nmD qD:Str}{bsD subD:List Value}{snD:List Str}{abD:Bool}{colD:Option Bool}{ddD:Option Addr}{noD:Value}{kgD khD kiD kjD kkD:Option Value}{ndD:Option Addr}{esD:Array DictEntry}{enD:Nat}{nlD:Array (Option Value)}{C0 N0:Addr}{nm0 q0:Str}{bs0 sub0:List Value}{sn0:List Str}{ab0:Bool}{col0:Option Bool}{dd0:Option Addr}{ka0 kb0 kc0 kd0 kf0:Option Value}{C1 N1:Addr}{nm1 q1:Str}{bs1 sub1:List Value}{sn1:List Str}{ab1:Bool}{col1:Option Bool}{dd1:Option Addr}{ka1 kb1 kc1 kd1 kf1:Option Value}{C2 N2:Addr}{nm2 q2:Str}{bs2 sub2:List Value}{sn2:List Str}{ab2:Bool}{col2:Option Bool}{dd2:Option Addr}{ka2 kb2 kc2 kd2 kf2:Option Value}{C3 N3:Addr}{nm3 q3:Str}{bs3 sub3:List Value}{sn3:List Str}{ab3:Bool}{col3:Option Bool}{dd3:Option Addr}{ka3 kb3 kc3 kd3 kf3:Option Value}{C4 N4:Addr}{nm4 q4:Str}{bs4 sub4:List Value}{sn4:List Str}{ab4:Bool}{col4:Option Bool}{dd4:Option Addr}{ka4 kb4 kc4 kd4 kf4:Option Value}{C5 N5:Addr}{nm5 q5:Str}{bs5 sub5:List Value}{sn5:List Str}{ab5:Bool}{col5:Option Bool}{dd5:Option Addr}{ka5 kb5 kc5 kd5 kf5:Option Value}{noT:Value}{ndT:Option Addr}{esT:Array DictEntry}{enT:Nat}{nlT:Array (Option Value)}{fT:Addr}{vdT vaT:Option Addr}{vsT:Array (Option Value)}{vkT voT vpT vcT vtT:Value}
  (a1:PySem.W.nsIn K mainGlobals "parts_of"=some (some (.ref f1))) (l1:K.lookup f1=some ⟨oc1,od1,.func (PySem.W.fnOf "parts_of" "parts_of" (j8 zo) (jy zo) (jk zo) .none kV1 dc1 pm1 an1 cd1 ct1),sl1⟩) (c1:PySem.W.codeIn K cd1 "parts_of"=true) (k1:PySem.W.keepIn K (.ref f1)=true)
  (a2:PySem.W.nsIn K mainGlobals "with_parts"=some (some (.ref f2))) (l2:K.lookup f2=some ⟨oc2,od2,.func (PySem.W.fnOf "with_parts" "with_parts" (j8 yo) (jy yo) (jk yo) .none kV2 dc2 pm2 an2 cd2 ct2),sl2⟩) (c2:PySem.W.codeIn K cd2 "with_parts"=true) (k2:PySem.W.keepIn K (.ref f2)=true)
  (a3:PySem.W.nsIn K mainGlobals "in_order"=some (some (.ref f3))) (l3:K.lookup f3=some ⟨oc3,od3,.func (PySem.W.fnOf "in_order" "in_order" (j8 zc) (jy zc) (jk zc) .none kV3 dc3 pm3 an3 cd3 ct3),sl3⟩) (c3:PySem.W.codeIn K cd3 "in_order"=true) (k3:PySem.W.keepIn K (.ref f3)=true)
  (a4:PySem.W.nsIn K mainGlobals "heads_of"=some (some (.ref f4))) (l4:K.lookup f4=some ⟨oc4,od4,.func (PySem.W.fnOf "heads_of" "heads_of" (j8 zm) (jy zm) (jk zm) .none kV4 dc4 pm4 an4 cd4 ct4),sl4⟩) (c4:PySem.W.codeIn K cd4 "heads_of"=true) (k4:PySem.W.keepIn K (.ref f4)=true)
  (a5:PySem.W.nsIn K mainGlobals "is_name"=some (some (.ref f5))) (l5:K.lookup f5=some ⟨oc5,od5,.func (PySem.W.fnOf "is_name" "is_name" (j8 y3) (jy y3) (jk y3) .none kV5 dc5 pm5 an5 cd5 ct5),sl5⟩) (c5:PySem.W.codeIn K cd5 "is_name"=true) (k5:PySem.W.keepIn K (.ref f5)=true)
  (a6:PySem.W.nsIn K mainGlobals "written"=some (some (.ref f6))) (l6:K.lookup f6=some ⟨oc6,od6,.func (PySem.W.fnOf "written" "written" (j8 jah) (jy jah) (jk jah) .none kV6 dc6 pm6 an6 cd6 ct6),sl6⟩) (c6:PySem.W.codeIn K cd6 "written"=true) (k6:PySem.W.keepIn K (.ref f6)=true)
  (a7:PySem.W.nsIn K mainGlobals "signs_of"=some (some (.ref f7))) (l7:K.lookup f7=some ⟨oc7,od7,.func (PySem.W.fnOf "signs_of" "signs_of" (j8 zq) (jy zq) (jk zq) .none kV7 dc7 pm7 an7 cd7 ct7),sl7⟩) (c7:PySem.W.codeIn K cd7 "signs_of"=true) (k7:PySem.W.keepIn K (.ref f7)=true)
  (a8:PySem.W.nsIn K mainGlobals "show_saying"=some (some (.ref f8))) (l8:K.lookup f8=some ⟨oc8,od8,.func (PySem.W.fnOf "show_saying" "show_saying" (j8 zb) (jy zb) (jk zb) .none kV8 dc8 pm8 an8 cd8 ct8),sl8⟩) (c8:PySem.W.codeIn K cd8 "show_saying"=true) (k8:PySem.W.keepIn K (.ref f8)=true)
  (a9:PySem.W.nsIn K mainGlobals "pieces_of"=some (some (.ref f9))) (l9:K.lookup f9=some ⟨oc9,od9,.func (PySem.W.fnOf "pieces_of" "pieces_of" (j8 jae) (jy jae) (jk jae) .none kV9 dc9 pm9 an9 cd9 ct9),sl9⟩) (c9:PySem.W.codeIn K cd9 "pieces_of"=true) (k9:PySem.W.keepIn K (.ref f9)=true)
  (a10:PySem.W.nsIn K mainGlobals "read_saying"=some (some (.ref f10))) (l10:K.lookup f10=some ⟨oc10,od10,.func (PySem.W.fnOf "read_saying" "read_saying" (j8 za) (jy za) (jk za) .none kV10 dc10 pm10 an10 cd10 ct10),sl10⟩) (c10:PySem.W.codeIn K cd10 "read_saying"=true) (k10:PySem.W.keepIn K (.ref f10)=true)
  (a11:PySem.W.nsIn K mainGlobals "words_of"=some (some (.ref f11))) (l11:K.lookup f11=some ⟨oc11,od11,.func (PySem.W.fnOf "words_of" "words_of" (j8 zr) (jy zr) (jk zr) .none kV11 dc11 pm11 an11 cd11 ct11),sl11⟩) (c11:PySem.W.codeIn K cd11 "words_of"=true) (k11:PySem.W.keepIn K (.ref f11)=true)
  (a12:PySem.W.nsIn K mainGlobals "is_small_letter"=some (some (.ref f12))) (l12:K.lookup f12=some ⟨oc12,od12,.func (PySem.W.fnOf "is_small_letter" "is_small_letter" (j8 ya) (jy ya) (jk ya) .none kV12 dc12 pm12 an12 cd12 ct12),sl12⟩) (c12:PySem.W.codeIn K cd12 "is_small_letter"=true) (k12:PySem.W.keepIn K (.ref f12)=true)
  (a13:PySem.W.nsIn K mainGlobals "begins_saying"=some (some (.ref f13))) (l13:K.lookup f13=some ⟨oc13,od13,.func (PySem.W.fnOf "begins_saying" "begins_saying" (j8 ym) (jy ym) (jk ym) .none kV13 dc13 pm13 an13 cd13 ct13),sl13⟩) (c13:PySem.W.codeIn K cd13 "begins_saying"=true) (k13:PySem.W.keepIn K (.ref f13)=true)
  (a14:PySem.W.nsIn K mainGlobals "_law_box"=some (some (.ref f14))) (l14:K.lookup f14=some ⟨oc14,od14,.func (PySem.W.fnOf "_law_box" "_law_box" (j8 z5) (jy z5) (jk z5) .none kV14 dc14 pm14 an14 cd14 ct14),sl14⟩) (c14:PySem.W.codeIn K cd14 "_law_box"=true) (k14:PySem.W.keepIn K (.ref f14)=true)
  (a15:PySem.W.nsIn K mainGlobals "_law_take"=some (some (.ref f15))) (l15:K.lookup f15=some ⟨oc15,od15,.func (PySem.W.fnOf "_law_take" "_law_take" (j8 kx) (jy kx) (jk kx) .none kV15 dc15 pm15 an15 cd15 ct15),sl15⟩) (c15:PySem.W.codeIn K cd15 "_law_take"=true) (k15:PySem.W.keepIn K (.ref f15)=true)
  (a16:PySem.W.nsIn K mainGlobals "_law_letters"=some (some (.ref f16))) (l16:K.lookup f16=some ⟨oc16,od16,.func (PySem.W.fnOf "_law_letters" "_law_letters" (j8 y1) (jy y1) (jk y1) .none kV16 dc16 pm16 an16 cd16 ct16),sl16⟩) (c16:PySem.W.codeIn K cd16 "_law_letters"=true) (k16:PySem.W.keepIn K (.ref f16)=true)
  (a17:PySem.W.nsIn K mainGlobals "_law_row_at"=some (some (.ref f17))) (l17:K.lookup f17=some ⟨oc17,od17,.func (PySem.W.fnOf "_law_row_at" "_law_row_at" (j8 y6) (jy y6) (jk y6) .none kV17 dc17 pm17 an17 cd17 ct17),sl17⟩) (c17:PySem.W.codeIn K cd17 "_law_row_at"=true) (k17:PySem.W.keepIn K (.ref f17)=true)
  (a18:PySem.W.nsIn K mainGlobals "_law_place_names"=some (some (.ref f18))) (l18:K.lookup f18=some ⟨oc18,od18,.func (PySem.W.fnOf "_law_place_names" "_law_place_names" (j8 kz) (jy kz) (jk kz) .none kV18 dc18 pm18 an18 cd18 ct18),sl18⟩) (c18:PySem.W.codeIn K cd18 "_law_place_names"=true) (k18:PySem.W.keepIn K (.ref f18)=true)
  (a19:PySem.W.nsIn K mainGlobals "_law_saying_rows"=some (some (.ref f19))) (l19:K.lookup f19=some ⟨oc19,od19,.func (PySem.W.fnOf "_law_saying_rows" "_law_saying_rows" (j8 yi) (jy yi) (jk yi) .none kV19 dc19 pm19 an19 cd19 ct19),sl19⟩) (c19:PySem.W.codeIn K cd19 "_law_saying_rows"=true) (k19:PySem.W.keepIn K (.ref f19)=true)
  (a20:PySem.W.nsIn K mainGlobals "_law_chain"=some (some (.ref f20))) (l20:K.lookup f20=some ⟨oc20,od20,.func (PySem.W.fnOf "_law_chain" "_law_chain" (j8 zg) (jy zg) (jk zg) .none kV20 dc20 pm20 an20 cd20 ct20),sl20⟩) (c20:PySem.W.codeIn K cd20 "_law_chain"=true) (k20:PySem.W.keepIn K (.ref f20)=true)
  (a21:PySem.W.nsIn K mainGlobals "_law_words"=some (some (.ref f21))) (l21:K.lookup f21=some ⟨oc21,od21,.func (PySem.W.fnOf "_law_words" "_law_words" (j8 zh) (jy zh) (jk zh) .none kV21 dc21 pm21 an21 cd21 ct21),sl21⟩) (c21:PySem.W.codeIn K cd21 "_law_words"=true) (k21:PySem.W.keepIn K (.ref f21)=true)
  (a22:PySem.W.nsIn K mainGlobals "_law_spaced"=some (some (.ref f22))) (l22:K.lookup f22=some ⟨oc22,od22,.func (PySem.W.fnOf "_law_spaced" "_law_spaced" (j8 y8) (jy y8) (jk y8) .none kV22 dc22 pm22 an22 cd22 ct22),sl22⟩) (c22:PySem.W.codeIn K cd22 "_law_spaced"=true) (k22:PySem.W.keepIn K (.ref f22)=true)
  (a23:PySem.W.nsIn K mainGlobals "_law_is_name"=some (some (.ref f23))) (l23:K.lookup f23=some ⟨oc23,od23,.func (PySem.W.fnOf "_law_is_name" "_law_is_name" (j8 yj) (jy yj) (jk yj) .none kV23 dc23 pm23 an23 cd23 ct23),sl23⟩) (c23:PySem.W.codeIn K cd23 "_law_is_name"=true) (k23:PySem.W.keepIn K (.ref f23)=true)
  (a24:PySem.W.nsIn K mainGlobals "_law_due_behind"=some (some (.ref f24))) (l24:K.lookup f24=some ⟨oc24,od24,.func (PySem.W.fnOf "_law_due_behind" "_law_due_behind" (j8 yk) (jy yk) (jk yk) .none kV24 dc24 pm24 an24 cd24 ct24),sl24⟩) (c24:PySem.W.codeIn K cd24 "_law_due_behind"=true) (k24:PySem.W.keepIn K (.ref f24)=true)
  (a25:PySem.W.nsIn K mainGlobals "_law_due_more"=some (some (.ref f25))) (l25:K.lookup f25=some ⟨oc25,od25,.func (PySem.W.fnOf "_law_due_more" "_law_due_more" (j8 yv) (jy yv) (jk yv) .none kV25 dc25 pm25 an25 cd25 ct25),sl25⟩) (c25:PySem.W.codeIn K cd25 "_law_due_more"=true) (k25:PySem.W.keepIn K (.ref f25)=true)
  (a26:PySem.W.nsIn K mainGlobals "_law_first_wrong"=some (some (.ref f26))) (l26:K.lookup f26=some ⟨oc26,od26,.func (PySem.W.fnOf "_law_first_wrong" "_law_first_wrong" (j8 yh) (jy yh) (jk yh) .none kV26 dc26 pm26 an26 cd26 ct26),sl26⟩) (c26:PySem.W.codeIn K cd26 "_law_first_wrong"=true) (k26:PySem.W.keepIn K (.ref f26)=true)
  (a27:PySem.W.nsIn K mainGlobals "_law_odd_word"=some (some (.ref f27))) (l27:K.lookup f27=some ⟨oc27,od27,.func (PySem.W.fnOf "_law_odd_word" "_law_odd_word" (j8 yw) (jy yw) (jk yw) .none kV27 dc27 pm27 an27 cd27 ct27),sl27⟩) (c27:PySem.W.codeIn K cd27 "_law_odd_word"=true) (k27:PySem.W.keepIn K (.ref f27)=true)
  (a28:PySem.W.nsIn K mainGlobals "_law_fed"=some (some (.ref f28))) (l28:K.lookup f28=some ⟨oc28,od28,.func (PySem.W.fnOf "_law_fed" "_law_fed" (j8 zk) (jy zk) (jk zk) .none kV28 dc28 pm28 an28 cd28 ct28),sl28⟩) (c28:PySem.W.codeIn K cd28 "_law_fed"=true) (k28:PySem.W.keepIn K (.ref f28)=true)
  (a29:PySem.W.nsIn K mainGlobals "_law_spoilt"=some (some (.ref f29))) (l29:K.lookup f29=some ⟨oc29,od29,.func (PySem.W.fnOf "_law_spoilt" "_law_spoilt" (j8 y9) (jy y9) (jk y9) .none kV29 dc29 pm29 an29 cd29 ct29),sl29⟩) (c29:PySem.W.codeIn K cd29 "_law_spoilt"=true) (k29:PySem.W.keepIn K (.ref f29)=true)
  (a30:PySem.W.nsIn K mainGlobals "_law_told"=some (some (.ref f30))) (l30:K.lookup f30=some ⟨oc30,od30,.func (PySem.W.fnOf "_law_told" "_law_told" (j8 zu) (jy zu) (jk zu) .none kV30 dc30 pm30 an30 cd30 ct30),sl30⟩) (c30:PySem.W.codeIn K cd30 "_law_told"=true) (k30:PySem.W.keepIn K (.ref f30)=true)
  (a31:PySem.W.nsIn K mainGlobals "_law_due"=some (some (.ref f31))) (l31:K.lookup f31=some ⟨oc31,od31,.func (PySem.W.fnOf "_law_due" "_law_due" (j8 z7) (jy z7) (jk z7) .none kV31 dc31 pm31 an31 cd31 ct31),sl31⟩) (c31:PySem.W.codeIn K cd31 "_law_due"=true) (k31:PySem.W.keepIn K (.ref f31)=true)
  (a32:PySem.W.nsIn K mainGlobals "law"=some (some (.ref f32))) (l32:K.lookup f32=some ⟨oc32,od32,.func (PySem.W.fnOf "law" "law" (j8 ja2) (jy ja2) (jk ja2) .none kV32 dc32 pm32 an32 cd32 ct32),sl32⟩) (c32:PySem.W.codeIn K cd32 "law"=true) (k32:PySem.W.keepIn K (.ref f32)=true)
  (z_len:PySem.W.nsIn K mainGlobals "len"=some none)
  (z_int:PySem.W.nsIn K mainGlobals "int"=some none)
  (z_range:PySem.W.nsIn K mainGlobals "range"=some none)
  (z_list:PySem.W.nsIn K mainGlobals "list"=some none)
  (z_tuple:PySem.W.nsIn K mainGlobals "tuple"=some none)
  (z_isinstance:PySem.W.nsIn K mainGlobals "isinstance"=some none)
  (z_str:PySem.W.nsIn K mainGlobals "str"=some none)
  (z_bool:PySem.W.nsIn K mainGlobals "bool"=some none)
  (z_enumerate:PySem.W.nsIn K mainGlobals "enumerate"=some none)
  (z_max:PySem.W.nsIn K mainGlobals "max"=some none)
  (z_min:PySem.W.nsIn K mainGlobals "min"=some none)
  (z_all:PySem.W.nsIn K mainGlobals "all"=some none)
  (z_sum:PySem.W.nsIn K mainGlobals "sum"=some none)
  (z_reversed:PySem.W.nsIn K mainGlobals "reversed"=some none)
  (z_ValueError:PySem.W.nsIn K mainGlobals "ValueError"=some none)
  (aC:PySem.W.nsIn K mainGlobals "SayingReading"=some (some (.ref C)))
  (Cpg:PySem.W.plainGet K C Str.empty=true)
  (Chd:PySem.W.hasDictIn K C=true)
  (Cpo:PySem.W.plainOver K C=true)
  (Csa:PySem.W.findIn K (.ref C) "__setattr__"=some (some (.builtin "object.__setattr__")))
  (Cmk:PySem.W.makesIn K C=true)
  (Ckp:PySem.W.keepIn K (.ref C)=true)
  (Nwords:PySem.W.findIn K (.ref C) "words"=some none)
  (Nplace:PySem.W.findIn K (.ref C) "place"=some none)
  (Nrows:PySem.W.findIn K (.ref C) "rows"=some none)
  (Nwaiting:PySem.W.findIn K (.ref C) "waiting"=some none)
  (fm0:PySem.W.findIn K (.ref C) "__init__"=some (some (.ref M0)))
  (lm0:K.lookup M0=some ⟨vo0,vd0,.func (PySem.W.fnOf "__init__" "SayingReading.__init__" (j8 jas) (jy jas) (jk jas) .none vk0 vq0 vp0 va0 vc0 vt0),vs0⟩)
  (cm0:PySem.W.codeIn K vc0 "SayingReading.__init__"=true)
  (km0:PySem.W.keepIn K (.ref M0)=true)
  (im0:PySem.W.isFn K (.ref M0)=true)
  (fm1:PySem.W.findIn K (.ref C) "take"=some (some (.ref M1)))
  (lm1:K.lookup M1=some ⟨vo1,vd1,.func (PySem.W.fnOf "take" "SayingReading.take" (j8 jat) (jy jat) (jk jat) .none vk1 vq1 vp1 va1 vc1 vt1),vs1⟩)
  (cm1:PySem.W.codeIn K vc1 "SayingReading.take"=true)
  (km1:PySem.W.keepIn K (.ref M1)=true)
  (im1:PySem.W.isFn K (.ref M1)=true)
  (fm2:PySem.W.findIn K (.ref C) "begin"=some (some (.ref M2)))
  (lm2:K.lookup M2=some ⟨vo2,vd2,.func (PySem.W.fnOf "begin" "SayingReading.begin" (j8 jak) (jy jak) (jk jak) .none vk2 vq2 vp2 va2 vc2 vt2),vs2⟩)
  (cm2:PySem.W.codeIn K vc2 "SayingReading.begin"=true)
  (km2:PySem.W.keepIn K (.ref M2)=true)
  (im2:PySem.W.isFn K (.ref M2)=true)
  (fm3:PySem.W.findIn K (.ref C) "row_of_name"=some (some (.ref M3)))
  (lm3:K.lookup M3=some ⟨vo3,vd3,.func (PySem.W.fnOf "row_of_name" "SayingReading.row_of_name" (j8 yt) (jy yt) (jk yt) .none vk3 vq3 vp3 va3 vc3 vt3),vs3⟩)
  (cm3:PySem.W.codeIn K vc3 "SayingReading.row_of_name"=true)
  (km3:PySem.W.keepIn K (.ref M3)=true)
  (im3:PySem.W.isFn K (.ref M3)=true)
  (fm4:PySem.W.findIn K (.ref C) "close"=some (some (.ref M4)))
  (lm4:K.lookup M4=some ⟨vo4,vd4,.func (PySem.W.fnOf "close" "SayingReading.close" (j8 zj) (jy zj) (jk zj) .none vk4 vq4 vp4 va4 vc4 vt4),vs4⟩)
  (cm4:PySem.W.codeIn K vc4 "SayingReading.close"=true)
  (km4:PySem.W.keepIn K (.ref M4)=true)
  (im4:PySem.W.isFn K (.ref M4)=true)
  (fm5:PySem.W.findIn K (.ref C) "end"=some (some (.ref M5)))
  (lm5:K.lookup M5=some ⟨vo5,vd5,.func (PySem.W.fnOf "end" "SayingReading.end" (j8 jay) (jy jay) (jk jay) .none vk5 vq5 vp5 va5 vc5 vt5),vs5⟩)
  (cm5:PySem.W.codeIn K vc5 "SayingReading.end"=true)
  (km5:PySem.W.keepIn K (.ref M5)=true)
  (im5:PySem.W.isFn K (.ref M5)=true)
  (fm6:PySem.W.findIn K (.ref C) "put_row"=some (some (.ref M6)))
  (lm6:K.lookup M6=some ⟨vo6,vd6,.func (PySem.W.fnOf "put_row" "SayingReading.put_row" (j8 z0) (jy z0) (jk z0) .none vk6 vq6 vp6 va6 vc6 vt6),vs6⟩)
  (cm6:PySem.W.codeIn K vc6 "SayingReading.put_row"=true)
  (km6:PySem.W.keepIn K (.ref M6)=true)
  (im6:PySem.W.isFn K (.ref M6)=true)
  (en:PySem.W.nsIn K mainGlobals "NO_NAMES"=some (some (.ref an)))
  (ln:K.lookup an=some ⟨.type "tuple",odn,.seq itn nn,sln⟩)
  (vn:Vals (NN.map V.str) itn.toList)
  (ecx:vc3=.ref cx)
  (hcx:PySem.W.codeHdIn K cx 230=true)
  (ecy:vc4=.ref cy)
  (hcy:PySem.W.codeHdIn K cy 237=true)
  (em:PySem.W.nsIn K mainGlobals "MOST_SIGNS"=some (some (.int 100000 tkm)))
  (aD:PySem.W.nsIn K mainGlobals "CalmError"=some (some (.ref D)))
  (lD:K.lookup D=some (excClassObj nmD qD D ND bsD bmVE true snD subD abD colD ddD kgD khD kiD kjD kkD "ValueError.__new__"))
  (lnD:K.lookup ND=some ⟨noD,ndD,.dict esD enD,nlD⟩)
  (eoD:(esD.all λe=>match e.key with|.str _ _=>true|_=>false)=true)
  (inD:PySem.W.nsIn K ND "__init__"=some none)
  (spD:PySem.W.specialIn K (.ref D) "__getattribute__"=some (some (.builtin "type.__getattribute__")))
  (rdD:PySem.W.readsIn K D (.type "type")=true)
  (fcD:PySem.W.findCls K (.ref D) (.type "type") "__init__"=some (.val (.builtin "ValueError.__init__")))
  (tyD:PySem.W.typeIn K (.ref D)=some (.type "type"))
  (ac0:PySem.W.nsIn K mainGlobals "BadText"=some (some (.ref C0)))
  (lc0:K.lookup C0=some (excClassObj nm0 q0 C0 N0 bs0 (.ref D::bmVE) true sn0 sub0 ab0 col0 dd0 ka0 kb0 kc0 kd0 kf0 "ValueError.__new__"))
  (ac1:PySem.W.nsIn K mainGlobals "BadRow"=some (some (.ref C1)))
  (lc1:K.lookup C1=some (excClassObj nm1 q1 C1 N1 bs1 (.ref D::bmVE) true sn1 sub1 ab1 col1 dd1 ka1 kb1 kc1 kd1 kf1 "ValueError.__new__"))
  (ty1:PySem.W.typeIn K (.ref C1)=some (.type "type"))
  (ac2:PySem.W.nsIn K mainGlobals "TooLong"=some (some (.ref C2)))
  (lc2:K.lookup C2=some (excClassObj nm2 q2 C2 N2 bs2 (.ref D::bmVE) true sn2 sub2 ab2 col2 dd2 ka2 kb2 kc2 kd2 kf2 "ValueError.__new__"))
  (ty2:PySem.W.typeIn K (.ref C2)=some (.type "type"))
  (ac3:PySem.W.nsIn K mainGlobals "NoName"=some (some (.ref C3)))
  (lc3:K.lookup C3=some (excClassObj nm3 q3 C3 N3 bs3 (.ref D::bmVE) true sn3 sub3 ab3 col3 dd3 ka3 kb3 kc3 kd3 kf3 "ValueError.__new__"))
  (ty3:PySem.W.typeIn K (.ref C3)=some (.type "type"))
  (ac4:PySem.W.nsIn K mainGlobals "NoRow"=some (some (.ref C4)))
  (lc4:K.lookup C4=some (excClassObj nm4 q4 C4 N4 bs4 (.ref D::bmVE) true sn4 sub4 ab4 col4 dd4 ka4 kb4 kc4 kd4 kf4 "ValueError.__new__"))
  (ty4:PySem.W.typeIn K (.ref C4)=some (.type "type"))
  (ac5:PySem.W.nsIn K mainGlobals "NotClosed"=some (some (.ref C5)))
  (lc5:K.lookup C5=some (excClassObj nm5 q5 C5 N5 bs5 (.ref D::bmVE) true sn5 sub5 ab5 col5 dd5 ka5 kb5 kc5 kd5 kf5 "ValueError.__new__"))
  (ty5:PySem.W.typeIn K (.ref C5)=some (.type "type"))
  (lnT:K.lookup N0=some ⟨noT,ndT,.dict esT enT,nlT⟩)
  (eoT:(esT.all λe=>match e.key with|.str _ _=>true|_=>false)=true)
  (saT:PySem.W.findIn K (.ref C0) "__setattr__"=some (some (.builtin "object.__setattr__")))
  (gaT:PySem.W.findIn K (.ref C0) "__getattribute__"=some (some (.builtin "BaseException.__getattribute__")))
  (gxT:PySem.W.findIn K (.ref C0) "__getattr__"=some none)
  (kpT:PySem.W.keepIn K (.ref C0)=true)
  (ccT:PySem.W.findIn K (.ref C0) "__class__"=some (some (.builtin "object.__class__")))
  (obT:PySem.W.mroIn K C0 (.type "object")=some true)
  (inT:PySem.W.nsIn K N0 "__init__"=some (some (.ref fT)))
  (lfT:K.lookup fT=some ⟨.type "function",vdT,.func (PySem.W.fnOf "__init__" "BadText.__init__" (j8 yx) (jy yx) (jk yx) .none vkT voT vpT vaT vcT vtT),vsT⟩)
  (cfT:PySem.W.codeIn K vcT "BadText.__init__"=true)
  (kqT:PySem.W.keepIn K (.ref fT)=true)
  (qfT:PySem.W.findIn K (.ref C0) "at"=some none)
  (apart:List.Nodup [C0,C1,C2,C3,C4,C5,D])
  : ∃fd:FuncData,(∀(s:Shared)(v:Value),BindsTo s fd ⟨[v],[]⟩ [("_law_script",v)])/\∀base:Heap,K.In base->base.Ns mainGlobals mg->(∀t∈[237,230],base.BuiltinsAt mg t)->FnOk l.prog w K mg base CX0 9 fa fd ["_law_script"] (jh2 K 230 237):=by
 have e:=hfa.symm.trans (Aq X G a32)
 cases e
 have F26z:=jc9 (st:=zo) l1 c1 k1
 have m26z:=Aq X G a1
 have b26z:=F26z.binds (ps:=["row"]) λ_ _ _ _ _ _=>us1 λ_=>rfl
 have F3z:=jc9 (st:=yo) l2 c2 k2
 have m3z:=Aq X G a2
 have b3z:=F3z.binds (ps:=["row","numbers"]) λ_ _ _ _ _ _=>us2 λ_ _=>rfl
 have F24z:=jc9 (st:=zc) l3 c3 k3
 have m24z:=Aq X G a3
 have b24z:=F24z.binds (ps:=["rows"]) λ_ _ _ _ _ _=>us1 λ_=>rfl
 have F23z:=jc9 (st:=zm) l4 c4 k4
 have m23z:=Aq X G a4
 have b23z:=F23z.binds (ps:=["rows"]) λ_ _ _ _ _ _=>us1 λ_=>rfl
 have F2z:=jc9 (st:=y3) l5 c5 k5
 have m2z:=Aq X G a5
 have b2z:=F2z.binds (ps:=["text"]) λ_ _ _ _ _ _=>us1 λ_=>rfl
 have F31z:=jc9 (st:=jah) l6 c6 k6
 have m31z:=Aq X G a6
 have b31z:=F31z.binds (ps:=["rows","pieces"]) λ_ _ _ _ _ _=>us2 λ_ _=>rfl
 have F29z:=jc9 (st:=zq) l7 c7 k7
 have m29z:=Aq X G a7
 have b29z:=F29z.binds (ps:=["rows","pieces"]) λ_ _ _ _ _ _=>us2 λ_ _=>rfl
 have F28z:=jc9 (st:=zb) l8 c8 k8
 have m28z:=Aq X G a8
 have b28z:=F28z.binds (ps:=["saying"]) λ_ _ _ _ _ _=>us1 λ_=>rfl
 have F32z:=jc9 (st:=jae) l9 c9 k9
 have m32z:=Aq X G a9
 have b32z:=F32z.binds (ps:=["row"]) λ_ _ _ _ _ _=>us1 λ_=>rfl
 have F27z:=jc9 (st:=za) l10 c10 k10
 have m27z:=Aq X G a10
 have b27z:=F27z.binds (ps:=["text"]) λ_ _ _ _ _ _=>us1 λ_=>rfl
 have F30z:=jc9 (st:=zr) l11 c11 k11
 have m30z:=Aq X G a11
 have b30z:=F30z.binds (ps:=["text"]) λ_ _ _ _ _ _=>us1 λ_=>rfl
 have F25z:=jc9 (st:=ya) l12 c12 k12
 have m25z:=Aq X G a12
 have b25z:=F25z.binds (ps:=["word"]) λ_ _ _ _ _ _=>us1 λ_=>rfl
 have F22z:=jc9 (st:=ym) l13 c13 k13
 have m22z:=Aq X G a13
 have b22z:=F22z.binds (ps:=["word"]) λ_ _ _ _ _ _=>us1 λ_=>rfl
 have F7z:=jc9 (st:=z5) l14 c14 k14
 have m7z:=Aq X G a14
 have b7z:=F7z.binds (ps:=["_law_script","_law_k"]) λ_ _ _ _ _ _=>us2 λ_ _=>rfl
 have F1z:=jc9 (st:=kx) l15 c15 k15
 have m1z:=Aq X G a15
 have b1z:=F1z.binds (ps:=["_law_box_here","_law_wide"]) λ_ _ _ _ _ _=>us2 λ_ _=>rfl
 have F16z:=jc9 (st:=y1) l16 c16 k16
 have m16z:=Aq X G a16
 have b16z:=F16z.binds (ps:=["_law_box_here","_law_most"]) λ_ _ _ _ _ _=>us2 λ_ _=>rfl
 have F5z:=jc9 (st:=y6) l17 c17 k17
 have m5z:=Aq X G a17
 have b5z:=F5z.binds (ps:=["_law_box_here","_law_k"]) λ_ _ _ _ _ _=>us2 λ_ _=>rfl
 have F18z:=jc9 (st:=kz) l18 c18 k18
 have m18z:=Aq X G a18
 have b18z:=F18z.binds (ps:=["_law_box_here","_law_many"]) λ_ _ _ _ _ _=>us2 λ_ _=>rfl
 have F19z:=jc9 (st:=yi) l19 c19 k19
 have m19z:=Aq X G a19
 have b19z:=F19z.binds (ps:=["_law_box_here","_law_letters_here","_law_names","_law_most"]) λ_ _ _ _ _ _=>us4 λ_ _ _ _=>rfl
 have F11z:=jc9 (st:=zg) l20 c20 k20
 have m11z:=Aq X G a20
 have b11z:=F11z.binds (ps:=["_law_box_here","_law_names","_law_rows","_law_many"]) λ_ _ _ _ _ _=>us4 λ_ _ _ _=>rfl
 have F21z:=jc9 (st:=zh) l21 c21 k21
 have m21z:=Aq X G a21
 have b21z:=F21z.binds (ps:=["_law_saying"]) λ_ _ _ _ _ _=>us1 λ_=>rfl
 have F9z:=jc9 (st:=y8) l22 c22 k22
 have m9z:=Aq X G a22
 have b9z:=F9z.binds (ps:=["_law_box_here","_law_words_here","_law_wide"]) λ_ _ _ _ _ _=>us3 λ_ _ _=>rfl
 have F4z:=jc9 (st:=yj) l23 c23 k23
 have m4z:=Aq X G a23
 have b4z:=F4z.binds (ps:=["_law_word"]) λ_ _ _ _ _ _=>us1 λ_=>rfl
 have F12z:=jc9 (st:=yk) l24 c24 k24
 have m12z:=Aq X G a24
 have b12z:=F12z.binds (ps:=["_law_word"]) λ_ _ _ _ _ _=>us1 λ_=>rfl
 have F13z:=jc9 (st:=yv) l25 c25 k25
 have m13z:=Aq X G a25
 have b13z:=F13z.binds (ps:=["_law_due_here","_law_word"]) λ_ _ _ _ _ _=>us2 λ_ _=>rfl
 have F15z:=jc9 (st:=yh) l26 c26 k26
 have m15z:=Aq X G a26
 have b15z:=F15z.binds (ps:=["_law_words_here"]) λ_ _ _ _ _ _=>us1 λ_=>rfl
 have F17z:=jc9 (st:=yw) l27 c27 k27
 have m17z:=Aq X G a27
 have b17z:=F17z.binds (ps:=["_law_box_here","_law_names","_law_letters_here"]) λ_ _ _ _ _ _=>us3 λ_ _ _=>rfl
 have F14z:=jc9 (st:=zk) l28 c28 k28
 have m14z:=Aq X G a28
 have b14z:=F14z.binds (ps:=["_law_word","_law_kind"]) λ_ _ _ _ _ _=>us2 λ_ _=>rfl
 have F20z:=jc9 (st:=y9) l29 c29 k29
 have m20z:=Aq X G a29
 have b20z:=F20z.binds (ps:=["_law_box_here","_law_words_here","_law_names","_law_letters_here"]) λ_ _ _ _ _ _=>us4 λ_ _ _ _=>rfl
 have F6z:=jc9 (st:=zu) l30 c30 k30
 have m6z:=Aq X G a30
 have b6z:=F6z.binds (ps:=["_law_text"]) λ_ _ _ _ _ _=>us1 λ_=>rfl
 have F8z:=jc9 (st:=z7) l31 c31 k31
 have m8z:=Aq X G a31
 have b8z:=F8z.binds (ps:=["_law_words_here"]) λ_ _ _ _ _ _=>us1 λ_=>rfl
 have F_law:=jc9 (st:=ja2) l32 c32 k32
 have m_law:=Aq X G a32
 have b_law:=F_law.binds (ps:=["_law_script"]) λ_ _ _ _ _ _=>us1 λ_=>rfl
 have n_len:=Ig X G z_len
 have n_int:=Ig X G z_int
 have n_range:=Ig X G z_range
 have n_list:=Ig X G z_list
 have n_tuple:=Ig X G z_tuple
 have n_isinstance:=Ig X G z_isinstance
 have n_str:=Ig X G z_str
 have n_bool:=Ig X G z_bool
 have n_enumerate:=Ig X G z_enumerate
 have n_max:=Ig X G z_max
 have n_min:=Ig X G z_min
 have n_all:=Ig X G z_all
 have n_sum:=Ig X G z_sum
 have n_reversed:=Ig X G z_reversed
 have n_ValueError:=Ig X G z_ValueError
 refine⟨PySem.W.fnOf "law" "law" (j8 ja2) (jy ja2) (jk ja2) .none kV32 dc32 pm32 an32 cd32 ct32,λs v=>.of_eq rfl,λbase kb0 _ hbt=>?_⟩
 have nsD:PySem.W.nsOkIn K ND=true:=jrs lnD eoD
 have tl:PySem.W.tailIn K bmVE (.ref D::bmVE)=true:=jsw lD nsD inD
 have nsT:PySem.W.nsOkIn K N0=true:=jrs lnT eoT
 simp only[Uc,Al,Ah,Os,not_or,Ye,and_true,not_false_eq_true]at apart
 obtain⟨⟨n_0_1,n_0_2,n_0_3,n_0_4,n_0_5,n_0_D⟩,⟨n_1_2,n_1_3,n_1_4,n_1_5,n_1_D⟩,⟨n_2_3,n_2_4,n_2_5,n_2_D⟩,⟨n_3_4,n_3_5,n_3_D⟩,⟨n_4_5,n_4_D⟩,n_5_D⟩:=apart
 have cX:XC K C0 D N0:=⟨⟨_,_,_,_,_,_,_,_,_,_,_,_,_,lc0⟩,tl,nsT,saT,gaT,gxT,kpT⟩
 have kT:KCl K C0 D N0 "at" [C1,C2,C3,C4,C5]:=⟨cX,⟨ccT,obT⟩,qfT,λo ho=>by
  simp only[Al,Ah,Os]at ho
  rcases ho with rfl|rfl|rfl|rfl|rfl
  ·exact jf1 lc0 lc1 ty1 n_0_1 n_1_D
  ·exact jf1 lc0 lc2 ty2 n_0_2 n_2_D
  ·exact jf1 lc0 lc3 ty3 n_0_3 n_3_D
  ·exact jf1 lc0 lc4 ty4 n_0_4 n_4_D
  ·exact jf1 lc0 lc5 ty5 n_0_5 n_5_D⟩
 have xt:XT K D:=⟨_,_,_,_,_,_,_,_,_,_,_,_,_,_,_,_,_,lD,by decide⟩
 have kVT:=jue lc0
 have m_CalmError:=Aq X G aD
 have m_BadText:=Aq X G ac0
 have m_BadRow:=Aq X G ac1
 have m_TooLong:=Aq X G ac2
 have m_NoName:=Aq X G ac3
 have m_NoRow:=Aq X G ac4
 have m_NotClosed:=Aq X G ac5
 have F_T:=jc9 (st:=yx) lfT cfT kqT
 have b_T:=F_T.binds (ps:=["self","at"]) λ_ _ _ _ _ _ us hl=>match us,hl with|[_,_],_=>rfl
 have G_T:=ok_BadText__init__ (P:=l.prog) (w:=w) (base:=base) F_T ⟨m_CalmError,⟨spD,rdD,fcD⟩⟩
 have hd1:PySem.W.CodeHd base cx 230:=Yd kb0 hcx
 have hd2:PySem.W.CodeHd base cy 237:=Yd kb0 hcy
 have ss:PySem.W.kitOne K (.type "str") (.type "str")=some true:=Af (by simp)
 have ii:PySem.W.kitOne K (.type "int") (.type "int")=some true:=Af (by simp)
 have tt:PySem.W.kitOne K (.type "tuple") (.type "tuple")=some true:=Af (by simp)
 have is_:PySem.W.kitOne K (.type "int") (.type "str")=some false:=by
  unfold PySem.W.kitOne
  rw[Aa (by decide)]
  unfold PySem.W.kitCls
  first|rfl|decide +kernel|simp
 have si:PySem.W.kitOne K (.type "str") (.type "int")=some false:=by
  unfold PySem.W.kitOne
  rw[Aa (by decide)]
  unfold PySem.W.kitCls
  first|rfl|decide +kernel|simp
 have ib:PySem.W.kitOne K (.type "int") (.type "bool")=some false:=by
  unfold PySem.W.kitOne
  rw[Aa (by decide)]
  unfold PySem.W.kitCls
  first|rfl|decide +kernel|simp
 have sb:PySem.W.kitOne K (.type "str") (.type "bool")=some false:=by
  unfold PySem.W.kitOne
  rw[Aa (by decide)]
  unfold PySem.W.kitCls
  first|rfl|decide +kernel|simp
 have hT:TPa K mg:=⟨n_isinstance,n_int,n_str,n_tuple,n_bool,ii,si,ss,is_,ib,tt⟩
 have nn12:(230:Addr)≠237:=by decide
 have m_SayingReading:=Aq X G aC
 have m_NO_NAMES:=Aq X G en
 have kN:∀H,SqT K H an (NN.map V.str):=λH=>.inr ⟨_,itn,nn,ln,rfl,rfl,by have:=vn.length;simp[NN]at this;have hs:sizeLine=16777216:=Ak;omega,vn⟩
 have cls:Cls K C:=⟨Cpg,Chd,Cpo,Csa⟩
 have rc:SK K C:=⟨cls,Nwords,Nplace,Nrows,Nwaiting⟩
 have F36z:=jc9 (st:=jas) lm0 cm0 km0
 have b36z:=F36z.binds (ps:=["self","words"]) λ_ _ _ _ _ _=>us2 λ_ _=>rfl
 have F0z:=jc9 (st:=jat) lm1 cm1 km1
 have b0z:=F0z.binds (ps:=["self","fits"]) λ_ _ _ _ _ _=>us2 λ_ _=>rfl
 have d_take:Meth K C "take" M1:=⟨fm1,im1,km1⟩
 have F34z:=jc9 (st:=jak) lm2 cm2 km2
 have b34z:=F34z.binds (ps:=["self"]) λ_ _ _ _ _ _=>us1 λ_=>rfl
 have d_begin:Meth K C "begin" M2:=⟨fm2,im2,km2⟩
 have F37z:=jc9 (st:=yt) lm3 cm3 km3
 have b37z:=F37z.binds (ps:=["self","name"]) λ_ _ _ _ _ _=>us2 λ_ _=>rfl
 have d_row_of_name:Meth K C "row_of_name" M3:=⟨fm3,im3,km3⟩
 have F35z:=jc9 (st:=zj) lm4 cm4 km4
 have b35z:=F35z.binds (ps:=["self","number"]) λ_ _ _ _ _ _=>us2 λ_ _=>rfl
 have d_close:Meth K C "close" M4:=⟨fm4,im4,km4⟩
 have F_end:=jc9 (st:=jay) lm5 cm5 km5
 have b_end:=F_end.binds (ps:=["self"]) λ_ _ _ _ _ _=>us1 λ_=>rfl
 have d_end:Meth K C "end" M5:=⟨fm5,im5,km5⟩
 have F10z:=jc9 (st:=z0) lm6 cm6 km6
 have b10z:=F10z.binds (ps:=["self","row"]) λ_ _ _ _ _ _=>us2 λ_ _=>rfl
 have d_put_row:Meth K C "put_row" M6:=⟨fm6,im6,km6⟩
 have mkR:Mk K C M0:=⟨Cmk,fm0,im0,Ckp⟩
 have g1z:=ok__law_take (P:=l.prog) (w:=w) (mg:=mg) (base:=base) F1z
 have g7z:=ok__law_box (P:=l.prog) (w:=w) (base:=base) F7z ⟨n_len,n_int⟩
 have g16z:=ok__law_letters (P:=l.prog) (w:=w) (base:=base)   F16z ⟨n_len,n_list,n_range,m1z⟩ F1z b1z g1z
 have g5z:=ok__law_row_at (P:=l.prog) (w:=w) (base:=base)   F5z ⟨m1z⟩ F1z b1z g1z
 have g18z:=ok__law_place_names (P:=l.prog) (w:=w) (base:=base)   F18z ⟨n_range,m1z⟩ F1z b1z g1z
 have g19z:=ok__law_saying_rows (P:=l.prog) (w:=w) (base:=base)   F19z ⟨n_range,n_len,m1z,m5z⟩ F1z b1z g1z F5z b5z g5z
 have g11z:=ok__law_chain (P:=l.prog) (w:=w) (base:=base)   F11z ⟨n_range,n_len,n_list,n_tuple,m1z⟩ F1z b1z g1z
 have g21z:=ok__law_words (P:=l.prog) (w:=w) (mg:=mg) (base:=base) F21z
 have g9z:=ok__law_spaced (P:=l.prog) (w:=w) (base:=base)   F9z ⟨n_int,m1z⟩ F1z b1z g1z
 have g26z:=ok_parts_of (P:=l.prog) (w:=w) (base:=base)   F26z hT
 have g3z:=ok_with_parts (P:=l.prog) (w:=w) (base:=base)   F3z hT
 have g23z:=ok_heads_of (P:=l.prog) (w:=w) (base:=base)   F23z ⟨n_enumerate,m3z⟩ F3z b3z g3z
 have g24z:=ok_in_order (P:=l.prog) (w:=w) (base:=base)   F24z ⟨n_len,n_tuple,m23z,m3z,m26z⟩ F23z b23z g23z F3z b3z g3z F26z b26z g26z
 have g2z:=ok_is_name (P:=l.prog) (w:=w) (base:=base)   F2z ⟨n_len,n_all,m_NO_NAMES,kN⟩
 have g22z:=ok_begins_saying (P:=l.prog) (w:=w) (base:=base)   F22z ⟨m2z⟩ F2z b2z g2z
 have g25z:=ok_is_small_letter (P:=l.prog) (w:=w) (base:=base)   F25z ⟨n_len⟩
 have g30z:=ok_words_of (P:=l.prog) (w:=w) (mg:=mg) (base:=base) F30z
 have g0z:=ok_take (P:=l.prog) (w:=w) (base:=base) (P1:=230) (P2:=237)  F0z ⟨⟨m_BadText,cX,inT,⟨_,lfT,rfl⟩,qfT⟩,n_len,rc⟩ b_T G_T
 have g10z:=ok_put_row (P:=l.prog) (w:=w) (base:=base) (P1:=230) (P2:=237)  F10z ⟨n_len,rc⟩
 have g_end:=ok_end (P:=l.prog) (w:=w) (base:=base) (P1:=230) (P2:=237)  F_end ⟨⟨m_BadText,cX,inT,⟨_,lfT,rfl⟩,qfT⟩,n_len,rc⟩ b_T G_T
 have g36z:=ok_init (P:=l.prog) (w:=w) (mg:=mg) (base:=base) (P1:=230) (P2:=237) F36z rc
 have g37z:=ok_row_of_name (P:=l.prog) (w:=w) (base:=base) (Pt:=230) (P2:=237) nn12 F37z ⟨cls,d_take,m2z,m25z,rfl,hd1,hbt 230 (.tail _ (.head _))⟩ ecx b0z g0z F2z b2z g2z F25z b25z g25z
 have g34z:=ok_begin (P:=l.prog) (w:=w) (base:=base) (P1:=230) (P2:=237)  F34z ⟨rc,cls,d_take,d_put_row,d_row_of_name,m2z,m22z⟩ b0z g0z b10z g10z b37z g37z F2z b2z g2z F22z b22z g22z
 have g35z:=ok_close (P:=l.prog) (w:=w) (base:=base) (P1:=230) (Pt:=237) nn12 F35z ⟨rc,cls,d_take,d_put_row,rfl,hd2,hbt 237 (.head _)⟩ ecy b0z g0z b10z g10z
 have g27z:=ok_read_saying (P:=l.prog) (w:=w) (base:=base) (P1:=230) (P2:=237) nn12 F27z ⟨rc,cls,mkR,m_SayingReading,n_tuple,d_begin,d_close,d_end,m30z,m24z⟩ b36z g36z b34z g34z b35z g35z b_end g_end F30z b30z g30z F24z b24z g24z
 have m_MOST:=Aq X G em
 have g32z:=ok_pieces_of (P:=l.prog) (w:=w) (mg:=mg) (base:=base) F32z
 have g29z:=ok_signs_of (P:=l.prog) (w:=w) (base:=base) (D:=DSh) (λ_ _ _ _=>DSh.kp) F29z ⟨n_isinstance,n_min,n_len,n_sum,n_str,m_MOST,ss,is_⟩ F32z b32z g32z
 have g31z:=ok_written (P:=l.prog) (w:=w) (base:=base) (D:=DSh) (λ_ _ _ _=>DSh.kp) F31z ⟨n_isinstance,n_list,n_reversed,n_len,n_str,m_MOST,m29z⟩ ss is_ F32z b32z g32z F29z b29z g29z
 have g28z:=ok_show_saying (P:=l.prog) (w:=w) (base:=base)   F28z ⟨m31z,m32z⟩ F31z b31z g31z
 have g4z:=ok__law_is_name (P:=l.prog) (w:=w) (base:=base)   F4z ⟨n_len,n_all⟩
 have g12z:=ok__law_due_behind (P:=l.prog) (w:=w) (base:=base)   F12z ⟨m4z⟩ F4z b4z g4z
 have g13z:=ok__law_due_more (P:=l.prog) (w:=w) (base:=base)   F13z ⟨n_len,m4z,m12z⟩ F4z b4z g4z F12z b12z g12z
 have g15z:=ok__law_first_wrong (P:=l.prog) (w:=w) (base:=base)   F15z ⟨n_enumerate,n_len,m13z⟩ F13z b13z g13z
 have g8z:=ok__law_due (P:=l.prog) (w:=w) (base:=base)   F8z ⟨m15z⟩ F15z b15z g15z
 have g17z:=ok__law_odd_word (P:=l.prog) (w:=w) (base:=base)   F17z ⟨n_len,m1z⟩ F1z b1z g1z
 have g14z:=ok__law_fed (P:=l.prog) (w:=w) (mg:=mg) (base:=base) F14z
 have g20z:=ok__law_spoilt (P:=l.prog) (w:=w) (base:=base)   F20z ⟨n_len,m1z,m17z,m14z⟩ F1z b1z g1z F17z b17z g17z F14z b14z g14z
 have g6z:=ok__law_told (P:=l.prog) (w:=w) (base:=base)  nn12 F6z ⟨n_isinstance,n_ValueError,n_int,n_bool,m27z,m28z,m_CalmError,xt,m_BadText,m_BadRow,m_TooLong,m_NoName,m_NoRow,m_NotClosed,kT,kVT,ii,ib⟩ F27z b27z g27z F28z b28z g28z
 exact ok_law F_law ⟨n_range,n_max,n_min,n_len,m7z,m16z,m18z,m1z,m19z,m11z,m21z,m20z,m9z,m6z,m8z⟩ F7z b7z g7z F16z b16z g16z F18z b18z g18z F1z b1z g1z F19z b19z g19z F11z b11z g11z F21z b21z g21z F20z b20z g20z F9z b9z g9z F6z b6z g6z F8z b8z g8z
theorem jry{K:PySem.W.Frag}{H:Hp}{a t:Addr}{xs:List V}{ps:Array Value}(hS:SqL K H a xs)(hT:H t=some (.tbl ps))(hK:K.lookup t=none):a≠t:=by
 rintro rfl
 rcases hS with(h|⟨o,h⟩)|⟨o,its,n,h,_⟩
 ·rw[hT]at h;cases h
 ·rw[hT]at h;cases h
 ·rw[hK]at h;cases h
theorem walk{l:PySem.W.OpenLaw}{q:Program}{loose:List Str}{XP:(Str->Option Value)->Heap->Prop}{YP:World->Heap->Prop}{d:DefRec}{K:Params->PySem.W.Frag}(hn:l.most=some 63)(hdf:d.params.defaults=[])
  (hY:∀(w:World)(h:Heap),YP w h->(K w.params).In h) (hT:∀(w:World)(h:Heap),YP w h->∀t∈[237,230],h.get? t=some (PySem.W.tabObj #[]))
  (hC:∀(w:World)(h:Heap),(K w.params).In h->∀t∈[237,230],∃c,PySem.W.CodeHd h c t) (hN:∀w:World,∀t∈[237,230],(K w.params).lookup t=none)
  (F:∀(w:World)(mg:Str->Option Value)(fa:Addr)(h:Heap),(K w.params).In h->h.Ns mainGlobals mg->mg d.name=some (.ref fa) ->
   ∃fd:FuncData,(∀(s:Shared)(u:Value),BindsTo s fd ⟨[u],[]⟩ [("_law_script",u)])/\∀base:Heap,(K w.params).In base->base.Ns mainGlobals mg->(∀t∈[237,230],base.BuiltinsAt mg t)->FnOk l.prog w (K w.params) mg base CX0 9 fa fd ["_law_script"] (jh2 (K w.params) 230 237)) :
  PySem.W.WalkO q loose XP YP l.row.toRowW d [] (λf vs=>PySem.call f vs) :=
 L2.walk_ofT (n:=63) (k:=9) (x:="_law_script") (ts:=[237,230]) (CX:=λ_=>CX0) (sp:=λw=>jh2 (K w.params) 230 237) hn (by decide) hdf ⟨rfl,by decide,by decide,rfl⟩ hY hT hC hN F
  (λw _ a ns hl hS hT=>⟨a,ns,rfl,hS,hl,jry hS (hT 230 (.tail _ (.head _))) (hN w 230 (.tail _ (.head _))),jry hS (hT 237 (.head _)) (hN w 237 (.head _)),⟨#[],hT 230 (.tail _ (.head _)),trivial,λp cv e=>by cases e⟩,⟨#[],hT 237 (.head _),trivial,λp cv e=>by cases e⟩,λ_=>rfl⟩) λ_ _ _ _ _ z=>z
end My
theorem PySem.W.Fast.tw301624853396570772:True:=trivial
theorem PySem.W.Fast.tw6900893406022221794:True:=trivial
theorem PySem.W.Fast.tw10384937103528832281:True:=trivial
theorem PySem.W.Fast.tw14472609220191050663:True:=trivial
theorem PySem.W.Fast.tw14696900732812125776:True:=trivial
theorem PySem.W.Fast.tw5870204679899529850:True:=trivial
theorem PySem.W.Fast.tw2715327500566360497:True:=trivial
theorem PySem.W.Fast.tw10272837740503188629:True:=trivial
theorem PySem.W.Fast.tw17793367934560017537:True:=trivial
theorem PySem.W.Fast.tw1742254635341377854:True:=trivial
theorem PySem.W.Fast.tw1919750107886159975:True:=trivial
theorem PySem.W.Fast.tw1816294754945200995:True:=trivial
theorem PySem.W.Fast.tw14678532391711852892:True:=trivial
theorem PySem.W.Fast.tw4309906710031707780:True:=trivial
theorem PySem.W.Fast.tw16495682361158720402:True:=trivial
theorem PySem.W.Fast.tw2925919415264783521:True:=trivial
theorem PySem.W.Fast.tw14357441269162037847:True:=trivial
theorem PySem.W.Fast.tw9386012347836276512:True:=trivial
theorem PySem.W.Fast.tw10238834421128996261:True:=trivial
theorem PySem.W.Fast.tw13848535935955426114:True:=trivial
theorem PySem.W.Fast.tw13614711288637754127:True:=trivial
theorem PySem.W.Fast.tw1904551240794214423:True:=trivial
theorem PySem.W.Fast.tw4085298963358174905:True:=trivial
theorem PySem.W.Fast.tw16493014547356706952:True:=trivial
theorem PySem.W.Fast.tw5308325842933508682:True:=trivial
theorem PySem.W.Fast.tw10989127018381042502:True:=trivial
theorem PySem.W.Fast.tw8553833555504884145:True:=trivial
theorem PySem.W.Fast.tw16893991557540110710:True:=trivial
theorem PySem.W.Fast.tw11394907799917276733:True:=trivial
theorem PySem.W.Fast.tw13111899516413880834:True:=trivial
theorem PySem.W.Fast.tw4856472790307391861:True:=trivial
theorem PySem.W.Fast.tw823203830838105641:True:=trivial
theorem PySem.W.Fast.tw14522204625673015857:True:=trivial
theorem PySem.W.Fast.tw1058187711916101483:True:=trivial
theorem PySem.W.Fast.tw8048819969874774339:True:=trivial
theorem PySem.W.Fast.tw16260309299772912108:True:=trivial
theorem PySem.W.Fast.tw17993619916566240671:True:=trivial
theorem PySem.W.Fast.tw13675662320049516587:True:=trivial
theorem PySem.W.Fast.tw6237026662658515086:True:=trivial
theorem PySem.W.Fast.tw4647177410696397913:True:=trivial
theorem PySem.W.Fast.tw9086028059076267572:True:=trivial
theorem PySem.W.Fast.tw3410889703558524343:True:=trivial
theorem PySem.W.Fast.tw88413521198058254:True:=trivial
theorem PySem.W.Fast.tw3783887713801977086:True:=trivial
theorem PySem.W.Fast.tw2147851188639904507:True:=trivial
theorem PySem.W.Fast.tw5239576392245675502:True:=trivial
theorem PySem.W.Fast.tw3484494829900818702:True:=trivial
theorem PySem.W.Fast.tw17584029072871033004:True:=trivial
theorem PySem.W.Fast.tw12065282382150211877:True:=trivial
theorem PySem.W.Fast.tw553897849349259902:True:=trivial
theorem PySem.W.Fast.tw285920471358658384:True:=trivial
theorem PySem.W.Fast.tw15940451608901697838:True:=trivial
theorem PySem.W.Fast.tw16543507819172774247:True:=trivial
theorem PySem.W.Fast.tw6425388148606030211:True:=trivial
theorem PySem.W.Fast.tw6796553995754516714:True:=trivial
theorem PySem.W.Fast.tw11010905929876988303:True:=trivial
theorem PySem.W.Fast.tw6382921058021027592:True:=trivial
theorem PySem.W.Fast.tw13603456801779954631:True:=trivial
theorem PySem.W.Fast.tw18316364836997698539:True:=trivial
theorem PySem.W.Fast.tw6273670244851163596:True:=trivial
theorem PySem.W.Fast.tw8821644306675436954:True:=trivial
theorem PySem.W.Fast.tw12017531489181942480:True:=trivial
theorem PySem.W.Fast.tw16293009405503438229:True:=trivial
theorem PySem.W.Fast.tw7046057930432625005:True:=trivial
theorem PySem.W.Fast.tw17723831070039778721:True:=trivial
theorem PySem.W.Fast.tw10027869411030207208:True:=trivial
theorem PySem.W.Fast.tw4660814929525978862:True:=trivial
theorem PySem.W.Fast.tw15227505873984222240:True:=trivial
theorem PySem.W.Fast.tw7973939376282014048:True:=trivial
theorem PySem.W.Fast.tw2845078930461273078:True:=trivial
theorem PySem.W.Fast.tw16063158452463711419:True:=trivial
theorem PySem.W.Fast.tw13811851240331905977:True:=trivial
theorem PySem.W.Fast.tw3220823450927438741:True:=trivial
theorem PySem.W.Fast.tw13177413958505092365:True:=trivial
theorem PySem.W.Fast.tw7343746897226242966:True:=trivial
theorem PySem.W.Fast.tw1976351681984220811:True:=trivial
theorem PySem.W.Fast.tw9009458577774853380:True:=trivial
theorem PySem.W.Fast.tw16831974727597282227:True:=trivial
theorem PySem.W.Fast.tw442382545618732560:True:=trivial
theorem PySem.W.Fast.tw1111946145136258223:True:=trivial
theorem PySem.W.Fast.tw2819475467435787103:True:=trivial
theorem PySem.W.Fast.tw12560430833688638799:True:=trivial
theorem PySem.W.Fast.tw1958843856242284426:True:=trivial
theorem PySem.W.Fast.tw9909393620187901473:True:=trivial
theorem PySem.W.Fast.tw4467494873746878762:True:=trivial
theorem PySem.W.Fast.tw8858953582773591881:True:=trivial
theorem PySem.W.Fast.tw15045084343741577161:True:=trivial
theorem PySem.W.Fast.tw4598946743868113792:True:=trivial
theorem PySem.W.Fast.tw5093668399054492191:True:=trivial
theorem PySem.W.Fast.tw17327061677890185735:True:=trivial
theorem PySem.W.Fast.tw8221710239502597163:True:=trivial
theorem PySem.W.Fast.tw6852316458297100943:True:=trivial
theorem PySem.W.Fast.tw85720090773143972:True:=trivial
theorem PySem.W.Fast.tw4296253412151091529:True:=trivial
theorem PySem.W.Fast.tw12074777445868154640:True:=trivial
theorem PySem.W.Fast.tw1038067254666689880:True:=trivial
theorem PySem.W.Fast.tw7476186329679112073:True:=trivial
theorem PySem.W.Fast.tw16252966593290503678:True:=trivial
theorem PySem.W.Fast.tw356264377884331816:True:=trivial
theorem PySem.W.Fast.tw15232741438190928766:True:=trivial
theorem PySem.W.Fast.tw11988510954975026881:True:=trivial
theorem PySem.W.Fast.tw11445310941820465094:True:=trivial
theorem PySem.W.Fast.tw3662233301912757768:True:=trivial
theorem PySem.W.Fast.tw10374681660476835112:True:=trivial
theorem PySem.W.Fast.tw1942266639767808708:True:=trivial
theorem PySem.W.Fast.tw5061836735397485385:True:=trivial
theorem PySem.W.Fast.tw1763577205336665685:True:=trivial
theorem PySem.W.Fast.tw9793606016722793827:True:=trivial
theorem PySem.W.Fast.tw630217608945905776:True:=trivial
theorem PySem.W.Fast.tw8688079213839020282:True:=trivial
theorem PySem.W.Fast.tw946502170840797972:True:=trivial
theorem PySem.W.Fast.tw13592000089888087991:True:=trivial
theorem PySem.W.Fast.tw9587124738557667168:True:=trivial
theorem PySem.W.Fast.tw1470876550349460558:True:=trivial
theorem PySem.W.Fast.tw14708535065498258479:True:=trivial
theorem PySem.W.Fast.tw13355590299260765738:True:=trivial
theorem PySem.W.Fast.tw14292356774614213301:True:=trivial
theorem PySem.W.Fast.tw3348516304353120513:True:=trivial
theorem PySem.W.Fast.tw17626187259424660735:True:=trivial
theorem PySem.W.Fast.tw10635725950700889235:True:=trivial
theorem PySem.W.Fast.tw17212760385423310617:True:=trivial
theorem PySem.W.Fast.tw11324576349464838404:True:=trivial
theorem PySem.W.Fast.tw15743399242798180316:True:=trivial
theorem PySem.W.Fast.tw16684469866614127509:True:=trivial
theorem PySem.W.Fast.tw18261462547221544738:True:=trivial
theorem PySem.W.Fast.tw13430622562902331078:True:=trivial
theorem PySem.W.Fast.tw8307849478999735336:True:=trivial
theorem PySem.W.Fast.tw9363380346149598089:True:=trivial
theorem PySem.W.Fast.tw3713561057161638694:True:=trivial
theorem PySem.W.Fast.tw15498672114075819313:True:=trivial
theorem PySem.W.Fast.tw8519021519325358865:True:=trivial
theorem PySem.W.Fast.tw5941080466032026560:True:=trivial
theorem PySem.W.Fast.tw11160801630846819904:True:=trivial
theorem PySem.W.Fast.tw6646575405850277023:True:=trivial
theorem PySem.W.Fast.tw16384952559890236246:True:=trivial
theorem PySem.W.Fast.tw11583593707531869603:True:=trivial
theorem PySem.W.Fast.tw9945401573600331514:True:=trivial
theorem PySem.W.Fast.tw17769447534195487506:True:=trivial
theorem PySem.W.Fast.tw18190191641480853997:True:=trivial
theorem PySem.W.Fast.tw8264613377517948683:True:=trivial
theorem PySem.W.Fast.tw3933799232247406103:True:=trivial
theorem PySem.W.Fast.tw376098498352898673:True:=trivial
theorem PySem.W.Fast.tw11927334869779134923:True:=trivial
theorem PySem.W.Fast.tw12560839733128596396:True:=trivial
theorem PySem.W.Fast.tw13030895366252368044:True:=trivial
theorem PySem.W.Fast.tw11382684318787158520:True:=trivial
theorem PySem.W.Fast.tw14001731106593929193:True:=trivial
theorem PySem.W.Fast.tw11497611424543559740:True:=trivial
theorem PySem.W.Fast.tw5302084069635510682:True:=trivial
theorem PySem.W.Fast.tw5147046709724083577:True:=trivial
theorem PySem.W.Fast.tw3625197591363754447:True:=trivial
theorem PySem.W.Fast.tw17130245375266162879:True:=trivial
theorem PySem.W.Fast.tw4527020738130362920:True:=trivial
theorem PySem.W.Fast.tw15613920924404144573:True:=trivial
theorem PySem.W.Fast.tw9437814123483815797:True:=trivial
theorem PySem.W.Fast.tw9665430405736446997:True:=trivial
theorem PySem.W.Fast.tw15862326239227756119:True:=trivial
theorem PySem.W.Fast.tw13850273289697745271:True:=trivial
theorem PySem.W.Fast.tw5239271686027220855:True:=trivial
theorem PySem.W.Fast.tw17584813086659819444:True:=trivial
theorem PySem.W.Fast.tw16584193489486276784:True:=trivial
theorem PySem.W.Fast.tw2757034954953581014:True:=trivial
theorem PySem.W.Fast.tw8376201966629832111:True:=trivial
theorem PySem.W.Fast.tw443087207850399667:True:=trivial
theorem PySem.W.Fast.tw8113904785519500501:True:=trivial
theorem PySem.W.Fast.tw17596589093592955663:True:=trivial
theorem PySem.W.Fast.tw5098152215641817868:True:=trivial
theorem PySem.W.Fast.tw17724587074460851410:True:=trivial
theorem PySem.W.Fast.tw3694587499230635612:True:=trivial
theorem PySem.W.Fast.tw9660764285229437933:True:=trivial
theorem PySem.W.Fast.tw10709630912226590815:True:=trivial
theorem PySem.W.Fast.tw12635478417841528865:True:=trivial
theorem PySem.W.Fast.tw3076839831092013468:True:=trivial
theorem PySem.W.Fast.tw2632556764937013881:True:=trivial
theorem PySem.W.Fast.tw17617544916319692788:True:=trivial
theorem PySem.W.Fast.tw17210470568374814465:True:=trivial
theorem PySem.W.Fast.tw16602957845470534022:True:=trivial
theorem PySem.W.Fast.tw9195579493773390843:True:=trivial
theorem PySem.W.Fast.tw1629505458188077344:True:=trivial
theorem PySem.W.Fast.tw2643659738201184420:True:=trivial
theorem PySem.W.Fast.tw1830949421188744682:True:=trivial
theorem PySem.W.Fast.tw13828734143654527714:True:=trivial
theorem PySem.W.Fast.tw11070535521084612987:True:=trivial
theorem PySem.W.Fast.tw5787785947422872777:True:=trivial
theorem PySem.W.Fast.tw16729524942446007164:True:=trivial
theorem PySem.W.Fast.tw14239856098862299664:True:=trivial
theorem PySem.W.Fast.tw1798499511774615477:True:=trivial
theorem PySem.W.Fast.tw18365225264346696939:True:=trivial
theorem PySem.W.Fast.tw14639799451033485751:True:=trivial
theorem PySem.W.Fast.tw4061197247700979670:True:=trivial
theorem PySem.W.Fast.tw930080242013851429:True:=trivial
theorem PySem.W.Fast.tw11636317021923409258:True:=trivial
theorem PySem.W.Fast.tw9613484886569178485:True:=trivial
theorem PySem.W.Fast.tw8104185592821342683:True:=trivial
theorem PySem.W.Fast.tw9551283589934975887:True:=trivial
theorem PySem.W.Fast.tw6183214969988004986:True:=trivial
theorem PySem.W.Fast.tw16227406823506289026:True:=trivial
theorem PySem.W.Fast.tw8328414478562659270:True:=trivial
theorem PySem.W.Fast.tw1311627919859706901:True:=trivial
theorem PySem.W.Fast.tw3582966736935185064:True:=trivial
theorem PySem.W.Fast.tw11985801182468707113:True:=trivial
theorem PySem.W.Fast.tw13587227216443220903:True:=trivial
theorem PySem.W.Fast.tw8270672415410988883:True:=trivial
theorem PySem.W.Fast.tw3271082668093624753:True:=trivial
theorem PySem.W.Fast.tw14677726822637838531:True:=trivial
theorem PySem.W.Fast.tw12878184730117535693:True:=trivial
theorem PySem.W.Fast.tw8554832762672628440:True:=trivial
theorem PySem.W.Fast.tw5957369779461660180:True:=trivial
theorem PySem.W.Fast.tw3117485606588202631:True:=trivial
theorem PySem.W.Fast.tw234727630807372750:True:=trivial
theorem PySem.W.Fast.tw5106727719006662073:True:=trivial
theorem PySem.W.Fast.tw4153715664693133915:True:=trivial
theorem PySem.W.Fast.tw1987893784936622036:True:=trivial
theorem PySem.W.Fast.tw9991242848436866667:True:=trivial
theorem PySem.W.Fast.tw6279816884067174955:True:=trivial
theorem PySem.W.Fast.tw14816443934821556843:True:=trivial
theorem PySem.W.Fast.tw10342425487532842459:True:=trivial
theorem PySem.W.Fast.tw10594168935331125841:True:=trivial
theorem PySem.W.Fast.tw16123615779825812271:True:=trivial
theorem PySem.W.Fast.tw17272078961557453585:True:=trivial
theorem PySem.W.Fast.tw684593765365934817:True:=trivial
theorem PySem.W.Fast.tw15544045549366747478:True:=trivial
theorem PySem.W.Fast.tw3646772780842141463:True:=trivial
theorem PySem.W.Fast.tw1687264075623312070:True:=trivial
theorem PySem.W.Fast.tw16070930790910133580:True:=trivial
theorem PySem.W.Fast.tw13529798588235973457:True:=trivial
theorem PySem.W.Fast.tw3401804248325250729:True:=trivial
theorem PySem.W.Fast.tw5236832475540046587:True:=trivial
theorem PySem.W.Fast.tw8914070207573734154:True:=trivial
theorem PySem.W.Fast.tw7787869885371111154:True:=trivial
theorem PySem.W.Fast.tw1923929454150181455:True:=trivial
theorem PySem.W.Fast.tw16990680432157728806:True:=trivial
theorem PySem.W.Fast.tw15406099235902272229:True:=trivial
theorem PySem.W.Fast.tw14883335623621066593:True:=trivial
theorem PySem.W.Fast.tw10225961972847977700:True:=trivial
theorem PySem.W.Fast.tw6493631859927884326:True:=trivial
theorem PySem.W.Fast.tw15992214855201968014:True:=trivial
theorem PySem.W.Fast.tw12795233435254146760:True:=trivial
theorem PySem.W.Fast.tw5578930225356675093:True:=trivial
theorem PySem.W.Fast.tw12380977243717388676:True:=trivial
theorem PySem.W.Fast.tw9286962377111852756:True:=trivial
theorem PySem.W.Fast.tw4208143629721385944:True:=trivial
theorem PySem.W.Fast.tw6499418381458880116:True:=trivial
theorem PySem.W.Fast.tw17358003195323909501:True:=trivial
theorem PySem.W.Fast.tw4447289474110311977:True:=trivial
theorem PySem.W.Fast.tw9633947137134527752:True:=trivial
theorem PySem.W.Fast.tw7820405754578726560:True:=trivial
theorem PySem.W.Fast.tw2882704005265556517:True:=trivial
theorem PySem.W.Fast.tw4286183717689820387:True:=trivial
theorem PySem.W.Fast.tw5633951078914221204:True:=trivial
theorem PySem.W.Fast.tw13767280344953000350:True:=trivial
theorem PySem.W.Fast.tw15332486356828420976:True:=trivial
theorem PySem.W.Fast.tw9842350118637546901:True:=trivial
theorem PySem.W.Fast.tw7463091066668039857:True:=trivial
theorem PySem.W.Fast.tw6690777289113499807:True:=trivial
theorem PySem.W.Fast.tw4887101048530402658:True:=trivial
theorem PySem.W.Fast.tw4043299291419172848:True:=trivial
theorem PySem.W.Fast.tw18193441165265879189:True:=trivial
theorem PySem.W.Fast.tw18347222550684730615:True:=trivial
theorem PySem.W.Fast.tw17883008167068338061:True:=trivial
theorem PySem.W.Fast.tw15642443289324261298:True:=trivial
theorem PySem.W.Fast.tw9707216192791785514:True:=trivial
theorem PySem.W.Fast.tw7953308869280395257:True:=trivial
theorem PySem.W.Fast.tw6703196033982201192:True:=trivial
theorem PySem.W.Fast.tw3525047127716160146:True:=trivial
theorem PySem.W.Fast.tw3058917977640682471:True:=trivial
theorem PySem.W.Fast.tw15313490138422808447:True:=trivial
theorem PySem.W.Fast.tw13274035263608879761:True:=trivial
theorem PySem.W.Fast.tw10303397513089575116:True:=trivial
theorem PySem.W.Fast.tw9543738523427423576:True:=trivial
theorem PySem.W.Fast.tw8224869172340771282:True:=trivial
theorem PySem.W.Fast.tw3794034114197095769:True:=trivial
theorem PySem.W.Fast.tw2160714608702005541:True:=trivial
theorem PySem.W.Fast.tw14026148896751882411:True:=trivial
theorem PySem.W.Fast.tw12950474130274455809:True:=trivial
theorem PySem.W.Fast.tw12153259985461751488:True:=trivial
theorem PySem.W.Fast.tw11794537778695319118:True:=trivial
theorem PySem.W.Fast.tw1291525844281837532:True:=trivial
theorem PySem.W.Fast.tw9461839733969135887:True:=trivial
theorem PySem.W.Fast.tw8216113142742429472:True:=trivial
theorem PySem.W.Fast.tw5697573730357199055:True:=trivial
theorem PySem.W.Fast.tw16704787354474133560:True:=trivial
theorem PySem.W.Fast.tw15886268615058877066:True:=trivial
theorem PySem.W.Fast.tw1492460929241600086:True:=trivial
theorem PySem.W.Fast.tw9592744185334296518:True:=trivial
theorem PySem.W.Fast.tw7943212904783860654:True:=trivial
theorem PySem.W.Fast.tw6589635149150516425:True:=trivial
theorem PySem.W.Fast.tw3362187525499127140:True:=trivial
theorem PySem.W.Fast.tw327440401007150486:True:=trivial
theorem PySem.W.Fast.tw18176823744890064480:True:=trivial
theorem PySem.W.Fast.tw1468989001304610684:True:=trivial
theorem PySem.W.Fast.tw1408690828817934467:True:=trivial
theorem PySem.W.Fast.tw9919910078020280425:True:=trivial
theorem PySem.W.Fast.tw9629565666864198045:True:=trivial
theorem PySem.W.Fast.tw9280396629088030819:True:=trivial
theorem PySem.W.Fast.tw9199547986495179033:True:=trivial
theorem PySem.W.Fast.tw918046198663660367:True:=trivial
theorem PySem.W.Fast.tw8911116009639516088:True:=trivial
theorem PySem.W.Fast.tw8799968504703590198:True:=trivial
theorem PySem.W.Fast.tw8790337914725050621:True:=trivial
theorem PySem.W.Fast.tw8736335113471644998:True:=trivial
theorem PySem.W.Fast.tw8236018911088822830:True:=trivial
theorem PySem.W.Fast.tw8188017694353566031:True:=trivial
theorem PySem.W.Fast.tw8099675850722851721:True:=trivial
theorem PySem.W.Fast.tw7702528317900523992:True:=trivial
theorem PySem.W.Fast.tw7670784093541835042:True:=trivial
theorem PySem.W.Fast.tw7492513361773907178:True:=trivial
theorem PySem.W.Fast.tw743449058769052106:True:=trivial
theorem PySem.W.Fast.tw7150518691645594794:True:=trivial
theorem PySem.W.Fast.tw703623084586625330:True:=trivial
theorem PySem.W.Fast.tw6927944742205811458:True:=trivial
theorem PySem.W.Fast.tw6921787156511521173:True:=trivial
theorem PySem.W.Fast.tw6910626207273284265:True:=trivial
theorem PySem.W.Fast.tw6689616759458353454:True:=trivial
theorem PySem.W.Fast.tw659551583924093802:True:=trivial
theorem PySem.W.Fast.tw6487712826710768380:True:=trivial
theorem PySem.W.Fast.tw6435149989341932649:True:=trivial
theorem PySem.W.Fast.tw6151782957984173055:True:=trivial
theorem PySem.W.Fast.tw5867266735098479922:True:=trivial
theorem PySem.W.Fast.tw5768814440608092704:True:=trivial
theorem PySem.W.Fast.tw5558850166761095106:True:=trivial
theorem PySem.W.Fast.tw5246782825346484928:True:=trivial
theorem PySem.W.Fast.tw507227365820865663:True:=trivial
theorem PySem.W.Fast.tw5039323466074774679:True:=trivial
theorem PySem.W.Fast.tw4803573301944106129:True:=trivial
theorem PySem.W.Fast.tw4798190625745093249:True:=trivial
theorem PySem.W.Fast.tw4772201742265849947:True:=trivial
theorem PySem.W.Fast.tw4208107009887069589:True:=trivial
theorem PySem.W.Fast.tw4167645424209183600:True:=trivial
theorem PySem.W.Fast.tw4062559485649404724:True:=trivial
open PySem PySem.W PyProof.Rows
set_option maxRecDepth 100000 in
set_option maxHeartbeats 0 in
theorem PySem.Challenge.cw_calmword_k44_the_first_wrong_word_holds : PySem.Challenge.rw_calmword_k44_the_first_wrong_word.Holds := by
 w_on;o_law;k_head;(case hw=>w_witness2)
 k_fill
 refine My.walk (l:=PySem.Challenge.rw_calmword_k44_the_first_wrong_word) rfl rfl (λw h Y=>PySem.W.km_in_of Y) (λw h Y=>PySem.W.km_tabs_of Y) ?cC ?cN ?F
 case cC =>
  intro w h X t ht
  rcases Al.mp ht with rfl|ht
  ·(refine' My.c_of (m:="close") (tb:=237) X ?h2 ?h3 ?h4 ?h5 ?h6;(case h2=>k_is);(case h3=>first|k_is|kernel_rfl);(case h4=>k_is);(case h5=>rfl);(case h6=>kernel_rfl))
  ·cases Ao.mp ht;(refine' My.c_of (m:="row_of_name") (tb:=230) X ?h2 ?h3 ?h4 ?h5 ?h6;(case h2=>k_is);(case h3=>first|k_is|kernel_rfl);(case h4=>k_is);(case h5=>rfl);(case h6=>kernel_rfl))
 case cN =>
  intro w t ht
  rcases Al.mp ht with rfl|ht
  ·rfl
  ·cases Ao.mp ht;rfl
 case F =>
  intro w mg fa h KX G hmg
  refine' My.all_mk KX G hmg ?a1 ?l1 ?c1 ?k1 ?a2 ?l2 ?c2 ?k2 ?a3 ?l3 ?c3 ?k3 ?a4 ?l4 ?c4 ?k4 ?a5 ?l5 ?c5 ?k5 ?a6 ?l6 ?c6 ?k6 ?a7 ?l7 ?c7 ?k7 ?a8 ?l8 ?c8 ?k8 ?a9 ?l9 ?c9 ?k9 ?a10 ?l10 ?c10 ?k10 ?a11 ?l11 ?c11 ?k11 ?a12 ?l12 ?c12 ?k12 ?a13 ?l13 ?c13 ?k13 ?a14 ?l14 ?c14 ?k14 ?a15 ?l15 ?c15 ?k15 ?a16 ?l16 ?c16 ?k16 ?a17 ?l17 ?c17 ?k17 ?a18 ?l18 ?c18 ?k18 ?a19 ?l19 ?c19 ?k19 ?a20 ?l20 ?c20 ?k20 ?a21 ?l21 ?c21 ?k21 ?a22 ?l22 ?c22 ?k22 ?a23 ?l23 ?c23 ?k23 ?a24 ?l24 ?c24 ?k24 ?a25 ?l25 ?c25 ?k25 ?a26 ?l26 ?c26 ?k26 ?a27 ?l27 ?c27 ?k27 ?a28 ?l28 ?c28 ?k28 ?a29 ?l29 ?c29 ?k29 ?a30 ?l30 ?c30 ?k30 ?a31 ?l31 ?c31 ?k31 ?a32 ?l32 ?c32 ?k32 ?z_len ?z_int ?z_range ?z_list ?z_tuple ?z_isinstance ?z_str ?z_bool ?z_enumerate ?z_max ?z_min ?z_all ?z_sum ?z_reversed ?z_ValueError ?aC ?Cpg ?Chd ?Cpo ?Csa ?Cmk ?Ckp ?Nwords ?Nplace ?Nrows ?Nwaiting ?fm0 ?lm0 ?cm0 ?km0 ?im0 ?fm1 ?lm1 ?cm1 ?km1 ?im1 ?fm2 ?lm2 ?cm2 ?km2 ?im2 ?fm3 ?lm3 ?cm3 ?km3 ?im3 ?fm4 ?lm4 ?cm4 ?km4 ?im4 ?fm5 ?lm5 ?cm5 ?km5 ?im5 ?fm6 ?lm6 ?cm6 ?km6 ?im6 ?en ?ln ?vn ?ecx ?hcx ?ecy ?hcy ?em ?aD ?lD ?lnD ?eoD ?inD ?spD ?rdD ?fcD ?tyD ?ac0 ?lc0 ?ac1 ?lc1 ?ty1 ?ac2 ?lc2 ?ty2 ?ac3 ?lc3 ?ty3 ?ac4 ?lc4 ?ty4 ?ac5 ?lc5 ?ty5 ?lnT ?eoT ?saT ?gaT ?gxT ?kpT ?ccT ?obT ?inT ?lfT ?cfT ?kqT ?qfT ?apart
  (case a1=>k_is)
  (case l1=>k_is)
  (case c1=>k_is)
  (case k1=>k_is)
  (case a2=>k_is)
  (case l2=>k_is)
  (case c2=>k_is)
  (case k2=>k_is)
  (case a3=>k_is)
  (case l3=>k_is)
  (case c3=>k_is)
  (case k3=>k_is)
  (case a4=>k_is)
  (case l4=>k_is)
  (case c4=>k_is)
  (case k4=>k_is)
  (case a5=>k_is)
  (case l5=>k_is)
  (case c5=>k_is)
  (case k5=>k_is)
  (case a6=>k_is)
  (case l6=>k_is)
  (case c6=>k_is)
  (case k6=>k_is)
  (case a7=>k_is)
  (case l7=>k_is)
  (case c7=>k_is)
  (case k7=>k_is)
  (case a8=>k_is)
  (case l8=>k_is)
  (case c8=>k_is)
  (case k8=>k_is)
  (case a9=>k_is)
  (case l9=>k_is)
  (case c9=>k_is)
  (case k9=>k_is)
  (case a10=>k_is)
  (case l10=>k_is)
  (case c10=>k_is)
  (case k10=>k_is)
  (case a11=>k_is)
  (case l11=>k_is)
  (case c11=>k_is)
  (case k11=>k_is)
  (case a12=>k_is)
  (case l12=>k_is)
  (case c12=>k_is)
  (case k12=>k_is)
  (case a13=>k_is)
  (case l13=>k_is)
  (case c13=>k_is)
  (case k13=>k_is)
  (case a14=>k_is)
  (case l14=>k_is)
  (case c14=>k_is)
  (case k14=>k_is)
  (case a15=>k_is)
  (case l15=>k_is)
  (case c15=>k_is)
  (case k15=>k_is)
  (case a16=>k_is)
  (case l16=>k_is)
  (case c16=>k_is)
  (case k16=>k_is)
  (case a17=>k_is)
  (case l17=>k_is)
  (case c17=>k_is)
  (case k17=>k_is)
  (case a18=>k_is)
  (case l18=>k_is)
  (case c18=>k_is)
  (case k18=>k_is)
  (case a19=>k_is)
  (case l19=>k_is)
  (case c19=>k_is)
  (case k19=>k_is)
  (case a20=>k_is)
  (case l20=>k_is)
  (case c20=>k_is)
  (case k20=>k_is)
  (case a21=>k_is)
  (case l21=>k_is)
  (case c21=>k_is)
  (case k21=>k_is)
  (case a22=>k_is)
  (case l22=>k_is)
  (case c22=>k_is)
  (case k22=>k_is)
  (case a23=>k_is)
  (case l23=>k_is)
  (case c23=>k_is)
  (case k23=>k_is)
  (case a24=>k_is)
  (case l24=>k_is)
  (case c24=>k_is)
  (case k24=>k_is)
  (case a25=>k_is)
  (case l25=>k_is)
  (case c25=>k_is)
  (case k25=>k_is)
  (case a26=>k_is)
  (case l26=>k_is)
  (case c26=>k_is)
  (case k26=>k_is)
  (case a27=>k_is)
  (case l27=>k_is)
  (case c27=>k_is)
  (case k27=>k_is)
  (case a28=>k_is)
  (case l28=>k_is)
  (case c28=>k_is)
  (case k28=>k_is)
  (case a29=>k_is)
  (case l29=>k_is)
  (case c29=>k_is)
  (case k29=>k_is)
  (case a30=>k_is)
  (case l30=>k_is)
  (case c30=>k_is)
  (case k30=>k_is)
  (case a31=>k_is)
  (case l31=>k_is)
  (case c31=>k_is)
  (case k31=>k_is)
  (case a32=>k_is)
  (case l32=>k_is)
  (case c32=>k_is)
  (case k32=>k_is)
  (case z_len=>k_is)
  (case z_int=>k_is)
  (case z_range=>k_is)
  (case z_list=>k_is)
  (case z_tuple=>k_is)
  (case z_isinstance=>k_is)
  (case z_str=>k_is)
  (case z_bool=>k_is)
  (case z_enumerate=>k_is)
  (case z_max=>k_is)
  (case z_min=>k_is)
  (case z_all=>k_is)
  (case z_sum=>k_is)
  (case z_reversed=>k_is)
  (case z_ValueError=>k_is)
  (case aC=>k_is)
  (case Cpg=>first|k_is|kernel_rfl)
  (case Chd=>first|k_is|kernel_rfl)
  (case Cpo=>first|k_is|kernel_rfl)
  (case Csa=>first|k_is|kernel_rfl)
  (case Cmk=>first|k_is|kernel_rfl)
  (case Ckp=>first|k_is|kernel_rfl)
  (case Nwords=>first|k_is|kernel_rfl)
  (case Nplace=>first|k_is|kernel_rfl)
  (case Nrows=>first|k_is|kernel_rfl)
  (case Nwaiting=>first|k_is|kernel_rfl)
  (case fm0=>first|k_is|kernel_rfl)
  (case lm0=>k_is)
  (case cm0=>first|k_is|kernel_rfl)
  (case km0=>first|k_is|kernel_rfl)
  (case im0=>first|k_is|kernel_rfl)
  (case fm1=>first|k_is|kernel_rfl)
  (case lm1=>k_is)
  (case cm1=>first|k_is|kernel_rfl)
  (case km1=>first|k_is|kernel_rfl)
  (case im1=>first|k_is|kernel_rfl)
  (case fm2=>first|k_is|kernel_rfl)
  (case lm2=>k_is)
  (case cm2=>first|k_is|kernel_rfl)
  (case km2=>first|k_is|kernel_rfl)
  (case im2=>first|k_is|kernel_rfl)
  (case fm3=>first|k_is|kernel_rfl)
  (case lm3=>k_is)
  (case cm3=>first|k_is|kernel_rfl)
  (case km3=>first|k_is|kernel_rfl)
  (case im3=>first|k_is|kernel_rfl)
  (case fm4=>first|k_is|kernel_rfl)
  (case lm4=>k_is)
  (case cm4=>first|k_is|kernel_rfl)
  (case km4=>first|k_is|kernel_rfl)
  (case im4=>first|k_is|kernel_rfl)
  (case fm5=>first|k_is|kernel_rfl)
  (case lm5=>k_is)
  (case cm5=>first|k_is|kernel_rfl)
  (case km5=>first|k_is|kernel_rfl)
  (case im5=>first|k_is|kernel_rfl)
  (case fm6=>first|k_is|kernel_rfl)
  (case lm6=>k_is)
  (case cm6=>first|k_is|kernel_rfl)
  (case km6=>first|k_is|kernel_rfl)
  (case im6=>first|k_is|kernel_rfl)
  (case en=>k_is)
  (case ln=>k_is)
  (case vn=>exact .cons ⟨_,rfl⟩ (.cons ⟨_,rfl⟩ (.cons ⟨_,rfl⟩ (.cons ⟨_,rfl⟩ (.cons ⟨_,rfl⟩ .nil)))))
  (case ecx=>rfl)
  (case hcx=>kernel_rfl)
  (case ecy=>rfl)
  (case hcy=>kernel_rfl)
  (case em=>k_is)
  (case aD=>k_is)
  (case lD=>k_is)
  (case lnD=>k_is)
  (case eoD=>first|(simp;done)|rfl)
  (case inD=>k_is)
  (case spD=>k_is)
  (case rdD=>k_is)
  (case fcD=>k_is)
  (case tyD=>k_is)
  (case ac0=>k_is)
  (case lc0=>k_is)
  (case ac1=>k_is)
  (case lc1=>k_is)
  (case ty1=>k_is)
  (case ac2=>k_is)
  (case lc2=>k_is)
  (case ty2=>k_is)
  (case ac3=>k_is)
  (case lc3=>k_is)
  (case ty3=>k_is)
  (case ac4=>k_is)
  (case lc4=>k_is)
  (case ty4=>k_is)
  (case ac5=>k_is)
  (case lc5=>k_is)
  (case ty5=>k_is)
  (case lnT=>k_is)
  (case eoT=>first|(simp;done)|rfl)
  (case saT=>k_is)
  (case gaT=>k_is)
  (case gxT=>k_is)
  (case kpT=>k_is)
  (case ccT=>k_is)
  (case obT=>k_is)
  (case inT=>k_is)
  (case lfT=>k_is)
  (case cfT=>k_is)
  (case kqT=>k_is)
  (case qfT=>k_is)
  (case apart=>first|decide|(simp;done))