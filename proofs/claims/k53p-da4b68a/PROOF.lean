import PyProof.Rows.All
import Wide.All
import OpenK.AllK
import Wide.FinOn
import Lean
import PyProof.EqAt
import PyProof.EqKinds
import PyProof.TupleCall
import PySem.Challenge.RW_calmword_k53_deeds_put
set_option Elab.async false
set_option linter.all false
set_option maxRecDepth 100000
set_option maxHeartbeats 4000000
abbrev Aa:=@List.getElem?_eq_getElem
abbrev Ab:=@PySem.wpAny_bind
abbrev Ac:=@List.length_map
abbrev Ad:=@List.getElem?_eq_some_iff
abbrev Ae:=@List.getD_eq_getElem?_getD
abbrev Af:=@List.not_mem_nil
abbrev Ag:=@List.getElem?_map
abbrev Ah:=@PySem.wpAny_pure
abbrev Ai:=@PySem.Heap.get?_push_of_some
abbrev Aj:=@List.mem_singleton
abbrev Ak:=@Nat.le_refl
abbrev Al:=@List.mem_of_getElem?
abbrev Am:=@List.mem_map
abbrev An:=@if_neg
abbrev Ao:=@if_pos
abbrev Ap:=@List.mem_cons
abbrev Aq:=@List.size_toArray
abbrev Ar:=@PySem.Heap.lt_size
abbrev At:=@List.mem_range
abbrev Au:=@List.mem_append
abbrev Av:=@Option.some.inj
abbrev Aw:=@PySem.Heap.get?_push_size
abbrev Ax:=@List.map_map
abbrev Ay:=@List.map_cons
abbrev Az:=@List.length_range
abbrev A0:=@Nat.ne_of_lt
abbrev A1:=@List.length_append
abbrev A2:=@Nat.lt_of_lt_of_le
abbrev A3:=@Option.map_eq_some_iff
abbrev A4:=@Bool.false_ne_true
abbrev A5:=@List.map_append
abbrev A6:=@List.idxOf_lt_length_iff
abbrev A7:=@List.getElem_mem
abbrev A8:=@Bool.false_eq_true
abbrev A9:=@Classical.byContradiction
abbrev Ia:=@PySem.sizeLine_eq
abbrev Ib:=@PySem.W.mg_of
abbrev Ic:=@PySem.PassesOwn.never
abbrev Ie:=@Array.getElem?_toList
abbrev Ig:=@List.getElem?_append_left
abbrev Ih:=@List.map_congr_left
abbrev Ii:=@List.take_length
abbrev Ij:=@PySem.F.slot_list_append
abbrev Ik:=@PySem.F.type_list_append
abbrev Il:=@PySem.Paired.length
abbrev Im:=@List.nodup_range
abbrev Io:=@Nat.succ.inj
abbrev Ip:=@List.mem_append_right
abbrev Iq:=@Nat.succ_ne_zero
abbrev Ir:=@List.getElem?_append_right
abbrev Is:=@List.getElem?_of_mem
abbrev Iu:=@Array.getElem?_eq_getElem
abbrev Iv:=@Nat.le_trans
abbrev Iw:=@List.getElem_idxOf
abbrev Ix:=@List.getElem?_eq_none
abbrev Iy:=@PySem.W.mg_none_of
abbrev Iz:=@List.mem_filter
abbrev I0:=@PySem.wpAny_ite_split
abbrev Oa:=@List.take_add_one
abbrev Ob:=@List.getElem_range
abbrev Oc:=@Nat.zero_le
abbrev Od:=@List.getElem?_range
abbrev Oe:=@List.length_take
abbrev Of:=@if_false
abbrev Og:=@PySem.wpAny_newObj_type
abbrev Oh:=@List.mem_cons_of_mem
abbrev Oi:=@List.mem_append_left
abbrev Oj:=@PyProof.Rows.callWith_type1
abbrev Ol:=@List.nodup_cons
abbrev Om:=@List.ext_getElem
abbrev On:=@PySem.wpAny_call_entry
abbrev Oo:=@List.getElem_map
abbrev Op:=@Int.zero_add
abbrev Oq:=@Array.getD_eq_getD_getElem?
abbrev Os:=@List.nodup_append
abbrev Ot:=@PySem.wpAny_callSpecial?_slot
abbrev Ou:=@PySem.wpAny_holding
abbrev Ov:=@PySem.Heap.size_push
abbrev Ow:=@decide_eq_false
abbrev Ox:=@List.mem_cons_self
abbrev Oy:=@Bool.and_eq_true
abbrev Oz:=@if_true
abbrev O0:=@PySem.mem_of_lookup
abbrev O1:=@PySem.Heap.get?_update_self
abbrev O2:=@PySem.W.kia_one
abbrev O3:=@PySem.wpAny_Call_Name_kw
abbrev O4:=@congrArg
abbrev O5:=@PySem.sizeLine_eq
abbrev O6:=@PySem.Heap.get?_update_other
abbrev O7:=@List.take_of_length_le
abbrev O8:=@PySem.wpAny_setState_of
abbrev O9:=@beq_eq_false_iff_ne
abbrev Ua:=@List.pairwise_iff_getElem
abbrev Ub:=@List.length_filter_le
abbrev Uc:=@PySem.F.called_set
abbrev Ud:=@PySem.F.slot_dict_keyiterator_next
abbrev Ue:=@PySem.Around.under_plainId
abbrev Uf:=@List.foldl_append
abbrev Ug:=@List.append_nil
abbrev Uh:=@List.length_set
abbrev Ui:=@PySem.Heap.SameBut.update
abbrev Uj:=@PySem.wpAny_mono
abbrev Uk:=@or_false
abbrev Ul:=@PySem.wpAny_seqItems
abbrev Um:=@PySem.wpAny_field
abbrev Uo:=@Nat.ne_of_gt
abbrev Up:=@List.map_nil
abbrev Uq:=@List.range_succ
abbrev Ur:=@PySem.codeAny_builtin
abbrev Us:=@PySem.wpAny_truthy_bool
abbrev Ut:=@Nat.lt_succ_of_lt
abbrev Uu:=@PySem.wpAny_typeNameOfWhole_keyiter
abbrev Uv:=@List.take_append_of_le_length
abbrev Uw:=@List.getElem?_replicate
abbrev Ux:=@List.length_eq_zero_iff
abbrev Uy:=@List.length_pos_of_mem
abbrev Uz:=@PySem.Obj.data_mapFields
abbrev U0:=@PySem.wpAny_setField_rec
abbrev U1:=@PyProof.Rows.F.plain_set_update_loop
abbrev U2:=@PySem.wpAny_passesOwn
abbrev U3:=@List.take_append_drop
abbrev U4:=@List.perm_ext_iff_of_nodup
abbrev U5:=@List.append_assoc
abbrev U6:=@PySem.wpAny_pyIter_list
abbrev U7:=@PySem.wpAny_pyIter_enum
abbrev U8:=@List.idxOf_append
abbrev U9:=@List.mem_erase_of_ne
abbrev Wa:=@List.mem_or_eq_of_mem_set
abbrev Wb:=@PySem.wpAny_setField
abbrev Wc:=@List.getElem?_take_of_lt
abbrev Wd:=@PySem.wpAny_comprehension_free
abbrev We:=@PySem.wpAny_typeNameOf_keyiter
abbrev Wf:=@PySem.wpAny_askSetting
abbrev Wg:=@List.length_erase_of_mem
abbrev Wh:=@PyProof.Rows.slot_tuple_getitem
abbrev Wi:=@PySem.F.slot_list_index
abbrev Wj:=@PySem.F.type_list_index
abbrev Wk:=@Nat.lt_irrefl
abbrev Wl:=@Ne.symm
abbrev Wm:=@PySem.plainId_quiet
abbrev Wn:=@Bool.not_true
abbrev Wo:=@PySem.Calls.spliced_cons
abbrev Wp:=@List.of_mem_zip
abbrev Wq:=@PyProof.Rows.callWith_builtin1
abbrev Wr:=@PySem.wpAny_loadPart'
abbrev Ws:=@List.getElem?_set_self
abbrev Wt:=@PySem.WalksT.enumerateD
abbrev Wu:=@List.ext_getElem?
abbrev Wv:=@List.pairwise_map
abbrev Ww:=@decide_eq_true_eq
abbrev Wx:=@PySem.codeAny_mono
abbrev Wy:=@PySem.F.slot_zip_next
abbrev Wz:=@List.getElem?_set_ne
abbrev W0:=@PySem.call_meets
abbrev W1:=@beq_self_eq_true
abbrev W2:=@PySem.wpAny_isInstance
abbrev W3:=@PySem.wpAny_attempt
abbrev W4:=@Bool.eq_iff_iff
abbrev W5:=@Nat.le_of_lt
abbrev W6:=@List.mem_filterMap
abbrev W7:=@PySem.wpAny_typeOf
abbrev W8:=@Nat.lt_trans
abbrev W9:=@PySem.F.slot_list_getattribute
abbrev Ya:=@Int.emod_lt_of_pos
abbrev Yb:=@PyProof.Rows.F.entry_set_update_loop
abbrev Yc:=@List.take_succ
abbrev Yd:=@PySem.wpAny_fieldsOf
abbrev Ye:=@List.Perm.refl
abbrev Yf:=@PySem.Calls.spliced_nil
abbrev Yg:=@PySem.F.args_tuple_iterator_next_1
abbrev Yh:=@PySem.wpAny_loadPart_at
abbrev Yi:=@Option.some.injEq
abbrev Yj:=@PySem.Calls.callWith_builtin
abbrev Yk:=@PySem.Paired.snoc
abbrev Yl:=@PySem.F.entry_tuple_iterator_next
abbrev Ym:=@List.filter_eq_nil_iff
abbrev Yn:=@PySem.wpAny_standAt
abbrev Yo:=@Nat.lt_succ_self
abbrev Yp:=@PySem.builtinLookup_eq_fast
abbrev Yq:=@PySem.wpAny_isOneOf_keyiter
abbrev Yr:=@PySem.Obj.isFreed_of_fields
abbrev Ys:=@PySem.wpAny_execs_nil
abbrev Yt:=@List.forIn_cons
abbrev Yu:=@PySem.wpAny_newFunctionEnv
abbrev Yv:=@PySem.wpAny_updateSeq_pair
abbrev Yw:=@PySem.Draws.list
abbrev Yx:=@Nat.mod_lt
abbrev Yy:=@List.mem_of_mem_take
abbrev Yz:=@List.pairwise_append
abbrev Y0:=@Int.emod_nonneg
abbrev Y1:=@List.idxOf_cons
abbrev Y2:=@Bool.not_false
abbrev Y3:=@Nat.add_mul
abbrev Y4:=@PySem.tupleKind_room_in1
abbrev Y5:=@List.filter_append
abbrev Y6:=@List.pairwise_cons
abbrev Y7:=@PySem.wpAny_onRaise
namespace L2
open PySem PySem.Spec PyProof.Rows
abbrev Key:=Sum Int Str
def je2:Key->Value->Bool
 |.inl k,v=>Value.isInt k v
 |.inr x,v=>Value.isStrOf x v
def keyH(w:World):Key->Int
 |.inl k=>hashInt k
 |.inr x=>hashStr w x
theorem jcp:∀{k:Key}{v:Value},je2 k v=true->(∃i t,k=Sum.inl i/\v=Value.int i t)\/(∃x t,k=Sum.inr x/\v=Value.str x t)
 |.inl i,v,h=>by
  obtain⟨t,e⟩:=Value.isInt_shape (k:=i) (v:=v) h
  exact .inl ⟨i,t,rfl,e⟩
 |.inr x,v,h=>by
  obtain⟨t,e⟩:=Value.isStrOf_shape (x:=x) (v:=v) h
  exact .inr ⟨x,t,rfl,e⟩
theorem joc(i:Int)(t:Tok):je2 (.inl i) (.int i t)=true:=by simp[je2,Value.isInt]
theorem jod(x:Str)(t:Tok):je2 (.inr x) (.str x t)=true:=by simp[je2,Value.isStrOf]
theorem jrt(a b:Int):decide ((Sum.inl a:Key)=Sum.inl b)=(a == b):=by
 by_cases e:a=b
 ·subst e;simp
 ·have h:¬(Sum.inl a:Key)=Sum.inl b:=λq=>e (Sum.inl.inj q)
  rw[Ow h]
  exact(O9.mpr e).symm
theorem jrw(a b:Str):decide ((Sum.inr a:Key)=Sum.inr b)=decide (a=b):=by
 by_cases e:a=b
 ·subst e;simp
 ·have h:¬(Sum.inr a:Key)=Sum.inr b:=λq=>e (Sum.inr.inj q)
  rw[Ow h,Ow e]
theorem jru(a:Int)(b:Str):decide ((Sum.inl a:Key)=Sum.inr b)=false:=Ow (λq=>nomatch q)
theorem jrv(a:Str)(b:Int):decide ((Sum.inr a:Key)=Sum.inl b)=false:=Ow (λq=>nomatch q)
def jcg(prog:Program)(w:World):PySem.KeyKind prog w Key where
 is:=je2
 hash:=keyH w
 inj:=λv a b ha hb=>by
  rcases jcp ha with⟨i,t,rfl,rfl⟩|⟨x,t,rfl,rfl⟩
  ·rcases jcp hb with⟨j,u,rfl,e⟩|⟨y,u,rfl,e⟩
   ·injection e with e1 _;rw[e1]
   ·exact nomatch e
  ·rcases jcp hb with⟨j,u,rfl,e⟩|⟨y,u,rfl,e⟩
   ·exact nomatch e
   ·injection e with e1 _;rw[e1]
 byValue:=λk v h=>by
  rcases jcp h with⟨i,t,rfl,rfl⟩|⟨x,t,rfl,rfl⟩ <;> rfl
 pyHash:=λhv h=>by
  rcases jcp hv with⟨i,t,rfl,rfl⟩|⟨x,t,rfl,rfl⟩
  ·exact wpAny_pyHash_int h
  ·exact wpAny_pyHash_str h
 eqBool:=λhu hv h=>by
  rcases jcp hu with⟨i,t,rfl,rfl⟩|⟨x,t,rfl,rfl⟩
  ·rcases jcp hv with⟨j,u,rfl,rfl⟩|⟨y,u,rfl,rfl⟩
   ·rw[jrt]at h;exact wpAny_eqBool_int h
   ·rw[jru]at h;exact SeqAt.EqAt.int_str i t y u _ _ _ _ h
  ·rcases jcp hv with⟨j,u,rfl,rfl⟩|⟨y,u,rfl,rfl⟩
   ·rw[jrv]at h;exact SeqAt.EqAt.str_int x t j u _ _ _ _ h
   ·rw[jrw]at h;exact wpAny_eqBool_str h
 «strs»:=λk x t v h=>by
  rcases jcp h with⟨i,u,rfl,e⟩|⟨y,u,rfl,e⟩
  ·exact nomatch e
  ·injection e with e1 _
   subst e1
   cases v <;> rfl
theorem jlg(prog:Program)(w:World)(i:Int)(t:Tok):(jcg prog w).is (.inl i) (.int i t)=true:=joc i t
theorem jlh(prog:Program)(w:World)(x:Str)(t:Tok):(jcg prog w).is (.inr x) (.str x t)=true:=jod x t
inductive V where
 |non|bl (b:Bool)|int (i:Int)|str (x:Str)|byt (b:Array UInt8)|flt (b:UInt64)|ref (a:Addr)|ty (n:String)
 deriving DecidableEq
def RelV:V->Value->Prop
 |.non,u=>u=Value.none
 |.bl b,u=>u=Value.bool b
 |.int i,u=>∃t,u=Value.int i t
 |.str x,u=>∃t,u=Value.str x t
 |.byt b,u=>∃t,u=Value.bytes b t
 |.flt b,u=>∃t,u=Value.float b t
 |.ref a,u=>u=Value.ref a
 |.ty n,u=>u=Value.type n
abbrev Vals:List V->List Value->Prop:=Paired RelV
theorem Vals.length{xs:List V}{us:List Value}(r:Vals xs us):xs.length=us.length:=Il r
theorem Vals.get:∀{xs:List V}{us:List Value}{i:Nat}{x:V},Vals xs us->xs[i]?=some x->∃u,us[i]?=some u/\RelV x u
 |_,_,_,_,.nil,e=>by simp at e
 |_,_,0,_,.cons r _,e=>by simp at e;subst e;exact⟨_,rfl,r⟩
 |_,_,i+1,x,.cons _ t,e=>by
  obtain⟨u,h1,h2⟩:=Vals.get (i:=i) (x:=x) t (by simpa using e)
  exact⟨u,by simpa using h1,h2⟩
theorem Vals.set{x:V}{u:Value}(r:RelV x u):∀{xs:List V}{us:List Value}(i:Nat),Vals xs us->Vals (xs.set i x) (us.set i u)
 |_,_,_,.nil=>.nil
 |_,_,0,.cons _ t=>.cons r t
 |_,_,i+1,.cons q t=>.cons q (Vals.set r i t)
theorem Vals.append:∀{xs ys:List V}{us ws:List Value},Vals xs us->Vals ys ws->Vals (xs++ys) (us++ws)
 |_,_,_,_,.nil,s=>s
 |_,_,_,_,.cons r t,s=>.cons r (Vals.append t s)
theorem Vals.take:∀{xs:List V}{us:List Value}(n:Nat),Vals xs us->Vals (xs.take n) (us.take n)
 |_,_,0,_=>.nil
 |_,_,_+1,.nil=>.nil
 |_,_,n+1,.cons r t=>.cons r (Vals.take n t)
theorem Vals.drop:∀{xs:List V}{us:List Value}(n:Nat),Vals xs us->Vals (xs.drop n) (us.drop n)
 |_,_,0,r=>r
 |_,_,_+1,.nil=>.nil
 |_,_,n+1,.cons _ t=>Vals.drop n t
def RelO:Option V->Option Value->Prop
 |some v,some u=>RelV v u
 |none,none=>True
 |_,_=>False
def KV{κ:Type}:List (κ×V)->List (κ×Value)->Prop:=Paired fun(p:κ×V) (q:κ×Value)=>p.1=q.1/\RelV p.2 q.2
def kV:Key->V
 |.inl i=>.int i
 |.inr x=>.str x
inductive HO where
  |lst (xs:List V)
  |tup (xs:List V)
  |dK (kvs:List (Key×V))|dT (kvs:List (List Key×V))
  |set (S:Int->Bool) (n:Nat)
  |ins (C dx:Addr) (fs:List (Str×V))
  |own (x:Addr)
  |xd (fs:List (Str×V))
  |met (f x:Addr)
  |rng (lo hi:Int)
  |frz (o:Obj) (u:HO)
  |tbl (ps:Array Value)
  |ext (φ:Heap->Prop)
abbrev Hp:=Addr->Option HO
def upd(H:Hp)(a:Addr)(o:HO):Hp:=λb=>if b=a then some o else H b
theorem jb{H:Hp}{a:Addr}{o:HO}:upd H a o a=some o:=by unfold upd;rw[Ao rfl]
theorem jd{H:Hp}{a b:Addr}{o:HO}(h:b≠a):upd H a o b=H b:=by unfold upd;rw[An h]
theorem jex{H:Hp}{a:Addr}{o u:HO}:upd (upd H a o) a u=upd H a u:=by
 funext b;unfold upd;split <;> rfl
theorem jp3{H:Hp}{a b:Addr}{o u:HO}(h:H a=some o)(h':H b=some u)(d:o≠u):a≠b:=by
 intro e;subst e;rw[h]at h';exact d (Av h')
theorem je{H:Hp}{a b:Addr}{o:HO}(h:H a=some o)(h':H b=none):a≠b:=by
 intro e;subst e;rw[h]at h';cases h'
section
variable(P:Program)(w:World)
def ObjOk(H:Hp)(h:Heap)(a:Addr):HO->Prop
 |.lst xs=>xs.length<=sizeLine/\∃(its:List Value)(n:Nat),Vals xs its/\h.get? a=some {cls:=.type "list",data:=.seq its.toArray n}
 |.tup xs=>xs.length<=sizeLine/\∃its:List Value,Vals xs its/\IsTup h a its.toArray
 |.dK kvs=>kvs.length<=sizeLine/\(a == sysModules)=false/\∃vs,KV kvs vs/\h.DictOf (jcg P w) a vs
 |.dT kvs=>kvs.length<=sizeLine/\(a == sysModules)=false/\∃xs:List (List Key×Addr×Value),
   Paired (fun(p:List Key×V) (q:List Key×Addr×Value)=>p.1=q.1/\H q.2.1=some (.tup (p.1.map kV))/\RelV p.2 q.2.2) kvs xs /\
   ∃o es ep,h.get? a=some o/\o.ExactDict/\o.data=.dict es ep/\es.toList=xs.map (entryOfKey (tupleKind (jcg P w)))/\(xs.map (·.1)).Nodup
 |.set S n=>h.SetOf (intKind P w) a S n
 |.ins C dx fs=>H dx=some (.own a)/\fs.length<=1000/\dx≠a/\h.get? a=some (PySem.W.instObj C dx) /\
   ∃mA,h.Ns1 dx mA/\(∀f,RelO (fs.lookup f) (mA f))/\PySem.Within mA (fs.map (·.1))
 |.own _=>∃o,h.get? a=some o
 |.xd fs=>∃mA,h.Ns1 a mA/\∀f,RelO (fs.lookup f) (mA f)
 |.rng lo hi=>∃t u v,h.get? a=some {cls:=.type "range",data:=.fields #[.int lo t,.int hi u,.int 1 v]}
 |.frz o u=>h.get? a=some o/\ObjOk H h a u
 |.tbl ps=>h.get? a=some {cls:=.none,data:=.fields ps}
 |.met f x=>h.get? a=some (PySem.W.methodObj (.ref f) (.ref x))
 |.ext φ=>φ h/\(∃o,h.get? a=some o)/\∀h1 h2:Heap,φ h1->(∀o,h1.get? a=some o->h2.get? a=some o)->φ h2
def HOk(H:Hp)(h:Heap):Prop:=∀a o,H a=some o->ObjOk P w H h a o
end
section
variable{P:Program}{w:World}{H H':Hp}{h h':Heap}{a:Addr}{o:HO}
theorem ObjOk.lt(x:ObjOk P w H h a o):a<h.objs.size:=by
 cases o with
 |lst xs=>obtain⟨_,_,_,_,e⟩:=x;exact Ar e
 |tup xs=>obtain⟨_,_,_,p⟩:=x;exact p.lt
 |dK kvs=>obtain⟨_,_,_,_,o,_,_,e,_⟩:=x;exact Ar e
 |dT kvs=>obtain⟨_,_,_,_,o,_,_,e,_⟩:=x;exact Ar e
 |set S n=>obtain⟨o,_,_,_,e,_⟩:=x;exact Ar e
 |ins C dx fs=>obtain⟨_,_,_,e,_⟩:=x;exact Ar e
 |own y=>obtain⟨_,e⟩:=x;exact Ar e
 |xd fs=>obtain⟨_,⟨_,_,_,e,_⟩,_⟩:=x;exact Ar e
 |rng lo hi=>obtain⟨_,_,_,e⟩:=x;exact Ar e
 |frz ob u=>obtain⟨e,_⟩:=x;exact Ar e
 |tbl ps=>exact Ar (show h.get? a=some _ from x)
 |met f y=>exact Ar (show h.get? a=some _ from x)
 |ext φ=>obtain⟨_,⟨_,e⟩,_⟩:=x;exact Ar e
theorem Paired.mapP{α β:Type}{F G:α->β->Prop}:∀{l₁:List α}{l₂:List β},Paired F l₁ l₂->(∀a b,F a b->G a b)->Paired G l₁ l₂
 |_,_,.nil,_=>.nil
 |_,_,.cons r t,f=>.cons (f _ _ r) (Paired.mapP t f)
theorem ObjOk.stay(x:ObjOk P w H h a o)(k:∀b u,(b=a\/H b=some (.own a))->h.get? b=some u->h'.get? b=some u)
  (ho:∀b,H b=some (.own a)->H' b=some (.own a)) (ht:∀b xs,H b=some (.tup xs)->H' b=some (.tup xs)):ObjOk P w H' h' a o:=by
 induction o with
 |lst xs=>obtain⟨z,its,n,r,e⟩:=x;exact⟨z,its,n,r,k _ _ (.inl rfl) e⟩
 |tup xs=>obtain⟨z,its,r,ob,e,c⟩:=x;exact⟨z,its,r,ob,k _ _ (.inl rfl) e,c⟩
 |dK kvs=>obtain⟨z,y,vs,r,ob,es,ep,e,c⟩:=x;exact⟨z,y,vs,r,ob,es,ep,k _ _ (.inl rfl) e,c⟩
 |dT kvs =>
  obtain⟨z,y,xs,r,ob,es,ep,e,c⟩:=x
  exact⟨z,y,xs,Paired.mapP r λp q z=>⟨z.1,ht _ _ z.2.1,z.2.2⟩,ob,es,ep,k _ _ (.inl rfl) e,c⟩
 |set S n=>obtain⟨ob,es,ep,t,e,c⟩:=x;exact⟨ob,es,ep,t,k _ _ (.inl rfl) e,c⟩
 |ins C dx fs =>
  obtain⟨d,z,ne,e,mA,⟨od,es,ep,e2,c⟩,r⟩:=x
  exact⟨ho _ d,z,ne,k _ _ (.inl rfl) e,mA,⟨od,es,ep,k _ _ (.inr d) e2,c⟩,r⟩
 |own y=>obtain⟨ob,e⟩:=x;exact⟨ob,k _ _ (.inl rfl) e⟩
 |xd fs=>obtain⟨mA,⟨od,es,ep,e,c⟩,r⟩:=x;exact⟨mA,⟨od,es,ep,k _ _ (.inl rfl) e,c⟩,r⟩
 |rng lo hi=>obtain⟨t,u,v,e⟩:=x;exact⟨t,u,v,k _ _ (.inl rfl) e⟩
 |frz ob u ih=>obtain⟨e,q⟩:=x;exact⟨k _ _ (.inl rfl) e,ih q⟩
 |tbl ps =>
  have e:h.get? a=some {cls:=.none,data:=.fields ps}:=x
  show h'.get? a=some {cls:=.none,data:=.fields ps}
  exact k a _ (.inl rfl) e
 |met f y =>
  have e:h.get? a=some (PySem.W.methodObj (.ref f) (.ref y)):=x
  show h'.get? a=some (PySem.W.methodObj (.ref f) (.ref y))
  exact k a _ (.inl rfl) e
 |ext φ=>obtain⟨p,⟨o,e⟩,st⟩:=x;exact⟨st _ _ p λo q=>k _ _ (.inl rfl) q,⟨o,k _ _ (.inl rfl) e⟩,st⟩
theorem HOk.lt(x:HOk P w H h)(e:H a=some o):a<h.objs.size:=(x a o e).lt
theorem HOk.fresh(x:HOk P w H h)(e:h.objs.size<=a):H a=none:=by
 cases q:H a with
 |none=>rfl
 |some u=>exact absurd (A2 (x.lt q) e) (Wk _)
theorem HOk.kept(x:HOk P w H h)(k:∀b u,h.get? b=some u->h'.get? b=some u):HOk P w H h':=λa o e =>
 (x a o e).stay (λb u _ q=>k b u q) (λ_ q=>q) λ_ _ q=>q
theorem HOk.laid(x:HOk P w H h)(k:∀b u,h.get? b=some u->h'.get? b=some u)(hp:h.objs.size<=a)(new:ObjOk P w (upd H a o) h' a o):HOk P w (upd H a o) h':=λb u e=>by
 have hn:=x.fresh hp
 by_cases hb:b=a
 ·subst hb;rw[jb]at e;cases e;exact new
 ·rw[jd hb]at e
  exact(x b u e).stay (λc v _ q=>k c v q) (λc q=>by rw[jd (je q hn)];exact q) λc xs q=>by rw[jd (je q hn)];exact q
end
def Rd(H:Hp)(a:Addr)(u:HO):Prop:=H a=some u\/∃o,H a=some (.frz o u)
theorem Rd.ok{P:Program}{w:World}{H:Hp}{h:Heap}{a:Addr}{u:HO}(r:Rd H a u)(x:HOk P w H h):ObjOk P w H h a u:=by
 rcases r with r|⟨o,r⟩
 ·exact x a u r
 ·obtain⟨_,q⟩:=x a _ r
  exact q
def Mut:Option HO->Prop
 |some (.lst _)=>True
 |some (.dK _)=>True
 |some (.dT _)=>True
 |some (.set _ _)=>True
 |some (.ins _ _ _)=>True
 |some (.ext _)=>True
 |_=>False
section
variable{P:Program}{w:World}{H:Hp}{h h':Heap}{x e:Addr}{o':HO}
theorem HOk.write(ok:HOk P w H h)(mu:Mut (H x))(he:e=x\/H e=some (.own x))(k:∀b u,b≠e->h.get? b=some u->h'.get? b=some u)(heo:∃u,h'.get? e=some u)
  (new:ObjOk P w (upd H x o') h' x o'):HOk P w (upd H x o') h':=λb u q=>by
 have nown:∀c y,H c=some (.own y)->c≠x:=λc y r z=>by subst z;rw[r]at mu;exact mu
 have ntup:∀c xs,H c=some (.tup xs)->c≠x:=λc xs r z=>by subst z;rw[r]at mu;exact mu
 by_cases hb:b=x
 ·subst hb;rw[jb]at q;cases q;exact new
 ·rw[jd hb]at q
  by_cases hbe:b=e
  ·have q':H b=some (.own x):=by
    rcases he with z|z
    ·exact absurd (hbe.trans z) hb
    ·rw[hbe];exact z
   rw[q]at q';cases q'
   obtain⟨v,hv⟩:=heo
   exact⟨v,by rw[hbe];exact hv⟩
  ·refine(ok b u q).stay (λc v hc r=>k c v ?_ r) (λc r=>by rw[jd (nown c b r)];exact r) λc xs r=>by rw[jd (ntup c xs r)];exact r
   rcases hc with rfl|hc
   ·exact hbe
   ·rintro rfl
    rcases he with z|z
    ·exact nown c b hc z
    ·rw[hc]at z;cases z;exact hb rfl
end
structure Un(fs ex:List Addr)(H H':Hp)(h h':Heap):Prop where
 keep:∀b o,h.get? b=some o->H b=none->b∉fs->b∉ex->h'.get? b=some o
 slot:∀b o,h.get? b=some o->H b=none->b∈fs->b∉ex->∃sl,h'.get? b=some {o with slots:=sl}
 free:∀b o,h.get? b=some o->H b=none->b∉ex->H' b=none
 there:∀b o,h.get? b=some o->b∉ex->∃o',h'.get? b=some o'
 tups:∀b xs,H b=some (.tup xs)->H' b=some (.tup xs)
 frzs:∀b o u,H b=some (.frz o u)->H' b=some (.frz o u)
 tbls:∀b ps,H b=some (.tbl ps)->∃more,H' b=some (.tbl (ps++more))
section
variable{fs fs' ex ex':List Addr}{H H1 H2:Hp}{h h1 h2 h':Heap}{a x e:Addr}{o:HO}
theorem Un.any(u:Un fs ex H H1 h h1){b:Addr}{ob:Obj}(q:h.get? b=some ob)(n:H b=none)(hx:b∉ex):∃sl,h1.get? b=some {ob with slots:=sl}:=by
 by_cases hb:b∈fs
 ·exact u.slot b ob q n hb hx
 ·exact⟨ob.slots,u.keep b ob q n hb hx⟩
theorem Un.kept(k:∀b u,h.get? b=some u->h'.get? b=some u):Un fs ex H H h h' :=
 ⟨λb ob q _ _ _=>k b ob q,λb ob q _ _ _=>⟨ob.slots,k b ob q⟩,λ_ _ _ n _=>n,λb ob q _=>⟨ob,k b ob q⟩,λ_ _ q=>q,λ_ _ _ q=>q,λ_ ps q=>⟨#[],by rw[q];simp⟩⟩
theorem Un.refl:Un fs ex H H h h:=Un.kept λ_ _ q=>q
theorem Un.laid(k:∀b u,h.get? b=some u->h'.get? b=some u)(hp:h.objs.size<=a)(hn:H a=none):Un fs ex H (upd H a o) h h' where
 keep:=λb u q _ _ _=>k b u q
 slot:=λb u q _ _ _=>⟨u.slots,k b u q⟩
 free:=λb u q n _=>by rw[jd (A0 (A2 (Ar q) hp))];exact n
 there:=λb u q _=>⟨u,k b u q⟩
 tups:=λb xs q=>by rw[jd (je q hn)];exact q
 frzs:=λb u xs q=>by rw[jd (je q hn)];exact q
 tbls:=λb ps q=>⟨#[],by rw[jd (je q hn),q];simp⟩
theorem Un.write(mu:Mut (H x))(he:e=x\/H e=some (.own x))(k:∀b u,b≠e->h.get? b=some u->h'.get? b=some u)(heo:∃u,h'.get? e=some u):Un fs ex H (upd H x o) h h':=by
 have hx:∀b,H b=none->b≠x:=λb n z=>by subst z;rw[n]at mu;exact mu
 have hb:∀b,H b=none->b≠e:=λb n z=>by
  subst z
  rcases he with r|r
  ·exact hx b n r
  ·rw[n]at r;cases r
 have hm:∀b u,H b=some u->¬Mut (some u)->b≠x:=λb u q nm z=>by subst z;rw[q]at mu;exact nm mu
 refine⟨λb u q n _ _=>k b u (hb b n) q,λb u q n _ _=>⟨u.slots,k b u (hb b n) q⟩,λb u q n _=>by rw[jd (hx b n)];exact n,λb u q _=>?_,
  λb xs q=>by rw[jd (hm b _ q λz=>z)];exact q,λb u xs q=>by rw[jd (hm b _ q λz=>z)];exact q,λb ps q=>⟨#[],by rw[jd (hm b _ q λz=>z),q];simp⟩⟩
 by_cases hbe:b=e
 ·subst hbe;exact heo
 ·exact⟨u,k b u hbe q⟩
end
def trk(h:Heap)(H:Hp):List Addr:=(List.range h.objs.size).filter λa=>(H a).isSome
def hidT(h:Heap)(H:Hp):Heap:=PySem.W.hideAll h (trk h H)
theorem jn8(h:Heap)(H:Hp):(hidT h H).objs.size=h.objs.size:=PySem.W.hideAll_size _ _
theorem jpf{h:Heap}{H:Hp}{b:Addr}{o:Obj}(e:h.get? b=some o)(n:H b=none):(hidT h H).get? b=some o :=
 PySem.W.hideAll_get _ e λhm=>by
  have q:(H b).isSome=true:=(Iz.mp hm).2
  rw[n]at q;simp at q
theorem jq8{h:Heap}{H:Hp}{b:Addr}{o:Obj}(e:(hidT h H).get? b=some o):h.get? b=some o/\H b=none:=by
 have e':h.get? b=some o:=PySem.W.of_hideAll (trk h H) e
 refine⟨e',?_⟩
 cases q:H b with
 |none=>rfl
 |some x =>
  have hm:b∈trk h H:=Iz.mpr ⟨At.mpr (Ar e'),by simp[q]⟩
  have z:(hidT h H).get? b=none:=PySem.W.hideAll_none (trk h H) hm
  rw[z]at e;cases e
structure Mod(K:PySem.W.Frag)(mg:Str->Option Value)(base:Heap):Prop where
 kin:K.In base
 glob:base.Ns mainGlobals mg
 blt:∃mb,base.Ns builtinsNs mb/\∀x:Str,x≠"__name__"->mb x=bootBuiltins x
 nolimit:base.NoLimit
structure Cx where
 prog:Program
 w:World
 K:PySem.W.Frag
 mg:Str->Option Value
 base:Heap
 A:Around
 N:List Str
 s₀:Shared
 H₀:Hp
 env:Env
 outer:List Env
 stack:List Env
 ex:List Addr
 fn:Str->Bool
 calm:Bool
 pn:List (Addr×Obj)
 xe:Value->Shared->Prop
def frs(l:List Env):List Addr:=l.filterMap (·.frame)
abbrev Cx.fs(X:Cx):List Addr:=frs X.outer
def Vis(sc:Scope)(x:Str):Prop:=sc.names.lookup x=some .local\/sc.names.lookup x=some .cell\/sc.names.lookup x=some .free
def Loc(sc:Scope)(x:Str):Prop:=sc.names.lookup x=some .local\/sc.names.lookup x=some .cell
def Look(env:Env)(h:Heap)(m:Str->Option Value)(x:Str)(u:Value):Prop :=
 (env.kindOf x=some .local/\m x=some u)\/((env.kindOf x=some .cell\/env.kindOf x=some .free)/\∃c,env.cells.lookup x=some c/\h.IsCell c (some u))
structure Cx.Ok(X:Cx):Prop where
 mod:Mod X.K X.mg X.base
 kind:X.env.scope.kind=.function
 glob:X.env.globals=mainGlobals
 blt:X.env.builtins=builtinsNs
 above:X.s₀.heap.objs.size<=X.env.locals
 inj:∀x y c,X.env.cells.lookup x=some c->X.env.cells.lookup y=some c->x=y
 has:∀x,(X.env.kindOf x=some .cell\/X.env.kindOf x=some .free)->∃c,X.env.cells.lookup x=some c
 cab:∀x c,X.fn x=true->X.env.cells.lookup x=some c->X.s₀.heap.objs.size<=c
 hd:X.calm=true->X.A.handled=none
 frames:X.A.frames=some X.stack
 stk:X.stack=X.outer\/(X.stack=X.env::X.outer/\X.env.frame=some X.env.locals)
 exf:∀b∈X.ex,b≠X.env.locals/\∀x c,X.env.cells.lookup x=some c->c≠b
 bs:∀b o,X.base.get? b=some o->X.s₀.heap.get? b=some o/\X.H₀ b=none
 bsz:X.base.objs.size<=X.s₀.heap.objs.size
 noex:∀b o,X.base.get? b=some o->b∉X.ex
 exfs:∀b∈X.ex,b∉X.fs
 funs:X.s₀.heap.FunFrames X.base X.outer
 frf:∀b∈X.fs,X.H₀ b=none
structure Inv(X:Cx)(pins:List (Addr×Obj))(σ:List (Option V))(H:Hp)(s:Shared):Prop where
 ok:X.Ok
 os:s.os=X.s₀.os
 bare:AllBare s.gens
 base:Un X.fs X.ex X.H₀ H X.s₀.heap s.heap
 loc:∃m,s.heap.Ns X.env.locals m/\∀(i:Nat)(x:Str)(v:V),X.N[i]?=some x->σ[i]?=some (some v)->Vis X.env.scope x->∃u,RelV v u/\Look X.env s.heap m x u
 cell:∀x c,X.env.cells.lookup x=some c->∃v,s.heap.IsCell c v
 free:H X.env.locals=none
 freeC:∀x c,X.env.cells.lookup x=some c->H c=none
 pin:∀p∈X.pn++pins,s.heap.get? p.1=some p.2/\H p.1=none/\p.1≠X.env.locals/\p.1∉X.fs/\∀v,p.2.data≠.cell v
 hok:HOk X.prog X.w H s.heap
 len:σ.length=X.N.length
section
variable{X:Cx}{pins:List (Addr×Obj)}{σ:List (Option V)}{H H':Hp}{s:Shared}{h':Heap}
theorem Cx.Ok.nofr(ok:X.Ok){b:Addr}{o:Obj}(e:X.base.get? b=some o):b∉X.fs:=λhb=>by
 have:=(ok.funs.mem hb).1
 rw[e]at this;cases this
theorem Inv.bs(I:Inv X pins σ H s):∀b o,X.base.get? b=some o->s.heap.get? b=some o/\H b=none:=λb o e =>
 ⟨I.base.keep b o (I.ok.bs b o e).1 (I.ok.bs b o e).2 (I.ok.nofr e) (I.ok.noex b o e),I.base.free b o (I.ok.bs b o e).1 (I.ok.bs b o e).2 (I.ok.noex b o e)⟩
theorem Inv.bk(I:Inv X pins σ H s):∀b o,X.base.get? b=some o->s.heap.get? b=some o:=λb o e=>(I.bs b o e).1
theorem Inv.mod(I:Inv X pins σ H s):Mod X.K X.mg X.base:=I.ok.mod
theorem Inv.kIn(I:Inv X pins σ H s):X.K.In s.heap:=I.ok.mod.kin.keeps I.bk
theorem Inv.lt(I:Inv X pins σ H s):X.env.locals<s.heap.objs.size:=let⟨_,hn,_⟩:=I.loc;hn.lt
theorem Inv.sz(I:Inv X pins σ H s):X.s₀.heap.objs.size<=s.heap.objs.size:=Iv I.ok.above (W5 I.lt)
theorem Inv.nofs(I:Inv X pins σ H s){a:Addr}(h:s.heap.objs.size<=a):a∉X.fs:=λhb=>by
 obtain⟨_,o,ho,_⟩:=I.ok.funs.mem hb
 exact absurd (A2 (Ar ho) (Iv I.sz h)) (Wk _)
theorem Inv.cne(I:Inv X pins σ H s):∀x c,X.env.cells.lookup x=some c->c≠X.env.locals:=λx c e z=>by
 obtain⟨v,o,ho,hd⟩:=I.cell x c e
 obtain⟨m,⟨o',es,ep,ho',hd',_⟩,_⟩:=I.loc
 rw[z,ho']at ho;cases ho;rw[hd']at hd;cases hd
theorem Inv.funs(I:Inv X pins σ H s):s.heap.FunFrames X.base X.outer:=by
 have all:∀(l:List Env),(∀b∈frs l,b∈X.fs)->X.s₀.heap.FunFrames X.base l->s.heap.FunFrames X.base l:=by
  intro l
  induction l with
  |nil=>intro _ _;trivial
  |cons env r ih =>
   intro hs hl
   obtain⟨hk,⟨L,o,hf,hn,ho,hd⟩,hr⟩:=hl
   have hL:L∈X.fs:=hs L (by unfold frs;rw[List.filterMap_cons,hf];exact Ox)
   obtain⟨sl,e⟩:=I.base.slot L o ho (I.ok.frf L hL) hL λz=>I.ok.exfs L z hL
   exact⟨hk,⟨L,_,hf,hn,e,hd⟩,ih (λb hb=>hs b (by unfold frs;rw[List.filterMap_cons,hf];exact Oh _ hb)) hr⟩
 exact all X.outer (λ_ hb=>hb) I.ok.funs
theorem Inv.stack(I:Inv X pins σ H s):s.heap.FunFrames X.base X.stack:=by
 rcases I.ok.stk with e|⟨e,hf⟩
 ·rw[e];exact I.funs
 ·rw[e]
  obtain⟨m,hn,_⟩:=I.loc
  refine .cons (by rw[I.ok.kind];decide) hf hn ?_ I.funs
  exact Heap.get?_none_of_le (Iv I.ok.bsz I.ok.above)
theorem Inv.stkSub(I:Inv X pins σ H s):∀b∈frs X.stack,b∈X.env.locals::X.fs:=λb hb=>by
 rcases I.ok.stk with e|⟨e,hf⟩
 ·rw[e]at hb;exact Oh _ hb
 ·rw[e]at hb
  unfold frs at hb
  rw[List.filterMap_cons,hf]at hb
  exact hb
theorem Inv.stkFree(I:Inv X pins σ H s):∀b∈frs X.stack,H b=none:=λb hb=>by
 rcases Ap.mp (I.stkSub b hb)with e|hb
 ·rw[e];exact I.free
 ·obtain⟨_,o,ho,_⟩:=I.ok.funs.mem hb
  exact I.base.free b o ho (I.ok.frf b hb) λz=>I.ok.exfs b z hb
theorem Inv.step{g':Array GenState}{t':Nat}{d':Drawn}{ch:List Addr}(I:Inv X pins σ H s)
  (hch:∀b∈ch,(b∈X.ex\/X.s₀.heap.objs.size<=b)/\b≠X.env.locals/\(∀x c,X.env.cells.lookup x=some c->c≠b)/\∀p∈X.pn++pins,p.1≠b)
  (keep:∀b o,b≠X.env.locals->b∉X.fs->b∉ch->s.heap.get? b=some o->H b=none->h'.get? b=some o)
  (slot:∀b o,b≠X.env.locals->b∈X.fs->b∉ch->s.heap.get? b=some o->H b=none->∃sl,h'.get? b=some {o with slots:=sl}) (free:∀b o,b∉ch->s.heap.get? b=some o->H b=none->H' b=none)
  (there:∀b o,b∉ch->s.heap.get? b=some o->∃o',h'.get? b=some o')
  (tups:∀b xs,H b=some (.tup xs)->H' b=some (.tup xs)) (frzs:∀b o u,H b=some (.frz o u)->H' b=some (.frz o u)) (tbls:∀b ps,H b=some (.tbl ps)->∃more,H' b=some (.tbl (ps++more)))
  (ns:∀m,s.heap.Ns X.env.locals m->h'.Ns X.env.locals m) (hok:HOk X.prog X.w H' h') (hg:AllBare g') :
  Inv X pins σ H' {s with heap:=h',gens:=g',drawn:=d',toks:=t'}:=by
 have neL:∀b o,X.s₀.heap.get? b=some o->b≠X.env.locals:=λb o e=>A0 (A2 (Ar e) I.ok.above)
 have neC:∀b o,X.s₀.heap.get? b=some o->b∉X.ex->b∉ch:=λb o e hx hb=>by
  rcases(hch b hb).1 with z|z
  ·exact hx z
  ·exact absurd (A2 (Ar e) z) (Wk _)
 have cellK:∀x c,X.env.cells.lookup x=some c->∀v,s.heap.IsCell c v->h'.IsCell c v:=λx c e v ⟨o,ho,hd⟩=>by
  have nch:c∉ch:=λz=>(hch c z).2.2.1 x c e rfl
  by_cases hc:c∈X.fs
  ·obtain⟨sl,q⟩:=slot c o (I.cne x c e) hc nch ho (I.freeC x c e)
   exact⟨_,q,hd⟩
  ·exact⟨o,keep c o (I.cne x c e) hc nch ho (I.freeC x c e),hd⟩
 refine⟨I.ok,I.os,hg,⟨λb o e n hb hx=>?_,λb o e n hb hx=>?_,λb o e n hx=>?_,λb o e hx=>?_,λb xs e=>tups b xs (I.base.tups b xs e),λb o xs e=>frzs b o xs (I.base.frzs b o xs e),λb ps e=>?_⟩,?_,λx c e=>?_,?_,λx c e=>?_,λp hp=>?_,hok,I.len⟩
 ·exact keep b o (neL b o e) hb (neC b o e hx) (I.base.keep b o e n hb hx) (I.base.free b o e n hx)
 ·obtain⟨sl,e1⟩:=I.base.slot b o e n hb hx
  obtain⟨sl',e2⟩:=slot b _ (neL b o e) hb (neC b o e hx) e1 (I.base.free b o e n hx)
  exact⟨sl',e2⟩
 ·obtain⟨o',e1⟩:=I.base.there b o e hx
  exact free b o' (neC b o e hx) e1 (I.base.free b o e n hx)
 ·obtain⟨o',e1⟩:=I.base.there b o e hx
  exact there b o' (neC b o e hx) e1
 ·obtain⟨m1,e1⟩:=I.base.tbls b ps e
  obtain⟨m2,e2⟩:=tbls b _ e1
  exact⟨m1++m2,by rw[e2,Array.append_assoc]⟩
 ·obtain⟨m,hn,hl⟩:=I.loc
  refine⟨m,ns m hn,λi x v e1 e2 e3=>?_⟩
  obtain⟨u,r,l⟩:=hl i x v e1 e2 e3
  refine⟨u,r,?_⟩
  rcases l with l|⟨k,c,e,z⟩
  ·exact .inl l
  ·exact .inr ⟨k,c,e,cellK x c e _ z⟩
 ·obtain⟨v,z⟩:=I.cell x c e
  exact⟨v,cellK x c e v z⟩
 ·obtain⟨m,⟨o,_,_,ho,_⟩,_⟩:=I.loc
  exact free _ o (λz=>(hch _ z).2.1 rfl) ho I.free
 ·obtain⟨v,o,ho,hd⟩:=I.cell x c e
  exact free c o (λz=>(hch c z).2.2.1 x c e rfl) ho (I.freeC x c e)
 ·obtain⟨e,n,ne,nf,d⟩:=I.pin p hp
  have nch:p.1∉ch:=λz=>(hch p.1 z).2.2.2 p hp rfl
  exact⟨keep p.1 p.2 ne nf nch e n,free p.1 p.2 nch e n,ne,nf,d⟩
theorem Inv.un{t':Nat}(I:Inv X pins σ H s)(u:Un X.fs [] H H' s.heap h')(hok:HOk X.prog X.w H' h'):Inv X pins σ H' {s with heap:=h',toks:=t'}:=by
 obtain⟨m,⟨o,es,ep,ho,r⟩,_⟩:=id I.loc
 obtain⟨sl,hL⟩:=u.any ho I.free (by simp)
 exact I.step (g':=s.gens) (d':=s.drawn) (ch:=[]) (λ_ z=>nomatch z) (λb o _ hb _ e n=>u.keep b o e n hb (by simp)) (λb o _ hb _ e n=>u.slot b o e n hb (by simp)) (λb o _ e n=>u.free b o e n (by simp)) (λb o _ e=>u.there b o e (by simp)) u.tups u.frzs u.tbls (λm' hm=>by
  obtain⟨o',es',ep',ho',r'⟩:=hm
  rw[ho]at ho';cases ho'
  exact⟨_,es',ep',hL,r'⟩) hok I.bare
theorem Inv.call{g':Array GenState}{t':Nat}{d':Drawn}{ch:List Addr}(I:Inv X pins σ H s)(u:Un (frs X.stack) ch H H' s.heap h')(hok:HOk X.prog X.w H' h')(hg:AllBare g')
  (hch:∀b∈ch,(b∈X.ex\/X.s₀.heap.objs.size<=b)/\b≠X.env.locals/\(∀x c,X.env.cells.lookup x=some c->c≠b)/\∀p∈X.pn++pins,p.1≠b) :
  Inv X pins σ H' {s with heap:=h',gens:=g',drawn:=d',toks:=t'}:=by
 obtain⟨m,⟨o,es,ep,ho,r⟩,_⟩:=id I.loc
 obtain⟨sl,hL⟩:=u.any ho I.free λz=>(hch _ z).2.1 rfl
 exact I.step (ch:=ch) hch (λb o hL hb hc e n=>u.keep b o e n (λz=>(Ap.mp (I.stkSub b z)).elim hL hb) hc) (λb o _ _ hc e n=>u.any e n hc) (λb o hc e n=>u.free b o e n hc) (λb o hc e=>u.there b o e hc) u.tups u.frzs u.tbls (λm' hm=>by
  obtain⟨o',es',ep',ho',r'⟩:=hm
  rw[ho]at ho';cases ho'
  exact⟨_,es',ep',hL,r'⟩) hok hg
theorem Inv.turned{t':Nat}{it:Addr}(I:Inv X pins σ H s)(k:∀b o,b≠it->s.heap.get? b=some o->h'.get? b=some o)(hn:H it=none)(hL:it≠X.env.locals)
  (h1:it∈X.ex\/X.s₀.heap.objs.size<=it) (h2:∀x c,X.env.cells.lookup x=some c->c≠it) (h3:∀p∈X.pn++pins,p.1≠it):Inv X pins σ H {s with heap:=h',toks:=t'}:=by
 have nit:∀b u,H b=some u->b≠it:=λb u e z=>by rw[z,hn]at e;cases e
 refine I.step (g':=s.gens) (d':=s.drawn) (ch:=[it]) (λb hb=>?_) (λb o _ _ hc e _=>k b o (λz=>hc (by simp[z])) e) (λb o _ _ hc e _=>⟨o.slots,k b o (λz=>hc (by simp[z])) e⟩) (λ_ _ _ _ n=>n)
  (λb o hc e=>⟨o,k b o (λz=>hc (by simp[z])) e⟩) (λ_ _ e=>e) (λ_ _ _ e=>e) (λb ps e=>⟨#[],by rw[e];simp⟩) (λm hm=>?_) (λb u e=>?_) I.bare
 ·have e:b=it:=by simpa using hb
  subst e
  exact⟨h1,hL,h2,h3⟩
 ·obtain⟨o,es,ep,ho,r⟩:=hm
  exact⟨o,es,ep,k _ o (Wl hL) ho,r⟩
 ·refine(I.hok b u e).stay (λc v hc q=>k c v ?_ q) (λ_ q=>q) λ_ _ q=>q
  rcases hc with z|z
  ·rw[z];exact nit b u e
  ·exact nit c _ z
theorem Inv.tok(I:Inv X pins σ H s)(t:Nat):Inv X pins σ H {s with toks:=t}:=I.un (h':=s.heap) (t':=t) Un.refl I.hok
theorem Inv.kept{t':Nat}(I:Inv X pins σ H s)(k:∀b u,s.heap.get? b=some u->h'.get? b=some u):Inv X pins σ H {s with heap:=h',toks:=t'}:=I.un (Un.kept k) (I.hok.kept k)
theorem Inv.laid{a:Addr}{o:HO}{t':Nat}(I:Inv X pins σ H s)(k:∀b u,s.heap.get? b=some u->h'.get? b=some u)(hp:s.heap.objs.size<=a)(new:ObjOk X.prog X.w (upd H a o) h' a o) :
  Inv X pins σ (upd H a o) {s with heap:=h',toks:=t'}:=I.un (Un.laid k hp (I.hok.fresh hp)) (I.hok.laid k hp new)
theorem Inv.write{x e:Addr}{o:HO}{t':Nat}(I:Inv X pins σ H s)(mu:Mut (H x))(he:e=x\/H e=some (.own x))(k:∀b u,b≠e->s.heap.get? b=some u->h'.get? b=some u)(heo:∃u,h'.get? e=some u)
  (new:ObjOk X.prog X.w (upd H x o) h' x o):Inv X pins σ (upd H x o) {s with heap:=h',toks:=t'}:=I.un (Un.write mu he k heo) (I.hok.write mu he k heo new)
theorem Inv.pins_of{pins':List (Addr×Obj)}(I:Inv X pins σ H s)(h:∀p∈pins',s.heap.get? p.1=some p.2/\H p.1=none/\p.1≠X.env.locals/\p.1∉X.fs/\∀v,p.2.data≠.cell v):Inv X pins' σ H s :=
 ⟨I.ok,I.os,I.bare,I.base,I.loc,I.cell,I.free,I.freeC,λp hp=>(Au.mp hp).elim (λz=>I.pin p (Oi _ z)) (h p),I.hok,I.len⟩
theorem jke{N:List Str}(hN:N.Nodup){i j:Nat}{x:Str}(a:N[i]?=some x)(b:N[j]?=some x):i=j:=by
 obtain⟨h1,e1⟩:=Ad.mp a
 obtain⟨h2,e2⟩:=Ad.mp b
 exact(List.getElem_inj hN).mp (e1.trans e2.symm)
theorem jfk{M:Model}{A:Around}{E:Value->Shared->Prop}{i:Nat}{x:Str}{v:V}{u:Value}{Q:Unit->Shared->Prop}(I:Inv X pins σ H s)(hN:X.N.Nodup)(hi:X.N[i]?=some x)(hx:Loc X.env.scope x)(r:RelV v u)
  (h:∀s',Inv X pins (σ.set i (some v)) H s'->(∃a,Heap.SameBut a s.heap s'.heap/\(a=X.env.locals\/X.env.cells.lookup x=some a))->Q () s') (hf:X.fn x=true\/X.env.scope.names.lookup x=some .local:=by first|exact .inl rfl|exact .inr rfl|assumption):wpAny M A (storeName X.env x u) Q E s:=by
 obtain⟨m,hn,hl⟩:=id I.loc
 have hcls:(X.env.scope.kind == .class || (X.env.scope.kind == .module && X.env.locals != X.env.globals))=false:=by rw[I.ok.kind];rfl
 have hiσ:i<σ.length:=by rw[I.len];exact(Ad.mp hi).1
 have cne:=I.cne
 have tracked:∀{a:Addr}{h':Heap},(∃o,s.heap.get? a=some o/\H a=none)->Heap.SameBut a s.heap h'->HOk X.prog X.w H h':=fun{a h'} ha hs b ob e=>by
  obtain⟨_,_,hfree⟩:=ha
  refine(I.hok b ob e).stay (λc w' hc q=>(hs.2 c ?_).trans q) (λ_ q=>q) λ_ _ q=>q
  rintro rfl
  rcases hc with rfl|hc
  ·rw[hfree]at e;cases e
  ·rw[hfree]at hc;cases hc
 rcases hx with hk|hk
 ·refine wpAny_storeName_local hk hn (λh' hn' hs=>?_) hcls
  obtain⟨oL,_,_,hoL,_⟩:=id hn
  refine h _ ⟨I.ok,I.os,I.bare,⟨λb o e n hb hx=>?_,λb o e n hb hx=>?_,I.base.free,λb o e hx=>?_,I.base.tups,I.base.frzs,I.base.tbls⟩,⟨_,hn',λj y v' e1 e2 e3=>?_⟩,λy c e=>?_,I.free,I.freeC,λp hp=>?_,tracked ⟨oL,hoL,I.free⟩ hs,by simpa using I.len⟩ ⟨_,hs,.inl rfl⟩
  ·exact(hs.2 b (A0 (A2 (Ar e) I.ok.above))).trans (I.base.keep b o e n hb hx)
  ·obtain⟨sl,e1⟩:=I.base.slot b o e n hb hx
   exact⟨sl,(hs.2 b (A0 (A2 (Ar e) I.ok.above))).trans e1⟩
  ·obtain⟨o',e1⟩:=I.base.there b o e hx
   exact⟨o',(hs.2 b (A0 (A2 (Ar e) I.ok.above))).trans e1⟩
  ·by_cases hj:j=i
   ·subst hj
    rw[hi]at e1;cases e1
    rw[Ws hiσ]at e2
    cases e2
    exact⟨u,r,.inl ⟨hk,by simp⟩⟩
   ·rw[Wz (Wl hj)]at e2
    obtain⟨u',r',q⟩:=hl j y v' e1 e2 e3
    refine⟨u',r',?_⟩
    rcases q with⟨k,e⟩|⟨k,c,e,z⟩
    ·refine .inl ⟨k,?_⟩
     have:y≠x:=λe=>hj (jke hN e1 (e▸hi))
     simp[this,e]
    ·exact .inr ⟨k,c,e,z.sameBut hs (cne y c e)⟩
  ·obtain⟨w',z⟩:=I.cell y c e
   exact⟨w',z.sameBut hs (cne y c e)⟩
  ·obtain⟨e,n,ne,nf,d⟩:=I.pin p hp
   exact⟨(hs.2 p.1 ne).trans e,n,ne,nf,d⟩
 ·have hfn:X.fn x=true:=by
   rcases hf with z|z
   ·exact z
   ·rw[z]at hk;cases hk
  obtain⟨c,hc⟩:=I.ok.has x (.inl hk)
  obtain⟨w',z⟩:=I.cell x c hc
  refine wpAny_storeName_cell I.ok.kind hk hc z (λh' hc' hs=>?_)
  obtain⟨oc,hoc,hocd⟩:=id z
  refine h {s with heap:=h'} ⟨I.ok,I.os,I.bare,⟨λb o e n hb hx=>?_,λb o e n hb hx=>?_,I.base.free,λb o e hx=>?_,I.base.tups,I.base.frzs,I.base.tbls⟩,⟨m,hn.sameBut hs (Wl (cne x c hc)),λj y v' e1 e2 e3=>?_⟩,λy c' e=>?_,I.free,I.freeC,λp hp=>?_,tracked ⟨oc,hoc,I.freeC x c hc⟩ hs,by simpa using I.len⟩ ⟨c,hs,.inr hc⟩
  ·exact(hs.2 b (A0 (A2 (Ar e) (I.ok.cab x c hfn hc)))).trans (I.base.keep b o e n hb hx)
  ·obtain⟨sl,e1⟩:=I.base.slot b o e n hb hx
   exact⟨sl,(hs.2 b (A0 (A2 (Ar e) (I.ok.cab x c hfn hc)))).trans e1⟩
  ·obtain⟨o',e1⟩:=I.base.there b o e hx
   exact⟨o',(hs.2 b (A0 (A2 (Ar e) (I.ok.cab x c hfn hc)))).trans e1⟩
  ·by_cases hj:j=i
   ·subst hj
    rw[hi]at e1;cases e1
    rw[Ws hiσ]at e2
    cases e2
    exact⟨u,r,.inr ⟨.inl hk,c,hc,hc'⟩⟩
   ·rw[Wz (Wl hj)]at e2
    obtain⟨u',r',q⟩:=hl j y v' e1 e2 e3
    refine⟨u',r',?_⟩
    rcases q with q|⟨k,c',e,z'⟩
    ·exact .inl q
    ·refine .inr ⟨k,c',e,z'.sameBut hs ?_⟩
     rintro rfl
     exact hj (jke hN e1 (I.ok.inj _ _ _ e hc▸hi))
  ·by_cases hcc:c'=c
   ·subst hcc;exact⟨_,hc'⟩
   ·obtain⟨w2,z2⟩:=I.cell y c' e
    exact⟨w2,z2.sameBut hs hcc⟩
  ·obtain⟨e,n,ne,nf,d⟩:=I.pin p hp
   refine⟨(hs.2 p.1 ?_).trans e,n,ne,nf,d⟩
   intro q
   rw[q,hoc]at e
   have q':oc=p.2:=Av e
   exact d w' (by rw[<-q'];exact hocd)
theorem jk6{M:Model}{A:Around}{E:Value->Shared->Prop}{i:Nat}{x:Str}{v:V}{u:Value}{Q:Unit->Shared->Prop}(I:Inv X pins σ H s)(hN:X.N.Nodup)(hi:X.N[i]?=some x)(hx:Loc X.env.scope x)(r:RelV v u)
  (h:∀s',Inv X pins (σ.set i (some v)) H s'->Q () s') (hf:X.fn x=true\/X.env.scope.names.lookup x=some .local:=by first|exact .inl rfl|exact .inr rfl|assumption):wpAny M A (storeName X.env x u) Q E s :=
 jfk I hN hi hx r (λs' I' _=>h s' I') hf
theorem Inv.call'{s':Shared}{ch:List Addr}(I:Inv X pins σ H s)(ho:s'.os=s.os)(u:Un (frs X.stack) ch H H' s.heap s'.heap)(hok:HOk X.prog X.w H' s'.heap)(hg:AllBare s'.gens)
  (hch:∀b∈ch,(b∈X.ex\/X.s₀.heap.objs.size<=b)/\b≠X.env.locals/\(∀x c,X.env.cells.lookup x=some c->c≠b)/\∀p∈X.pn++pins,p.1≠b):Inv X pins σ H' s':=by
 obtain⟨h',g',d',t',o'⟩:=s'
 have e:o'=s.os:=ho
 subst e
 exact I.call (g':=g') (t':=t') (d':=d') u hok hg hch
end
abbrev XK:=Value->Option Addr->Hp->Prop
abbrev St:=List (Option V)
abbrev VK:=V->Hp->Prop
abbrev TE:=St->Hp->VK->Prop
abbrev TT:=St->Hp->(Bool->Hp->Prop)->Prop
abbrev TA:=St->Hp->(List V->Hp->Prop)->Prop
structure Ends where
 nx:St->Hp->Prop
 rt:VK
 bk:St->Hp->Prop:=λ_ _=>False
 ct:St->Hp->Prop:=λ_ _=>False
abbrev TS:=Ends->St->Hp->Prop
def EP(X:Cx)(pins:List (Addr×Obj))(σ:St)(Q:VK)(u:Value)(s':Shared):Prop:=∃v H',Inv X pins σ H' s'/\RelV v u/\Q v H'
def TP(X:Cx)(pins:List (Addr×Obj))(σ:St)(Q:Bool->Hp->Prop)(b:Bool)(s':Shared):Prop:=∃H',Inv X pins σ H' s'/\Q b H'
def AP(X:Cx)(pins:List (Addr×Obj))(σ:St)(Q:List V->Hp->Prop)(us:List Value)(s':Shared):Prop:=∃vs H',Inv X pins σ H' s'/\Vals vs us/\Q vs H'
def SP(X:Cx)(pins:List (Addr×Obj))(D:Ends)(f:Flow)(s':Shared):Prop :=
 match f with
 |.next=>∃σ' H',Inv X pins σ' H' s'/\D.nx σ' H'
 |.brk=>∃σ' H',Inv X pins σ' H' s'/\D.bk σ' H'
 |.cont=>∃σ' H',Inv X pins σ' H' s'/\D.ct σ' H'
 |.ret u=>∃v σ' H',Inv X pins σ' H' s'/\RelV v u/\D.rt v H'
def PE(X:Cx)(e:Expr)(t:TE):Prop :=
 ∀(pins:List (Addr×Obj))(s:Shared)(σ:St)(H:Hp)(Q:VK),Inv X pins σ H s->t σ H Q->wpAny (model X.prog X.w) X.A (eval e X.env) (EP X pins σ Q) X.xe s
def PT(X:Cx)(e:Expr)(t:TT):Prop :=
 ∀(pins:List (Addr×Obj))(s:Shared)(σ:St)(H:Hp)(Q:Bool->Hp->Prop),Inv X pins σ H s->t σ H Q->wpAny (model X.prog X.w) X.A (isTrue e X.env (eval e X.env)) (TP X pins σ Q) X.xe s
def PW(X:Cx)(e:Expr)(t:TT):Prop :=
 ∀(whole:Sem Value)(pins:List (Addr×Obj))(s:Shared)(σ:St)(H:Hp)(Q:Bool->Hp->Prop),Inv X pins σ H s->t σ H Q->wpAny (model X.prog X.w) X.A (isTrue e X.env whole) (TP X pins σ Q) X.xe s
theorem PW.pt{X:Cx}{e:Expr}{t:TT}(h:PW X e t):PT X e t:=h _
def PA(X:Cx)(es:List Expr)(t:TA):Prop :=
 ∀(pos:Pos)(pins:List (Addr×Obj))(s:Shared)(σ:St)(H:Hp)(Q:List V->Hp->Prop),Inv X pins σ H s->t σ H Q->wpAny (model X.prog X.w) X.A (spliced (backTo pos (starEach es X.env))) (AP X pins σ Q) X.xe s
def PS(X:Cx)(st:Stmt)(t:TS):Prop :=
 ∀(pins:List (Addr×Obj))(s:Shared)(σ:St)(H:Hp)(D:Ends),Inv X pins σ H s->t D σ H->wpAny (model X.prog X.w) X.A (exec st X.env) (SP X pins D) X.xe s
def PSs(X:Cx)(st:List Stmt)(t:TS):Prop :=
 ∀(pins:List (Addr×Obj))(s:Shared)(σ:St)(H:Hp)(D:Ends),Inv X pins σ H s->t D σ H->wpAny (model X.prog X.w) X.A (execs st X.env) (SP X pins D) X.xe s
theorem thn{α:Type}{t:Sem α}{Q Q':α->Shared->Prop}{M:Model}{A:Around}{E:Value->Shared->Prop}{s:Shared}(h:wpAny M A t Q E s)(hQ:∀a s,Q a s->Q' a s):wpAny M A t Q' E s:=Uj h hQ λ_ _ x=>x
section
variable{X:Cx}
def tVar(i:Nat):TE:=λσ H Q=>∃v,σ[i]?=some (some v)/\Q v H
def tC(v:V):TE:=λ_ H Q=>Q v H
theorem jb9{i:Nat}{x:Str}{pos:Pos}(hN:X.N[i]?=some x)(hv:Vis X.env.scope x)(hd:(x == ("__debug__":Str))=false:=by decide)(hcd:(x == ("__classdict__":Str))=false:=by decide):PE X (.Name x pos) (tVar i):=by
 intro pins s σ H Q I h
 obtain⟨v,e,h⟩:=h
 obtain⟨m,hn,hl⟩:=I.loc
 obtain⟨u,r,l⟩:=hl i x v hN e hv
 have fin:EP X pins σ Q u s:=⟨v,H,I,r,h⟩
 rcases l with⟨hk,hm⟩|⟨hk,c,hc,hcell⟩
 ·exact wpAny_Name (wpAny_loadName_local I.ok.kind hk hn hm fin) hd
 ·rcases hk with hk|hk
  ·exact wpAny_Name (wpAny_loadName_cell I.ok.kind hk hc hcell fin) hd
  ·exact wpAny_Name (wpAny_loadName_free I.ok.kind hk hc hcell fin hcd) hd
theorem pe_int{i j pos}:PE X (.Constant (.int i) j pos) (tC (.int i)):=λ_ _ _ H _ I h=>wpAny_Constant_int ⟨.int i,H,I.tok _,⟨_,rfl⟩,h⟩
theorem pe_bl{b j pos}:PE X (.Constant (.bool b) j pos) (tC (.bl b)):=λ_ _ _ H _ I h=>Constant_bool ⟨.bl b,H,I,rfl,h⟩
theorem pe_str{x j pos}:PE X (.Constant (.str x) j pos) (tC (.str x)):=λ_ _ _ H _ I h=>Calls.Constant_str ⟨.str x,H,I.tok _,⟨_,rfl⟩,h⟩
def Gl(X:Cx)(x:Str):Prop:=X.env.kindOf x=some .globalImplicit
theorem jl9{E:Value->Shared->Prop}{pins:List (Addr×Obj)}{s:Shared}{σ:St}{H:Hp}{x:Str}{u:Value}{pos:Pos}{Q:Value->Shared->Prop}(I:Inv X pins σ H s)(hg:Gl X x)(hm:X.mg x=some u)(h:Q u s)
  (hd:(x == ("__debug__":Str))=false:=by decide):wpAny (model X.prog X.w) X.A (eval (.Name x pos) X.env) Q E s :=
 Calls.Name_function_global I.ok.kind hg (Calls.loadGlobal_global (by rw[I.ok.glob];exact I.mod.glob.keeps I.bk) hm h) hd
theorem jdd{E:Value->Shared->Prop}{pins:List (Addr×Obj)}{s:Shared}{σ:St}{H:Hp}{x:Str}{u:Value}{pos:Pos}{Q:Value->Shared->Prop}(I:Inv X pins σ H s)(hg:Gl X x)(hm:X.mg x=none)(hv:bootBuiltins x=some u)(h:Q u s)
  (hn:x≠"__name__":=by decide) (hd:(x == ("__debug__":Str))=false:=by decide):wpAny (model X.prog X.w) X.A (eval (.Name x pos) X.env) Q E s:=by
 obtain⟨mb,h1,h2⟩:=I.mod.blt
 exact Calls.Name_function_global I.ok.kind hg (Calls.loadGlobal_builtin (by rw[I.ok.glob];exact I.mod.glob.keeps I.bk) hm (by rw[I.ok.blt];exact h1.keeps I.bk) ((h2 x hn).trans hv) h) hd
theorem pe_bltn{x:Str}{v:V}{u:Value}{pos:Pos}(hg:Gl X x)(hm:X.mg x=none)(hv:bootBuiltins x=some u)(r:RelV v u)(hn:x≠"__name__":=by decide)(hd:(x == ("__debug__":Str))=false:=by decide):PE X (.Name x pos) (tC v) :=
 λ_ _ _ H _ I h=>jdd I hg hm hv ⟨v,H,I,r,h⟩ hn hd
variable{a b:Expr}{ta tb:TE}{pos:Pos}
def PC(X:Cx)(op:CmpOp)(a b:Expr)(t:TE):Prop :=
 ∀(pins:List (Addr×Obj))(s:Shared)(σ:St)(H:Hp)(Q:VK),Inv X pins σ H s->t σ H Q ->
  wpAny (model X.prog X.w) X.A (eval a X.env) (λv s₁=>wpAny (model X.prog X.w) X.A (eval b X.env) (λu s₂=>wpAny (model X.prog X.w) X.A (compareOp op v u) (EP X pins σ Q) X.xe s₂) X.xe s₁) X.xe s
def tB(t:TE):TT:=λσ H Q=>t σ H λx H1=>∃c,x=.bl c/\Q c H1
theorem pt_cmp{op:CmpOp}{t:TE}(h:PC X op a b t)(h1:behindInMarks op b=false:=by first|exact nobehind _ (by decide) (by decide)|rfl):PT X (.Compare a [op] [b] pos) (tB t):=by
 intro pins s σ H Q I hw
 refine wpAny_isTrue_Compare1 (thn (h pins s σ H _ I hw) λv s1 h1=>thn h1 λu s2 h2=>thn h2 λc s3 ⟨x,H1,I1,r1,q1⟩=>?_) h1
 obtain⟨d,rfl,q⟩:=q1
 cases r1
 exact Us ⟨H1,I1,q⟩
theorem pt_val{e:Expr}{t:TE}(h:PE X e t)(he:∀whole,isTrue e X.env whole=(do let v <-whole;standAt e.pos;holding [v] (truthy v)):=by intro _;rfl):PT X e (tB t):=by
 intro pins s σ H Q I hw
 refine isTrue_plain (thn (h pins s σ H _ I hw) λv s1 ⟨x,H1,I1,r1,q1⟩=>?_) (he _)
 obtain⟨d,rfl,q⟩:=q1
 cases r1
 exact Us ⟨H1,I1,q⟩
variable{tA tB':TT}{rest:List Expr}
def tAnd(t u:TT):TT:=λσ H Q=>t σ H λc H1=>if c=true then u σ H1 Q else Q false H1
def tOr(t u:TT):TT:=λσ H Q=>t σ H λc H1=>if c=true then Q true H1 else u σ H1 Q
def tNot(t:TT):TT:=λσ H Q=>t σ H λc H1=>Q (!c) H1
theorem pw_and1(ha:PT X a tA):PW X (.BoolOp .And [a] pos) tA:=by
 intro wh pins s σ H Q I h
 refine isTrue_and (thn (ha pins s σ H Q I h) λc s1 e=>?_)
 cases c with
 |true=>exact isTrue_and_nil e
 |false=>exact e
theorem pw_or1(ha:PT X a tA):PW X (.BoolOp .Or [a] pos) tA:=by
 intro wh pins s σ H Q I h
 refine isTrue_or (thn (ha pins s σ H Q I h) λc s1 e=>?_)
 cases c with
 |false=>exact isTrue_or_nil e
 |true=>exact e
theorem pw_and(ha:PT X a tA)(hb:PW X (.BoolOp .And (b::rest) pos) tB'):PW X (.BoolOp .And (a::b::rest) pos) (tAnd tA tB'):=by
 intro wh pins s σ H Q I h
 refine isTrue_and (thn (ha pins s σ H _ I h) λc s1 ⟨H1,I1,q1⟩=>?_)
 cases c with
 |true=>exact hb wh pins s1 σ H1 Q I1 q1
 |false=>exact⟨H1,I1,q1⟩
theorem pw_or(ha:PT X a tA)(hb:PW X (.BoolOp .Or (b::rest) pos) tB'):PW X (.BoolOp .Or (a::b::rest) pos) (tOr tA tB'):=by
 intro wh pins s σ H Q I h
 refine isTrue_or (thn (ha pins s σ H _ I h) λc s1 ⟨H1,I1,q1⟩=>?_)
 cases c with
 |true=>exact⟨H1,I1,q1⟩
 |false=>exact hb wh pins s1 σ H1 Q I1 q1
theorem pt_not(ha:PT X a tA):PT X (.UnaryOp .Not a pos) (tNot tA):=by
 intro pins s σ H Q I h
 exact isTrue_not (ha pins s σ H (λc H1=>Q (!c) H1) I h)
def jjk(ta tb:TE):TE:=λσ H Q=>ta σ H λx H1=>∃c,x=.bl c/\if c=true then tb σ H1 Q else Q (.bl false) H1
def jjq(ta:TE):TE:=λσ H Q=>ta σ H λx H1=>∃c,x=.bl c/\Q (.bl (!c)) H1
theorem pe_one{op}{t:TE}(h:PE X a t):PE X (.BoolOp op [a] pos) t:=λpins s σ H Q I hw=>BoolOp_one (h pins s σ H Q I hw)
theorem pe_and(ha:PE X a ta)(hb:PE X (.BoolOp .And (b::rest) pos) tb):PE X (.BoolOp .And (a::b::rest) pos) (jjk ta tb):=by
 intro pins s σ H Q I h
 refine BoolOp_and (thn (ha pins s σ H _ I h) λv s1 ⟨x,H1,I1,r1,q1⟩=>?_)
 obtain⟨c,rfl,q1⟩:=q1
 cases r1
 refine Us ?_
 cases c with
 |true=>exact hb pins s1 σ H1 Q I1 q1
 |false=>exact⟨.bl false,H1,I1,rfl,q1⟩
theorem pe_not(ha:PE X a ta):PE X (.UnaryOp .Not a pos) (jjq ta):=by
 intro pins s σ H Q I h
 refine UnaryOp_ (thn (ha pins s σ H _ I h) λv s1 ⟨x,H1,I1,r1,q1⟩=>?_)
 obtain⟨c,rfl,q1⟩:=q1
 cases r1
 exact not_of (Us ⟨.bl (!c),H1,I1,rfl,q1⟩)
end
def SqL(K:PySem.W.Frag)(H:Hp)(a:Addr)(xs:List V):Prop :=
 Rd H a (.lst xs) \/
  ∃(o:Obj)(its:Array Value)(n:Nat),K.lookup a=some o/\o.cls=.type "list"/\o.dict=none/\o.data=.seq its n/\its.size<=sizeLine/\Vals xs its.toList
def SqT(K:PySem.W.Frag)(H:Hp)(a:Addr)(xs:List V):Prop :=
 Rd H a (.tup xs) \/
  ∃(o:Obj)(its:Array Value)(n:Nat),K.lookup a=some o/\o.cls=.type "tuple"/\o.data=.seq its n/\its.size<=sizeLine/\Vals xs its.toList
def absV:Value->Option V
 |.none=>some .non
 |.bool b=>some (.bl b)
 |.int i _=>some (.int i)
 |.str x _=>some (.str x)
 |.bytes b _=>some (.byt b)
 |.float b _=>some (.flt b)
 |.ref a=>some (.ref a)
 |.type n=>some (.ty n)
 |_=>none
theorem RelV.abs{x:V}{u:Value}(r:RelV x u):absV u=some x:=by
 cases x with
 |non=>cases r;rfl
 |bl _=>cases r;rfl
 |int _=>obtain⟨t,rfl⟩:=r;rfl
 |str _=>obtain⟨t,rfl⟩:=r;rfl
 |byt _=>obtain⟨t,rfl⟩:=r;rfl
 |flt _=>obtain⟨t,rfl⟩:=r;rfl
 |ref _=>cases r;rfl
 |ty _=>cases r;rfl
theorem RelV.inj{x y:V}{u:Value}(r:RelV x u)(q:RelV y u):x=y:=Av (r.abs.symm.trans q.abs)
theorem Vals.inj:∀{xs ys:List V}{us:List Value},Vals xs us->Vals ys us->xs=ys
 |_,_,_,.nil,.nil=>rfl
 |_,_,_,.cons r t,.cons r' t'=>by rw[r.inj r',Vals.inj t t']
section
variable{X:Cx}{pins:List (Addr×Obj)}{σ:St}{H:Hp}{s:Shared}{a:Addr}{xs ys:List V}
theorem SqL.of{K:PySem.W.Frag}(h:H a=some (.lst xs)):SqL K H a xs:=.inl (.inl h)
theorem SqT.of{K:PySem.W.Frag}(h:H a=some (.tup xs)):SqT K H a xs:=.inl (.inl h)
theorem Inv.list(I:Inv X pins σ H s)(h:SqL X.K H a xs):∃its:List Value,Vals xs its/\PlainL s.heap a its.toArray/\xs.length<=sizeLine:=by
 rcases h with h|⟨o,its,n,hk,hc,hd,hs,hz,r⟩
 ·obtain⟨z,its,n,r,e⟩:=h.ok I.hok
  exact⟨its,r,⟨_,n,e,rfl,rfl,rfl⟩,z⟩
 ·refine⟨its.toList,r,⟨o,n,I.kIn a o hk,hc,hd,by simpa using hs⟩,?_⟩
  have e:=r.length
  simp only[Array.length_toList]at e
  omega
theorem Inv.tuple(I:Inv X pins σ H s)(h:SqT X.K H a xs):∃its:List Value,Vals xs its/\IsTup s.heap a its.toArray/\xs.length<=sizeLine:=by
 rcases h with h|⟨o,its,n,hk,hc,hs,hz,r⟩
 ·obtain⟨z,its,r,p⟩:=h.ok I.hok
  exact⟨its,r,p,z⟩
 ·refine⟨its.toList,r,⟨o,I.kIn a o hk,hc,n,by simpa using hs⟩,?_⟩
  have e:=r.length
  simp only[Array.length_toList]at e
  omega
theorem Inv.list_inj(I:Inv X pins σ H s)(h:SqL X.K H a xs)(h':SqL X.K H a ys):xs=ys:=by
 obtain⟨its,r,⟨o,n,e,_,_,d⟩,_⟩:=I.list h
 obtain⟨its',r',⟨o',n',e',_,_,d'⟩,_⟩:=I.list h'
 rw[e]at e';cases e'
 rw[d]at d'
 injection d' with d1 _
 have:its=its':=by simpa using O4 Array.toList d1
 subst this
 exact r.inj r'
theorem Inv.tuple_inj(I:Inv X pins σ H s)(h:SqT X.K H a xs)(h':SqT X.K H a ys):xs=ys:=by
 obtain⟨its,r,⟨o,e,_,n,d⟩,_⟩:=I.tuple h
 obtain⟨its',r',⟨o',e',_,n',d'⟩,_⟩:=I.tuple h'
 rw[e]at e';cases e'
 rw[d]at d'
 injection d' with d1 _
 have:its=its':=by simpa using O4 Array.toList d1
 subst this
 exact r.inj r'
end
abbrev Cx.wish(X:Cx)(E:Value->Shared->Prop):Cx:={X with xe:=E}
abbrev Cx.nox(X:Cx):Cx:=X.wish λ_ _=>False
theorem Cx.Ok.wish{X:Cx}(ok:X.Ok)(E:Value->Shared->Prop):(X.wish E).Ok :=
 ⟨ok.mod,ok.kind,ok.glob,ok.blt,ok.above,ok.inj,ok.has,ok.cab,ok.hd,ok.frames,ok.stk,ok.exf,ok.bs,ok.bsz,ok.noex,ok.exfs,ok.funs,ok.frf⟩
theorem Cx.Ok.unwish{X:Cx}{E:Value->Shared->Prop}(ok:(X.wish E).Ok):X.Ok :=
 ⟨ok.mod,ok.kind,ok.glob,ok.blt,ok.above,ok.inj,ok.has,ok.cab,ok.hd,ok.frames,ok.stk,ok.exf,ok.bs,ok.bsz,ok.noex,ok.exfs,ok.funs,ok.frf⟩
section
variable{X:Cx}{pins:List (Addr×Obj)}{σ:St}{H:Hp}{s:Shared}{E:Value->Shared->Prop}
theorem Inv.wish(I:Inv X pins σ H s)(E:Value->Shared->Prop):Inv (X.wish E) pins σ H s:=⟨I.ok.wish E,I.os,I.bare,I.base,I.loc,I.cell,I.free,I.freeC,I.pin,I.hok,I.len⟩
theorem Inv.unwish(I:Inv (X.wish E) pins σ H s):Inv X pins σ H s:=⟨I.ok.unwish,I.os,I.bare,I.base,I.loc,I.cell,I.free,I.freeC,I.pin,I.hok,I.len⟩
theorem SP.unwish{D:Ends}{f:Flow}{s':Shared}(h:SP (X.wish E) pins D f s'):SP X pins D f s':=by
 cases f with
 |next=>obtain⟨σ',H',I,q⟩:=h;exact⟨σ',H',I.unwish,q⟩
 |brk=>obtain⟨σ',H',I,q⟩:=h;exact⟨σ',H',I.unwish,q⟩
 |cont=>obtain⟨σ',H',I,q⟩:=h;exact⟨σ',H',I.unwish,q⟩
 |ret u=>obtain⟨v,σ',H',I,r,q⟩:=h;exact⟨v,σ',H',I.unwish,r,q⟩
theorem PSs.nox{st:List Stmt}{t:TS}(h:PSs X.nox st t):PSs X st t:=λpins s σ H D I hw =>
 Uj (h pins s σ H D (I.wish _) hw) (λ_ _ q=>q.unwish) λ_ _ z=>False.elim z
end
section
variable{X:Cx}{st:Stmt}{rest:List Stmt}{t u:TS}{e:Expr}{te:TE}{pos:Pos}
def jjp:TS:=λD σ H=>D.nx σ H
def tSeq(t u:TS):TS:=λD σ H=>t {D with nx:=u D} σ H
theorem pss_nil:PSs X [] jjp:=λ_ _ σ H _ I h=>Ys ⟨σ,H,I,h⟩
theorem pss_cons(h1:PS X st t)(h2:PSs X rest u):PSs X (st::rest) (tSeq t u):=by
 intro pins s σ H D I h
 refine wpAny_execs_cons (thn (h1 pins s σ H {D with nx:=u D} I h) λf s1 q=>?_)
 cases f with
 |next =>
  obtain⟨σ',H',I',q⟩:=q
  exact h2 pins s1 σ' H' D I' q
 |ret v=>exact q
 |brk=>exact q
 |cont=>exact q
theorem pss_one(h1:PS X st t):PSs X [st] t:=by
 intro pins s σ H D I h
 refine wpAny_execs_cons (thn (h1 pins s σ H D I h) λf s1 q=>?_)
 cases f with
 |next=>exact Ys q
 |ret v=>exact q
 |brk=>exact q
 |cont=>exact q
theorem Inv.quiet{pins:List (Addr×Obj)}{σ:St}{H:Hp}{s:Shared}(I:Inv X pins σ H s):interactive X.env=false:=by simp[interactive,I.ok.kind]
def jjo(te:TE):TS:=λD σ H=>te σ H λ_ H1=>D.nx σ H1
theorem ps_expr(he:PE X e te)(hs:swapsWith e none pos.line X.env=pure false:=by rfl):PS X (.Expr e pos) (jjo te):=by
 intro pins s σ H D I h
 exact wpAny_Expr_any (thn (he pins s σ H _ I h) λv s1 ⟨x,H1,I1,r1,q1⟩=>⟨σ,H1,I1,q1⟩) I.quiet hs
def tRet(te:TE):TS:=λD σ H=>te σ H D.rt
theorem ps_ret(he:PE X e te):PS X (.Return (some e) pos) (tRet te):=by
 intro pins s σ H D I h
 exact wpAny_Return_some (thn (he pins s σ H _ I h) λv s1 ⟨x,H1,I1,r1,q1⟩=>⟨x,σ,H1,I1,r1,q1⟩)
def tIfS(c:TT)(t u:TS):TS:=λD σ H=>c σ H λb H1=>if b=true then t D σ H1 else u D σ H1
theorem ps_if{c:Expr}{a b:List Stmt}{tc:TT}(hc:PT X c tc)(ha:PSs X a t)(hb:PSs X b u):PS X (.If c a b pos) (tIfS tc t u):=by
 intro pins s σ H D I h
 refine wpAny_If (thn (hc pins s σ H _ I h) λd s1 ⟨H1,I1,q1⟩=>?_)
 cases d with
 |true=>exact ha pins s1 σ H1 D I1 q1
 |false=>exact hb pins s1 σ H1 D I1 q1
def jox:TS:=λ_ _ _=>False
theorem ps_never:PS X st jox:=λ_ _ _ _ _ _ h=>h.elim
end
abbrev TG:=V->St->Hp->(St->Hp->Prop)->Prop
abbrev TGs:=List V->St->Hp->(St->Hp->Prop)->Prop
def PG(X:Cx)(target:Expr)(t:TG):Prop :=
 ∀(pins:List (Addr×Obj))(s:Shared)(σ:St)(H:Hp)(v:V)(u:Value)(Q:St->Hp->Prop),Inv X pins σ H s->RelV v u->t v σ H Q ->
  wpAny (model X.prog X.w) X.A (assign target X.env u) (λ_ s'=>∃σ' H',Inv X pins σ' H' s'/\Q σ' H') X.xe s
def PGs(X:Cx)(ts:List Expr)(t:TGs):Prop :=
 ∀(pins:List (Addr×Obj))(s:Shared)(σ:St)(H:Hp)(vs:List V)(us:List Value)(Q:St->Hp->Prop),Inv X pins σ H s->Vals vs us->t vs σ H Q ->
  wpAny (model X.prog X.w) X.A (assignInOrder ((assignEach ts X.env).map (·.2)) us) (λ_ s'=>∃σ' H',Inv X pins σ' H' s'/\Q σ' H') X.xe s
abbrev TSet:=V->V->V->Hp->(Hp->Prop)->Prop
def PSet(X:Cx)(t:TSet):Prop :=
 ∀(pins:List (Addr×Obj))(s:Shared)(σ:St)(H:Hp)(o i v:V)(ov iv u:Value)(Q:Hp->Prop),Inv X pins σ H s->RelV o ov->RelV i iv->RelV v u->t o i v H Q ->
  wpAny (model X.prog X.w) X.A (setItem ov iv u) (λ_ s'=>∃H',Inv X pins σ H' s'/\Q H') X.xe s
section
variable{X:Cx}{pos:Pos}
def jcz(i:Nat):TG:=λv σ H Q=>Q (σ.set i (some v)) H
theorem pg_name{i:Nat}{x:Str}(hN:X.N.Nodup)(hi:X.N[i]?=some x)(hx:Loc X.env.scope x)(hf:X.fn x=true\/X.env.scope.names.lookup x=some .local:=by first|exact .inl rfl|exact .inr rfl|assumption):PG X (.Name x pos) (jcz i):=by
 intro pins s σ H v u Q I r h
 exact wpAny_assign_Name (jk6 I hN hi hx r (λs' I'=>⟨_,H,I',h⟩) hf)
def gNil:TGs:=λvs σ H Q=>vs=[]/\Q σ H
def jp0(t:TG)(u:TGs):TGs:=λvs σ H Q=>∃v r,vs=v::r/\t v σ H λσ' H'=>u r σ' H' Q
theorem pgs_nil:PGs X [] gNil:=by
 intro pins s σ H vs us Q I r h
 obtain⟨e,h⟩:=h
 subst e
 cases r
 exact assignInOrder_nil ⟨σ,H,I,h⟩
theorem pgs_cons{e:Expr}{es:List Expr}{t:TG}{u:TGs}(h1:PG X e t)(h2:PGs X es u)
  (hs:(assignEach (e::es) X.env).map (·.2)=assign e X.env::(assignEach es X.env).map (·.2):=by rfl):PGs X (e::es) (jp0 t u):=by
 intro pins s σ H vs us Q I r h
 obtain⟨v,vr,e1,h⟩:=h
 subst e1
 cases r with
 |cons r rr =>
  rw[hs]
  refine assignInOrder_cons (thn (h1 pins s σ H _ _ _ I r h) λ_ s1 ⟨σ1,H1,I1,q1⟩=>?_)
  exact h2 pins s1 σ1 H1 _ _ Q I1 rr q1
def gTup(K:PySem.W.Frag)(n:Nat)(t:TGs):TG:=λv σ H Q=>∃a xs,v=.ref a/\SqT K H a xs/\xs.length=n/\t xs σ H Q
theorem pg_tup{es:List Expr}{k:Nat}{t:TGs}{n:Nat}(hc:X.calm=true)(h:PGs X es t)
  (hn:(assignEach es X.env).length=n:=by rfl) (hst:(assignEach es X.env).findIdx? (·.1)=none:=by rfl):PG X (.Tuple es k pos) (gTup X.K n t):=by
 intro pins s σ H v u Q I r hw
 obtain⟨a,xs,e1,hq,hl,hw⟩:=hw
 subst e1
 cases r
 obtain⟨its,rv,ht,hz⟩:=I.tuple hq
 refine assign_Tuple_tuple (I.ok.hd hc) ht (by simp[hn,<-hl,rv.length]) hst λh' hx=>?_
 have I1:Inv X pins σ H {s with heap:=h'}:=I.kept (t':=s.toks) λb o e=>hx b o (A0 (Ar e)) e
 exact h pins _ σ H xs _ Q I1 (by simpa using rv) hw
def gSub(to ti:TE)(t:TSet):TG:=λv σ H Q=>to σ H λo H1=>ti σ H1 λi H2=>t o i v H2 λH3=>Q σ H3
theorem pg_sub{o i:Expr}{to ti:TE}{t:TSet}(ho:PE X o to)(hi:PE X i ti)(hs:PSet X t)
  (ha:∀v,assign (.Subscript o i pos) X.env v=(do
   let ov <-holding [v] (eval o X.env)
   let iv <-holding [v,ov] (eval i X.env)
   standAt pos
   holding [v,ov,iv] (setItem ov iv v)
   release [v,ov,iv] []):=by intro _;rfl):PG X (.Subscript o i pos) (gSub to ti t):=by
 intro pins s σ H v u Q I r h
 rw[ha]
 refine Ab (Ou (thn (ho pins s σ H _ I h) λov s1 ⟨x,H1,I1,r1,q1⟩=>?_))
 refine Ab (Ou (thn (hi pins s1 σ H1 _ I1 q1) λiv s2 ⟨y,H2,I2,r2,q2⟩=>?_))
 refine Ab (Yn (Ab (Ou (thn (hs pins s2 σ H2 x y v ov iv u _ I2 r1 r2 r q2) λ_ s3 ⟨H3,I3,q3⟩=>?_))))
 exact wpAny_release ⟨σ,H3,I3,q3⟩
def tAsg(te:TE)(g:TG):TS:=λD σ H=>te σ H λx H1=>g x σ H1 D.nx
theorem ps_asg{tg e:Expr}{te:TE}{g:TG}(he:PE X e te)(hg:PG X tg g)(hs:swapsWithSole [tg] e pos.line X.env=pure false:=by rfl)(hw:swappedStores [tg] e X.env=pure none:=by rfl)
  (h1:(assignEach [tg] X.env).map (·.2)=[assign tg X.env]:=by rfl):PS X (.Assign [tg] e pos) (tAsg te g):=by
 intro pins s σ H D I h
 refine wpAny_Assign_stores (thn (he pins s σ H _ I h) λv s1 ⟨x,H1,I1,r1,q1⟩=>?_) hs hw
 rw[h1]
 exact thn (hg pins s1 σ H1 x v _ I1 r1 q1) λ_ s2 q=>q
theorem ps_set{i:Nat}{x:Str}{e:Expr}{te:TE}{pos':Pos}(hN:X.N.Nodup)(hi:X.N[i]?=some x)(hx:Loc X.env.scope x)(he:PE X e te)(hs:swapsWith e (some (.Name x pos')) pos.line X.env=pure false:=by rfl)(hf:X.fn x=true\/X.env.scope.names.lookup x=some .local:=by first|exact .inl rfl|exact .inr rfl|assumption) :
  PS X (.Assign [.Name x pos'] e pos) (tAsg te (jcz i)):=by
 intro pins s σ H D I h
 refine wpAny_Assign_Name (thn (he pins s σ H _ I h) λv s1 ⟨y,H1,I1,r1,q1⟩=>?_) hs
 exact jk6 I1 hN hi hx r1 (λs2 I2=>⟨_,H1,I2,q1⟩) hf
def joy(c:TT)(tb:TS):TS:=λD σ H=>∃W:Nat->St->Hp->Prop,(∃m,W m σ H)/\∀m σ H,W m σ H ->
 c σ H λb H1=>if b=true then ∃N:St->Hp->Prop,(∀σ' H',N σ' H'->∃m',m'<m/\W m' σ' H')/\tb {D with nx:=N,ct:=N,bk:=D.nx} σ H1 else D.nx σ H1
theorem ps_while{c:Expr}{body:List Stmt}{tc:TT}{tb:TS}(hp:PassesOwn (model X.prog X.w) X.A X.env X.xe)(hc:PT X c tc)(hb:PSs X body tb):PS X (.While c body [] pos) (joy tc tb):=by
 intro pins s σ H D I h
 obtain⟨W,⟨m0,w0⟩,turn⟩:=h
 refine wpAny_While (codeAny_whileLoop (λn s'=>∃σ' H',Inv X pins σ' H' s'/\W n σ' H') ?_ m0 ⟨σ,H,I,w0⟩)
 rintro n s1 ⟨σ1,H1,I1,w1⟩
 refine U2 hp (thn (hc pins s1 σ1 H1 _ I1 (turn n σ1 H1 w1)) λb s2 ⟨H2,I2,q2⟩=>?_)
 cases b with
 |true =>
  obtain⟨N,hN,q2⟩:=q2
  rw[Ao rfl]
  refine U2 hp (thn (hb pins s2 σ1 H2 _ I2 q2) λf s3 q3=>?_)
  cases f with
  |next =>
   obtain⟨σ3,H3,I3,n3⟩:=q3
   obtain⟨m',hm,w3⟩:=hN σ3 H3 n3
   exact⟨m',hm,σ3,H3,I3,w3⟩
  |cont =>
   obtain⟨σ3,H3,I3,n3⟩:=q3
   obtain⟨m',hm,w3⟩:=hN σ3 H3 n3
   exact⟨m',hm,σ3,H3,I3,w3⟩
  |brk=>exact q3
  |ret v=>exact q3
 |false =>
  rw[An A4]
  exact Ys ⟨σ1,H2,I2,q2⟩
end
structure It where
 go:Nat->Hp->Prop
 yld:Nat->Hp->V->Hp->Prop
 stop:Nat->Hp->Prop
def FpOk(X:Cx)(pins:List (Addr×Obj))(H:Hp)(b:Addr):Prop :=
 H b=none/\b≠X.env.locals/\b∉X.fs/\(b∈X.ex\/X.s₀.heap.objs.size<=b)/\(∀x c,X.env.cells.lookup x=some c->c≠b)/\∀p∈X.pn++pins,p.1≠b
theorem Inv.fpOk{X:Cx}{pins:List (Addr×Obj)}{σ:St}{H H':Hp}{s:Shared}{b:Addr}(I:Inv X pins σ H s)(hb:s.heap.objs.size<=b)(hn:H' b=none):FpOk X pins H' b:=by
 refine⟨hn,Uo (A2 I.lt hb),I.nofs hb,.inr (Iv I.sz hb),λx c e z=>?_,λp hp z=>?_⟩
 ·obtain⟨v,q⟩:=I.cell x c e
  exact absurd (A2 q.lt (by rw[z];exact hb)) (Wk _)
 ·exact absurd (A2 (Ar (I.pin p hp).1) (by rw[z];exact hb)) (Wk _)
structure Turn(P:Program)(w:World)(K:PySem.W.Frag)(tg:Expr)(J:It)(fp:List Addr)(it:Addr)(tn:Nat->Heap->Prop):Prop where
 mem:it∈fp
 obj:∀i h,tn i h->∀b∈fp,∃o,h.get? b=some o/\∀v,o.data≠.cell v
 keep:∀i h h',tn i h->(∀b∈fp,∀o,h.get? b=some o->h'.get? b=some o)->tn i h'
 item:∀(X:Cx),X.prog=P->X.w=w->X.K=K->X.calm=true->∀(i:Nat)(pins:List (Addr×Obj))(s:Shared)(σ:St)(H:Hp)(E:Value->Shared->Prop),Inv X pins σ H s->(∀b∈fp,FpOk X pins H b)->tn i s.heap->J.go i H ->
  wpAny (model P w) X.A (pyNext (.ref it)) (λr s1=>∃u,r=some u /\
   wpAny (model P w) X.A (letOwnedTupleGo tg (.ref it) u) (λ_ s2=>∃x H',Inv X pins σ H' s2/\RelV x u/\J.yld i H x H'/\tn (i+1) s2.heap/\∀b∈fp,H' b=none) E s1) E s
 done:∀(X:Cx),X.prog=P->X.w=w->X.K=K->X.calm=true->∀(i:Nat)(pins:List (Addr×Obj))(s:Shared)(σ:St)(H:Hp)(E:Value->Shared->Prop),Inv X pins σ H s->(∀b∈fp,FpOk X pins H b)->tn i s.heap->J.stop i H ->
  wpAny (model P w) X.A (pyNext (.ref it)) (λr s1=>r=none/\Inv X pins σ H s1) E s
 self:∀(A:Around)(i:Nat)(s:Shared)(Q:Value->Shared->Prop)(E:Value->Shared->Prop),tn i s.heap->Q (.ref it) s->wpAny (model P w) A (pyIter (.ref it)) Q E s
abbrev TI:=St->Hp->(It->Hp->Prop)->Prop
def PIE(X:Cx)(pins:List (Addr×Obj))(σ:St)(tg:Expr)(R:It->Hp->Prop)(itv:Value)(s2:Shared):Prop :=
 ∃(it:Addr)(fp:List Addr)(tn:Nat->Heap->Prop)(J:It)(H':Hp),itv=.ref it/\Inv X pins σ H' s2/\Turn X.prog X.w X.K tg J fp it tn/\tn 0 s2.heap/\(∀b∈fp,FpOk X pins H' b)/\R J H'
def PI(X:Cx)(tg iter:Expr)(wi:TI):Prop :=
 ∀(pins:List (Addr×Obj))(s:Shared)(σ:St)(H:Hp)(R:It->Hp->Prop),Inv X pins σ H s->wi σ H R ->
  wpAny (model X.prog X.w) X.A (eval iter X.env) (λv s1=>wpAny (model X.prog X.w) X.A (pyIter v) (PIE X pins σ tg R) X.xe s1) X.xe s
theorem jfq{M:Model}{A:Around}{E:Value->Shared->Prop}{s:Shared}{tg:Expr}{it:Addr}{u:Value}{o:Obj}{n:String}{vs:Array Value}{Q:Unit->Shared->Prop}(ho:s.heap.get? it=some o)(hc:o.cls=.type n)(hd:o.data=.fields vs)
  (hn:["enumerate","zip","dict_itemiterator","dict_reverseitemiterator","odict_iterator","itertools.zip_longest","itertools.pairwise"].contains n=false) (hQ:Q () s):wpAny M A (letOwnedTupleGo tg (.ref it) u) Q E s:=by
 unfold letOwnedTupleGo
 cases tg <;> first
  |exact Ah hQ
  |(cases u <;> first
    |exact Ah hQ
    |(refine Ab (wpAny_load ho ?_)
      rw[hc,hd]
      show wpAny M A (if(["enumerate","zip","dict_itemiterator","dict_reverseitemiterator","odict_iterator","itertools.zip_longest","itertools.pairwise"].contains n && vs[0]? == some (rawInt _))=true then _ else _) Q E s
      rw[An (by intro h;rw[hn,Bool.false_and]at h;cases h)]
      exact Ah hQ))
def Itl(K:PySem.W.Frag)(a:Addr):It :=
 ⟨λi H=>∃xs x,SqL K H a xs/\xs[i]?=some x,λi H x H'=>H'=H/\∀xs,SqL K H a xs->xs[i]?=some x,λi H=>∃xs,SqL K H a xs/\xs.length<=i⟩
def Itt(K:PySem.W.Frag)(a:Addr):It :=
 ⟨λi H=>∃xs x,SqT K H a xs/\xs[i]?=some x,λi H x H'=>H'=H/\∀xs,SqT K H a xs->xs[i]?=some x,λi H=>∃xs,SqT K H a xs/\xs.length<=i⟩
def Itr(lo:Int)(n:Nat):It:=⟨λi _=>i<n,λi H x H'=>H'=H/\x=.int (lo+i),λi _=>n<=i⟩
theorem joz{P:Program}{w:World}{K:PySem.W.Frag}{tg:Expr}(a it:Addr):Turn P w K tg (Itl K a) [it] it (λi h=>h.IsListIter it a i) where
 mem:=by simp
 obj:=λi h st b hb=>by
  have e:b=it:=by simpa using hb
  subst e
  obtain⟨o,e,c,d⟩:=st
  exact⟨o,e,λv z=>by rw[d]at z;cases z⟩
 keep:=λi h h' st k=>st.at λo e=>k it (by simp) o e
 item:=by
  intro X hP hw hK hc i pins s σ H E I hf st hg
  subst hP hw hK
  obtain⟨xs,x,hq,hx⟩:=hg
  obtain⟨its,rv,p,hz⟩:=I.list hq
  obtain⟨u,hu,ru⟩:=rv.get hx
  obtain⟨f0,f1,f2,f3,f4,f5⟩:=hf it (by simp)
  refine wpAny_pyNext_list_item st p.isList (x:=u) (by simpa using hu) λh' st' sb=>?_
  have I1:Inv X pins σ H {s with heap:=h'}:=I.turned (t':=s.toks) (λb o hb e=>(sb.2 b hb).trans e) f0 f1 f3 f4 f5
  obtain⟨o,e,c,d⟩:=id st'
  exact⟨u,rfl,jfq (s:={s with heap:=h'}) e c d (by decide) ⟨x,H,I1,ru,⟨rfl,λys hy=>by rw[I.list_inj hy hq];exact hx⟩,st',λb hb=>(hf b hb).1⟩⟩
 done:=by
  intro X hP hw hK hc i pins s σ H E I hf st hg
  subst hP hw hK
  obtain⟨xs,hq,hx⟩:=hg
  obtain⟨its,rv,p,hz⟩:=I.list hq
  obtain⟨f0,f1,f2,f3,f4,f5⟩:=hf it (by simp)
  have hl:=rv.length
  exact wpAny_pyNext_list_end (I.ok.hd hc) st p.isList (by simp;omega) λh' eb=>⟨rfl,I.turned (t':=s.toks) (λb o hb e=>eb b o hb e) f0 f1 f3 f4 f5⟩
 self:=λ_ _ _ _ _ st h=>wpAny_pyIter_listiter st h
theorem jnk{P:Program}{w:World}{K:PySem.W.Frag}{tg:Expr}(a it:Addr):Turn P w K tg (Itt K a) [it] it (λi h=>h.IsTupleIter it a i) where
 mem:=by simp
 obj:=λi h st b hb=>by
  have e:b=it:=by simpa using hb
  subst e
  obtain⟨o,e,c,d⟩:=st
  exact⟨o,e,λv z=>by rw[d]at z;cases z⟩
 keep:=λi h h' st k=>st.at λo e=>k it (by simp) o e
 item:=by
  intro X hP hw hK hc i pins s σ H E I hf st hg
  subst hP hw hK
  obtain⟨xs,x,hq,hx⟩:=hg
  obtain⟨its,rv,p,hz⟩:=I.tuple hq
  obtain⟨u,hu,ru⟩:=rv.get hx
  obtain⟨f0,f1,f2,f3,f4,f5⟩:=hf it (by simp)
  refine wpAny_pyNext_tuple_item st (show s.heap.IsTuple a its.toArray from p) (x:=u) (by simpa using hu) λh' st' sb=>?_
  have I1:Inv X pins σ H {s with heap:=h'}:=I.turned (t':=s.toks) (λb o hb e=>(sb.2 b hb).trans e) f0 f1 f3 f4 f5
  obtain⟨o,e,c,d⟩:=id st'
  exact⟨u,rfl,jfq (s:={s with heap:=h'}) e c d (by decide) ⟨x,H,I1,ru,⟨rfl,λys hy=>by rw[I.tuple_inj hy hq];exact hx⟩,st',λb hb=>(hf b hb).1⟩⟩
 done:=by
  intro X hP hw hK hc i pins s σ H E I hf st hg
  subst hP hw hK
  obtain⟨xs,hq,hx⟩:=hg
  obtain⟨its,rv,p,hz⟩:=I.tuple hq
  obtain⟨f0,f1,f2,f3,f4,f5⟩:=hf it (by simp)
  have hl:=rv.length
  exact wpAny_pyNext_tuple_end (I.ok.hd hc) st (show s.heap.IsTuple a its.toArray from p) (by simp;omega) λh' eb=>⟨rfl,I.turned (t':=s.toks) (λb o hb e=>eb b o hb e) f0 f1 f3 f4 f5⟩
 self:=λ_ _ _ _ _ st h=>wpAny_pyIter_tupleiter st h
theorem jnj{P:Program}{w:World}{K:PySem.W.Frag}{tg:Expr}(it:Addr)(lo:Int)(n:Nat):Turn P w K tg (Itr lo n) [it] it (λi h=>IsRangeIter h it (lo+(i:Nat)*1) ((n:Int)-(i:Nat)) 1) where
 mem:=by simp
 obj:=λi h st b hb=>by
  have e:b=it:=by simpa using hb
  subst e
  exact⟨_,st,λv z=>by
   have z':Data.fields _=Data.cell v:=z
   cases z'⟩
 keep:=λi h h' st k=>k it (by simp) _ st
 item:=by
  intro X hP hw hK hc i pins s σ H E I hf st hg
  subst hP hw hK
  obtain⟨f0,f1,f2,f3,f4,f5⟩:=hf it (by simp)
  have W:=Walks.range (prog:=X.prog) (w:=X.w) (I.ok.hd hc) it lo 1 n
  refine W.item i s _ _ hg st λv h' tk hv st' kk=>?_
  obtain⟨t,rfl⟩:=hv
  have I1:Inv X pins σ H {s with heap:=h',toks:=tk}:=I.turned (λb o hb e=>kk b o (by simpa using hb) e) f0 f1 f3 f4 f5
  refine⟨_,rfl,jfq (s:={s with heap:=h',toks:=tk}) (n:="range_iterator") st' rfl rfl (by decide) ⟨.int (lo+i),H,I1,⟨t,?_⟩,⟨rfl,rfl⟩,st',λb hb=>(hf b hb).1⟩⟩
  rw[Int.mul_one]
 done:=by
  intro X hP hw hK hc i pins s σ H E I hf st hg
  subst hP hw hK
  obtain⟨f0,f1,f2,f3,f4,f5⟩:=hf it (by simp)
  exact wpAny_pyNext_range_end (I.ok.hd hc) st (by have:n<=i:=hg;omega) λh' eb=>⟨rfl,I.turned (t':=s.toks) (λb o hb e=>eb b o hb e) f0 f1 f3 f4 f5⟩
 self:=λ_ _ _ _ _ st h=>wpAny_pyIter_rangeiter st h
section
variable{X:Cx}{tg:Expr}
theorem jpm{pins:List (Addr×Obj)}{σ:St}{H:Hp}{s:Shared}{R:It->Hp->Prop}{E:Value->Shared->Prop}{lo hi:Int}{t u v:Tok}{tk:Nat}(I:Inv X pins σ H s)(h1:-(2^62)<=lo)(h2:lo<2^62)(h3:-(2^62)<=hi)(h4:hi<2^62)
  (q:R (Itr lo (hi-lo).toNat) H):wpAny (model X.prog X.w) X.A (pyIter (.ref s.heap.objs.size)) (PIE X pins σ tg R) E {s with heap:=s.heap.push {cls:=.type "range",data:=.fields #[.int lo t,.int hi u,.int 1 v]},toks:=tk}:=by
 refine wpAny_pyIter_range (IsRange.new ..) (small_one h1 h2 h3 h4) ?_
 have I1:Inv X pins σ H {s with heap:=s.heap.push {cls:=.type "range",data:=.fields #[.int lo t,.int hi u,.int 1 v]},toks:=tk}:=I.kept λb o e=>Ai _ e
 refine⟨(s.heap.push {cls:=.type "range",data:=.fields #[.int lo t,.int hi u,.int 1 v]}).objs.size,[(s.heap.push {cls:=.type "range",data:=.fields #[.int lo t,.int hi u,.int 1 v]}).objs.size],_,_,H,rfl,
  I1.kept (t':=tk) λb o e=>Ai _ e,jnj _ lo (hi-lo).toNat,?_,λb hb=>?_,q⟩
 ·have e1:lo+((0:Nat):Int)*1=lo:=by simp
  have e2:(((hi-lo).toNat:Nat):Int)-((0:Nat):Int)=Builtin.Range.rangeSize lo hi 1:=by rw[rangeSize_one];split <;> omega
  show IsRangeIter _ _ (lo+((0:Nat):Int)*1) ((((hi-lo).toNat:Nat):Int)-((0:Nat):Int)) 1
  rw[e1,e2]
  exact Aw _ rfl
 ·have e:b=(s.heap.push {cls:=.type "range",data:=.fields #[.int lo t,.int hi u,.int 1 v]}).objs.size:=by simpa using hb
  subst e
  exact I1.fpOk (Ak _) (I1.hok.fresh (Ak _))
def jjg(ta:TA):TI:=λσ H R=>ta σ H λvs H1=>∃j:Int,vs=[.int j]/\-(2^62)<=j/\j<2^62/\R (Itr 0 j.toNat) H1
theorem pi_range1{a:Expr}{ta:TA}{p pos:Pos}(hg:Gl X "range")(hm:X.mg "range"=none)(ha:PA X [a] ta)(hs:starEach [a] X.env=[(false,eval a X.env)]:=by rfl):PI X tg (.Call (.Name "range" p) [a] [] pos) (jjg ta):=by
 intro pins s σ H R I h
 refine Call_ (jdd I hg hm boot_range (Oj (thn (ha pos pins s σ H _ I h) λus s1 ⟨vs,H1,I1,r1,q1⟩=>?_) hs rfl))
 obtain⟨j,e,q1,q2,q⟩:=q1
 subst e
 cases r1 with
 |cons r rr =>
  cases rr
  obtain⟨t,rfl⟩:=r
  exact call_range_1 (jpm I1 (by omega) (by omega) q1 q2 (by simpa using q))
def tFor(wi:TI)(g:TG)(tb:TS):TS:=λD σ H=>wi σ H λJ H1=>∃W:Nat->Nat->St->Hp->Prop,(∃m,W 0 m σ H1)/\∀i m σ H,W i m σ H ->
 (J.stop i H/\D.nx σ H)\/(J.go i H/\∃N:St->Hp->Prop,(∀σ' H',N σ' H'->∃m',m'<m/\W (i+1) m' σ' H')/\∀x H',J.yld i H x H'->g x σ H' λσ2 H2=>tb {D with nx:=N,ct:=N,bk:=D.nx} σ2 H2)
def jfc(fp:List Addr)(h:Heap):List (Addr×Obj):=fp.filterMap λb=>(h.get? b).map λo=>(b,o)
theorem jdl{fp:List Addr}{h:Heap}{b:Addr}{o:Obj}(hb:b∈fp)(e:h.get? b=some o):(b,o)∈jfc fp h:=W6.mpr ⟨b,hb,by rw[e];rfl⟩
theorem jol{fp:List Addr}{h:Heap}{p:Addr×Obj}(hp:p∈jfc fp h):p.1∈fp/\h.get? p.1=some p.2:=by
 obtain⟨b,hb,e⟩:=W6.mp hp
 cases q:h.get? b with
 |none=>rw[q]at e;cases e
 |some o =>
  rw[q]at e
  have e':(b,o)=p:=Av e
  subst e'
  exact⟨hb,q⟩
theorem Inv.pinned{pins:List (Addr×Obj)}{σ:St}{H:Hp}{s:Shared}{fp:List Addr}(I:Inv X pins σ H s)(hf:∀b∈fp,FpOk X pins H b)(ho:∀b∈fp,∃o,s.heap.get? b=some o/\∀v,o.data≠.cell v):Inv X (pins++jfc fp s.heap) σ H s :=
 I.pins_of λp hp=>(Au.mp hp).elim (λz=>I.pin p (Ip _ z)) λz=>by
  obtain⟨hb,e⟩:=jol z
  obtain⟨f0,f1,f2,_⟩:=hf p.1 hb
  obtain⟨o,e',d⟩:=ho p.1 hb
  rw[e]at e';cases e'
  exact⟨e,f0,f1,f2,d⟩
theorem Inv.unpinned{pins pl:List (Addr×Obj)}{σ:St}{H:Hp}{s:Shared}(I:Inv X (pins++pl) σ H s):Inv X pins σ H s:=I.pins_of λp hp=>I.pin p (Ip _ (Oi _ hp))
theorem ps_for{iter:Expr}{body:List Stmt}{wi:TI}{g:TG}{tb:TS}{pos:Pos}(hp:PassesOwn (model X.prog X.w) X.A X.env X.xe)(hc:X.calm=true)(hi:PI X tg iter wi)(hg:PG X tg g)(hb:PSs X body tb)
  (hs:∀x,foldedSetIterable iter X.env x=pure x:=by intro _;rfl):PS X (.For tg iter body [] pos) (tFor wi g tb):=by
 intro pins s σ H D I h
 refine wpAny_For (thn (hi pins s σ H _ I h) λv s1 h1=>thn h1 λitv s2 h2=>?_) hs
 obtain⟨it,fp,tn,J,H2,e,I2,T,st2,f2,W,⟨m0,w0⟩,turn⟩:=h2
 subst e
 have stat:∀{H':Hp},(∀b∈fp,H' b=none)->∀b∈fp,FpOk X pins H' b:=λhn b hb=>⟨hn b hb,(f2 b hb).2⟩
 refine codeAny_forLoop_any (λn s'=>∃i σ' H',Inv X pins σ' H' s'/\tn i s'.heap/\(∀b∈fp,H' b=none)/\W i n σ' H') ?_ m0 ⟨0,σ,H2,I2,st2,λb hb=>(f2 b hb).1,w0⟩
 rintro n s3 ⟨i,σ3,H3,I3,st3,fr3,w3⟩
 rcases turn i n σ3 H3 w3 with⟨stop,qn⟩|⟨go,N,hN,step⟩
 ·refine U2 hp (thn (T.done X rfl rfl rfl hc i pins s3 σ3 H3 X.xe I3 (stat fr3) st3 stop) λr s4 ⟨hr,I4⟩=>?_)
  subst hr
  exact Ys ⟨σ3,H3,I4,qn⟩
 ·refine U2 hp (thn (T.item X rfl rfl rfl hc i pins s3 σ3 H3 X.xe I3 (stat fr3) st3 go) λr s4 ⟨u,hr,h4⟩=>?_)
  subst hr
  refine U2 hp (thn h4 λ_ s5 ⟨x,H5,I5,r5,y5,st5,fr5⟩=>?_)
  have I5':=I5.pinned (stat fr5) (T.obj _ _ st5)
  refine U2 hp (thn (hg _ s5 σ3 H5 x u _ I5' r5 (step x H5 y5)) λ_ s6 ⟨σ6,H6,I6,q6⟩=>?_)
  refine U2 hp (thn (hb _ s6 σ6 H6 _ I6 q6) λf s7 q7=>?_)
  have again:∀{σ7:St}{H7:Hp},Inv X (pins++jfc fp s5.heap) σ7 H7 s7->N σ7 H7->∃m,m<n/\∃i σ' H',Inv X pins σ' H' s7/\tn i s7.heap/\(∀b∈fp,H' b=none)/\W i m σ' H':=fun{σ7 H7} I7 n7=>by
   obtain⟨m',hm,w7⟩:=hN σ7 H7 n7
   refine⟨m',hm,i+1,σ7,H7,I7.unpinned,T.keep _ _ _ st5 λb hb o e=>(I7.pin (b,o) (Ip _ (Ip _ (jdl hb e)))).1,λb hb=>?_,w7⟩
   obtain⟨o,e,d⟩:=T.obj _ _ st5 b hb
   exact(I7.pin (b,o) (Ip _ (Ip _ (jdl hb e)))).2.1
  cases f with
  |next=>obtain⟨σ7,H7,I7,n7⟩:=q7;exact again I7 n7
  |cont=>obtain⟨σ7,H7,I7,n7⟩:=q7;exact again I7 n7
  |brk=>obtain⟨σ7,H7,I7,q7⟩:=q7;exact⟨σ7,H7,I7.unpinned,q7⟩
  |ret v=>obtain⟨x7,σ7,H7,I7,r7,q7⟩:=q7;exact⟨x7,σ7,H7,I7.unpinned,r7,q7⟩
end
theorem jpd{K:PySem.W.Frag}{a:Addr}{xs:List V}{g:TG}{tb:TS}{D:Ends}{σ:St}{H:Hp}(Pv:Nat->St->Hp->Prop)(h0:Pv 0 σ H)(hl:∀i σ H,i<=xs.length->Pv i σ H->SqL K H a xs)
  (hs:∀i x σ H,xs[i]?=some x->Pv i σ H->g x σ H λσ2 H2=>tb {D with nx:=Pv (i+1),ct:=Pv (i+1),bk:=D.nx} σ2 H2) (hd:∀σ H,Pv xs.length σ H->D.nx σ H) :
  ∃W:Nat->Nat->St->Hp->Prop,(∃m,W 0 m σ H)/\∀i m σ H,W i m σ H ->
   ((Itl K a).stop i H/\D.nx σ H)\/((Itl K a).go i H/\∃N:St->Hp->Prop,(∀σ' H',N σ' H'->∃m',m'<m/\W (i+1) m' σ' H')/\∀x H',(Itl K a).yld i H x H'->g x σ H' λσ2 H2=>tb {D with nx:=N,ct:=N,bk:=D.nx} σ2 H2):=by
 refine⟨λi m σ H=>m=xs.length-i/\i<=xs.length/\Pv i σ H,⟨xs.length,by simp,Oc _,h0⟩,?_⟩
 rintro i m σ H ⟨rfl,hi,p⟩
 have q:=hl i σ H hi p
 by_cases hlt:i<xs.length
 ·refine .inr ⟨⟨xs,xs[i],q,by simp[hlt]⟩,Pv (i+1),λσ' H' p'=>⟨xs.length-(i+1),by omega,rfl,hlt,p'⟩,λx H' y=>?_⟩
  obtain⟨e,y⟩:=y
  subst e
  exact hs i x σ _ (y xs q) p
 ·have e:i=xs.length:=by omega
  subst e
  exact .inl ⟨⟨xs,q,Ak _⟩,hd σ H p⟩
theorem jqp{K:PySem.W.Frag}{a:Addr}{xs:List V}{g:TG}{tb:TS}{D:Ends}{σ:St}{H:Hp}(Pv:Nat->St->Hp->Prop)(h0:Pv 0 σ H)(hl:∀i σ H,i<=xs.length->Pv i σ H->SqT K H a xs)
  (hs:∀i x σ H,xs[i]?=some x->Pv i σ H->g x σ H λσ2 H2=>tb {D with nx:=Pv (i+1),ct:=Pv (i+1),bk:=D.nx} σ2 H2) (hd:∀σ H,Pv xs.length σ H->D.nx σ H) :
  ∃W:Nat->Nat->St->Hp->Prop,(∃m,W 0 m σ H)/\∀i m σ H,W i m σ H ->
   ((Itt K a).stop i H/\D.nx σ H)\/((Itt K a).go i H/\∃N:St->Hp->Prop,(∀σ' H',N σ' H'->∃m',m'<m/\W (i+1) m' σ' H')/\∀x H',(Itt K a).yld i H x H'->g x σ H' λσ2 H2=>tb {D with nx:=N,ct:=N,bk:=D.nx} σ2 H2):=by
 refine⟨λi m σ H=>m=xs.length-i/\i<=xs.length/\Pv i σ H,⟨xs.length,by simp,Oc _,h0⟩,?_⟩
 rintro i m σ H ⟨rfl,hi,p⟩
 have q:=hl i σ H hi p
 by_cases hlt:i<xs.length
 ·refine .inr ⟨⟨xs,xs[i],q,by simp[hlt]⟩,Pv (i+1),λσ' H' p'=>⟨xs.length-(i+1),by omega,rfl,hlt,p'⟩,λx H' y=>?_⟩
  obtain⟨e,y⟩:=y
  subst e
  exact hs i x σ _ (y xs q) p
 ·have e:i=xs.length:=by omega
  subst e
  exact .inl ⟨⟨xs,q,Ak _⟩,hd σ H p⟩
theorem jn5{lo:Int}{n:Nat}{g:TG}{tb:TS}{D:Ends}{σ:St}{H:Hp}(Pv:Nat->St->Hp->Prop)(h0:Pv 0 σ H)
  (hs:∀i σ H,i<n->Pv i σ H->g (.int (lo+i)) σ H λσ2 H2=>tb {D with nx:=Pv (i+1),ct:=Pv (i+1),bk:=D.nx} σ2 H2) (hd:∀σ H,Pv n σ H->D.nx σ H) :
  ∃W:Nat->Nat->St->Hp->Prop,(∃m,W 0 m σ H)/\∀i m σ H,W i m σ H ->
   ((Itr lo n).stop i H/\D.nx σ H)\/((Itr lo n).go i H/\∃N:St->Hp->Prop,(∀σ' H',N σ' H'->∃m',m'<m/\W (i+1) m' σ' H')/\∀x H',(Itr lo n).yld i H x H'->g x σ H' λσ2 H2=>tb {D with nx:=N,ct:=N,bk:=D.nx} σ2 H2):=by
 refine⟨λi m σ H=>m=n-i/\i<=n/\Pv i σ H,⟨n,by simp,Oc _,h0⟩,?_⟩
 rintro i m σ H ⟨rfl,hi,p⟩
 by_cases hlt:i<n
 ·refine .inr ⟨hlt,Pv (i+1),λσ' H' p'=>⟨n-(i+1),by omega,rfl,hlt,p'⟩,λx H' y=>?_⟩
  obtain⟨e,y⟩:=y
  subst e y
  exact hs i σ _ hlt p
 ·have e:i=n:=by omega
  subst e
  exact .inl ⟨Ak _,hd σ H p⟩
abbrev R2:=V->V->Hp->VK->Prop
def OpR(X:Cx)(f:Value->Value->Sem Value)(r:R2):Prop :=
 ∀(pins:List (Addr×Obj))(s:Shared)(σ:St)(H:Hp)(x y:V)(v u:Value)(Q:VK),Inv X pins σ H s->RelV x v->RelV y u->r x y H Q ->
  wpAny (model X.prog X.w) X.A (f v u) (EP X pins σ Q) X.xe s
def jcq(X:Cx)(f:Value)(r:List V->Hp->VK->Prop):Prop :=
 ∀(pins:List (Addr×Obj))(s:Shared)(σ:St)(H:Hp)(xs:List V)(us:List Value)(Q:VK),Inv X pins σ H s->Vals xs us->r xs H Q ->
  wpAny (model X.prog X.w) X.A (call f us) (EP X pins σ Q) X.xe s
def TruR(X:Cx)(r:V->Hp->(Bool->Hp->Prop)->Prop):Prop :=
 ∀(pins:List (Addr×Obj))(s:Shared)(σ:St)(H:Hp)(x:V)(v:Value)(Q:Bool->Hp->Prop),Inv X pins σ H s->RelV x v->r x H Q ->
  wpAny (model X.prog X.w) X.A (truthy v) (TP X pins σ Q) X.xe s
def tOp(r:R2)(ta tb:TE):TE:=λσ H Q=>ta σ H λx H1=>tb σ H1 λy H2=>r x y H2 Q
def rI(C:Int->Int->Prop)(g:Int->Int->V):R2:=λx y H Q=>∃i j,x=.int i/\y=.int j/\C i j/\Q (g i j) H
def rI0(g:Int->Int->V):R2:=λx y H Q=>∃i j,x=.int i/\y=.int j/\Q (g i j) H
section
variable{X:Cx}{a b c:Expr}{ta tb tc:TE}{pos:Pos}
theorem binT(ha:PE X a ta)(hb:PE X b tb){pins:List (Addr×Obj)}{s:Shared}{σ:St}{H:Hp}{R:V->V->Hp->Prop}(I:Inv X pins σ H s)
  (h:ta σ H λx H1=>tb σ H1 λy H2=>R x y H2) {Q:Value->Shared->Prop}{f:Value->Value->Sem Value}
  (hf:∀v u s2 x y H2,Inv X pins σ H2 s2->RelV x v->RelV y u->R x y H2->wpAny (model X.prog X.w) X.A (f v u) Q X.xe s2) :
  wpAny (model X.prog X.w) X.A (eval a X.env) (λv s₁=>wpAny (model X.prog X.w) X.A (eval b X.env) (λu s₂=>wpAny (model X.prog X.w) X.A (f v u) Q X.xe s₂) X.xe s₁) X.xe s:=by
 refine thn (ha pins s σ H _ I h) λv s1 ⟨x,H1,I1,r1,q1⟩=>?_
 refine thn (hb pins s1 σ H1 _ I1 q1) λu s2 ⟨y,H2,I2,r2,q2⟩=>?_
 exact hf v u s2 x y H2 I2 r1 r2 q2
theorem pe_op{op:Operator}{r:R2}(ho:OpR X (binaryOp op) r)(ha:PE X a ta)(hb:PE X b tb):PE X (.BinOp a op b pos) (tOp r ta tb):=by
 intro pins s σ H Q I h
 exact wpAny_BinOp (binT ha hb I h λv u s2 x y H2 I2 rx ry q=>ho pins s2 σ H2 x y v u Q I2 rx ry q)
theorem opI{f:Value->Value->Sem Value}{C:Int->Int->Prop}{g:Int->Int->Int}
  (rule:∀(i j:Int)(t u:Tok)(s:Shared)(Q:Value->Shared->Prop)(E:Value->Shared->Prop),C i j->Q (.int (g i j) s.toks) {s with toks:=s.toks+1}->wpAny (model X.prog X.w) X.A (f (.int i t) (.int j u)) Q E s) :
  OpR X f (rI C λi j=>.int (g i j)):=by
 intro pins s σ H x y v u Q I rx ry h
 obtain⟨i,j,rfl,rfl,hc,q⟩:=h
 obtain⟨t,rfl⟩:=rx
 obtain⟨t',rfl⟩:=ry
 exact rule i j t t' s _ _ hc ⟨.int (g i j),H,I.tok _,⟨_,rfl⟩,q⟩
theorem opI0{f:Value->Value->Sem Value}{g:Int->Int->Int}
  (rule:∀(i j:Int)(t u:Tok)(s:Shared)(Q:Value->Shared->Prop)(E:Value->Shared->Prop),Q (.int (g i j) s.toks) {s with toks:=s.toks+1}->wpAny (model X.prog X.w) X.A (f (.int i t) (.int j u)) Q E s) :
  OpR X f (rI0 λi j=>.int (g i j)):=by
 intro pins s σ H x y v u Q I rx ry h
 obtain⟨i,j,rfl,rfl,q⟩:=h
 obtain⟨t,rfl⟩:=rx
 obtain⟨t',rfl⟩:=ry
 exact rule i j t t' s _ _ ⟨.int (g i j),H,I.tok _,⟨_,rfl⟩,q⟩
theorem opB0{f:Value->Value->Sem Value}{g:Int->Int->Bool}
  (rule:∀(i j:Int)(t u:Tok)(s:Shared)(Q:Value->Shared->Prop)(E:Value->Shared->Prop),Q (.bool (g i j)) s->wpAny (model X.prog X.w) X.A (f (.int i t) (.int j u)) Q E s) :
  OpR X f (rI0 λi j=>.bl (g i j)):=by
 intro pins s σ H x y v u Q I rx ry h
 obtain⟨i,j,rfl,rfl,q⟩:=h
 obtain⟨t,rfl⟩:=rx
 obtain⟨t',rfl⟩:=ry
 exact rule i j t t' s _ _ ⟨.bl (g i j),H,I,rfl,q⟩
def CDiv(i j:Int):Prop:=0<j/\j<1073741824
def CPow(i j:Int):Prop:=0<=j/\j<=1000000/\i.natAbs<2^64
def CMul(i j:Int):Prop:=(-(2^64)<i/\i<2^64)\/(-(2^64)<j/\j<2^64)
theorem CMul.ok{i j:Int}(h:CMul i j):IntMulOk i j:=by
 rcases h with⟨h1,h2⟩|⟨h1,h2⟩
 ·exact .of_left (intBits_le_64 h1 h2)
 ·exact .of_right (intBits_le_64 h1 h2)
theorem op_add:OpR X (binaryOp .Add) (rI0 λi j=>.int (i+j)):=opI0 λ_ _ _ _ _ _ _ q=>add_int q
theorem ja1:OpR X (binaryOp .Sub) (rI0 λi j=>.int (i-j)):=opI0 λ_ _ _ _ _ _ _ q=>sub_int q
theorem op_mul:OpR X (binaryOp .Mult) (rI CMul λi j=>.int (i*j)):=opI λ_ _ _ _ _ _ _ hc q=>mul_int q hc.ok
theorem jb0:OpR X (binaryOp .FloorDiv) (rI CDiv λi j=>.int (i / j)):=opI λi j _ _ _ _ _ hc q=>by
 have h1:(0:Int)<j:=hc.1
 have h2:j<1073741824:=hc.2
 exact floordiv_int (by omega) (by rw[Int.fdiv_eq_ediv_of_nonneg i (by omega)];exact q) (.inl (PyProof.noPylong_small (by omega)))
theorem zy:OpR X (binaryOp .Mod) (rI (λ_ j=>0<j) λi j=>.int (i%j)):=opI λi j _ _ _ _ _ hc q=>by
 have h1:(0:Int)<j:=hc
 exact mod_int' (by omega) (by rw[Int.fmod_eq_emod_of_nonneg i (by omega)];exact q)
theorem op_pow:OpR X (binaryOp .Pow) (rI CPow λi j=>.int (i^j.toNat)):=opI λ_ _ _ _ _ _ _ hc q=>pow_int_small hc.1 hc.2.1 hc.2.2 q
end
def scal:V->V->Bool
 |.non,.non=>true|.non,.int _=>true|.int _,.non=>true|.non,.bl _=>true|.bl _,.non=>true|.non,.str _=>true|.str _,.non=>true
 |.int _,.int _=>true|.bl _,.bl _=>true|.str _,.str _=>true|.byt _,.byt _=>true
 |.int _,.str _=>true|.str _,.int _=>true|.bl _,.str _=>true|.str _,.bl _=>true
 |_,_=>false
def rEq:R2:=λx y H Q=>scal x y=true/\Q (.bl (decide (x=y))) H
def rNe:R2:=λx y H Q=>scal x y=true/\Q (.bl (!decide (x=y))) H
theorem jlt{i j:Int}:decide (V.int i=V.int j)=(i == j):=by
 rw[W4]
 simp
theorem jnw{i j:Bool}:decide (V.bl i=V.bl j)=(i == j):=by
 rw[W4]
 simp
theorem jlu{i j:Str}:decide (V.str i=V.str j)=(i == j):=by
 rw[W4]
 simp
theorem jls{i j:Array UInt8}:decide (V.byt i=V.byt j)=(i.toList == j.toList):=by
 rw[W4]
 cases i
 cases j
 simp
section
variable{X:Cx}{a b c:Expr}{ta tb tc:TE}{pos:Pos}
theorem jci{pins:List (Addr×Obj)}{σ:St}{H:Hp}{s:Shared}{Q:VK}{k k':Bool}(I:Inv X pins σ H s)(q:Q (.bl k) H)(e:k=k'):EP X pins σ Q (.bool k') s:=by
 subst e
 exact⟨.bl k,H,I,rfl,q⟩
theorem jbn:OpR X (compareOp .Eq) rEq:=by
 intro pins s σ H x y v u Q I rx ry h
 obtain⟨hs,q⟩:=h
 cases x with
 |non =>
  cases rx
  cases y with
  |non=>cases ry;exact PySem.EqNone.eq_none_none (jci I q (by simp))
  |bl j=>cases ry;exact PySem.EqNone.eq_none_bool (jci I q (by simp))
  |int j=>obtain⟨t',rfl⟩:=ry;exact PySem.EqNone.eq_none_int (jci I q (by simp))
  |str j=>obtain⟨t',rfl⟩:=ry;exact PySem.EqNone.eq_none_str (jci I q (by simp))
  |_=>exact absurd (show false=true from hs) A4
 |bl i =>
  cases rx
  cases y with
  |non=>cases ry;exact PySem.EqNone.eq_bool_none (jci I q (by simp))
  |bl j=>cases ry;exact eq_bool (jci I q jnw)
  |str j=>obtain⟨t',rfl⟩:=ry;exact PySem.EqMixed.eq_bool_str (jci I q (by simp))
  |_=>exact absurd (show false=true from hs) A4
 |int i =>
  obtain⟨t,rfl⟩:=rx
  cases y with
  |non=>cases ry;exact PySem.EqNone.eq_int_none (jci I q (by simp))
  |int j=>obtain⟨t',rfl⟩:=ry;exact eq_int (jci I q jlt)
  |str j=>obtain⟨t',rfl⟩:=ry;exact PySem.EqMixed.eq_int_str (jci I q (by simp))
  |_=>exact absurd (show false=true from hs) A4
 |str i =>
  obtain⟨t,rfl⟩:=rx
  cases y with
  |non=>cases ry;exact PySem.EqNone.eq_str_none (jci I q (by simp))
  |bl j=>cases ry;exact PySem.EqMixed.eq_str_bool (jci I q (by simp))
  |int j=>obtain⟨t',rfl⟩:=ry;exact PySem.EqMixed.eq_str_int (jci I q (by simp))
  |str j=>obtain⟨t',rfl⟩:=ry;exact eq_str (jci I q jlu)
  |_=>exact absurd (show false=true from hs) A4
 |byt i =>
  obtain⟨t,rfl⟩:=rx
  cases y with
  |byt j=>obtain⟨t',rfl⟩:=ry;exact PySem.W.eq_bytes (jci I q jls)
  |_=>exact absurd (show false=true from hs) A4
 |_=>cases y <;> exact absurd (show false=true from hs) A4
theorem jbo:OpR X (compareOp .NotEq) rNe:=by
 intro pins s σ H x y v u Q I rx ry h
 obtain⟨hs,q⟩:=h
 cases x with
 |non =>
  cases rx
  cases y with
  |non=>cases ry;exact PySem.EqNone.ne_none_none (jci I q (by simp))
  |bl j=>cases ry;exact PySem.EqNone.ne_none_bool (jci I q (by simp))
  |int j=>obtain⟨t',rfl⟩:=ry;exact PySem.EqNone.ne_none_int (jci I q (by simp))
  |str j=>obtain⟨t',rfl⟩:=ry;exact PySem.EqNone.ne_none_str (jci I q (by simp))
  |_=>exact absurd (show false=true from hs) A4
 |bl i =>
  cases rx
  cases y with
  |non=>cases ry;exact PySem.EqNone.ne_bool_none (jci I q (by simp))
  |bl j=>cases ry;exact ne_bool (jci I q (O4 not jnw))
  |str j=>obtain⟨t',rfl⟩:=ry;exact PySem.EqMixed.ne_bool_str (jci I q (by simp))
  |_=>exact absurd (show false=true from hs) A4
 |int i =>
  obtain⟨t,rfl⟩:=rx
  cases y with
  |non=>cases ry;exact PySem.EqNone.ne_int_none (jci I q (by simp))
  |int j=>obtain⟨t',rfl⟩:=ry;exact ne_int (jci I q (O4 not jlt))
  |str j=>obtain⟨t',rfl⟩:=ry;exact PySem.EqMixed.ne_int_str (jci I q (by simp))
  |_=>exact absurd (show false=true from hs) A4
 |str i =>
  obtain⟨t,rfl⟩:=rx
  cases y with
  |non=>cases ry;exact PySem.EqNone.ne_str_none (jci I q (by simp))
  |bl j=>cases ry;exact PySem.EqMixed.ne_str_bool (jci I q (by simp))
  |int j=>obtain⟨t',rfl⟩:=ry;exact PySem.EqMixed.ne_str_int (jci I q (by simp))
  |str j=>obtain⟨t',rfl⟩:=ry;exact ne_str (jci I q (O4 not jlu))
  |_=>exact absurd (show false=true from hs) A4
 |byt i =>
  obtain⟨t,rfl⟩:=rx
  cases y with
  |byt j=>obtain⟨t',rfl⟩:=ry;exact PySem.W.ne_bytes (jci I q (O4 not jls))
  |_=>exact absurd (show false=true from hs) A4
 |_=>cases y <;> exact absurd (show false=true from hs) A4
theorem op_lt:OpR X (compareOp .Lt) (rI0 λi j=>.bl (decide (i<j))):=opB0 λ_ _ _ _ _ _ _ q=>lt_int q
theorem jb7:OpR X (compareOp .Gt) (rI0 λi j=>.bl (decide (j<i))):=opB0 λ_ _ _ _ _ _ _ q=>gt_int q
theorem op_ge:OpR X (compareOp .GtE) (rI0 λi j=>.bl (decide (j<=i))):=opB0 λ_ _ _ _ _ _ _ q=>ge_int q
theorem op_lt_str:OpR X (compareOp .Lt) (λx y H Q=>∃i j,x=.str i/\y=.str j/\Q (.bl (decide (i.cps.toList<j.cps.toList))) H):=by
 intro pins s σ H x y v u Q I rx ry h
 obtain⟨i,j,rfl,rfl,q⟩:=h
 obtain⟨t,rfl⟩:=rx
 obtain⟨t',rfl⟩:=ry
 exact lt_str (jci I q rfl)
theorem yb(b:Expr){op:CmpOp}(h:op≠.In:=by decide)(h2:op≠.NotIn:=by decide):behindInMarks op b=false:=by
 have e1:(op == CmpOp.In)=false:=by cases op <;> first|rfl|exact absurd rfl h
 have e2:(op == CmpOp.NotIn)=false:=by cases op <;> first|rfl|exact absurd rfl h2
 cases b <;> simp[behindInMarks,e1,e2]
theorem pe_cmpR{op:CmpOp}{r:R2}(ho:OpR X (compareOp op) r)(ha:PE X a ta)(hb:PE X b tb)(hm:behindInMarks op b=false):PE X (.Compare a [op] [b] pos) (tOp r ta tb):=by
 intro pins s σ H Q I h
 exact wpAny_Compare1 (binT ha hb I h λv u s2 x y H2 I2 rx ry q=>ho pins s2 σ H2 x y v u Q I2 rx ry q) hm
def jjs(t:TE):TT:=λσ H Q=>t σ H λx H'=>∃k,x=.bl k/\Q k H'
theorem pt_cmpR{op:CmpOp}{r:R2}(ho:OpR X (compareOp op) r)(ha:PE X a ta)(hb:PE X b tb)(hm:behindInMarks op b=false):PT X (.Compare a [op] [b] pos) (jjs (tOp r ta tb)):=by
 intro pins s σ H Q I h
 refine wpAny_isTrue_Compare1 (thn (ha pins s σ H _ I h) λv s1 ⟨x,H1,I1,r1,q1⟩=>thn (hb pins s1 σ H1 _ I1 q1) λu s2 ⟨y,H2,I2,r2,q2⟩ =>
  thn (ho pins s2 σ H2 x y v u _ I2 r1 r2 q2) λc s3 ⟨z,H3,I3,r3,k,e,q3⟩=>?_) hm
 subst e
 cases r3
 exact Us ⟨H3,I3,q3⟩
def TruV(K:PySem.W.Frag)(x:V)(H:Hp)(k:Bool):Prop :=
 match x with
 |.non=>k=false
 |.bl b=>k=b
 |.int i=>k=(i != 0)
 |.str y=>y.length<=sizeLine/\k=((y.length:Int) != 0)
 |.byt y=>y.size<=sizeLine/\k=((y.size:Int) != 0)
 |.ref p=>(∃xs,SqL K H p xs/\k=!xs.isEmpty)\/(∃xs,SqT K H p xs/\k=!xs.isEmpty)\/∃kvs,H p=some (.dK kvs)/\k=!kvs.isEmpty
 |_=>False
theorem jm5{κ:Type}{kvs:List (κ×V)}{vs:List (κ×Value)}(r:KV kvs vs):(!vs.isEmpty)=!kvs.isEmpty:=by
 cases r <;> rfl
theorem jg3{xs:List V}{its:List Value}(r:Vals xs its):(!its.toArray.isEmpty)=!xs.isEmpty:=by
 cases r <;> simp
theorem jd9:(sizeLine:Nat)<2^63:=by rw[O5];decide
theorem jr7:TruR X (λx H Q=>∃k,TruV X.K x H k/\Q k H):=by
 intro pins s σ H x v Q I rx h
 obtain⟨k,e,q⟩:=h
 have hl:=jd9
 have hs:sizeLine=16777216:=O5
 cases x with
 |non =>
  cases rx
  have e':k=false:=e
  subst e'
  exact truthy_none ⟨H,I,q⟩
 |bl b =>
  cases rx
  have e':k=b:=e
  subst e'
  exact Us ⟨H,I,q⟩
 |int i =>
  obtain⟨t,rfl⟩:=rx
  have e':k=(i != 0):=e
  subst e'
  exact PySem.P.truthy_int ⟨H,I,q⟩
 |str y =>
  obtain⟨t,rfl⟩:=rx
  obtain⟨hy,e'⟩:y.length<=sizeLine/\k=((y.length:Int) != 0):=e
  subst e'
  exact PySem.P.truthy_str (by omega) ⟨H,I.tok _,q⟩
 |byt y =>
  obtain⟨t,rfl⟩:=rx
  obtain⟨hy,e'⟩:y.size<=sizeLine/\k=((y.size:Int) != 0):=e
  subst e'
  exact PySem.W.truthy_bytes (by omega) ⟨H,I.tok _,q⟩
 |ref p =>
  cases rx
  have e':(∃xs,SqL X.K H p xs/\k=!xs.isEmpty)\/(∃xs,SqT X.K H p xs/\k=!xs.isEmpty)\/∃kvs,H p=some (.dK kvs)/\k=!kvs.isEmpty:=e
  rcases e' with⟨xs,hx,e'⟩|⟨xs,hx,e'⟩|⟨kvs,hx,e'⟩
  ·subst e'
   obtain⟨its,r,pl,hz⟩:=I.list hx
   have hlen:=r.length
   exact wpAny_truthy_list pl.isList (by simp only[Aq];omega) ⟨H,I.tok _,by rw[jg3 r];exact q⟩
  ·subst e'
   obtain⟨its,r,pl,hz⟩:=I.tuple hx
   have hlen:=r.length
   exact truthy_tuple pl (by simp only[Aq];omega) ⟨H,I.tok _,by rw[jg3 r];exact q⟩
  ·subst e'
   obtain⟨hz,hS,vs,r,m⟩:kvs.length<=sizeLine/\(p == sysModules)=false/\∃vs,KV kvs vs/\s.heap.DictOf (jcg X.prog X.w) p vs:=I.hok p _ hx
   have hlen:kvs.length=vs.length:=Il r
   exact wpAny_truthy_dict hS m (by omega) ⟨H,I.tok _,by rw[jm5 r];exact q⟩
 |_=>exact(show False from e).elim
theorem op_add_str:OpR X (binaryOp .Add) (λx y H Q=>∃i j,x=.str i/\y=.str j/\i.length+j.length<=sizeLine/\Q (.str (i++j)) H):=by
 intro pins s σ H x y v u Q I rx ry h
 obtain⟨i,j,rfl,rfl,hz,q⟩:=h
 obtain⟨t,rfl⟩:=rx
 obtain⟨t',rfl⟩:=ry
 exact add_str (λt' tk=>⟨.str (i++j),H,I.tok _,⟨_,rfl⟩,q⟩) hz
theorem jc1{x:V}{us:List Value}(r:Vals [x] us):∃u,us=[u]/\RelV x u:=by
 cases r with
 |cons r1 r2=>cases r2;exact⟨_,rfl,r1⟩
theorem jho{x y:V}{us:List Value}(r:Vals [x,y] us):∃u w',us=[u,w']/\RelV x u/\RelV y w':=by
 cases r with
 |cons r1 r2 =>
  cases r2 with
  |cons r3 r4=>cases r4;exact⟨_,_,rfl,r1,r3⟩
theorem call_max2(hc:X.calm=true):jcq X (.builtin "max") (λxs H Q=>∃i j,xs=[.int i,.int j]/\Q (.int (if j>i then j else i)) H):=by
 intro pins s σ H xs us Q I r h
 obtain⟨i,j,rfl,q⟩:=h
 obtain⟨u,w',rfl,⟨t,rfl⟩,⟨t',rfl⟩⟩:=jho r
 refine max_two_ints (I.ok.hd hc) λh' tk k=>⟨_,H,I.kept k,?_,q⟩
 by_cases hj:j>i
 ·rw[Ao hj,Ao hj];exact⟨_,rfl⟩
 ·rw[An hj,An hj];exact⟨_,rfl⟩
theorem jbh:jcq X (.type "int") (λxs H Q=>(∃i,xs=[.int i]/\Q (.int i) H)\/∃k,xs=[.bl k]/\Q (.int (if k then 1 else 0)) H):=by
 intro pins s σ H xs us Q I r h
 rcases h with⟨i,rfl,q⟩|⟨k,rfl,q⟩
 ·obtain⟨u,rfl,t,rfl⟩:=jc1 r
  exact call_int_int ⟨.int i,H,I,⟨_,rfl⟩,q⟩
 ·obtain⟨u,rfl,r1⟩:=jc1 r
  cases r1
  exact call_int_bool ⟨.int (if k then 1 else 0),H,I.tok _,⟨_,rfl⟩,q⟩
end
structure ObjM(h:Heap)(x dx C:Addr)(mA:Str->Option Value):Prop where
 obj:h.get? x=some (PySem.W.instObj C dx)
 ns:h.Ns1 dx mA
 ne:dx≠x
theorem joh{h:Heap}{dx:Addr}{mA:Str->Option Value}(n:h.Ns1 dx mA):∃od,h.get? dx=some od/\∀name,PySem.W.lookIn name od=some (mA name):=by
 obtain⟨o,es,ep,ho,hd,hk,_,hm⟩:=n
 refine⟨o,ho,λname=>?_⟩
 have e:=hm name
 unfold nsFind findBy at e
 rw[<-Array.find?_toList]at e
 unfold PySem.W.lookIn
 rw[hd]
 dsimp only
 split
 ·rename_i y q
  rw[q]at e
  exact O4 some e
 ·rename_i q
  rw[q]at e
  have a:es.toList.any (·.refKey)=false:=by
   rw[List.any_eq_false]
   intro y hy
   obtain⟨z,t,hkey⟩:=hk y (Array.mem_toList_iff.mp hy)
   simp[DictEntry.refKey,hkey]
  have a':¬es.toList.any (·.refKey)=true:=by rw[a];exact A4
  rw[An a']
  exact O4 some e
theorem ObjM.look{h:Heap}{x dx C:Addr}{mA:Str->Option Value}(I:ObjM h x dx C mA):∃od,PySem.W.InstAt h x (PySem.W.instObj C dx) C (some od)/\∀name,PySem.W.lookIn name od=some (mA name) :=
 let⟨od,ho,hl⟩:=joh I.ns
 ⟨od,⟨I.obj,rfl,rfl,ho⟩,hl⟩
theorem RelO.some_of{v:V}{o:Option Value}(r:RelO (some v) o):∃u,o=some u/\RelV v u:=by
 cases o with
 |none=>exact(show False from r).elim
 |some u=>exact⟨u,rfl,r⟩
section
variable{P:Program}{w:World}{H H':Hp}{h h':Heap}{a C dx:Addr}{fs fs':List (Str×V)}
theorem jqu(hok:HOk P w H h)(e:H a=some (.ins C dx fs)):∃mA,ObjM h a dx C mA/\(∀f,RelO (fs.lookup f) (mA f))/\PySem.Within mA (fs.map (·.1))/\fs.length<=1000/\H dx=some (.own a):=by
 obtain⟨d,z,ne,ob,mA,n,r,q⟩:=(show ObjOk P w H h a (.ins C dx fs)from hok a _ e)
 exact⟨mA,⟨ob,n,ne⟩,r,q,z,d⟩
end
structure Cls(K:PySem.W.Frag)(C:Addr):Prop where
 pg:PySem.W.plainGet K C Str.empty=true
 hd:PySem.W.hasDictIn K C=true
 po:PySem.W.plainOver K C=true
 sa:PySem.W.findIn K (.ref C) "__setattr__"=some (some (.builtin "object.__setattr__"))
theorem Cls.get{K:PySem.W.Frag}{C:Addr}(c:Cls K C)(f:Str):PySem.W.plainGet K C f=true:=c.pg
section
variable{X:Cx}{pins:List (Addr×Obj)}{σ:St}{H:Hp}{s:Shared}{A:Around}{E:Value->Shared->Prop}{Q:Value->Shared->Prop}{c:Value}{b:Bool}
inductive TyOf (K:PySem.W.Frag) (H:Hp):V->Value->Prop where
 |non:TyOf K H .non (.type "NoneType")
 |bl (x:Bool):TyOf K H (.bl x) (.type "bool")
 |int (i:Int):TyOf K H (.int i) (.type "int")
 |str (x:Str):TyOf K H (.str x) (.type "str")
 |flt (x:UInt64):TyOf K H (.flt x) (.type "float")
 |lst {a:Addr}{xs:List V} (e:H a=some (.lst xs)):TyOf K H (.ref a) (.type "list")
 |frz {a:Addr}{o:Obj}{xs:List V} (e:H a=some (.frz o (.lst xs))):TyOf K H (.ref a) (.type "list")
 |tup {a:Addr}{xs:List V} (e:H a=some (.tup xs)):TyOf K H (.ref a) (.type "tuple")
 |dK {a:Addr}{kvs:List (Key×V)} (e:H a=some (.dK kvs)):TyOf K H (.ref a) (.type "dict")
 |dT {a:Addr}{kvs:List (List Key×V)} (e:H a=some (.dT kvs)):TyOf K H (.ref a) (.type "dict")
 |ins {a C dx:Addr}{fs:List (Str×V)} (e:H a=some (.ins C dx fs)) (cl:Cls K C) (ha:PySem.W.findIn K (.ref C) "__class__"=some (some (.builtin "object.__class__")))
   (hn:PySem.W.specialIn K (.builtin "object.__class__") "__get__"=some (some (.builtin "getset_descriptor.__get__"))) (htk:PySem.W.takesIn K (.builtin "object.__class__")=some true)
   (hm:PySem.W.mroIn K C (.type "object")=some true):TyOf K H (.ref a) (.ref C)
theorem job{x:V}{u t:Value}(I:Inv X pins σ H s)(rx:RelV x u)(ty:TyOf X.K H x t)(e:PySem.W.kitOne X.K t c=some b)(h:∀tk,Q (.bool b) {s with toks:=tk}) :
  wpAny (model X.prog X.w) A (call (.builtin "isinstance") [u,c]) Q E s:=by
 cases ty with
 |non=>cases(show u=Value.none from rx);exact O2 PySem.W.kitx_none I.kIn True.intro e (λz=>nomatch z) h
 |bl y=>cases(show u=Value.bool y from rx);exact O2 PySem.W.kitx_bool I.kIn True.intro e (λz=>nomatch z) h
 |int i=>obtain⟨t,q⟩:=(show ∃t,u=Value.int i t from rx);cases q;exact O2 PySem.W.kitx_int I.kIn True.intro e (λz=>nomatch z) h
 |str y=>obtain⟨t,q⟩:=(show ∃t,u=Value.str y t from rx);cases q;exact O2 PySem.W.kitx_str I.kIn True.intro e (λz=>nomatch z) h
 |flt y=>obtain⟨t,q⟩:=(show ∃t,u=Value.float y t from rx);cases q;exact O2 PySem.W.kitx_float I.kIn True.intro e (λz=>nomatch z) h
 |@lst a xs ea =>
  cases(show u=Value.ref a from rx)
  obtain⟨_,_,n,_,h1⟩:=(show ObjOk X.prog X.w H s.heap a (.lst xs)from I.hok a _ ea)
  exact O2 PySem.W.kitx_list I.kIn ⟨_,h1,rfl⟩ e (λz=>nomatch z) h
 |@frz a ob xs ea =>
  cases(show u=Value.ref a from rx)
  obtain⟨_,_,_,n,_,h1⟩:=(show ObjOk X.prog X.w H s.heap a (.frz ob (.lst xs))from I.hok a _ ea)
  exact O2 PySem.W.kitx_list I.kIn ⟨_,h1,rfl⟩ e (λz=>nomatch z) h
 |@tup a xs ea =>
  cases(show u=Value.ref a from rx)
  obtain⟨_,_,_,p⟩:=(show ObjOk X.prog X.w H s.heap a (.tup xs)from I.hok a _ ea)
  obtain⟨o,h1,h2,_⟩:=p
  exact O2 PySem.W.kitx_tuple I.kIn ⟨o,h1,h2⟩ e (λz=>nomatch z) h
 |@dK a kvs ea =>
  cases(show u=Value.ref a from rx)
  obtain⟨_,_,vs,_,p⟩:=(show ObjOk X.prog X.w H s.heap a (.dK kvs)from I.hok a _ ea)
  obtain⟨o,es,ep,h1,h2,_⟩:=p
  exact O2 PySem.W.kitx_dict I.kIn ⟨o,h1,h2.1⟩ e (λz=>nomatch z) h
 |@dT a kvs ea =>
  cases(show u=Value.ref a from rx)
  obtain⟨_,_,xs,_,o,es,ep,h1,h2,_⟩:=(show ObjOk X.prog X.w H s.heap a (.dT kvs)from I.hok a _ ea)
  exact O2 PySem.W.kitx_dict I.kIn ⟨o,h1,h2.1⟩ e (λz=>nomatch z) h
 |@ins a C dx fs ea cl ha hn htk hm =>
  cases(show u=Value.ref a from rx)
  obtain⟨mA,O,_⟩:=jqu I.hok ea
  obtain⟨od,J,_⟩:=O.look
  exact O2 (PySem.W.kitx_own (cl.get _) cl.hd ha hn htk hm) I.kIn J e (λz=>nomatch z) h
end
structure Room(k:Nat)(A:Around):Prop where
 hd:A.handled=none
 dp:A.depth+3*k+5<recursionLimit
 un:A.units+16*k+200<cLine
 gd:A.guards=some []
theorem Room.mono{j k:Nat}{A:Around}(r:Room k A)(h:j<=k):Room j A:=⟨r.hd,by have:=r.dp;omega,by have:=r.un;omega,r.gd⟩
theorem Room.deeper{k:Nat}{A:Around}(r:Room (k+1) A)(env:Env):Room k (A.deeper env) :=
 ⟨r.hd,by have:=r.dp;show A.depth+1+3*k+5<_;omega,by have:=r.un;show A.units+3+16*k+200<_;omega,r.gd⟩
theorem Room.depth{k:Nat}{A:Around}(r:Room k A):A.depth<recursionLimit:=by have:=r.dp;omega
theorem Room.units{k:Nat}{A:Around}(r:Room k A):A.units+64<cLine:=by have:=r.un;omega
def tNil:TA:=λ_ H Q=>Q [] H
def jeo(ta:TE)(tr:TA):TA:=λσ H Q=>ta σ H λx H1=>tr σ H1 λxs H2=>Q (x::xs) H2
section
variable{X:Cx}{e:Expr}{es:List Expr}{te:TE}{t:TA}{pos:Pos}
theorem jbr:PA X [] tNil:=λ_ _ _ _ H Q I h=>Yf ⟨[],H,I,.nil,h⟩
theorem jbd(ha:PE X e te)(hr:PA X es t)(hs:starEach (e::es) X.env=(false,eval e X.env)::starEach es X.env:=by rfl):PA X (e::es) (jeo te t):=by
 intro pos pins s σ H Q I h
 rw[hs]
 show wpAny _ _ (spliced ((false,eval e X.env)::backTo pos (starEach es X.env))) _ _ s
 refine Wo (thn (ha pins s σ H _ I h) λu s1 ⟨x,H1,I1,r1,q1⟩=>?_)
 exact thn (hr pos pins s1 σ H1 _ I1 q1) λus s2 ⟨xs,H2,I2,r2,q2⟩=>⟨x::xs,H2,I2,.cons r1 r2,q2⟩
def tTup(t:TA):TE:=λσ H Q=>t σ H λxs H1=>xs.length<=sizeLine/\∀p,H1 p=none->Q (.ref p) (upd H1 p (.tup xs))
def tLst(t:TA):TE:=λσ H Q=>t σ H λxs H1=>xs.length<=sizeLine/\∀p,H1 p=none->Q (.ref p) (upd H1 p (.lst xs))
theorem pe_tup{x1}(h:PA X es t):PE X (.Tuple es x1 pos) (tTup t):=by
 intro pins s σ H Q I hq
 refine wpAny_Tuple_spliced (thn (h pos pins s σ H _ I hq) λus s1 ⟨xs,H1,I1,r,z,q⟩=>⟨by rw[<-r.length];exact z,?_⟩)
 have hf:H1 s1.heap.objs.size=none:=I1.hok.fresh (Ak _)
 refine⟨.ref s1.heap.objs.size,upd H1 s1.heap.objs.size (.tup xs),I1.laid (t':=s1.toks) (λb u e=>Ai _ e) (Ak _) ?_,rfl,q _ hf⟩
 exact⟨z,us,r,⟨_,Aw _ rfl,rfl,_,rfl⟩⟩
theorem pe_lst(h:PA X es t):PE X (.List es pos) (tLst t):=by
 intro pins s σ H Q I hq
 refine wpAny_List_spliced (thn (h pos pins s σ H _ I hq) λus s1 ⟨xs,H1,I1,r,z,q⟩=>⟨by rw[<-r.length];exact z,?_⟩)
 have hf:H1 s1.heap.objs.size=none:=I1.hok.fresh (Ak _)
 refine⟨.ref s1.heap.objs.size,upd H1 s1.heap.objs.size (.lst xs),I1.laid (t':=s1.toks) (λb u e=>Ai _ e) (Ak _) ?_,rfl,q _ hf⟩
 exact⟨z,us,0,r,Aw _ rfl⟩
end
abbrev Sp:=List V->Hp->VK->XK->Prop
abbrev CXT:=List Env->Hp->Shared->XK->Value->Shared->Prop
structure Env0(P:Program)(w:World)(K:PySem.W.Frag)(mg:Str->Option Value)(base:Heap)(A:Around)(outer:List Env)(s:Shared)(H:Hp):Prop where
 frames:A.frames=some outer
 mod:Mod K mg base
 bs:∀b o,base.get? b=some o->s.heap.get? b=some o/\H b=none
 bsz:base.objs.size<=s.heap.objs.size
 funs:s.heap.FunFrames base outer
 frf:∀b∈frs outer,H b=none
 hok:HOk P w H s.heap
 bare:AllBare s.gens
def CE(outer:List Env)(P:Program)(w:World)(H:Hp)(s:Shared)(Q:VK)(u:Value)(s':Shared):Prop :=
 ∃v H',s'.os=s.os/\AllBare s'.gens/\Un (frs outer) [] H H' s.heap s'.heap/\HOk P w H' s'.heap/\RelV v u/\Q v H'
def CR(CX:CXT)(outer:List Env)(P:Program)(w:World)(H:Hp)(s:Shared)(Q:VK)(E:XK)(r:Result)(s':Shared):Prop :=
 match r with
 |.ok (.ret u)=>CE outer P w H s Q u s'
 |.ok _=>False
 |.error e=>CX outer H s E e s'
structure FnOk(P:Program)(w:World)(K:PySem.W.Frag)(mg:Str->Option Value)(base:Heap)(CX:CXT)(k:Nat)(f:Addr)(fd:FuncData)(ps:List Str)(sp:Sp):Prop where
 len:∀vs H Q E,sp vs H Q E->vs.length=ps.length
 run:∀(A:Around)(outer:List Env)(s:Shared)(H:Hp)(args:Args)(us:List Value)(vs:List V)(Q:VK)(E:XK),Room k A->Env0 P w K mg base A outer s H->BindsTo s fd args (ps.zip us)->Vals vs us->sp vs H Q E ->
  codeAny (model P w) A (.call (.ref f) args) (CR CX outer P w H s Q E) s
section
variable{X:Cx}{pins:List (Addr×Obj)}{σ:St}{H:Hp}{s s':Shared}
theorem Inv.env0(I:Inv X pins σ H s):Env0 X.prog X.w X.K X.mg X.base X.A X.stack s H :=
 ⟨I.ok.frames,I.ok.mod,I.bs,Iv I.ok.bsz I.sz,I.stack,I.stkFree,I.hok,I.bare⟩
theorem Inv.after{Q:VK}{u:Value}(I:Inv X pins σ H s)(h:CE X.stack X.prog X.w H s Q u s'):EP X pins σ Q u s':=by
 obtain⟨v,H',os,bare,un,hok,r,q⟩:=h
 obtain⟨hh,g,d,t,os'⟩:=s'
 obtain rfl:os'=s.os:=os
 exact⟨v,H',I.call (h':=hh) (g':=g) (d':=d) (t':=t) (ch:=[]) un hok bare (λb z=>absurd z (by simp)),r,q⟩
end
def jjm(sp:Sp)(dvs:List V)(E:XK)(t:TA):TE:=λσ H Q=>t σ H λvs H1=>sp (vs++dvs) H1 Q E
def Binds(K:PySem.W.Frag)(fd:FuncData)(ps:List Str)(ds:List Value):Prop :=
 ∀(s:Shared)(us:List Value),K.In s.heap->(us++ds).length=ps.length->BindsTo s fd ⟨us,[]⟩ (ps.zip (us++ds))
theorem Binds.all{K:PySem.W.Frag}{fd:FuncData}{ps:List Str}(h:∀us:List Value,us.length=ps.length->bindArgs fd ⟨us,[]⟩=pure (ps.zip us)):Binds K fd ps []:=λs us _ hl=>by
 rw[Ug]at hl⊢
 exact .of_eq (h us hl)
def jgo(CX:CXT)(X:Cx)(E:XK):Prop:=∀(pins:List (Addr×Obj))(σ:St)(H:Hp)(s:Shared)(e:Value)(s':Shared),Inv X pins σ H s->CX X.stack H s E e s'->X.xe e s'
section
variable{X:Cx}{CX:CXT}{k:Nat}{f C:Addr}{fd:FuncData}{ps:List Str}{sp:Sp}{dvs:List V}{ds:List Value}{E:XK}{x m:Str}{p pos apos:Pos}{e o:Expr}{es:List Expr}{ta:TE}{t:TA}
theorem jop{pins:List (Addr×Obj)}{σ:St}{H:Hp}{s:Shared}{Q:VK}{us:List Value}{vs:List V}(F:FnOk X.prog X.w X.K X.mg X.base CX k f fd ps sp)(hr:Room k X.A)(hb:Binds X.K fd ps ds)(hd:Vals dvs ds)(hx:jgo CX X E)
  (I:Inv X pins σ H s) (r:Vals vs us) (h:sp (vs++dvs) H Q E):wpAny (model X.prog X.w) X.A (call (.ref f) us) (EP X pins σ Q) X.xe s:=by
 have r2:Vals (vs++dvs) (us++ds):=r.append hd
 have hl:(us++ds).length=ps.length:=by rw[<-r2.length];exact F.len _ _ _ _ h
 refine wpAny_call (Wx (F.run X.A X.stack s H ⟨us,[]⟩ (us++ds) (vs++dvs) Q E hr I.env0 (hb s us I.kIn hl) r2 h) λr s' hq=>?_)
 cases r with
 |error e=>exact hx pins σ H s e s' I hq
 |ok fl =>
  cases fl with
  |ret u=>exact I.after hq
  |next=>exact False.elim hq
  |brk=>exact False.elim hq
  |cont=>exact False.elim hq
theorem pe_call(F:FnOk X.prog X.w X.K X.mg X.base CX k f fd ps sp)(hr:Room k X.A)(hg:Gl X x)(hm:X.mg x=some (.ref f))(hk:PySem.W.keepIn X.K (.ref f)=true)(hb:Binds X.K fd ps ds)(hd:Vals dvs ds)(hx:jgo CX X E)
  (ha:PA X (e::es) t) (hdb:(x == ("__debug__":Str))=false:=by decide) (he:starEach (e::es) X.env=(false,eval e X.env)::starEach es X.env:=by rfl) (hpl:(backTo pos (starEach es X.env)).any (·.1)=false:=by rfl) :
  PE X (.Call (.Name x p) (e::es) [] pos) (jjm sp dvs E t):=by
 intro pins s σ H Q I h
 refine O3 (jl9 I hg hm ?_ hdb)
 refine PySem.W.callWith_K (h₀:=X.base) I.ok.mod.kin hk (thn (ha pos pins s σ H _ I h) λus s1 ⟨vs,H1,I1,r,q⟩=>⟨I1.kIn,?_⟩) he hpl
 exact jop F hr hb hd hx I1 r q
end
structure FnScope(N P:List Str)(sc:Scope):Prop where
 kind:sc.kind=.function
 co:sc.isCoroutine=false
 gen:sc.isGenerator=false
 nd:N.Nodup
 pre:N.take P.length=P
 par:∀x∈P,sc.names.lookup x=some .local\/sc.names.lookup x=some .cell
 nofree:∀y∈sc.names,y.2≠.free
theorem jia{kindOf:Str->Option NameKind}{x:Str}:∀{binds:List (Str×Value)}{m:Str->Option Value},(∀v,(x,v)∉binds)->bindL kindOf binds m x=m x
 |[],_,_=>rfl
 |(n,v)::r,m,h=>by
  unfold bindL
  rw[jia λw hw=>h w (Oh _ hw)]
  split
  ·have:x≠n:=by rintro rfl;exact h v Ox
   simp[this]
  ·rfl
theorem jh8{kindOf:Str->Option NameKind}{x:Str}:∀{binds:List (Str×Value)}{m:Str->Option Value},(∀v,(x,v)∉binds)->bindC kindOf binds m x=m x
 |[],_,_=>rfl
 |(n,v)::r,m,h=>by
  unfold bindC
  rw[jh8 λw hw=>h w (Oh _ hw)]
  split
  ·rfl
  ·have:x≠n:=by rintro rfl;exact h v Ox
   simp[this]
theorem jh9{kindOf:Str->Option NameKind}{x:Str}{v:Value}:∀{P:List Str}{vs:List Value}{i:Nat}{m:Str->Option Value},P.Nodup->P[i]?=some x->vs[i]?=some v->kindOf x=some .local ->
  bindL kindOf (P.zip vs) m x=some v
 |[],_,_,_,_,h,_,_=>by simp at h
 |_::_,[],_,_,_,_,h,_=>by simp at h
 |p::P,w::vs,0,m,nd,h1,h2,hk=>by
  simp at h1 h2;subst h1;subst h2
  show bindL kindOf ((p,w)::P.zip vs) m p=_
  unfold bindL
  rw[jia λv hv=>(Ol.mp nd).1 (Wp hv).1,Ao hk]
  simp
 |p::P,w::vs,i+1,m,nd,h1,h2,hk=>by
  show bindL kindOf ((p,w)::P.zip vs) m x=_
  unfold bindL
  exact jh9 (i:=i) (Ol.mp nd).2 (by simpa using h1) (by simpa using h2) hk
theorem jh7{kindOf:Str->Option NameKind}{x:Str}{v:Value}:∀{P:List Str}{vs:List Value}{i:Nat}{m:Str->Option Value},P.Nodup->P[i]?=some x->vs[i]?=some v->kindOf x≠some .local ->
  bindC kindOf (P.zip vs) m x=some v
 |[],_,_,_,_,h,_,_=>by simp at h
 |_::_,[],_,_,_,_,h,_=>by simp at h
 |p::P,w::vs,0,m,nd,h1,h2,hk=>by
  simp at h1 h2;subst h1;subst h2
  show bindC kindOf ((p,w)::P.zip vs) m p=_
  unfold bindC
  rw[jh8 λv hv=>(Ol.mp nd).1 (Wp hv).1,An hk]
  simp
 |p::P,w::vs,i+1,m,nd,h1,h2,hk=>by
  show bindC kindOf ((p,w)::P.zip vs) m x=_
  unfold bindC
  exact jh7 (i:=i) (Ol.mp nd).2 (by simpa using h1) (by simpa using h2) hk
def start(N:List Str)(vs:List V):St:=vs.map some++List.replicate (N.length-vs.length) none
def cxOf(CX:CXT)(P:Program)(w:World)(K:PySem.W.Frag)(mg:Str->Option Value)(base:Heap)(N:List Str)(qual:Str)(scope:Scope)(f:Addr)(cd:Value)(A:Around)(outer:List Env)(s:Shared)(H:Hp)(E:XK):Cx where
 prog:=P
 w:=w
 K:=K
 mg:=mg
 base:=base
 A:=A.deeper (envOfC qual scope s.heap.objs.size f cd)
 N:=N
 s₀:=s
 H₀:=H
 env:=envOfC qual scope s.heap.objs.size f cd
 outer:=outer
 stack:=envOfC qual scope s.heap.objs.size f cd::outer
 ex:=[]
 calm:=true
 fn:=λ_=>true
 pn:=[]
 xe:=λe s'=>wpAny (model P w) (A.deeper (envOfC qual scope s.heap.objs.size f cd)) (leaving (envOfC qual scope s.heap.objs.size f cd) e) (λ_ s''=>CX outer H s E e s'') (λe' s''=>CX outer H s E e' s'') s'
theorem jjx{sc:Scope}{n:Nat}{x:Str}(h:sc.names.lookup x=some .cell):∃c,(cellsFrom n sc.names []).lookup x=some c:=by
 have q:=PySem.W.cellsFrom_some sc.names n [] (.inl h)
 exact Option.isSome_iff_exists.mp q
theorem joa{CX:CXT}{P:Program}{w:World}{K:PySem.W.Frag}{mg:Str->Option Value}{base:Heap}{N ps:List Str}{qual:Str}{scope:Scope}{f:Addr}{cd:Value}{A:Around}{outer:List Env}{s s1:Shared}{H:Hp}{E:XK}{us:List Value}{vs:List V}
  (S:FnScope N ps scope) (hd:A.handled=none) (e0:Env0 P w K mg base A outer s H) (hl:vs.length=ps.length) (r:Vals vs us)
  (x:InCallC s s.heap.objs.size (bindL (envOfC qual scope s.heap.objs.size f cd).kindOf (ps.zip us) λ_=>none) (cellsFrom (s.heap.objs.size+1) scope.names []) (bindC (envOfC qual scope s.heap.objs.size f cd).kindOf (ps.zip us) λ_=>none) s1) :
  Inv (cxOf CX P w K mg base N qual scope f cd A outer s H E) [] (start N vs) H s1:=by
 have hpl:ps.length<=N.length:=by have:=O4 List.length S.pre;rw[Oe]at this;omega
 obtain⟨h1,tk,rfl,hk⟩:=x.done
 have noA:∀b:Addr,b∉(cxOf CX P w K mg base N qual scope f cd A outer s H E).ex:=λb z=>absurd (show b∈([]:List Addr)from z) (by simp)
 refine⟨⟨e0.mod,S.kind,rfl,rfl,Ak _,λy z c h1 h2=>?_,λy hy=>?_,λy c _ h=>?_,λ_=>hd,Around.frames_deeper e0.frames,.inr ⟨rfl,rfl⟩,λb z=>absurd z (noA b),e0.bs,e0.bsz,λb _ _=>noA b,λb z=>absurd z (noA b),e0.funs,e0.frf⟩,
  rfl,e0.bare,Un.kept hk,⟨_,x.toInCall.ns,λi y v h1 h2 h3=>?_⟩,λy c h=>⟨_,x.cell y c h⟩,e0.hok.fresh (Ak _),λy c h=>?_,λp hp=>absurd (show p∈([]:List (Addr×Obj))from hp) (by simp),e0.hok.kept hk,?_⟩
 ·exact name_of_addr x.apart (O0 h1) (O0 h2)
 ·have hy:scope.names.lookup y=some .cell\/scope.names.lookup y=some .free:=hy
  rcases hy with hy|hy
  ·exact jjx hy
  ·exact absurd rfl (S.nofree _ (O0 hy))
 ·exact W5 (x.above y c (O0 h))
 ·have hi:i<vs.length:=by
   unfold start at h2
   by_cases hi:i<vs.length
   ·exact hi
   ·rw[Ir (by simpa using hi)]at h2
    rw[Uw]at h2
    split at h2 <;> cases h2
  have ha:vs[i]?=some v:=by
   unfold start at h2
   rw[Ig (by simpa using hi),Ag]at h2
   cases e:vs[i]? with
   |none=>rw[e]at h2;cases h2
   |some a=>rw[e]at h2;cases h2;rfl
  obtain⟨u,hu,rv⟩:=r.get ha
  have hp:ps[i]?=some y:=by
   rw[<-S.pre,Wc (by omega)];exact h1
  have ndP:ps.Nodup:=by rw[<-S.pre];exact S.nd.sublist (List.take_sublist _ _)
  refine⟨u,rv,?_⟩
  rcases S.par y (Al hp)with k|k
  ·exact .inl ⟨k,jh9 ndP hp hu k⟩
  ·obtain⟨c,e⟩:=jjx (n:=s.heap.objs.size+1) k
   refine .inr ⟨.inl k,c,e,?_⟩
   have q:=x.cell y c e
   rw[jh7 ndP hp hu (by show scope.names.lookup y≠_;rw[k];decide)]at q
   exact q
 ·exact e0.hok.fresh (W5 (x.above y c (O0 h)))
 ·unfold start
  show _=N.length
  rw[A1,Ac,List.length_replicate]
  omega
theorem jmz{CX:CXT}{P:Program}{w:World}{K:PySem.W.Frag}{mg:Str->Option Value}{base:Heap}{k:Nat}{f:Addr}{name qual:Str}{params:Arguments}{body:List Stmt}{scope:Scope}{dV kV doc pm cdv ct oc:Value}{an od:Option Addr}
  {osl:Array (Option Value)}{N ps:List Str}{sp:Sp} (lk:K.lookup f=some ⟨oc,od,.func (PySem.W.fnOf name qual params body scope dV kV doc pm an cdv ct),osl⟩) (hcd:PySem.W.codeIn K cdv qual=true) (S:FnScope N ps scope)
  (len:∀vs H Q E,sp vs H Q E->vs.length=ps.length)
  (hbody:∀(A:Around)(outer:List Env)(s:Shared)(H:Hp)(vs:List V)(Q:VK)(E:XK),Room k (A.deeper (envOfC qual scope s.heap.objs.size f cdv))->sp vs H Q E ->
   ∃t,PSs (cxOf CX P w K mg base N qual scope f cdv A outer s H E) body t/\t {nx:=λ_ H'=>Q .non H',rt:=Q} (start N vs) H) :
  FnOk P w K mg base CX (k+1) f (PySem.W.fnOf name qual params body scope dV kV doc pm an cdv ct) ps sp:=by
 refine⟨len,λA outer s H args us vs Q E hr e0 hb r hsp=>?_⟩
 have hl:=len _ _ _ _ hsp
 have KX:K.In s.heap:=e0.mod.kin.keeps λb o e=>(e0.bs b o e).1
 have lim:s.heap.NoLimit:=e0.mod.nolimit.keeps λb o e=>(e0.bs b o e).1
 have hkind:∀y∈ps.zip us,scope.names.lookup y.1=some .local\/(scope.names.lookup y.1=some .cell/\((cellsFrom (s.heap.objs.size+1) scope.names []).lookup y.1).isSome=true):=fun⟨n,v⟩ hy=>by
  rcases S.par n (Wp hy).1 with q|q
  ·exact .inl q
  ·exact .inr ⟨q,PySem.W.cellsFrom_some _ _ _ (.inl q)⟩
 refine codeAny_call_function hr.depth (KX _ _ lk) rfl S.co S.gen rfl (PySem.W.codeRec_of KX hcd) (hb _ _ _ _ ?_)
 refine wpAny_newFunctionEnv_cells S.kind hkind λenv he s1 x=>?_
 subst he
 refine⟨lim.keeps x.toInCall.keep,codeAny_func ?_⟩
 obtain⟨t,ht,hq⟩:=hbody A outer s H vs Q E (hr.deeper _) hsp
 have I:Inv (cxOf CX P w K mg base N qual scope f cdv A outer s H E) [] (start N vs) H s1:=joa S hr.hd e0 hl r x
 refine Uj (ht [] s1 (start N vs) H _ I hq) (λfl s' hs=>?_) λe s' hs=>hs
 have fin:∀{σ':St}{H':Hp}{v:V}{u:Value},Inv (cxOf CX P w K mg base N qual scope f cdv A outer s H E) [] σ' H' s'->RelV v u->Q v H'->CE outer P w H s Q u s' :=
  fun{σ' H' v u} J rv q=>⟨v,H',J.os,J.bare,J.base,J.hok,rv,q⟩
 cases fl with
 |ret u =>
  obtain⟨v,σ',H',J,rv,q⟩:=hs
  exact fin J rv q
 |next =>
  obtain⟨σ',H',J,q⟩:=hs
  exact fin (v:=V.non) (u:=Value.none) J rfl q
 |brk =>
  obtain⟨_,_,_,q⟩:=hs
  exact False.elim q
 |cont =>
  obtain⟨_,_,_,q⟩:=hs
  exact False.elim q
section
variable{X:Cx}{x:Str}{p pos:Pos}{e:Expr}{es:List Expr}{t:TA}{id T:String}{r:List V->Hp->VK->Prop}
def tCB(r:List V->Hp->VK->Prop)(t:TA):TE:=λσ H Q=>t σ H λvs H1=>r vs H1 Q
theorem pe_callB(hc:jcq X (.builtin id) r)(hg:Gl X x)(hm:X.mg x=none)(hv:bootBuiltins x=some (.builtin id))(ha:PA X (e::es) t)(hn:x≠"__name__":=by decide)(hdb:(x == ("__debug__":Str))=false:=by decide)
  (he:starEach (e::es) X.env=(false,eval e X.env)::starEach es X.env:=by rfl) (hpl:(backTo pos (starEach es X.env)).any (·.1)=false:=by rfl):PE X (.Call (.Name x p) (e::es) [] pos) (tCB r t):=by
 intro pins s σ H Q I h
 refine O3 (jdd I hg hm hv ?_ hn hdb)
 exact Wq (thn (ha pos pins s σ H _ I h) λus s1 ⟨vs,H1,I1,r1,q1⟩=>hc pins s1 σ H1 vs us Q I1 r1 q1) he hpl
theorem pe_callTy(hc:jcq X (.type T) r)(hg:Gl X x)(hm:X.mg x=none)(hv:bootBuiltins x=some (.type T))(ha:PA X (e::es) t)(hn:x≠"__name__":=by decide)(hdb:(x == ("__debug__":Str))=false:=by decide)
  (he:starEach (e::es) X.env=(false,eval e X.env)::starEach es X.env:=by rfl) (hpl:(backTo pos (starEach es X.env)).any (·.1)=false:=by rfl):PE X (.Call (.Name x p) (e::es) [] pos) (tCB r t):=by
 intro pins s σ H Q I h
 refine O3 (jdd I hg hm hv ?_ hn hdb)
 exact Oj (thn (ha pos pins s σ H _ I h) λus s1 ⟨vs,H1,I1,r1,q1⟩=>hc pins s1 σ H1 vs us Q I1 r1 q1) he hpl
end
end L2
namespace HT
open PySem PyProof.Rows
section
variable{prog:Program}{w:World}{A:Around}{E:Value->Shared->Prop}{s:Shared}
theorem cat_tup{t b:Addr}{vs ws:List Value}{Q:Value->Shared->Prop}(ht:IsTup s.heap t vs.toArray)(hb:IsTup s.heap b ws.toArray)(hv:vs≠[])
  (h1:ws=[]->Q (.ref t) s) (h2:ws≠[]->Q (.ref s.heap.objs.size) {s with heap:=s.heap.push {cls:=.type "tuple",data:=.seq (vs++ws).toArray}})
  (hsz:vs.length+ws.length<=sizeLine):wpAny (model prog w) A (binaryOp .Add (.ref t) (.ref b)) Q E s:=by
 obtain⟨⟨cls,dd,data,sl⟩,ho,hc,n,hd⟩:=id ht
 obtain⟨⟨cls2,dd2,data2,sl2⟩,ho2,hc2,n2,hd2⟩:=id hb
 simp only at hc hd hc2 hd2
 subst hc hd hc2 hd2
 have e:vs.toArray++ws.toArray=(vs++ws).toArray:=by simp
 by_cases hw:ws=[]
 ·exact concat_meets ⟨_,ho,rfl⟩ ⟨_,ho2,rfl⟩ noFill_tuple_add seq_tuple_add PySem.F.slot_tuple_add PySem.F.entry_tuple_add (PySem.F.args_tuple_add_2 _ _)
   (tuple_addW1 t b vs.toArray ws.toArray n n2 dd dd2 sl sl2 (by simpa using hv) (by simp[hw])) ⟨ho,ho2,h1 hw⟩
 ·refine concat_meets ⟨_,ho,rfl⟩ ⟨_,ho2,rfl⟩ noFill_tuple_add seq_tuple_add PySem.F.slot_tuple_add PySem.F.entry_tuple_add (PySem.F.args_tuple_add_2 _ _)
   (tuple_addW2 t b vs.toArray ws.toArray n n2 dd dd2 sl sl2 (by simpa using hv) (by simpa using hw) (by rw[Aq,Aq];exact hsz)) ⟨ho,ho2,?_⟩
  rw[e]
  exact h2 hw
def sIx(n d:Nat):Option Int->Nat
 |none=>d
 |some v=>if v<0 then(v+(n:Int)).toNat else min v.toNat n
theorem jr3(n d:Nat)(hd:d<=n)(o:Option Int):sIx n d o<=n:=by
 cases o with
 |none=>exact hd
 |some v =>
  show(if v<0 then(v+(n:Int)).toNat else min v.toNat n)<=n
  by_cases hv:v<0
  ·rw[Ao hv];omega
  ·rw[An hv];exact Nat.min_le_right _ _
theorem jln(v:Int)(n d:Nat):(if v<0 then max (v+(n:Int)) 0 else min v (n:Int))=((sIx n d (some v):Nat):Int):=by
 show(if v<0 then max (v+(n:Int)) 0 else min v (n:Int))=(((if v<0 then(v+(n:Int)).toNat else min v.toNat n):Nat):Int)
 by_cases hv:v<0
 ·simp only[Ao hv];omega
 ·simp only[An hv];omega
theorem jms(lo hi:Option Int)(n:Nat):Builtin.Slice.sliceAdjust lo hi 1 (n:Int)=(((sIx n 0 lo:Nat):Int),((sIx n n hi:Nat):Int)):=by
 have h1:¬((1:Int)<0):=by omega
 unfold Builtin.Slice.sliceAdjust
 simp only[h1,Of]
 refine Prod.ext ?_ ?_
 ·cases lo with
  |none=>rfl
  |some v=>exact jln v n 0
 ·cases hi with
  |none=>rfl
  |some v=>exact jln v n n
theorem places_gen(i j:Nat):Builtin.Slice.slicePlaces (i:Int) (j:Int) 1=j-i:=by
 unfold Builtin.Slice.slicePlaces
 have h1:(1:Int)>0:=by omega
 simp only[h1,Oz,Int.ediv_one]
 split <;> omega
theorem jhf{v:Value}{o:Option Int}{Q:Option Int->Shared->Prop}(p:IsPart v o)(h:Q o s):wpAny (model prog w) A (Builtin.Slice.slicePartIndex v) Q E s:=by
 cases p with
 |none=>exact slicePart_none h
 |int i t=>exact slicePart_int h
theorem jgm{sl:Addr}{vl vu:Value}{lo hi:Option Int}{n:Nat}{Q:Int×Int×Nat->Shared->Prop}(hs:s.heap.IsSliceOf sl vl vu .none)(pl:IsPart vl lo)(pu:IsPart vu hi)
  (h:Q (((sIx n 0 lo:Nat):Int),1,sIx n n hi-sIx n 0 lo) s):wpAny (model prog w) A (Builtin.Slice.sliceApplied (.ref sl) (pure (n:Int))) Q E s:=by
 obtain⟨os,hos,hcs,hds⟩:=id hs
 unfold Builtin.Slice.sliceApplied Builtin.Slice.sliceFields
 refine Ab (Ab (Um hos hds (x:=vl) rfl (Ab (Um hos hds (x:=vu) rfl (Ab (Um hos hds (x:=.none) rfl (Ah ?_)))))))
 refine Ab (slicePart_none ?_)
 show wpAny _ _ (if((1:Int) == 0)=true then _ else _) _ _ s
 rw[An (by decide)]
 refine Ab (jhf pl (Ab (jhf pu (Ab (Ah ?_)))))
 show wpAny _ _ (match Builtin.Slice.sliceAdjust lo hi 1 (n:Int)with|(lo,hi)=>pure (lo,(1:Int),Builtin.Slice.slicePlaces lo hi 1)) _ _ s
 rw[jms lo hi n]
 show wpAny _ _ (pure (((sIx n 0 lo:Nat):Int),(1:Int),Builtin.Slice.slicePlaces ((sIx n 0 lo:Nat):Int) ((sIx n n hi:Nat):Int) 1)) _ _ s
 rw[places_gen]
 exact Ah h
theorem pick_gen(xs:Array Value)(i k:Nat):((List.range k).filterMap fun(m:Nat)=>xs[((i:Int)+(m:Int)*1).toNat]?).toArray=((xs.toList.drop i).take k).toArray:=by
 have e:(fun(m:Nat)=>xs[((i:Int)+(m:Int)*1).toNat]?)=λm=>xs[i+m]?:=by
  funext m
  have:((i:Int)+(m:Int)*1).toNat=i+m:=by omega
  rw[this]
 rw[e]
 have:=pick_run xs i k
 rw[List.filterMap_map]at this
 have e2:((λx=>xs[x]?)∘λx=>i+x)=λm=>xs[i+m]?:=rfl
 rw[e2]at this
 rw[this]
theorem getItem_tuple_cut{t sl:Addr}{items:Array Value}{vl vu:Value}{lo hi:Option Int}{Q:Value->Shared->Prop}(ht:IsTup s.heap t items)(hs:s.heap.IsSliceOf sl vl vu .none)(pl:IsPart vl lo)(pu:IsPart vu hi)
  (hw:¬(sIx items.size 0 lo=0/\sIx items.size items.size hi=items.size))
  (h:Q (.ref s.heap.objs.size) {s with heap:=s.heap.push {cls:=.type "tuple",data:=.seq ((items.toList.drop (sIx items.size 0 lo)).take (sIx items.size items.size hi-sIx items.size 0 lo)).toArray}})
  (hsz:items.size<=sizeLine):wpAny (model prog w) A (getItem (.ref t) (.ref sl)) Q E s:=by
 have htake:sizeOk (.seq ((items.toList.drop (sIx items.size 0 lo)).take (sIx items.size items.size hi-sIx items.size 0 lo)).toArray):=by
  show((items.toList.drop (sIx items.size 0 lo)).take (sIx items.size items.size hi-sIx items.size 0 lo)).toArray.size<=sizeLine
  rw[Aq,Oe,List.length_drop,Array.length_toList]
  omega
 have hj:sIx items.size items.size hi<=items.size:=jr3 _ _ (Ak _) hi
 obtain⟨os,hos,hcs,hds⟩:=id hs
 have hTs:s.TypeIs (.ref sl) "slice":=⟨os,hos,hcs⟩
 unfold getItem
 try with_reducible refine Ou ?_
 first|refine Ab (Ah ?_)|skip
 refine Ab (wpAny_sequenceKey ht.typeIs (by decide) ?_)
 refine Ab (Ot (name:=Str.ofString "__getitem__") ht.typeIs Wh
  (On Wh ht.typeIs entry_tuple_getitem ?_ (args_tuple_getitem _ _)))
 show wpAny _ _ (Builtin.Tuple.tupleItemsOf (.ref t) >>= _) _ _ s
 refine Ab (tupleItemsOf_ ht ?_)
 refine Ab (W7 hTs ?_)
 rw[Ao (by decide)]
 refine Ab (jgm hs pl pu ?_)
 have hno:¬((((sIx items.size 0 lo:Nat):Int) == 0 && (1:Int) == 1 && (sIx items.size items.size hi-sIx items.size 0 lo) == items.size)=true):=by
  intro q
  rw[Oy,Oy]at q
  have q1:((sIx items.size 0 lo:Nat):Int)=0:=eq_of_beq q.1.1
  have q2:sIx items.size items.size hi-sIx items.size 0 lo=items.size:=eq_of_beq q.2
  exact hw ⟨by omega,by omega⟩
 show wpAny _ _ (if(((sIx items.size 0 lo:Nat):Int) == 0 && (1:Int) == 1 && (sIx items.size items.size hi-sIx items.size 0 lo) == items.size)=true then _ else _) _ _ s
 rw[An hno,pick_gen]
 first
  |exact Ab (m:=Builtin.Tuple.tupleExact _) (Og (Ah ⟨_,rfl,Ah h⟩) htake)
  |exact Ab (m:=Builtin.Tuple.tupleExact _) (Og (Ab (Ah (Ah ⟨_,rfl,Ah h⟩))) htake)
  |exact Ab (Ab (m:=Builtin.Tuple.tupleExact _) (Og (Ah (Ah ⟨_,rfl,Ah h⟩)) htake))
  |exact Ab (Ab (m:=Builtin.Tuple.tupleExact _) (Og (Ah ⟨_,rfl,Ah h⟩) htake))
end
end HT
namespace L2
open PySem PySem.Spec PyProof.Rows
abbrev TO:=St->Hp->(Option Int->Hp->Prop)->Prop
def PO(X:Cx)(e:Option Expr)(t:TO):Prop :=
 ∀(pins:List (Addr×Obj))(s:Shared)(σ:St)(H:Hp)(Q:Option Int->Hp->Prop),Inv X pins σ H s->t σ H Q ->
  wpAny (model X.prog X.w) X.A (evalPart e X.env) (λu s'=>∃o H',Inv X pins σ H' s'/\IsPart u o/\Q o H') X.xe s
def jjr(t:TE):TO:=λσ H Q=>t σ H λx H1=>∃i,x=.int i/\Q (some i) H1
theorem jm4{ns:List Int}:∀{us:List Value},Vals (ns.map V.int) us->IntsAre us ns:=by
 induction ns with
 |nil=>intro us r;rw[Up]at r;cases r;exact .nil
 |cons n ns ih =>
  intro us r
  rw[Ay]at r
  cases r with
  |cons r1 r2 =>
   obtain⟨t,e⟩:=r1
   subst e
   exact .cons n t (ih r2)
section
variable{X:Cx}{e:Expr}{te:TE}{lo hi:Option Expr}{tl th:TO}{pos p2:Pos}
theorem po_some(h:PE X e te):PO X (some e) (jjr te):=by
 intro pins s σ H Q I hw
 rw[evalPart_some]
 refine thn (h pins s σ H _ I hw) λu s1 ⟨x,H1,I1,r1,q1⟩=>?_
 obtain⟨i,rfl,q⟩:=q1
 obtain⟨t,rfl⟩:=r1
 exact⟨some i,H1,I1,.int i t,q⟩
def SlR(X:Cx)(r:V->Option Int->Option Int->Hp->VK->Prop):Prop :=
 ∀(pins:List (Addr×Obj))(s:Shared)(σ:St)(H:Hp)(x:V)(v vl vu:Value)(lo hi:Option Int)(sl:Addr)(Q:VK),Inv X pins σ H s->RelV x v->s.heap.IsSliceOf sl vl vu .none->IsPart vl lo->IsPart vu hi->r x lo hi H Q ->
  ∃T id,typeLookup (.type T) "__getitem__"=pure (some (.builtin id))/\s.TypeIs v T/\wpAny (model X.prog X.w) X.A (getItem v (.ref sl)) (EP X pins σ Q) X.xe s
def tSl(r:V->Option Int->Option Int->Hp->VK->Prop)(te:TE)(tl th:TO):TE:=λσ H Q=>te σ H λx H1=>tl σ H1 λl H2=>th σ H2 λu H3=>r x l u H3 Q
theorem pe_slice{r:V->Option Int->Option Int->Hp->VK->Prop}(hr:SlR X r)(he:PE X e te)(hl:PO X lo tl)(hu:PO X hi th):PE X (.Subscript e (.Slice lo hi none p2) pos) (tSl r te tl th):=by
 intro pins s σ H Q I h
 refine Subscript_ (thn (he pins s σ H _ I h) λv s1 ⟨x,H1,I1,r1,q1⟩=>?_)
 refine wpAny_Slice (thn (hl pins s1 σ H1 _ I1 q1) λvl s2 ⟨l,H2,I2,pl,q2⟩=>thn (hu pins s2 σ H2 _ I2 q2) λvu s3 ⟨u,H3,I3,pu,q3⟩=>?_)
 rw[evalPart_none]
 refine Ah ?_
 have I4:Inv X pins σ H3 {s3 with heap:=s3.heap.push {cls:=.type "slice",data:=.fields #[vl,vu,.none]}}:=I3.kept (t':=s3.toks) λb ob q=>Ai _ q
 obtain⟨T,id,hT,ht,hg⟩:=hr pins {s3 with heap:=s3.heap.push {cls:=.type "slice",data:=.fields #[vl,vu,.none]}} σ H3 x v vl vu l u s3.heap.objs.size Q I4 r1 (Heap.IsSliceOf.new ..) pl pu q3
 show wpAny (model X.prog X.w) X.A (subscriptTail e (.Slice lo hi none p2) v (.ref s3.heap.objs.size)) (EP X pins σ Q) X.xe {s3 with heap:=s3.heap.push {cls:=.type "slice",data:=.fields #[vl,vu,.none]}}
 exact tail_any (ops:=[.ref s3.heap.objs.size,v]) ht hT hg (by with_unfolding_all rfl)
def cutV(xs:List V)(lo hi:Option Int):List V:=(xs.drop (HT.sIx xs.length 0 lo)).take (HT.sIx xs.length xs.length hi-HT.sIx xs.length 0 lo)
theorem jep(xs:List V)(lo hi:Option Int):(cutV xs lo hi).length<=xs.length:=by
 unfold cutV
 rw[Oe,List.length_drop]
 omega
def rSlT(K:PySem.W.Frag):V->Option Int->Option Int->Hp->VK->Prop:=λx lo hi H Q=>∃a xs,x=.ref a/\SqT K H a xs /\
 ¬(HT.sIx xs.length 0 lo=0/\HT.sIx xs.length xs.length hi=xs.length)/\∀p,H p=none->Q (.ref p) (upd H p (.tup (cutV xs lo hi)))
theorem sl_tup:SlR X (rSlT X.K):=by
 intro pins s σ H x v vl vu lo hi sl Q I rx hs pl pu h
 obtain⟨a,xs,rfl,hx,hw,q⟩:=h
 cases rx
 obtain⟨its,r,ht,hz⟩:=I.tuple hx
 have hlen:its.toArray.size=xs.length:=by rw[Aq];exact r.length.symm
 refine⟨"tuple",_,Wh.lookup,ht.typeIs,?_⟩
 refine HT.getItem_tuple_cut ht hs pl pu (by rw[hlen];exact hw) ?_ (by rw[hlen];exact hz)
 rw[hlen]
 refine⟨.ref s.heap.objs.size,_,I.laid (t':=s.toks) (o:=.tup (cutV xs lo hi)) (λb ob q=>Ai _ q) (Ak _) ?_,rfl,q _ (I.hok.fresh (Ak _))⟩
 exact⟨Iv (jep xs lo hi) hz,_,(r.drop (HT.sIx xs.length 0 lo)).take (HT.sIx xs.length xs.length hi-HT.sIx xs.length 0 lo),IsTup.new _ _⟩
def jsj(K:PySem.W.Frag):R2:=λx y H Q=>∃a b xs ys,x=.ref a/\y=.ref b/\SqT K H a xs/\SqT K H b ys/\xs≠[]/\xs.length+ys.length<=sizeLine /\
 (ys=[]->Q (.ref a) H)/\(ys≠[]->∀p,H p=none->Q (.ref p) (upd H p (.tup (xs++ys))))
theorem Vals.nil_iff{xs:List V}{us:List Value}(r:Vals xs us):us=[]↔xs=[]:=by
 cases r with
 |nil=>simp
 |cons _ _=>simp
theorem op_catT:OpR X (binaryOp .Add) (jsj X.K):=by
 intro pins s σ H x y v u Q I rx ry h
 obtain⟨a,b,xs,ys,rfl,rfl,ha,hb,hx,hz,q1,q2⟩:=h
 cases rx
 cases ry
 obtain⟨its,r1,p1,_⟩:=I.tuple ha
 obtain⟨its2,r2,p2,_⟩:=I.tuple hb
 refine HT.cat_tup p1 p2 (λz=>hx (r1.nil_iff.mp z)) (λz=>⟨.ref a,H,I,rfl,q1 (r2.nil_iff.mp z)⟩) (λz=>?_) (by rw[<-r1.length,<-r2.length];exact hz)
 refine⟨.ref s.heap.objs.size,_,I.laid (t':=s.toks) (o:=.tup (xs++ys)) (λb ob q=>Ai _ q) (Ak _) ?_,rfl,q2 (λw=>z (r2.nil_iff.mpr w)) _ (I.hok.fresh (Ak _))⟩
 exact⟨by rw[A1];exact hz,_,r1.append r2,IsTup.new _ _⟩
end
def ixN(n:Nat)(i:Int):Option Nat:=if 0<=i then(if i<n then some i.toNat else none)else if -(n:Int)<=i then some (i+n).toNat else none
def atI{α:Type}(xs:List α)(i:Int):Option α:=(ixN xs.length i).bind λj=>xs[j]?
theorem jl7{n:Nat}{i:Int}{j:Nat}(h:ixN n i=some j):seqIndex? i n=some j/\j<n/\-(n:Int)<=i/\i<n:=by
 unfold ixN at h
 by_cases h0:0<=i
 ·rw[Ao h0]at h
  by_cases h1:i<n
  ·rw[Ao h1]at h
   have e:i.toNat=j:=Av h
   exact⟨by rw[seqIndex_of h0 h1,e],by omega,by omega,h1⟩
  ·rw[An h1]at h;cases h
 ·rw[An h0]at h
  by_cases h1:-(n:Int)<=i
  ·rw[Ao h1]at h
   have e:(i+n).toNat=j:=Av h
   exact⟨by rw[seqIndex_neg (by omega) h1,e],by omega,h1,by omega⟩
  ·rw[An h1]at h;cases h
theorem jht{α:Type}{xs:List α}{i:Int}{v:α}(h:atI xs i=some v):∃j,seqIndex? i xs.length=some j/\xs[j]?=some v/\j<xs.length/\-(xs.length:Int)<=i/\i<xs.length:=by
 unfold atI at h
 cases e:ixN xs.length i with
 |none=>rw[e]at h;cases h
 |some j =>
  rw[e]at h
  obtain⟨h1,h2,h3,h4⟩:=jl7 e
  exact⟨j,h1,h,h2,h3,h4⟩
theorem jce{α:Type}{xs:List α}{j:Nat}{v:α}(h:xs[j]?=some v):atI xs (j:Int)=some v:=by
 have hj:j<xs.length:=(Ad.mp h).1
 have e:ixN xs.length (j:Int)=some j:=by
  unfold ixN
  rw[Ao (by omega),Ao (by omega)];simp
 unfold atI;rw[e];exact h
def jll(b:Expr):Prop:=∀o i,subscripted b false o i=operate [o,i] (getItem o i)
def IxR(X:Cx)(r:R2):Prop :=
 ∀(value slice:Expr)(pins:List (Addr×Obj))(s:Shared)(σ:St)(H:Hp)(x y:V)(v u:Value)(Q:VK),Inv X pins σ H s->RelV x v->RelV y u->r x y H Q ->
  subscripted slice false v u=operate [v,u] (getItem v u)->wpAny (model X.prog X.w) X.A (subscriptTail value slice v u) (EP X pins σ Q) X.xe s
def MtR(X:Cx)(id:String)(r:V->List V->Hp->VK->Prop):Prop :=
 ∀(pins:List (Addr×Obj))(s:Shared)(σ:St)(H:Hp)(x:V)(xs:List V)(v:Value)(us:List Value)(Q:VK),Inv X pins σ H s->RelV x v->Vals xs us->r x xs H Q ->
  wpAny (model X.prog X.w) X.A (call (.builtin id) (v::us)) (EP X pins σ Q) X.xe s
section
variable{X:Cx}{a b:Expr}{ta tb:TE}{pos:Pos}
theorem pe_ix{r:R2}(hr:IxR X r)(ha:PE X a ta)(hb:PE X b tb)(hs:jll b):PE X (.Subscript a b pos) (tOp r ta tb):=by
 intro pins s σ H Q I h
 exact Subscript_ (binT ha hb I h λv u s2 x y H2 I2 rx ry q=>hr a b pins s2 σ H2 x y v u Q I2 rx ry q (hs _ _))
def rIxL(K:PySem.W.Frag):R2:=λx y H Q=>∃p xs i v,x=.ref p/\y=.int i/\SqL K H p xs/\atI xs i=some v/\Q v H
def rIxT(K:PySem.W.Frag):R2:=λx y H Q=>∃p xs i v,x=.ref p/\y=.int i/\SqT K H p xs/\atI xs i=some v/\Q v H
def rIxS:R2:=λx y H Q=>∃z i c,x=.str z/\y=.int i/\z.length<=sizeLine/\atI z.cps.toList i=some c/\Q (.str ⟨#[c]⟩) H
theorem jbc:IxR X (rIxL X.K):=by
 intro value slice pins s σ H x y v u Q I rx ry h hs
 obtain⟨p,xs,i,z,rfl,rfl,hq,he,q⟩:=h
 cases rx
 obtain⟨t,rfl⟩:=ry
 obtain⟨its,r,pl,hz⟩:=I.list hq
 obtain⟨j,h1,h2,h3,h4,h5⟩:=jht he
 obtain⟨w,ew,rw'⟩:=r.get h2
 have hl:=r.length
 have hn:=jd9
 have fin:EP X pins σ Q w s:=⟨z,H,I,rw',q⟩
 by_cases h0:0<=i
 ·have hj:i.toNat=j:=by
   rw[seqIndex_of h0 h5]at h1
   exact Av h1
  exact item_listR pl.isList h0 (by omega) (by rw[hj];simpa using ew) fin hs
 ·have hj:(i+(its.toArray.size:Int)).toNat=j:=by
   rw[seqIndex_neg (by omega) h4]at h1
   rw[Aq,<-hl]
   exact Av h1
  exact subscriptTail_builtinR (x:=w) pl.isList.typeIs slot_list_getitem.lookup
   (wpAny_getItem_list_neg (Q:=λr s'=>r=w/\EP X pins σ Q r s') pl.isList (by omega) (by rw[Aq] <;> omega) (by omega) (by rw[hj];simpa using ew) ⟨rfl,fin⟩) hs
theorem ix_tup:IxR X (rIxT X.K):=by
 intro value slice pins s σ H x y v u Q I rx ry h hs
 obtain⟨p,xs,i,z,rfl,rfl,hq,he,q⟩:=h
 cases rx
 obtain⟨t,rfl⟩:=ry
 obtain⟨its,r,pl,hz⟩:=I.tuple hq
 obtain⟨j,h1,h2,h3,h4,h5⟩:=jht he
 obtain⟨w,ew,rw'⟩:=r.get h2
 have hl:=r.length
 have hn:=jd9
 have fin:EP X pins σ Q w s:=⟨z,H,I,rw',q⟩
 exact subscriptTail_builtinR (x:=w) pl.typeIs slot_tuple_getitem.lookup
  (getItem_tuple (j:=j) (Q:=λr s'=>r=w/\EP X pins σ Q r s') pl (by omega) (by omega) (by rw[Aq,<-hl];exact h1) (by simpa using ew) ⟨rfl,fin⟩) hs
theorem ix_str:IxR X rIxS:=by
 intro value slice pins s σ H x y v u Q I rx ry h hs
 obtain⟨z,i,c,rfl,rfl,hz,he,q⟩:=h
 obtain⟨t,rfl⟩:=rx
 obtain⟨t',rfl⟩:=ry
 obtain⟨j,h1,h2,h3,h4,h5⟩:=jht he
 have hl:z.cps.toList.length=z.length:=by simp[Str.length]
 rw[hl]at h1 h4 h5
 have hn:=jd9
 exact tail_any (typeIs_str s z t) slot_str_getitem.lookup (getItem_str (c:=c) (by
  have e1:decide (i < -(2^63:Int))=false:=Ow (by omega)
  have e2:decide (i ≥ 2^63)=false:=Ow (by omega)
  rw[e1,e2,Bool.or_false]) (by rw[h1];simpa using h2) ⟨.str ⟨#[c]⟩,H,I.tok _,⟨_,rfl⟩,q⟩) hs
theorem jm7(its:List Value)(n j:Nat)(u:Value):Obj.mapSeq (·.setIfInBounds j u) {cls:=.type "list",data:=.seq its.toArray n}={cls:=.type "list",data:=.seq (its.set j u).toArray n}:=by
 simp[Obj.mapSeq]
theorem Inv.lst{pins:List (Addr×Obj)}{σ:St}{H:Hp}{s:Shared}{p:Addr}{xs:List V}(I:Inv X pins σ H s)(h:H p=some (.lst xs)) :
  ∃(its:List Value)(n:Nat),Vals xs its/\s.heap.get? p=some {cls:=.type "list",data:=.seq its.toArray n}/\xs.length<=sizeLine:=by
 obtain⟨z,its,n,r,e⟩:=I.hok p _ h
 exact⟨its,n,r,e,z⟩
theorem Inv.lstUpd{pins:List (Addr×Obj)}{σ:St}{H:Hp}{s:Shared}{p:Addr}{xs ys:List V}{its its':List Value}{n n':Nat}{f:Obj->Obj}(I:Inv X pins σ H s)(h:H p=some (.lst xs))
  (ho:s.heap.get? p=some {cls:=.type "list",data:=.seq its.toArray n}) (hf:f {cls:=.type "list",data:=.seq its.toArray n}={cls:=.type "list",data:=.seq its'.toArray n'}) (r:Vals ys its') (hz:ys.length<=sizeLine) (t:Nat) :
  Inv X pins σ (upd H p (.lst ys)) {s with heap:=s.heap.update p f,toks:=t}:=by
 have e:(s.heap.update p f).get? p=some {cls:=.type "list",data:=.seq its'.toArray n'}:=by
  rw[O1 f ho (by rw[hf] <;> rfl),hf]
 refine I.write (x:=p) (e:=p) (by rw[h];trivial) (.inl rfl) (λb u hb q=>(O6 _ _ (Wl hb)).trans q) ⟨_,e⟩ ?_
 exact⟨hz,its',n',r,e⟩
def jsm:V->V->V->Hp->(Hp->Prop)->Prop:=λo i v H Q=>∃p xs k j,o=.ref p/\i=.int k/\H p=some (.lst xs)/\ixN xs.length k=some j/\Q (upd H p (.lst (xs.set j v)))
theorem jpo:PSet X jsm:=by
 intro pins s σ H o i v ov iv u Q I ro ri rv h
 obtain⟨p,xs,k,j,rfl,rfl,hp,hj,q⟩:=h
 cases ro
 obtain⟨t,rfl⟩:=ri
 obtain⟨its,n,r,ho,hz⟩:=I.lst hp
 obtain⟨h1,h2,h3,h4⟩:=jl7 hj
 have hl:=r.length
 have hn:=jd9
 have I':Inv X pins σ (upd H p (.lst (xs.set j v))) {s with heap:=s.heap.update p (Obj.mapSeq (·.setIfInBounds j u))} :=
  I.lstUpd hp ho (jm7 its n j u) (r.set rv j) (by rw[Uh];exact hz) s.toks
 by_cases h0:0<=k
 ·have hk:k.toNat=j:=by
   rw[seqIndex_of h0 h4]at h1
   exact Av h1
  exact PySem.W.ki_setAt ho h0 (by omega) (by rw[Aq,<-hl];exact h4) (by rw[hk];exact⟨_,I',q⟩)
 ·have hk:(k+(its.toArray.size:Int)).toNat=j:=by
   rw[seqIndex_neg (by omega) h3]at h1
   rw[Aq,<-hl]
   exact Av h1
  exact PySem.W.ki_setBack ho (by omega) (by rw[Aq,<-hl];exact h3) (by omega) (by rw[hk];exact⟨_,I',q⟩)
theorem jk4(lo hi:Option Int)(n:Nat):(sliceBounds lo hi none n).1=((HT.sIx n 0 lo:Nat):Int)/\(sliceBounds lo hi none n).2.1=((HT.sIx n n hi:Nat):Int)/\(sliceBounds lo hi none n).2.2=1:=by
 refine⟨?_,?_,rfl⟩
 ·cases lo with
  |none=>simp[sliceBounds,HT.sIx]
  |some i =>
   simp only[sliceBounds,HT.sIx,Option.getD_none,show(1:Int)>0 by decide,Oz]
   by_cases h:i<0
   ·simp only[h,Oz] <;> omega
   ·simp only[h,Of] <;> omega
 ·cases hi with
  |none=>simp[sliceBounds,HT.sIx]
  |some i =>
   simp only[sliceBounds,HT.sIx,Option.getD_none,show(1:Int)>0 by decide,Oz]
   by_cases h:i<0
   ·simp only[h,Oz] <;> omega
   ·simp only[h,Of] <;> omega
theorem jjd(its:List Value)(lo hi:Option Int):slicePick its.toArray lo hi none=((its.drop (HT.sIx its.length 0 lo)).take (HT.sIx its.length its.length hi-HT.sIx its.length 0 lo)).toArray:=by
 obtain⟨h1,h2,h3⟩:=jk4 lo hi its.toArray.size
 unfold slicePick
 rw[h1,h2,h3]
 simp only[sliceRange_one,pick_run,Aq] <;> rfl
def rSlL(K:PySem.W.Frag):V->Option Int->Option Int->Hp->VK->Prop:=λx lo hi H Q=>∃a xs,x=.ref a/\SqL K H a xs/\∀p,H p=none->Q (.ref p) (upd H p (.lst (cutV xs lo hi)))
theorem sl_list:SlR X (rSlL X.K):=by
 intro pins s σ H x v vl vu lo hi sl Q I rx hs pl pu h
 obtain⟨a,xs,rfl,hx,q⟩:=h
 cases rx
 obtain⟨its,r,ht,hz⟩:=I.list hx
 have hlen:=r.length
 refine⟨"list",_,slot_list_getitem.lookup,ht.isList.typeIs,?_⟩
 refine wpAny_getItem_list_slice ht.isList hs pl pu .none (by simp) ?_ (by rw[Aq] <;> omega)
 rw[jjd,<-hlen]
 refine⟨.ref s.heap.objs.size,_,I.laid (t':=s.toks) (o:=.lst (cutV xs lo hi)) (λb ob q=>Ai _ q) (Ak _) ?_,rfl,q _ (I.hok.fresh (Ak _))⟩
 exact⟨Iv (jep xs lo hi) hz,_,0,(r.drop (HT.sIx xs.length 0 lo)).take (HT.sIx xs.length xs.length hi-HT.sIx xs.length 0 lo),Aw _ rfl⟩
def jdj:V->Bool
 |.non=>true
 |.bl _=>true
 |.int _=>true
 |.str _=>true
 |_=>false
def eqV:V->V->Bool
 |.non,.non=>true
 |.bl a,.bl b=>a == b
 |.bl a,.int b=>(if a then 1 else 0) == b
 |.int a,.bl b=>a == (if b then 1 else 0)
 |.int a,.int b=>a == b
 |.str a,.str b=>a == b
 |_,_=>false
theorem jrn{A:Around}{s:Shared}{y x:V}{u v:Value}(ry:RelV y u)(rx:RelV x v)(fy:jdj y=true)(fx:jdj x=true):SeqAt.EqAt A s u v (eqV y x):=by
 cases y with
 |non =>
  cases ry
  cases x with
  |non=>cases rx;exact SeqAt.EqAt.same _
  |bl b=>cases rx;exact SeqAt.EqAt.none_bool b
  |int b=>obtain⟨t,rfl⟩:=rx;exact SeqAt.EqAt.none_int b t
  |str b=>obtain⟨t,rfl⟩:=rx;exact SeqAt.EqAt.none_str b t
  |_=>exact absurd (show false=true from fx) A4
 |bl a =>
  cases ry
  cases x with
  |non=>cases rx;exact SeqAt.EqAt.bool_none a
  |bl b=>cases rx;exact SeqAt.EqAt.bool_bool a b
  |int b=>obtain⟨t,rfl⟩:=rx;exact SeqAt.EqAt.bool_int a b t
  |str b=>obtain⟨t,rfl⟩:=rx;exact SeqAt.EqAt.bool_str a b t
  |_=>exact absurd (show false=true from fx) A4
 |int a =>
  obtain⟨t',rfl⟩:=ry
  cases x with
  |non=>cases rx;exact SeqAt.EqAt.int_none a t'
  |bl b=>cases rx;exact SeqAt.EqAt.int_bool a t' b
  |int b=>obtain⟨t,rfl⟩:=rx;exact SeqAt.EqAt.int_int a t' b t
  |str b=>obtain⟨t,rfl⟩:=rx;exact SeqAt.EqAt.int_str a t' b t
  |_=>exact absurd (show false=true from fx) A4
 |str a =>
  obtain⟨t',rfl⟩:=ry
  cases x with
  |non=>cases rx;exact SeqAt.EqAt.str_none a t'
  |bl b=>cases rx;exact SeqAt.EqAt.str_bool a t' b
  |int b=>obtain⟨t,rfl⟩:=rx;exact SeqAt.EqAt.str_int a t' b t
  |str b=>obtain⟨t,rfl⟩:=rx;exact SeqAt.EqAt.str_str a t' b t
  |_=>exact absurd (show false=true from fx) A4
 |_=>exact absurd (show false=true from fy) A4
def eqU(x:V)(u:Value):Bool:=match u with
 |.none=>eqV .non x
 |.bool b=>eqV (.bl b) x
 |.int i _=>eqV (.int i) x
 |.str z _=>eqV (.str z) x
 |_=>false
theorem jn1{x y:V}{u:Value}(r:RelV y u)(f:jdj y=true):eqU x u=eqV y x:=by
 cases y with
 |non=>cases r;rfl
 |bl b=>cases r;rfl
 |int i=>obtain⟨t,rfl⟩:=r;rfl
 |str z=>obtain⟨t,rfl⟩:=r;rfl
 |_=>exact absurd (show false=true from f) A4
theorem jhs{x:V}:∀{xs:List V}{us:List Value},Vals xs us->xs.all jdj=true->us.any (eqU x)=xs.any λy=>eqV y x
 |_,_,.nil,_=>rfl
 |y::xs,u::us,.cons r t,f=>by
  rw[List.all_cons,Oy]at f
  rw[List.any_cons,List.any_cons,jn1 r f.1,jhs t f.2]
theorem jgd{A:Around}{s:Shared}{x:V}{v:Value}(rx:RelV x v)(fx:jdj x=true):∀{xs:List V}{us:List Value},Vals xs us->xs.all jdj=true->∀u∈us,SeqAt.EqAt A s u v (eqU x u)
 |_,_,.nil,_=>λu hu=>by cases hu
 |y::xs,u::us,.cons r t,f=>λu' hu=>by
  rw[List.all_cons,Oy]at f
  rcases Ap.mp hu with rfl|hu
  ·rw[jn1 r f.1];exact jrn r rx f.1 fx
  ·exact jgd rx fx t f.2 u' hu
def inV(x:V)(xs:List V):Bool:=xs.any λy=>eqV y x
def rIn(K:PySem.W.Frag)(neg:Bool):R2:=λx y H Q=>∃p xs,y=.ref p/\(SqL K H p xs\/SqT K H p xs)/\jdj x=true/\xs.all jdj=true/\Q (.bl (if neg then !inV x xs else inV x xs)) H
theorem op_notIn_seq:OpR X (compareOp .NotIn) (rIn X.K true):=by
 intro pins s σ H x y v u Q I rx ry h
 obtain⟨p,xs,rfl,hq,fx,fs,q⟩:=h
 cases ry
 rcases hq with hq|hq
 ·obtain⟨its,r,pl,hz⟩:=I.list hq
  refine SeqAt.notIn_listAt (eqU x) pl.isList (λw hw=>jgd rx fx r fs w (by simpa using hw)) ⟨.bl _,H,I,rfl,?_⟩
  rw[show its.toArray.any (eqU x)=its.any (eqU x)by simp,jhs r fs]
  exact q
 ·obtain⟨its,r,pl,hz⟩:=I.tuple hq
  refine SeqAt.notIn_tupleAt (eqU x) pl (λw hw=>jgd rx fx r fs w (by simpa using hw)) ⟨.bl _,H,I,rfl,?_⟩
  rw[show its.toArray.any (eqU x)=its.any (eqU x)by simp,jhs r fs]
  exact q
theorem op_notIn_str:OpR X (compareOp .NotIn) (λx y H Q=>∃i j,x=.str i/\y=.str j/\Q (.bl (!(!(Builtin.Str.occurrences j i 0 j.length 1).isEmpty))) H):=by
 intro pins s σ H x y v u Q I rx ry h
 obtain⟨i,j,rfl,rfl,q⟩:=h
 obtain⟨t,rfl⟩:=rx
 obtain⟨t',rfl⟩:=ry
 exact notIn_str ⟨.bl _,H,I,rfl,q⟩
theorem z5:jcq X (.builtin "len") (λxs H Q=>∃p ys,xs=[.ref p]/\(SqL X.K H p ys\/SqT X.K H p ys)/\Q (.int ys.length) H):=by
 intro pins s σ H xs us Q I r h
 obtain⟨p,ys,rfl,hq,q⟩:=h
 obtain⟨u,rfl,rx⟩:=jc1 r
 cases rx
 have hn:=jd9
 rcases hq with hq|hq
 ·obtain⟨its,r',pl,hz⟩:=I.list hq
  have hlen:=r'.length
  exact Calls.call_len_list pl.isList (by simp only[Aq] <;> omega) ⟨.int ys.length,H,I.tok _,⟨s.toks+1,by rw[Aq,hlen]⟩,q⟩
 ·obtain⟨its,r',pl,hz⟩:=I.tuple hq
  have hlen:=r'.length
  exact len_tuple pl (by simp only[Aq] <;> omega) ⟨.int ys.length,H,I.tok _,⟨s.toks+1,by rw[Aq,hlen]⟩,q⟩
theorem call_len_str:jcq X (.builtin "len") (λxs H Q=>∃z,xs=[.str z]/\z.length<=sizeLine/\Q (.int z.length) H):=by
 intro pins s σ H xs us Q I r h
 obtain⟨z,rfl,hz,q⟩:=h
 obtain⟨u,rfl,t,rfl⟩:=jc1 r
 have hn:=jd9
 exact len_str (by omega) ⟨.int z.length,H,I.tok _,⟨_,rfl⟩,q⟩
theorem jaz:jcq X (.type "list") (λxs H Q=>∃p ys,xs=[.ref p]/\(SqL X.K H p ys\/SqT X.K H p ys)/\∀l,H l=none->Q (.ref l) (upd H l (.lst ys))):=by
 intro pins s σ H xs us Q I r h
 obtain⟨p,ys,rfl,hq,q⟩:=h
 obtain⟨u,rfl,rx⟩:=jc1 r
 cases rx
 have fin:∀(its:List Value),Vals ys its->ys.length<=sizeLine->∀(h':Heap)(c':Nat),(∀b o',s.heap.get? b=some o'->h'.get? b=some o') ->
   h'.get? s.heap.objs.size=some {cls:=.type "list",dict:=none,data:=.seq its.toArray c',slots:=#[]}->EP X pins σ Q (.ref s.heap.objs.size) {s with heap:=h'}:=λits r' hz h' c' kp e =>
  ⟨.ref s.heap.objs.size,_,I.laid (t':=s.toks) kp (Ak _) (show ObjOk X.prog X.w _ h' _ (.lst ys)from⟨hz,its,c',r',e⟩),rfl,q _ (I.hok.fresh (Ak _))⟩
 rcases hq with hq|hq
 ·obtain⟨its,r',pl,hz⟩:=I.list hq
  have hlen:=r'.length
  obtain⟨o,ho,hc,n,hd⟩:=pl.isList
  exact call_list_seq p (.inl rfl) ho hc hd (λh' c' kp e=>fin its r' hz h' c' kp e) (by simp only[Aq] <;> omega)
 ·obtain⟨its,r',pl,hz⟩:=I.tuple hq
  have hlen:=r'.length
  obtain⟨o,ho,hc,n,hd⟩:=pl
  exact call_list_seq p (.inr rfl) ho hc hd (λh' c' kp e=>fin its r' hz h' c' kp e) (by simp only[Aq] <;> omega)
theorem jay:jcq X (.type "tuple") (λxs H Q=>∃p ys,xs=[.ref p]/\((SqL X.K H p ys/\∀l,H l=none->Q (.ref l) (upd H l (.tup ys)))\/(SqT X.K H p ys/\Q (.ref p) H))):=by
 intro pins s σ H xs us Q I r h
 obtain⟨p,ys,rfl,h⟩:=h
 obtain⟨u,rfl,rx⟩:=jc1 r
 cases rx
 rcases h with⟨hq,q⟩|⟨hq,q⟩
 ·obtain⟨its,r',pl,hz⟩:=I.list hq
  have hlen:=r'.length
  refine call_tuple_list pl.isList (λh' kp=>?_) (by simp only[Aq] <;> omega)
  have I1:Inv X pins σ H {s with heap:=h'}:=I.kept (t':=s.toks) kp
  have I2:Inv X pins σ (upd H h'.objs.size (.tup ys)) {s with heap:=h'.push {cls:=.type "tuple",data:=.seq its.toArray}} :=
   I1.laid (t':=s.toks) (λb o e=>Ai _ e) (Ak _) (show ObjOk X.prog X.w _ _ _ (.tup ys)from⟨hz,its,r',IsTup.new _ _⟩)
  exact⟨.ref h'.objs.size,_,I2,rfl,q _ (I1.hok.fresh (Ak _))⟩
 ·obtain⟨its,r',pl,hz⟩:=I.tuple hq
  exact call_tuple_same pl ⟨.ref p,H,I,rfl,q⟩
def tyV(K:PySem.W.Frag)(T:String)(x:V)(H:Hp):Prop:=match x with
 |.str _=>T="str"
 |.int _=>T="int"
 |.ref p=>(T="list"/\∃xs,SqL K H p xs)\/(T="tuple"/\∃o,K.lookup p=some o/\o.cls=.type "tuple"/\o.dict=none) \/
   (T="dict"/\((∃kvs,H p=some (.dK kvs))\/∃kvs,H p=some (.dT kvs)))\/(T="set"/\∃S n,H p=some (.set S n))
 |_=>False
theorem jo2{pins:List (Addr×Obj)}{σ:St}{H:Hp}{s:Shared}{T:String}{x:V}{v:Value}(I:Inv X pins σ H s)(r:RelV x v)(ty:tyV X.K T x H) :
  s.TypeIs v T/\∀a,v=.ref a->∃ob,s.heap.get? a=some ob/\ob.dict=none:=by
 cases x with
 |str z =>
  obtain⟨t,rfl⟩:=r
  cases(show T="str"from ty)
  exact⟨typeIs_str s z t,λ_ e=>nomatch e⟩
 |int i =>
  obtain⟨t,rfl⟩:=r
  cases(show T="int"from ty)
  exact⟨typeIs_int s i t,λ_ e=>nomatch e⟩
 |ref p =>
  cases r
  rcases ty with⟨rfl,xs,hq⟩|⟨rfl,o,hk,hc,hd⟩|⟨rfl,hk⟩|⟨rfl,S,n,hk⟩
  ·obtain⟨its,_,pl,_⟩:=I.list hq
   refine⟨pl.isList.typeIs,λa e=>?_⟩
   cases e
   obtain⟨o,n,e,c,hd,_⟩:=pl
   exact⟨o,e,hd⟩
  ·refine⟨⟨o,I.kIn p o hk,hc⟩,λa e=>?_⟩
   cases e
   exact⟨o,I.kIn _ o hk,hd⟩
  ·have z:∃o,s.heap.get? p=some o/\o.ExactDict:=by
    rcases hk with⟨kvs,hk⟩|⟨kvs,hk⟩
    ·obtain⟨_,_,_,_,o,_,_,e,ex,_⟩:=I.hok p _ hk
     exact⟨o,e,ex⟩
    ·obtain⟨_,_,_,_,o,_,_,e,ex,_⟩:=I.hok p _ hk
     exact⟨o,e,ex⟩
   obtain⟨o,e,ex⟩:=z
   refine⟨⟨o,e,ex.1⟩,λa e2=>?_⟩
   cases e2
   exact⟨o,e,ex.2.1⟩
  ·obtain⟨o,_,_,_,e,ex,_⟩:=I.hok p _ hk
   refine⟨⟨o,e,ex.1⟩,λa e2=>?_⟩
   cases e2
   exact⟨o,e,ex.2.1⟩
 |_=>exact False.elim ty
def tBM0(K:PySem.W.Frag)(T:String)(r:V->List V->Hp->VK->Prop)(to:TE):TE:=λσ H Q=>to σ H λx H1=>tyV K T x H1/\r x [] H1 Q
def tBM(K:PySem.W.Frag)(T:String)(r:V->List V->Hp->VK->Prop)(to:TE)(t:TA):TE:=λσ H Q=>to σ H λx H1=>tyV K T x H1/\t σ H1 λxs H2=>r x xs H2 Q
variable{o e:Expr}{es:List Expr}{to:TE}{t:TA}{name:Str}{apos cpos:Pos}{T id:String}{r:V->List V->Hp->VK->Prop}
theorem pe_bm0(pa:PlainAttrs T)(slot:Slot T name id)(hty:typeOf (.builtin id)=pure (.type "method_descriptor"))(hm:MtR X id r)(ho:PE X o to)
  (hbase:attributeBase o name X.env (eval o X.env)=eval o X.env:=by rfl) (hline:(apos.endLine == cpos.line)=true:=by rfl):PE X (.Call (.Attribute o name apos) [] [] cpos) (tBM0 X.K T r to):=by
 intro pins s σ H Q I h
 refine wpAny_Call_method0_late hbase hline (thn (ho pins s σ H _ I h) λv s1 ⟨x,H1,I1,r1,ty,q1⟩=>?_)
 obtain⟨h1,h2⟩:=jo2 I1 r1 ty
 exact⟨T,id,pa,slot,hty,h1,h2,Yj rfl (PySem.evalArgs_none (hm pins s1 σ H1 x [] v [] Q I1 r1 .nil q1))⟩
theorem jbp(pa:PlainAttrs T)(slot:Slot T name id)(hty:typeOf (.builtin id)=pure (.type "method_descriptor"))(hm:MtR X id r)(ho:PE X o to)(ha:PA X (e::es) t)
  (hbase:attributeBase o name X.env (eval o X.env)=eval o X.env:=by rfl)
  (hfew:((backTo cpos (starEach (e::es) X.env)).all (λx=>!x.1) && (backToKw cpos (keywordEach [] X.env)).all (λx=>x.1.isSome)
   && decide ((e::es).length+([]:List Keyword).length+(if([]:List Keyword).isEmpty then 0 else 1)<30))=true:=by rfl)
  (hline:(apos.endLine == cpos.line)=true:=by rfl) (hs:starEach (e::es) X.env=(false,eval e X.env)::starEach es X.env:=by rfl) (hplain:(backTo cpos (starEach es X.env)).any (·.1)=false:=by rfl) :
  PE X (.Call (.Attribute o name apos) (e::es) [] cpos) (tBM X.K T r to t):=by
 intro pins s σ H Q I h
 refine wpAny_Call_method_late hbase hfew hline rfl (thn (ho pins s σ H _ I h) λv s1 ⟨x,H1,I1,r1,ty,q1⟩=>?_)
 obtain⟨h1,h2⟩:=jo2 I1 r1 ty
 refine⟨T,id,pa,slot,hty,h1,h2,?_⟩
 have hA:=ha cpos pins s1 σ H1 _ I1 q1
 rw[hs]at hA⊢
 refine Yj (by show(false || (backTo cpos (starEach es X.env)).any (·.1))=false;rw[hplain] <;> rfl) (Calls.evalArgs_plain ?_)
 exact thn hA λus s2 ⟨vs,H2,I2,r2,q2⟩=>hm pins s2 σ H2 x vs v us Q I2 r1 r2 q2
end
def MtM(X:Cx)(id:String)(r:V->List V->Hp->VK->Prop):Prop :=
 ∀(pins:List (Addr×Obj))(s:Shared)(σ:St)(H:Hp)(x:V)(xs:List V)(v:Value)(us:List Value)(Q:VK),Inv X pins σ H s->RelV x v->Vals xs us->r x xs H Q ->
  wpAny (model X.prog X.w) X.A (call (.builtin id) (v::us)) (EP X pins σ Q) X.xe s
theorem Vals.one{x:V}{us:List Value}(h:Vals [x] us):∃u,us=[u]/\RelV x u:=jc1 h
theorem Vals.two{x y:V}{us:List Value}(h:Vals [x,y] us):∃u v,us=[u,v]/\RelV x u/\RelV y v:=jho h
theorem Vals.zero:∀{us:List Value},Vals [] us->us=[]
 |_,.nil=>rfl
theorem Vals.dropLast{xs:List V}{us:List Value}(h:Vals xs us):Vals xs.dropLast us.dropLast:=by
 induction h with
 |nil=>exact .nil
 |cons r t ih =>
  cases t with
  |nil=>exact .nil
  |cons q t'=>exact .cons r ih
theorem Vals.eraseIdx:∀{xs:List V}{us:List Value}(i:Nat),Vals xs us->Vals (xs.eraseIdx i) (us.eraseIdx i)
 |_,_,_,.nil=>.nil
 |_,_,0,.cons _ t=>t
 |_,_,i+1,.cons r t=>.cons r (Vals.eraseIdx i t)
theorem Vals.rep{xs:List V}{us:List Value}(h:Vals xs us):∀k:Nat,Vals (List.replicate k xs).flatten (List.replicate k us).flatten
 |0=>.nil
 |k+1=>by
  rw[List.replicate_succ,List.replicate_succ,List.flatten_cons,List.flatten_cons]
  exact Vals.append h (Vals.rep h k)
theorem jmy{α:Type}(l:List α):l.eraseIdx (l.length-1)=l.dropLast:=by
 induction l with
 |nil=>rfl
 |cons a r ih =>
  cases r with
  |nil=>rfl
  |cons b r =>
   have e:(a::b::r).length-1=((b::r).length-1)+1:=by
    have h1:(a::b::r).length=r.length+2:=rfl
    have h2:(b::r).length=r.length+1:=rfl
    omega
   rw[e,List.eraseIdx_cons_succ,ih]
   all_goals rfl
theorem jin{α:Type}:∀(l:List α)(i:Nat),(l.eraseIdx i).length<=l.length
 |[],_=>Ak _
 |_::_,0=>Nat.le_succ _
 |_::r,i+1=>Nat.succ_le_succ (jin r i)
theorem jii(its:List Value):∀(k:Nat)(acc:List Value),
  List.foldl (λx1 x2=>x1++x2) acc.toArray (List.replicate k its.toArray)=(acc++(List.replicate k its).flatten).toArray
 |0,acc=>by simp
 |k+1,acc=>by
  have e:acc.toArray++its.toArray=(acc++its).toArray:=by simp
  have e2:(acc++its)++(List.replicate k its).flatten=acc++(List.replicate (k+1) its).flatten:=by
   rw[List.replicate_succ,List.flatten_cons,U5]
  rw[<-e2,<-jii its k (acc++its),<-e,List.replicate_succ,List.foldl_cons]
section
variable{X:Cx}{pins:List (Addr×Obj)}{σ:St}{H:Hp}{s:Shared}{l b:Addr}{xs ys zs:List V}
theorem Inv.lset{its its':List Value}{n:Nat}{f:Array Value->Array Value}{t':Nat}(I:Inv X pins σ H s)(hH:H l=some (.lst xs))
  (e:s.heap.get? l=some {cls:=.type "list",data:=.seq its.toArray n}) (hf:f its.toArray=its'.toArray) (hv:Vals ys its') (hz:ys.length<=sizeLine) :
  Inv X pins σ (upd H l (.lst ys)) {s with heap:=s.heap.update l (Obj.mapSeq f),toks:=t'}:=by
 have q:=PySem.IsL.update e f
 rw[hf]at q
 refine I.write (x:=l) (e:=l) (by rw[hH];exact trivial) (.inl rfl) (λb' u hb hu=>(O6 s.heap (Obj.mapSeq f) (Wl hb)).trans hu) ⟨_,q⟩ ?_
 exact⟨hz,its',_,hv,q⟩
theorem Inv.lnew{its:List Value}{t':Nat}(I:Inv X pins σ H s)(hv:Vals ys its)(hz:ys.length<=sizeLine) :
  Inv X pins σ (upd H s.heap.objs.size (.lst ys)) {s with heap:=s.heap.push {cls:=.type "list",data:=.seq its.toArray},toks:=t'} :=
 I.laid (λ_ _ q=>Ai _ q) (Ak _) ⟨hz,its,0,hv,Aw _ rfl⟩
theorem Inv.fresh(I:Inv X pins σ H s):H s.heap.objs.size=none:=I.hok.fresh (Ak _)
theorem Inv.lstM(I:Inv X pins σ H s)(hH:H l=some (.lst xs)):xs.length<=sizeLine/\∃(its:List Value)(n:Nat),Vals xs its/\xs.length=its.length/\s.heap.get? l=some {cls:=.type "list",data:=.seq its.toArray n}:=by
 obtain⟨z,its,n,r,e⟩:=I.hok l _ hH
 exact⟨z,its,n,r,r.length,e⟩
theorem jkf{n:Nat}(h:n<=sizeLine):Builtin.List.listTooLong n=false:=by
 unfold Builtin.List.listTooLong
 exact Ow (by omega)
end
section
variable{X:Cx}
def jra:V->List V->Hp->VK->Prop:=λx vs H Q=>∃l xs y,x=.ref l/\vs=[y]/\H l=some (.lst xs)/\xs.length<sizeLine/\Q .non (upd H l (.lst (xs++[y])))
theorem ja0:MtM X "list.append" jra:=by
 intro pins s σ H x vs v us Q I rx rv h
 obtain⟨l,xs,y,rfl,rfl,hH,hz,q⟩:=h
 cases rx
 obtain⟨u,rfl,ru⟩:=rv.one
 obtain⟨z,its,n,r,hl,e⟩:=I.lstM hH
 refine W0 F.slot_list_append ⟨_,e,rfl⟩ F.entry_list_append (F.args_list_append_2 _ _) (PySem.list_append l its.toArray n u (by rw[Aq];omega)) ⟨e,?_⟩
 refine⟨.non,_,I.lset (its':=its++[u]) hH e (by simp) (r.append (.cons ru .nil)) ?_,rfl,q⟩
 rw[A1,List.length_singleton]
 omega
def jrb:V->List V->Hp->VK->Prop:=λx vs H Q=>∃l b xs zs,x=.ref l/\vs=[.ref b]/\H l=some (.lst xs)/\H b=some (.lst zs)/\xs.length+zs.length<=sizeLine/\Q .non (upd H l (.lst (xs++zs)))
theorem mt_extend:MtM X "list.extend" jrb:=by
 intro pins s σ H x vs v us Q I rx rv h
 obtain⟨l,b,xs,zs,rfl,rfl,hH,hB,hz,q⟩:=h
 cases rx
 obtain⟨u,rfl,ru⟩:=rv.one
 cases ru
 obtain⟨z,its,n,r,hl,e⟩:=I.lstM hH
 obtain⟨z2,its2,n2,r2,hl2,e2⟩:=I.lstM hB
 have hsz:its.toArray.size+its2.toArray.size<=sizeLine:=by rw[Aq,Aq];omega
 have hlong:¬(!its.toArray.isEmpty && Builtin.List.listTooLong (its.toArray.size+its2.toArray.size))=true:=by
  rw[jkf hsz,Bool.and_false]
  exact A4
 refine W0 F.slot_list_extend ⟨_,e,rfl⟩ F.entry_list_extend (F.args_list_extend_2 _ _)
  (AutoSeq1.list_extend_list_list_0 l its.toArray n b its2.toArray n2 hlong (by rw[Aq];omega) (by omega)) ⟨e,e2,?_⟩
 refine⟨.non,_,I.lset (its':=its++its2) hH e (by simp) (r.append r2) ?_,rfl,q⟩
 rw[A1]
 omega
def rPop:V->List V->Hp->VK->Prop:=λx vs H Q=>∃l xs y,x=.ref l/\vs=[]/\H l=some (.lst xs)/\xs[xs.length-1]?=some y/\Q y (upd H l (.lst xs.dropLast))
theorem mt_pop:MtM X "list.pop" rPop:=by
 intro pins s σ H x vs v us Q I rx rv h
 obtain⟨l,xs,y,rfl,rfl,hH,hy,q⟩:=h
 cases rx
 have hus:=rv.zero
 subst hus
 obtain⟨z,its,n,r,hl,e⟩:=I.lstM hH
 obtain⟨u,hu,ru⟩:=r.get hy
 have hy':its.toArray[its.toArray.size-1]?=some u:=by
  show its.toArray[its.length-1]?=some u
  rw[<-Ie,<-hl]
  exact hu
 refine W0 F.slot_list_pop ⟨_,e,rfl⟩ F.entry_list_pop (F.args_list_pop_1 _) (MeetsSeq.list_pop_last l its.toArray n u hy' (by rw[Aq];omega)) ⟨e,?_⟩
 refine⟨y,_,I.lset (its':=its.dropLast) hH e ?_ r.dropLast ?_,ru,q⟩
 ·show its.toArray.eraseIdxIfInBounds (its.toArray.size-1)=its.dropLast.toArray
  rw[Aq,List.eraseIdxIfInBounds_toArray,jmy]
 ·rw[List.length_dropLast]
  omega
def jr2:V->List V->Hp->VK->Prop:=λx vs H Q=>∃l xs i k y,x=.ref l/\vs=[.int i]/\H l=some (.lst xs)/\-(2^63)<=i/\i<2^63/\seqIndex? i xs.length=some k/\xs[k]?=some y/\Q y (upd H l (.lst (xs.eraseIdx k)))
theorem mt_popAt:MtM X "list.pop" jr2:=by
 intro pins s σ H x vs v us Q I rx rv h
 obtain⟨l,xs,i,k,y,rfl,rfl,hH,h1,h2,hk,hy,q⟩:=h
 cases rx
 obtain⟨u,rfl,ru⟩:=rv.one
 obtain⟨t,rfl⟩:=ru
 obtain⟨z,its,n,r,hl,e⟩:=I.lstM hH
 obtain⟨w,hw,rw'⟩:=r.get hy
 refine W0 F.slot_list_pop ⟨_,e,rfl⟩ F.entry_list_pop (F.args_list_pop_2 _ _)
  (MeetsSeq.list_pop_at l its.toArray n i t k w (fitsIndex_both h1 h2) (by rw[Aq,<-hl];exact hk) (by rw[<-Ie];exact hw) (by rw[Aq];omega)) ⟨e,?_⟩
 refine⟨y,_,I.lset (its':=its.eraseIdx k) hH e ?_ (r.eraseIdx k) ?_,rw',q⟩
 ·show its.toArray.eraseIdxIfInBounds k=(its.eraseIdx k).toArray
  rw[List.eraseIdxIfInBounds_toArray]
 ·have:=jin xs k
  omega
def rCat:R2:=λx y H Q=>∃l b xs zs,x=.ref l/\y=.ref b/\H l=some (.lst xs)/\H b=some (.lst zs)/\xs.length+zs.length<=sizeLine/\∀p,H p=none->Q (.ref p) (upd H p (.lst (xs++zs)))
theorem op_cat:OpR X (binaryOp .Add) rCat:=by
 intro pins s σ H x y v u Q I rx ry h
 obtain⟨l,b,xs,zs,rfl,rfl,hH,hB,hz,q⟩:=h
 cases rx
 cases ry
 obtain⟨z,its,n,r,hl,e⟩:=I.lstM hH
 obtain⟨z2,its2,n2,r2,hl2,e2⟩:=I.lstM hB
 refine PySem.P.add_list e e2 ?_ (by rw[Aq,Aq];omega)
 have ea:its.toArray++its2.toArray=(its++its2).toArray:=by simp
 rw[ea]
 exact⟨.ref _,_,I.lnew (t':=s.toks) (r.append r2) (by rw[A1];omega),rfl,q _ I.fresh⟩
def rRep:R2:=λx y H Q=>∃l k xs,x=.ref l/\y=.int k/\H l=some (.lst xs)/\-(2^63)<=k/\k<2^63/\xs.length*k.toNat<=sizeLine /\
 ∀p,H p=none->Q (.ref p) (upd H p (.lst (List.replicate k.toNat xs).flatten))
theorem jq2{α:Type}(xs:List α)(k:Nat):(List.replicate k xs).flatten.length=k*xs.length:=by
 induction k with
 |zero=>simp
 |succ k ih=>rw[List.replicate_succ,List.flatten_cons,A1,ih,Nat.succ_mul,Nat.add_comm]
theorem op_rep:OpR X (binaryOp .Mult) rRep:=by
 intro pins s σ H x y v u Q I rx ry h
 obtain⟨l,k,xs,rfl,rfl,hH,h1,h2,hz,q⟩:=h
 cases rx
 obtain⟨t,rfl⟩:=ry
 obtain⟨z,its,n,r,hl,e⟩:=I.lstM hH
 have hlen:its.toArray.size*k.toNat<=sizeLine:=by rw[Aq,<-hl];exact hz
 have hcap:¬its.toArray.size*k.toNat>(2^63-1) / 8:=by
  have:(sizeLine:Nat)<=(2^63-1) / 8:=by decide
  omega
 have hfit:¬(!Builtin.List.listFitsIndex k)=true:=by
  rw[fitsIndex_both h1 h2]
  exact A4
 have hlong:¬Builtin.List.listTooLong (its.toArray.size*k.toNat)=true:=by
  rw[jkf hlen]
  exact A4
 have hnew:List.foldl (λx1 x2=>x1++x2) #[] (List.replicate (if its.toArray.isEmpty=true then 0 else k.toNat) its.toArray)=(List.replicate k.toNat its).flatten.toArray:=by
  have f0:∀m:Nat,List.foldl (λx1 x2=>x1++x2) #[] (List.replicate m its.toArray)=(List.replicate m its).flatten.toArray:=λm=>by
   have:=jii its m []
   rw[List.nil_append]at this
   exact this
  rw[f0]
  cases its with
  |nil=>simp
  |cons a r'=>rw[An (by simp)]
 refine wpAny_binaryOp_repeat_ref (T:="list") (U:="int") (by decide) ⟨_,e,rfl⟩ (λs'=>typeIs_int s' k t) noFill_list_mul F.fills_int_mul F.slot_int_rmul repeat_list F.slot_int_index.lookup
  (W0 F.slot_int_rmul (typeIs_int s k t) F.entry_int_rmul (F.args_int_rmul_2 _ _) (int___rmul___int_list k t l its.toArray n)
   ⟨e,rfl,⟨_,e,rfl⟩,W0 F.slot_list_mul ⟨_,e,rfl⟩ F.entry_list_mul (F.args_list_mul_2 _ _) (AutoListH.list___mul___list_int_3 l its.toArray n k t hfit hcap hlong) ⟨e,?_⟩⟩)
 rw[hnew]
 exact⟨.ref _,_,I.lnew (t':=s.toks) (r.rep k.toNat) (by rw[jq2,Nat.mul_comm];exact hz),rfl,q _ I.fresh⟩
end
end L2
namespace Att
open PySem PySem.W PySem.Calls PyProof.Rows
theorem jg2{P:Params}{h:Heap}:∀(ns:List Int)(vs:List Value),WellAll P h vs (ns.map WData.int)->IntsAre vs ns:=by
 intro ns
 induction ns with
 |nil =>
  intro vs w
  rw[Up]at w
  cases w
  exact .nil
 |cons n ns ih =>
  intro vs w
  rw[Ay]at w
  cases w with
  |cons a b =>
   cases a
   exact .cons _ _ (ih _ b)
theorem jor{l:OpenLaw}{n:Nat}(hn:l.most=some n){P:Params}{h:Heap}{args:List WData}{vals:List Value}
  (hpre:l.row.toRowW.claim.pre args=true) (hwl:WellAll P h vals args) :
  ∃a vs ns,vals=[Value.ref a]/\args=[WData.list (ns.map WData.int)]/\h.get? a=some {cls:=.type "list",data:=.seq vs.toArray}/\IntsAre vs ns/\ns.length<=n:=by
 have hsh:WShape.hasAll [] args [.list .int]=true:=(pre_splitW hpre).1
 have hc:l.pre.holds [] {args:=args}=true:=(pre_splitW hpre).2
 obtain⟨d,r,rfl,h1,h2⟩:=hasAllW_cons hsh
 obtain rfl:=hasAllW_nil h2
 obtain⟨xs,rfl,h3⟩:=hasW_list h1
 obtain⟨ns,rfl⟩:=items_int h3
 have hlen:ns.length<=n:=by
  unfold OpenLaw.pre at hc
  have h4:(WTm.not (.lt (.lit (.int (n:Int))) (.len (.arg 0)))).holds [] {args:=[.list (ns.map .int)]}=true:=by
   have h4:=(holds_andW hc).1
   rw[hn]at h4
   exact h4
  have h5:=condW_of h4 (w_not (w_lt w_lit (w_len_list (w_arg rfl))))
  rw[Ac]at h5
  refine Nat.le_of_not_lt λq=>?_
  have q':(n:Int)<((ns.length:Nat):Int):=by omega
  first
   |(rw[decide_eq_true q']at h5;exact absurd h5 (by decide))
   |(simp at h5;omega)
 cases hwl with
 |cons w1 w2 =>
  cases w2
  cases w1 with
  |list ho hall=>exact⟨_,_,ns,rfl,rfl,ho,jg2 ns _ hall,hlen⟩
theorem post_true(l:OpenLaw)(args:List WData):l.row.toRowW.claim.post args (.bool true) args=true :=
 postW_of (r:=l.row.toRowW) (X:=(true == true))
  (show WShape.has [] (.bool true) .bool=true by first|rfl|decide|simp[WShape.has,WShape.arms,WShape.armsAll])
  (show(WTm.eq .res (.lit (.bool true))).value [] {args:=args,res:=some (.bool true),after:=args}=some (.bool (true == true))from w_eq_bool (w_res rfl) w_lit) rfl
theorem attach_call{l:OpenLaw}{n:Nat}{q:Program}{loose:List Str}{XP:(Str->Option Value)->Heap->Prop}{YP:World->Heap->Prop}{d:DefRec}
  (hn:l.most=some n) (hdf:d.params.defaults=[])
  (call:∀(w:World)(s₀ s₁:Shared)(mg mb:Str->Option Value)(fa:Addr)(o:Obj)(pm cd doc:Value)(a:Addr)(vs:List Value)(ns:List Int),
   Ground q loose [] XP w s₀ mg mb s₁.heap->YP w s₁.heap ->
   s₁.heap.get? fa=some o->o.data=.func (docDef d.name d.params d.body d.scope pm cd doc)->s₁.heap.CodeRec cd d.name->mg d.name=some (.ref fa) ->
   s₁.heap.get? a=some {cls:=.type "list",data:=.seq vs.toArray}->IntsAre vs ns->ns.length<=n->s₁.gens=#[] ->
   codeAny (model l.prog w) callerA (.call (.ref fa) ⟨[.ref a],[]⟩) (λr s'=>r=.ok (.ret (.bool true))/\OldK s₁.heap s'.heap/\s'.os=s₁.os/\AllBare s'.gens) s₁) :
  WalkO q loose XP YP l.row.toRowW d [] (λf vs=>PySem.call f vs):=by
 intro w s₀ s₁ mg mb G Y fa o pm cd doc dV kV ho hd hcd hD hmg hg args vals as hpre hlay hrd hwl hlo
 obtain rfl:dV=.none:=Dflts.none hD hdf
 obtain rfl:kV=.none:=Dflts.noKw hD
 obtain⟨a,vs,ns,rfl,rfl,hobj,hints,hlen⟩:=jor hn hpre hwl
 refine enter_call (Wx (call w s₀ s₁ mg mb fa o pm cd doc a vs ns G Y ho (fd_plain hd) hcd hmg hobj hints hlen hg) λr s' hq=>?_)
 obtain⟨rfl,h2,h3,h4⟩:=hq
 exact⟨.inl ⟨.bool true,.bool true,[],rfl,λ_=>rfl,.bool true,post_true l _,λ_=>⟨List.Pairwise.nil,λ_ hm=>(nomatch hm)⟩⟩,h2,h3,h4⟩
end Att
namespace L2
open PySem PySem.Spec PyProof.Rows
theorem jjb:∀{vs:List Value}{ns:List Int},IntsAre vs ns->Vals (ns.map V.int) vs
 |_,_,.nil=>.nil
 |_,_,.cons n t h=>.cons ⟨t,rfl⟩ (jjb h)
def j3(s:Stmt):Arguments:=match s with
 |.FunctionDef _ a _ _ _ _ _ _ _ _=>a
 |_=>{posonlyargs:=[],args:=[],vararg:=none,kwonlyargs:=[],kw_defaults:=[],kwarg:=none,defaults:=[]}
def jz(s:Stmt):List Stmt:=match s with
 |.FunctionDef _ _ b _ _ _ _ _ _ _=>b
 |_=>[]
def jf(s:Stmt):Scope:=match s with
 |.FunctionDef _ _ _ _ _ _ sc _ _ _=>sc
 |_=>{kind:=.function,names:=[],isGenerator:=false,isCoroutine:=false}
abbrev CX0:CXT:=λ_ _ _ _ _ _=>False
abbrev E0:XK:=λ_ _ _=>False
theorem jy{X:Cx}:jgo CX0 X E0:=λ_ _ _ _ _ _ _ h=>h.elim
structure Fun(K:PySem.W.Frag)(x qual:Str)(st:Stmt)(f:Addr)(fd:FuncData):Prop where
 ex:∃(oc:Value)(od:Option Addr)(kV doc pm:Value)(an:Option Addr)(cdv ct:Value)(osl:Array (Option Value)),
  fd=PySem.W.fnOf x qual (j3 st) (jz st) (jf st) .none kV doc pm an cdv ct/\K.lookup f=some ⟨oc,od,.func fd,osl⟩/\PySem.W.codeIn K cdv qual=true
 kp:PySem.W.keepIn K (.ref f)=true
section
variable{P:Program}{w:World}{K:PySem.W.Frag}{mg:Str->Option Value}{base:Heap}
theorem Fun.ok{x qual:Str}{st:Stmt}{f:Addr}{fd:FuncData}{N ps:List Str}{k:Nat}{sp:Sp}(F:Fun K x qual st f fd)(S:FnScope N ps (jf st))(len:∀vs H Q E,sp vs H Q E->vs.length=ps.length)
  (hbody:∀(cdv:Value)(A:Around)(outer:List Env)(s:Shared)(H:Hp)(vs:List V)(Q:VK)(E:XK),Room k (A.deeper (envOfC qual (jf st) s.heap.objs.size f cdv))->sp vs H Q E ->
   ∃t,PSs (cxOf CX0 P w K mg base N qual (jf st) f cdv A outer s H E).nox (jz st) t/\t {nx:=λ_ H'=>Q .non H',rt:=Q} (start N vs) H):FnOk P w K mg base CX0 (k+1) f fd ps sp:=by
 obtain⟨oc,od,kV,doc,pm,an,cdv,ct,osl,rfl,lk,hcd⟩:=F.ex
 refine jmz lk hcd S len λA outer s H vs Q E hr hsp=>?_
 obtain⟨t,h,q⟩:=hbody cdv A outer s H vs Q E hr hsp
 exact⟨t,h.nox,q⟩
theorem Fun.binds{x qual:Str}{st:Stmt}{f:Addr}{fd:FuncData}{ps:List Str}(F:Fun K x qual st f fd)
  (h:∀(kV doc pm:Value)(an:Option Addr)(cdv ct:Value)(us:List Value),us.length=ps.length->bindArgs (PySem.W.fnOf x qual (j3 st) (jz st) (jf st) .none kV doc pm an cdv ct) ⟨us,[]⟩=pure (ps.zip us)):Binds K fd ps []:=by
 obtain⟨oc,od,kV,doc,pm,an,cdv,ct,osl,rfl,lk,hcd⟩:=F.ex
 exact .all (h kV doc pm an cdv ct)
theorem jck{x qual:Str}{st:Stmt}{f:Addr}{oc:Value}{od an:Option Addr}{osl:Array (Option Value)}{kV doc pm cdv ct:Value}(l:K.lookup f=some ⟨oc,od,.func (PySem.W.fnOf x qual (j3 st) (jz st) (jf st) .none kV doc pm an cdv ct),osl⟩)
  (c:PySem.W.codeIn K cdv qual=true) (k:PySem.W.keepIn K (.ref f)=true):Fun K x qual st f (PySem.W.fnOf x qual (j3 st) (jz st) (jf st) .none kV doc pm an cdv ct):=⟨⟨oc,od,kV,doc,pm,an,cdv,ct,osl,rfl,l,c⟩,k⟩
end
section
variable{X:Cx}
theorem pv(i:Nat){x:Str}{pos:Pos}(hN:X.N[i]?=some x:=by rfl)(hv:Vis X.env.scope x:=by first|exact Or.inl rfl|exact Or.inr (Or.inl rfl)|exact Or.inr (Or.inr rfl))(hd:(x == ("__debug__":Str))=false:=by decide)
  (hcd:(x == ("__classdict__":Str))=false:=by decide):PE X (.Name x pos) (tVar i):=jb9 hN hv hd hcd
end
theorem ite2{c A B:Prop}[Decidable c](h1:c->A)(h2:¬c->B):if c then A else B:=by
 by_cases h:c
 ·rw[Ao h]
  exact h1 h
 ·rw[An h]
  exact h2 h
section
variable{κ:Type}[DecidableEq κ]
def valV(kvs:List (κ×V))(k:κ):Option V:=(kvs.find? λkv=>decide (kv.1=k)).map (·.2)
def putK(kvs:List (κ×V))(k:κ)(v:V):List (κ×V) :=
 if(kvs.any λkv=>decide (kv.1=k))=true then kvs.map (λkv=>if kv.1=k then(kv.1,v)else kv)else kvs++[(k,v)]
def je0(kvs:List (κ×V))(k:κ):List (κ×V):=kvs.filter λkv=>decide (kv.1≠k)
theorem jcu{p:κ×V}{r:List (κ×V)}{k:κ}(e:p.1=k):valV (p::r) k=some p.2:=by simp[valV,List.find?_cons,e]
theorem jct{p:κ×V}{r:List (κ×V)}{k:κ}(e:¬p.1=k):valV (p::r) k=valV r k:=by simp[valV,List.find?_cons,e]
theorem jeh(k:κ):∀kvs:List (κ×V),(kvs.any λkv=>decide (kv.1=k))=(valV kvs k).isSome
 |[]=>rfl
 |p::r=>by
  rw[List.any_cons]
  by_cases e:p.1=k
  ·simp only[jcu e,decide_eq_true e,Bool.true_or,Option.isSome_some]
  ·rw[jct e,Ow e,Bool.false_or];exact jeh k r
theorem jlb(k j:κ)(y:V):∀kvs:List (κ×V),valV (kvs.map λkv=>if kv.1=k then(kv.1,y)else kv) j=(valV kvs j).map λx=>if j=k then y else x
 |[]=>rfl
 |p::r=>by
  have ih:=jlb k j y r
  rw[Ay]
  by_cases h:p.1=k
  ·rw[Ao h]
   by_cases e:p.1=j
   ·rw[jcu (p:=(p.1,y)) e,jcu e,Option.map_some,Ao (e.symm.trans h)]
   ·rw[jct (p:=(p.1,y)) e,jct e,ih]
  ·rw[An h]
   by_cases e:p.1=j
   ·rw[jcu (p:=p) e,jcu e,Option.map_some,An (λz=>h (e.trans z))]
   ·rw[jct (p:=p) e,jct e,ih]
theorem jja(k j:κ)(y:V):∀kvs:List (κ×V),valV kvs k=none->valV (kvs++[(k,y)]) j=if j=k then some y else valV kvs j
 |[],_=>by
  by_cases e:k=j
  ·rw[Ao e.symm];exact jcu (p:=(k,y)) e
  ·rw[An (λz=>e z.symm)];exact jct (p:=(k,y)) e
 |p::r,hn=>by
  rw[List.cons_append]
  have hk:¬p.1=k:=λz=>by rw[jcu z]at hn;cases hn
  rw[jct hk]at hn
  have ih:=jja k j y r hn
  by_cases e:p.1=j
  ·rw[jcu e,jcu e,An (λz=>hk (e.trans z))]
  ·rw[jct e,jct e,ih]
theorem jlc(kvs:List (κ×V))(k j:κ)(y:V):valV (putK kvs k y) j=if j=k then some y else valV kvs j:=by
 unfold putK
 by_cases a:(kvs.any λkv=>decide (kv.1=k))=true
 ·rw[Ao a,jlb]
  rw[jeh]at a
  by_cases e:j=k
  ·obtain⟨x,hx⟩:=Option.isSome_iff_exists.mp a
   rw[Ao e,e,hx,Option.map_some,Ao rfl]
  ·rw[An e]
   cases valV kvs j with
   |none=>rfl
   |some x=>rw[Option.map_some,An e]
 ·rw[An a]
  refine jja k j y kvs ?_
  rw[jeh]at a
  cases q:valV kvs k with
  |none=>rfl
  |some x=>rw[q]at a;exact(a rfl).elim
theorem jdf(kvs:List (κ×V))(k:κ)(v:V):(putK kvs k v).length<=kvs.length+1:=by
 unfold putK
 split
 ·rw[Ac];omega
 ·rw[A1,List.length_cons,List.length_nil];omega
theorem jki{kvs:List (κ×V)}{k:κ}(v:V)(h:valV kvs k=none):putK kvs k v=kvs++[(k,v)]:=by
 unfold putK
 rw[jeh,h]
 exact An (by decide)
theorem RelO.isSome_eq{o:Option V}{u:Option Value}(r:RelO o u):o.isSome=u.isSome:=by
 cases o with
 |none=>cases u with
  |none=>rfl
  |some _=>exact(show False from r).elim
 |some _=>cases u with
  |none=>exact(show False from r).elim
  |some _=>rfl
theorem KV.val{kvs:List (κ×V)}{vs:List (κ×Value)}(r:KV kvs vs)(k:κ):RelO (valV kvs k) (valueAt vs k):=by
 unfold KV at r
 induction r with
 |nil=>exact True.intro
 |@cons p q ps qs h t ih =>
  obtain⟨h1,h2⟩:=h
  by_cases e:p.1=k
  ·have e':q.1=k:=h1.symm.trans e
   have b:valueAt (q::qs) k=some q.2:=by simp[valueAt,List.find?_cons,e']
   rw[jcu e,b];exact h2
  ·have e':¬q.1=k:=λz=>e (h1.trans z)
   have b:valueAt (q::qs) k=valueAt qs k:=by simp[valueAt,List.find?_cons,e']
   rw[jct e,b];exact ih
theorem KV.any{kvs:List (κ×V)}{vs:List (κ×Value)}(r:KV kvs vs)(k:κ):(kvs.any λkv=>decide (kv.1=k))=vs.any λkv=>decide (kv.1=k):=by
 unfold KV at r
 induction r with
 |nil=>rfl
 |cons h t ih=>rw[List.any_cons,List.any_cons,ih,h.1]
theorem KV.repl{kvs:List (κ×V)}{vs:List (κ×Value)}(r:KV kvs vs)(k:κ){y:V}{u:Value}(ry:RelV y u) :
  KV (kvs.map λkv=>if kv.1=k then(kv.1,y)else kv) (vs.map λkv=>if kv.1=k then(kv.1,u)else kv):=by
 unfold KV at r⊢
 induction r with
 |nil=>exact .nil
 |@cons p q ps qs h t ih =>
  rw[Ay,Ay]
  refine .cons ?_ ih
  obtain⟨h1,h2⟩:=h
  by_cases e:p.1=k
  ·rw[Ao e,Ao (h1.symm.trans e)];exact⟨h1,ry⟩
  ·rw[An e,An (λz=>e (h1.trans z))];exact⟨h1,h2⟩
theorem KV.put{kvs:List (κ×V)}{vs:List (κ×Value)}(r:KV kvs vs)(k:κ){y:V}{u:Value}(ry:RelV y u):KV (putK kvs k y) (stored vs k u):=by
 unfold putK stored
 rw[r.any k]
 by_cases e:(vs.any λkv=>decide (kv.1=k))=true
 ·rw[Ao e,Ao e];exact r.repl k ry
 ·rw[An e,An e];exact Yk r ⟨rfl,ry⟩
theorem KV.drop{kvs:List (κ×V)}{vs:List (κ×Value)}(r:KV kvs vs)(k:κ):KV (je0 kvs k) (without vs k):=by
 unfold KV at r⊢
 unfold je0 without
 induction r with
 |nil=>exact .nil
 |@cons p q ps qs h t ih =>
  obtain⟨h1,h2⟩:=h
  rw[List.filter_cons,List.filter_cons]
  by_cases e:p.1=k
  ·have a:¬decide (p.1≠k)=true:=by simp[e]
   have b:¬decide (q.1≠k)=true:=by simp[h1.symm.trans e]
   rw[An a,An b];exact ih
  ·have e':¬q.1=k:=λz=>e (h1.trans z)
   have a:decide (p.1≠k)=true:=by simp[e]
   have b:decide (q.1≠k)=true:=by simp[e']
   rw[Ao a,Ao b];exact .cons ⟨h1,h2⟩ ih
theorem KV.length{kvs:List (κ×V)}{vs:List (κ×Value)}(r:KV kvs vs):kvs.length=vs.length:=Il r
theorem jpb(kvs:List (κ×V))(k:κ):(je0 kvs k).length<=kvs.length:=Ub _ _
end
theorem jel{P:Program}{w:World}{k:Key}{u:Value}(r:RelV (kV k) u):(jcg P w).is k u=true:=by
 cases k with
 |inl i=>obtain⟨t,e⟩:=(show ∃t,u=Value.int i t from r);subst e;exact jlg P w i t
 |inr x=>obtain⟨t,e⟩:=(show ∃t,u=Value.str x t from r);subst e;exact jlh P w x t
theorem jil{P:Program}{w:World}:∀{ks:List Key}{us:List Value},Vals (ks.map kV) us->ItemsAre (jcg P w) ks us
 |[],_,r=>by rw[Up]at r;cases r;exact .nil
 |k::ks,_,r=>by
  rw[Ay]at r
  cases r with
  |cons h t=>exact .cons (jel h) (jil t)
abbrev KT(H:Hp):List (List Key×V)->List (List Key×Addr×Value)->Prop:=Paired λp q=>p.1=q.1/\H q.2.1=some (.tup (p.1.map kV))/\RelV p.2 q.2.2
theorem KT.val{H:Hp}{kvs:List (List Key×V)}{xs:List (List Key×Addr×Value)}(r:KT H kvs xs)(k:List Key):RelO (valV kvs k) ((atKey xs k).map (·.2)):=by
 induction r with
 |nil=>exact True.intro
 |@cons p q ps qs h t ih =>
  obtain⟨h1,_,h2⟩:=h
  by_cases e:p.1=k
  ·have e':q.1=k:=h1.symm.trans e
   have b:atKey (q::qs) k=some q.2:=by simp[atKey,List.find?_cons,e']
   rw[jcu e,b];exact h2
  ·have e':¬q.1=k:=λz=>e (h1.trans z)
   have b:atKey (q::qs) k=atKey qs k:=by simp[atKey,List.find?_cons,e']
   rw[jct e,b];exact ih
theorem KT.repl{H:Hp}{kvs:List (List Key×V)}{xs:List (List Key×Addr×Value)}(r:KT H kvs xs)(k:List Key){y:V}{u:Value}(ry:RelV y u) :
  KT H (kvs.map λkv=>if kv.1=k then(kv.1,y)else kv) (xs.map (putAt k u)):=by
 induction r with
 |nil=>exact .nil
 |@cons p q ps qs h t ih =>
  rw[Ay,Ay]
  refine .cons ?_ ih
  obtain⟨h1,h2,h3⟩:=h
  unfold putAt
  by_cases e:p.1=k
  ·rw[Ao e,Ao (h1.symm.trans e)];exact⟨h1,h2,ry⟩
  ·rw[An e,An (λz=>e (h1.trans z))];exact⟨h1,h2,h3⟩
theorem KT.put{H:Hp}{kvs:List (List Key×V)}{xs:List (List Key×Addr×Value)}(r:KT H kvs xs)(k:List Key){b:Addr}{y:V}{u:Value}(hb:H b=some (.tup (k.map kV)))(ry:RelV y u) :
  KT H (putK kvs k y) (storedH xs k b u):=by
 have e:(kvs.any λkv=>decide (kv.1=k))=(atKey xs k).isSome:=by
  rw[jeh,(r.val k).isSome_eq,Option.isSome_map]
 unfold putK storedH
 rw[e]
 by_cases q:(atKey xs k).isSome=true
 ·rw[Ao q,Ao q];exact r.repl k ry
 ·rw[An q,An q];exact Yk r ⟨rfl,hb,ry⟩
theorem KT.keeps{H H':Hp}{kvs:List (List Key×V)}{xs:List (List Key×Addr×Value)}(r:KT H kvs xs)(ht:∀b ys,H b=some (.tup ys)->H' b=some (.tup ys)):KT H' kvs xs :=
 Paired.mapP r λ_ _ z=>⟨z.1,ht _ _ z.2.1,z.2.2⟩
section
variable{P:Program}{w:World}{H:Hp}{h:Heap}{a:Addr}
theorem jp6{u:HO}(ok:HOk P w H h)(e:Rd H a u):ObjOk P w H h a u:=e.ok ok
theorem jey{kvs:List (Key×V)}(ok:HOk P w H h)(e:Rd H a (.dK kvs)):kvs.length<=sizeLine/\(a == sysModules)=false/\∃vs,KV kvs vs/\h.DictOf (jcg P w) a vs :=
 show ObjOk P w H h a (.dK kvs)from jp6 ok e
theorem jjf{kvs:List (Key×V)}(ok:HOk P w H h)(e:H a=some (.dK kvs)):kvs.length<=sizeLine/\(a == sysModules)=false/\∃vs,KV kvs vs/\h.DictOf (jcg P w) a vs:=jey ok (.inl e)
theorem jfa{ks:List Key}(ok:HOk P w H h)(e:H a=some (.tup (ks.map kV))):(tupleKind (jcg P w)).is h ks a:=by
 obtain⟨_,its,r,o,h1,h2,n,h3⟩:=(show ObjOk P w H h a (.tup (ks.map kV))from ok a _ e)
 exact⟨o,its.toArray,n,h1,h2,h3,by simpa using jil r⟩
theorem jgv{kvs:List (List Key×V)}(ok:HOk P w H h)(e:Rd H a (.dT kvs)):kvs.length<=sizeLine/\(a == sysModules)=false /\
  ∃xs,KT H kvs xs/\h.DictOfH (tupleKind (jcg P w)) a xs:=by
 obtain⟨z,y,xs,r,o,es,ep,h1,h2,h3,h4,h5⟩:=(show ObjOk P w H h a (.dT kvs)from jp6 ok e)
 refine⟨z,y,xs,r,o,es,ep,h1,h2,h3,h4,λx hx=>?_,h5⟩
 have all:∀{l:List (List Key×V)}{m:List (List Key×Addr×Value)},KT H l m->∀x∈m,(tupleKind (jcg P w)).is h x.1 x.2.1:=by
  intro l m q
  induction q with
  |nil=>intro x hx;exact nomatch hx
  |@cons p q ps qs hq t ih =>
   intro x hx
   rcases Ap.mp hx with e|hx
   ·subst e
    exact jfa ok (by rw[<-hq.1];exact hq.2.1)
   ·exact ih x hx
 exact all r x hx
theorem jse{kvs:List (List Key×V)}(ok:HOk P w H h)(e:H a=some (.dT kvs)):kvs.length<=sizeLine/\(a == sysModules)=false /\
  ∃xs,KT H kvs xs/\h.DictOfH (tupleKind (jcg P w)) a xs:=jgv ok (.inl e)
end
def DGet(H:Hp)(a:Addr)(y:V)(r:Option V):Prop :=
 (∃kvs k,Rd H a (.dK kvs)/\y=kV k/\r=valV kvs k)\/∃kvs k b,Rd H a (.dT kvs)/\y=.ref b/\H b=some (.tup (k.map kV))/\r=valV kvs k
def DPut(H:Hp)(a:Addr)(y v:V)(H':Hp):Prop :=
 (∃kvs k,H a=some (.dK kvs)/\y=kV k/\kvs.length<sizeLine/\H'=upd H a (.dK (putK kvs k v))) \/
 ∃kvs k b,H a=some (.dT kvs)/\y=.ref b/\H b=some (.tup (k.map kV))/\kvs.length<sizeLine/\H'=upd H a (.dT (putK kvs k v))
theorem DGet.k{H:Hp}{a:Addr}{kvs:List (Key×V)}{k:Key}(e:H a=some (.dK kvs)):DGet H a (kV k) (valV kvs k):=.inl ⟨kvs,k,.inl e,rfl,rfl⟩
theorem DPut.k{H:Hp}{a:Addr}{kvs:List (Key×V)}{k:Key}{v:V}(e:H a=some (.dK kvs))(hl:kvs.length<sizeLine):DPut H a (kV k) v (upd H a (.dK (putK kvs k v))):=.inl ⟨kvs,k,e,rfl,hl,rfl⟩
section
variable{X:Cx}{pins:List (Addr×Obj)}{σ:St}{H:Hp}{s:Shared}{a:Addr}{y v:V}{u r:Value}{o:Option V}{A:Around}{E:Value->Shared->Prop}
theorem Inv.big(I:Inv X pins σ H s):sysModules<s.heap.objs.size:=by
 have h:mainGlobals<s.heap.objs.size:=(I.mod.glob.keeps I.bk).lt
 exact W8 (by decide) h
theorem jnr{Q:Value->Shared->Prop}(hu:A.units+1<cLine)(I:Inv X pins σ H s)(g:DGet H a y (some v))(ry:RelV y u)(h:∀w' s',Inv X pins σ H s'->RelV v w'->Q w' s') :
  wpAny (model X.prog X.w) A (getItem (.ref a) u) Q E s:=by
 rcases g with⟨kvs,k,e,ey,l⟩|⟨kvs,k,b,e,ey,eb,l⟩
 ·subst ey
  obtain⟨z,hd,vs,rel,dd⟩:=jey I.hok e
  obtain⟨w',hw,rw'⟩:=RelO.some_of (v:=v) (o:=valueAt vs k) (by rw[l];exact rel.val k)
  exact wpAny_getItem_of (jel ry) dd.mapOf hw (h w' _ (I.tok _) rw')
 ·subst ey
  cases(show u=Value.ref b from ry)
  obtain⟨z,hd,xs,rel,dd⟩:=jgv I.hok e
  obtain⟨w',hw,rw'⟩:=RelO.some_of (v:=v) (o:=(atKey xs k).map (·.2)) (by rw[l];exact rel.val k)
  obtain⟨p,hp,hp2⟩:=A3.mp hw
  refine wpAny_getItem_heap (Y4 hu) (jfa I.hok eb) dd hp ?_
  rw[hp2]
  exact h w' _ (I.tok _) rw'
theorem jqk{Q:Value->Shared->Prop}(hu:A.units+1<cLine)(I:Inv X pins σ H s)(g:DGet H a y o)(ry:RelV y u)(h:∀s',Inv X pins σ H s'->Q (.bool (!o.isSome)) s') :
  wpAny (model X.prog X.w) A (compareOp .NotIn u (.ref a)) Q E s:=by
 rcases g with⟨kvs,k,e,ey,l⟩|⟨kvs,k,b,e,ey,eb,l⟩
 ·subst ey
  obtain⟨z,hd,vs,rel,dd⟩:=jey I.hok e
  refine wpAny_notIn_of (jel ry) hd dd.mapOf ?_
  rw[<-(rel.val k).isSome_eq,<-l]
  exact h _ (I.tok _)
 ·subst ey
  cases(show u=Value.ref b from ry)
  obtain⟨z,hd,xs,rel,dd⟩:=jgv I.hok e
  refine wpAny_notIn_heap (Y4 hu) (jfa I.hok eb) hd dd ?_
  have q:=(rel.val k).isSome_eq
  rw[Option.isSome_map]at q
  rw[<-q,<-l]
  exact h _ (I.tok _)
theorem jer{h':Heap}{t':Nat}{ob:HO}(I:Inv X pins σ H s)(mu:Mut (H a))(hs:Heap.SameBut a s.heap h')(he:∃q,h'.get? a=some q)(new:ObjOk X.prog X.w (upd H a ob) h' a ob) :
  Inv X pins σ (upd H a ob) {s with heap:=h',toks:=t'} :=
 I.write (x:=a) (e:=a) mu (.inl rfl) (λb q hb z=>(hs.2 b hb).trans z) he new
theorem jet{P:Program}{w:World}{H':Hp}{h':Heap}{kvs:List (Key×V)}{vs:List (Key×Value)}(z:kvs.length<=sizeLine)(hd:(a == sysModules)=false)(rel:KV kvs vs)(dd:h'.DictOf (jcg P w) a vs) :
  ObjOk P w H' h' a (.dK kvs):=⟨z,hd,vs,rel,dd⟩
theorem jns{H':Hp}{Q:Unit->Shared->Prop}(hu:A.units+1<cLine)(I:Inv X pins σ H s)(g:DPut H a y v H')(ry:RelV y u)(rv:RelV v r)(h:∀s',Inv X pins σ H' s'->Q () s') :
  wpAny (model X.prog X.w) A (setItem (.ref a) u r) Q E s:=by
 rcases g with⟨kvs,k,e,ey,l,eH⟩|⟨kvs,k,b,e,ey,eb,l,eH⟩
 ·subst ey eH
  obtain⟨z,hd,vs,rel,dd⟩:=jjf I.hok e
  have hz:vs.length<=sizeLine:=by rw[<-rel.length];exact z
  have hl:(putK kvs k v).length<=sizeLine:=by have:=jdf kvs k v;omega
  refine wpAny_setItem_pairs (hsz:=hz) (jel ry) dd λh' dd' hs=>h _ ?_
  have he:∃q,h'.get? a=some q:=let⟨q,_,_,hq,_⟩:=dd';⟨q,hq⟩
  exact jer I (by rw[e];exact True.intro) hs he (jet hl hd (rel.put k rv) dd')
 ·subst ey eH
  cases(show u=Value.ref b from ry)
  obtain⟨z,hd,xs,rel,dd⟩:=jse I.hok e
  have hz:xs.length<=sizeLine:=by rw[<-Il rel];exact z
  have hl:(putK kvs k v).length<=sizeLine:=by have:=jdf kvs k v;omega
  refine wpAny_setItem_heap (hsz:=hz) (Y4 hu) (jfa I.hok eb) dd λh' dd' hs=>h _ ?_
  obtain⟨q,es,ep,hq,h2,h3,h4,_,h5⟩:=dd'
  refine jer I (by rw[e];exact True.intro) hs ⟨q,hq⟩ ⟨hl,hd,_,(rel.put k eb rv).keeps λc ys ec=>?_,q,es,ep,hq,h2,h3,h4,h5⟩
  rw[jd (jp3 ec e (λz=>nomatch z))]
  exact ec
end
section
variable{X:Cx}{pins:List (Addr×Obj)}{σ:St}{H:Hp}{s:Shared}{a:Addr}{kvs:List (Key×V)}{k:Key}{u:Value}{A:Around}{E:Value->Shared->Prop}
theorem jsd{v:V}{more:List Value}{Q:Value->Shared->Prop}(I:Inv X pins σ H s)(e:H a=some (.dK kvs))(ry:RelV (kV k) u)(l:valV kvs k=some v)(hm:more=[]\/∃x,more=[x])
  (h:∀w' s',Inv X pins σ (upd H a (.dK (je0 kvs k))) s'->RelV v w'->Q w' s'):wpAny (model X.prog X.w) A (call (.builtin "dict.pop") (.ref a::u::more)) Q E s:=by
 obtain⟨z,hd,vs,rel,dd⟩:=jjf I.hok e
 obtain⟨w',hw,rw'⟩:=RelO.some_of (v:=v) (o:=valueAt vs k) (by rw[<-l];exact rel.val k)
 have hp:(keyPart u).isSome=true:=by
  cases k with
  |inl i=>obtain⟨t,q⟩:=(show ∃t,u=Value.int i t from ry);subst q;rfl
  |inr x=>obtain⟨t,q⟩:=(show ∃t,u=Value.str x t from ry);subst q;rfl
 have ha:argsOk "dict.pop" ⟨.ref a::u::more,[]⟩:=by
  rcases hm with q|⟨x,q⟩
  ·subst q;exact PySem.F.args_dict_pop_2 _ _
  ·subst q;exact PySem.F.args_dict_pop_3 _ _ _
 refine call_meetsIn PySem.F.slot_dict_pop dd.typeIs PySem.F.entry_dict_pop ha (meets_dict_pop_there (jcg X.prog X.w) a (jel ry) more hm hp)
  ⟨vs,w',dd,by rw[<-rel.length];exact z,hw,λh' dd' hs=>h w' _ ?_ rw'⟩
 have he:∃q,h'.get? a=some q:=let⟨q,_,_,hq,_⟩:=dd';⟨q,hq⟩
 exact jer I (by rw[e];exact True.intro) hs he (jet (Iv (jpb kvs k) z) hd (rel.drop k) dd')
theorem jsc{Q:Value->Shared->Prop}(I:Inv X pins σ H s)(e:Rd H a (.dK kvs))(h:∀t s',Inv X pins σ H s'->Q (.int kvs.length t) s'):wpAny (model X.prog X.w) A (call (.builtin "len") [.ref a]) Q E s:=by
 obtain⟨z,hd,vs,rel,dd⟩:=jey I.hok e
 refine call_len_dict hd dd (by rw[<-rel.length];rw[O5]at z;omega) ?_
 rw[<-rel.length]
 exact h _ _ (I.tok _)
end
def NoSl(i:Expr):Prop:=∀ov iv,subscripted i false ov iv=operate [ov,iv] (getItem ov iv)
theorem jrd{prog:Program}{w:World}{A:Around}{E:Value->Shared->Prop}{s:Shared}{env:Env}{value slice:Expr}{pos:Pos}{T id:String}{Q:Value->Shared->Prop}
  (hl:typeLookup (.type T) "__getitem__"=pure (some (.builtin id))) (hs:NoSl slice)
  (h:wpAny (model prog w) A (eval value env) (λo s₁=>wpAny (model prog w) A (eval slice env) (λi s₂=>s₂.TypeIs o T/\wpAny (model prog w) A (getItem o i) Q E s₂) E s₁) E s) :
  wpAny (model prog w) A (eval (.Subscript value slice pos) env) Q E s:=by
 refine Subscript_ (Uj h (λo s₁ h₁=>Uj h₁ (λi s₂ h₂=>?_) λ_ _ x=>x) λ_ _ x=>x)
 obtain⟨hT,h₂⟩:=h₂
 unfold subscriptTail
 refine Ab ?_
 rw[getitemInPython_of_ne hT.not_modules]
 refine Ab (wpAny_specialOf hT hl ?_)
 have fin:wpAny (model prog w) A (subscripted slice false o i) (λr s₃=>wpAny (model prog w) A (letTemporaryGo value o r >>= λ_=>pure r) Q E s₃) E s₂:=by
  rw[hs o i]
  exact wpAny_operating (Uj h₂ (λr s₃ h₃=>Ab (wpAny_letTemporaryGo (Ah h₃))) λ_ _ x=>x)
 first
  |exact Ah (Ab fin)
  |exact Ab (Ah (Ab fin))
  |exact Ab fin
theorem jle{X:Cx}{pins:List (Addr×Obj)}{σ:St}{H:Hp}{s:Shared}{a:Addr}{y:V}{o:Option V}(I:Inv X pins σ H s)(g:DGet H a y o):s.TypeIs (.ref a) "dict":=by
 rcases g with⟨kvs,k,e,_,_⟩|⟨kvs,k,b,e,_,_,_⟩
 ·obtain⟨_,_,vs,_,dd⟩:=jey I.hok e
  exact dd.typeIs
 ·obtain⟨_,_,xs,_,dd⟩:=jgv I.hok e
  exact dd.typeIs
def jjn(td ty:TE):TE:=λσ H Q=>td σ H λx H1=>ty σ H1 λy H2=>∃a v,x=.ref a/\DGet H2 a y (some v)/\Q v H2
def jft(ty td:TE):TE:=λσ H Q=>ty σ H λy H1=>td σ H1 λx H2=>∃a o,x=.ref a/\DGet H2 a y o/\Q (.bl (!o.isSome)) H2
def jjj(td ty tv:TE):TS:=λD σ H=>tv σ H λv H1=>td σ H1 λx H2=>ty σ H2 λy H3=>∃a H4,x=.ref a/\DPut H3 a y v H4/\D.nx σ H4
section
variable{X:Cx}{o i e value:Expr}{pos pos' tpos:Pos}{td ty tv:TE}
theorem pe_dget(hu:X.A.units+1<cLine)(ho:PE X o td)(hi:PE X i ty)(hs:NoSl i):PE X (.Subscript o i pos) (jjn td ty):=by
 intro pins s σ H Q I h
 refine jrd PySem.F.slot_dict_getitem.lookup hs (thn (ho pins s σ H _ I h) λu s1 ⟨x,H1,I1,rx,q1⟩=>thn (hi pins s1 σ H1 _ I1 q1) λiv s2 ⟨y,H2,I2,ry,a,v,ex,g,q2⟩=>?_)
 subst ex
 obtain rfl:u=Value.ref a:=rx
 exact⟨jle I2 g,jnr hu I2 g ry λw' s3 I3 rw'=>⟨v,H2,I3,rw',q2⟩⟩
theorem pc_dnotin(hu:X.A.units+1<cLine)(hi:PE X i ty)(ho:PE X o td):PC X .NotIn i o (jft ty td):=by
 intro pins s σ H Q I h
 refine thn (hi pins s σ H _ I h) λiv s1 ⟨y,H1,I1,ry,q1⟩=>thn (ho pins s1 σ H1 _ I1 q1) λu s2 ⟨x,H2,I2,rx,a,ov,ex,g,q2⟩=>?_
 subst ex
 obtain rfl:u=Value.ref a:=rx
 exact jqk hu I2 g ry λs3 I3=>⟨.bl (!ov.isSome),H2,I3,rfl,q2⟩
theorem ps_dput(hu:X.A.units+1<cLine)(ho:PE X o td)(hi:PE X i ty)(hv:PE X value tv)(hs:swapsWith value (some (.Subscript o i pos')) pos.line X.env=pure false) :
  PS X (.Assign [.Subscript o i pos'] value pos) (jjj td ty tv):=by
 intro pins s σ H D I h
 refine wpAny_Assign_Subscript (thn (hv pins s σ H _ I h) λr s1 ⟨v,H1,I1,rv,q1⟩=>thn (ho pins s1 σ H1 _ I1 q1) λu s2 ⟨x,H2,I2,rx,q2⟩=>thn (hi pins s2 σ H2 _ I2 q2) λiv s3 ⟨y,H3,I3,ry,a,H4,ex,g,q3⟩=>?_) hs
 subst ex
 obtain rfl:u=Value.ref a:=rx
 exact jns hu I3 g ry rv λs4 I4=>⟨σ,H4,I4,q3⟩
end
theorem jj4{P:Program}{w:World}{H:Hp}(h:Heap)(hb:sysModules<h.objs.size):ObjOk P w H (h.push {cls:=.type "dict",data:=.dict #[]}) h.objs.size (.dK []) :=
 ⟨Oc _,O9.mpr (Wl (A0 hb)),[],.nil,Heap.DictOf.new h⟩
def jeg:List (TE×TE)->St->Hp->(List (V×V)->Hp->Prop)->Prop
 |[],_,H,Q=>Q [] H
 |(tk,tv)::r,σ,H,Q=>tk σ H λx H1=>tv σ H1 λy H2=>jeg r σ H2 λps H3=>Q ((x,y)::ps) H3
abbrev VV:List (V×V)->List (Value×Value)->Prop:=Paired λp q=>RelV p.1 q.1/\RelV p.2 q.2
def PPs(X:Cx)(pos:Pos)(keys:List (Option Expr))(values:List Expr)(trs:List (TE×TE)):Prop :=
 ∀(pins:List (Addr×Obj))(s:Shared)(σ:St)(H:Hp)(Q:List (V×V)->Hp->Prop),Inv X pins σ H s->jeg trs σ H Q ->
  wpAny (model X.prog X.w) X.A (evalPairs (pairTrees keys values X.env pos)) (λvs s'=>∃ps H',Inv X pins σ H' s'/\VV ps vs/\Q ps H') X.xe s
theorem pps_nil{X:Cx}{pos:Pos}:PPs X pos [] [] []:=λpins s σ H Q I h=>pairTrees_nil_walk ⟨[],H,I,.nil,h⟩
theorem pps_cons{X:Cx}{pos:Pos}{k v:Expr}{ks:List (Option Expr)}{vs:List Expr}{tk tv:TE}{trs:List (TE×TE)}(hk:PE X k tk)(hv:PE X v tv)(hr:PPs X pos ks vs trs) :
  PPs X pos (some k::ks) (v::vs) ((tk,tv)::trs):=λpins s σ H Q I h =>
 pairTrees_cons_walk (thn (hk pins s σ H _ I h) λu s1 ⟨x,H1,I1,rx,q1⟩=>thn (hv pins s1 σ H1 _ I1 q1) λw2 s2 ⟨y,H2,I2,ry,q2⟩ =>
  thn (hr pins s2 σ H2 _ I2 q2) λws s3 ⟨ps,H3,I3,rel,q3⟩=>⟨(x,y)::ps,H3,I3,.cons ⟨rx,ry⟩ rel,q3⟩)
def jeb(kvs more:List (Key×V)):List (Key×V):=more.foldl (λacc kv=>putK acc kv.1 kv.2) kvs
theorem KV.merge:∀{more:List (Key×V)}{rs:List (Key×Value)}{kvs:List (Key×V)}{vs:List (Key×Value)},KV more rs->KV kvs vs->KV (jeb kvs more) (merged vs rs):=by
 intro more rs kvs vs r
 unfold KV at r
 induction r generalizing kvs vs with
 |nil=>intro q;exact q
 |@cons p q ps qs h t ih =>
  intro r0
  have e:KV (putK kvs p.1 p.2) (stored vs q.1 q.2):=by
   have:=r0.put p.1 h.2
   rw[<-h.1];exact this
  exact ih e
theorem je6:∀(more kvs:List (Key×V)),(jeb kvs more).length<=kvs.length+more.length
 |[],kvs=>by show kvs.length<=kvs.length+0;omega
 |p::r,kvs=>by
  have h1:=je6 r (putK kvs p.1 p.2)
  have h2:=jdf kvs p.1 p.2
  show(jeb (putK kvs p.1 p.2) r).length<=_
  rw[List.length_cons];omega
theorem jgr{P:Program}{w:World}:∀{kvs:List (Key×V)}{ws:List (Value×Value)},VV (kvs.map λkv=>(kV kv.1,kv.2)) ws->∃rs,Carries (jcg P w) ws rs/\KV kvs rs
 |[],_,r=>by rw[Up]at r;cases r;exact⟨[],True.intro,.nil⟩
 |p::kvs,_,r=>by
  rw[Ay]at r
  cases r with
  |@cons a b as bs h t =>
   obtain⟨rs,c,q⟩:=jgr (P:=P) (w:=w) t
   obtain⟨b1,b2⟩:=b
   exact⟨(p.1,b2)::rs,⟨jel h.1,rfl,c⟩,.cons ⟨rfl,h.2⟩ q⟩
def jfu(trs:List (TE×TE)):TE:=λσ H Q=>∀p,H p=none->jeg trs σ (upd H p (.dK [])) λps H2=>H2 p=some (.dK [])/\∃kvs:List (Key×V),ps=kvs.map (λkv=>(kV kv.1,kv.2))/\kvs.length<=15/\Q (.ref p) (upd H2 p (.dK (jeb [] kvs)))
theorem pe_disp{X:Cx}{pos:Pos}{keys:List (Option Expr)}{values:List Expr}{trs:List (TE×TE)}(h:PPs X pos keys values trs)(hall:keys.all (·.isSome)=true)(hl:keys.length=values.length)(h0:keys≠[])
  (h15:keys.length<=15):PE X (.Dict keys values pos) (jfu trs):=by
 intro pins s σ H Q I q
 have hn:=I.hok.fresh (Ak s.heap.objs.size)
 have I1:=I.laid (a:=s.heap.objs.size) (o:=.dK []) (h':=s.heap.push {cls:=.type "dict",data:=.dict #[]}) (t':=s.toks) (λ_ _ q=>Ai _ q) (Ak _) (jj4 s.heap I.big)
 refine wpAny_Dict_walk (knd:=jcg X.prog X.w) hall hl h0 h15 (thn (h pins _ σ _ _ I1 (q _ hn)) λws s2 ⟨ps,H2,I2,rel,e,kvs,ep,lk,q2⟩=>?_)
 subst ep
 obtain⟨rs,c,rk⟩:=jgr (P:=X.prog) (w:=X.w) rel
 obtain⟨z,hd,vs0,r0,dd⟩:=jjf I2.hok e
 cases r0
 refine⟨rs,c,dd,λh' dd' hs=>⟨.ref s.heap.objs.size,_,?_,rfl,q2⟩⟩
 have hz:(jeb [] kvs).length<=sizeLine:=by
  have h1:=je6 kvs []
  rw[List.length_nil]at h1
  rw[O5];omega
 have he:∃q,h'.get? s.heap.objs.size=some q:=let⟨q,_,_,hq,_⟩:=dd';⟨q,hq⟩
 exact jer I2 (by rw[e];exact True.intro) hs he (jet hz hd (rk.merge .nil) dd')
structure M2(X:Cx)(o:Expr)(m:Str)(apos:Pos)(e f:Expr)(cpos:Pos):Prop where
 base:attributeBase o m X.env (eval o X.env)=eval o X.env
 few:((backTo cpos (starEach [e,f] X.env)).all (λx=>!x.1) && (backToKw cpos (keywordEach [] X.env)).all (λx=>x.1.isSome)
  && decide (([e,f]:List Expr).length+([]:List Keyword).length+(if([]:List Keyword).isEmpty then 0 else 1)<30))=true
 line:(apos.endLine == cpos.line)=true
 trees:backTo cpos (starEach [e,f] X.env)=[(false,eval e X.env),(false,eval f X.env)]
def IsD(H:Hp)(a:Addr):Prop:=(∃kvs,Rd H a (.dK kvs))\/∃kvs,Rd H a (.dT kvs)
theorem jrr{X:Cx}{pins:List (Addr×Obj)}{σ:St}{H:Hp}{s:Shared}{a:Addr}(I:Inv X pins σ H s)(d:IsD H a) :
  s.TypeIs (.ref a) "dict"/\(∀b,Value.ref a=.ref b->∃ob,s.heap.get? b=some ob/\ob.dict=none)/\(a == sysModules)=false:=by
 rcases d with⟨kvs,e⟩|⟨kvs,e⟩
 ·obtain⟨_,hd,vs,_,dd⟩:=jey I.hok e
  refine⟨dd.typeIs,λb q=>?_,hd⟩
  cases q
  obtain⟨ob,_,_,h1,h2,_⟩:=dd
  exact⟨ob,h1,h2.2.1⟩
 ·obtain⟨_,hd,xs,_,dd⟩:=jgv I.hok e
  refine⟨dd.typeIs,λb q=>?_,hd⟩
  cases q
  obtain⟨ob,_,_,h1,h2,_⟩:=dd
  exact⟨ob,h1,h2.2.1⟩
section
variable{X:Cx}{pins:List (Addr×Obj)}{σ:St}{H:Hp}{s:Shared}{a:Addr}{kvs:List (Key×V)}{A:Around}{E:Value->Shared->Prop}
theorem jo8{Q:Value->Shared->Prop}(I:Inv X pins σ H s)(e:Rd H a (.dK kvs))(h:∀p s',H p=none->Inv X pins σ (upd H p (.dK kvs)) s'->Q (.ref p) s'):wpAny (model X.prog X.w) A (call (.type "dict") [.ref a]) Q E s:=by
 obtain⟨z,hd,vs,rel,dd⟩:=jey I.hok e
 refine kt_call_dict hd dd (by rw[<-rel.length];exact z) λh' dd' hs=>?_
 refine h _ _ (I.hok.fresh (Ak _)) (I.laid (a:=s.heap.objs.size) (o:=.dK kvs) (t':=s.toks) (λb q hq=>?_) (Ak _) (jet z (O9.mpr (Wl (A0 I.big))) rel dd'))
 exact(hs.2 b (A0 (Ar hq))).trans (Ai _ hq)
end
structure Kp(S:List Addr)(H H':Hp):Prop where
 old:∀a o,H a=some o->a∉S->H' a=some o
 tup:∀a xs,H a=some (.tup xs)->H' a=some (.tup xs)
 dom:∀a o,H a=some o->∃o',H' a=some o'
theorem Kp.refl(S:List Addr)(H:Hp):Kp S H H:=⟨λ_ _ e _=>e,λ_ _ e=>e,λ_ o e=>⟨o,e⟩⟩
theorem Kp.trans{S:List Addr}{H H1 H2:Hp}(a:Kp S H H1)(b:Kp S H1 H2):Kp S H H2 :=
 ⟨λc o e n=>b.old c o (a.old c o e n) n,λc xs e=>b.tup c xs (a.tup c xs e),λc o e=>let⟨o',e'⟩:=a.dom c o e;b.dom c o' e'⟩
theorem Kp.mono{S S':List Addr}{H H1:Hp}(a:Kp S H H1)(h:∀x∈S,x∈S'):Kp S' H H1:=⟨λc o e n=>a.old c o e λz=>n (h c z),a.tup,a.dom⟩
theorem Kp.free{S:List Addr}{H H1:Hp}(k:Kp S H H1){p:Addr}(h:H1 p=none):H p=none:=by
 cases e:H p with
 |none=>rfl
 |some o=>obtain⟨o',e'⟩:=k.dom p o e;rw[h]at e';cases e'
theorem Kp.trans'{S S':List Addr}{H H1 H2:Hp}(a:Kp S H H1)(b:Kp S' H1 H2)(h:∀x∈S',x∈S\/H x=none):Kp S H H2 :=
 ⟨λc o e n=>b.old c o (a.old c o e n) λz=>by
  rcases h c z with q|q
  ·exact n q
  ·(rw[q]at e;exact nomatch e),λc xs e=>b.tup c xs (a.tup c xs e),λc o e=>let⟨o',e'⟩:=a.dom c o e;b.dom c o' e'⟩
theorem Kp.new{S:List Addr}{H H1:Hp}(k:Kp S H H1){p:Addr}{o:HO}(h:H1 p=none):Kp S H (upd H1 p o) :=
 ⟨λc u e n=>by rw[jd (je (k.old c u e n) h)];exact k.old c u e n,λc xs e=>by rw[jd (je (k.tup c xs e) h)];exact k.tup c xs e,
  λc u e=>by
   obtain⟨o',e'⟩:=k.dom c u e
   exact⟨o',by rw[jd (je e' h)];exact e'⟩⟩
theorem Kp.set{S:List Addr}{H H1:Hp}(k:Kp S H H1){b:Addr}{xs:List V}{o:HO}(hb:H1 b=some (.lst xs))(h:b∈S\/H b=none):Kp S H (upd H1 b o) :=
 ⟨λc u e n=>by
  have:c≠b:=by
   rintro rfl
   rcases h with h|h
   ·exact n h
   ·rw[h]at e;cases e
  rw[jd this];exact k.old c u e n,
 λc ys e=>by
  have e1:=k.tup c ys e
  rw[jd (jp3 e1 hb (by intro z;cases z))];exact e1,
 λc u e=>by
  obtain⟨o',e'⟩:=k.dom c u e
  by_cases q:c=b
  ·subst q;exact⟨o,jb⟩
  ·exact⟨o',by rw[jd q];exact e'⟩⟩
def jcn:Option HO->Option (List V)
 |some (.lst xs)=>some xs
 |_=>none
def jfx:Option HO->Option (List V)
 |some (.tup xs)=>some xs
 |_=>none
def jc8:Option HO->Option (List V)
 |some (.lst xs)=>some xs
 |some (.tup xs)=>some xs
 |_=>none
theorem jiq(xs:List V):jcn (some (.lst xs))=some xs:=rfl
theorem ji9(xs:List V):jfx (some (.tup xs))=some xs:=rfl
theorem ji3(xs:List V):jc8 (some (.lst xs))=some xs:=rfl
theorem ji4(xs:List V):jc8 (some (.tup xs))=some xs:=rfl
theorem jcs{o:Option HO}{xs:List V}(h:jcn o=some xs):o=some (.lst xs):=by
 unfold jcn at h
 split at h
 ·cases h;rfl
 ·cases h
theorem jge{o:Option HO}{xs:List V}(h:jfx o=some xs):o=some (.tup xs):=by
 unfold jfx at h
 split at h
 ·cases h;rfl
 ·cases h
theorem je3{o:Option HO}{xs:List V}(h:jc8 o=some xs):o=some (.lst xs)\/o=some (.tup xs):=by
 unfold jc8 at h
 split at h
 ·cases h;exact .inl rfl
 ·cases h;exact .inr rfl
 ·cases h
section
variable{X:Cx}
def rLtU:R2:=λx y H Q=>match x,y with
 |.int i,.int j=>Q (.bl (decide (i<j))) H
 |.str i,.str j=>Q (.bl (decide (i.cps.toList<j.cps.toList))) H
 |_,_=>False
theorem jas:OpR X (compareOp .Lt) rLtU:=by
 intro pins s σ H x y v u Q I rx ry h
 cases x with
 |int i=>cases y with
  |int j=>exact op_lt pins s σ H _ _ v u Q I rx ry ⟨i,j,rfl,rfl,h⟩
  |_=>exact False.elim h
 |str i=>cases y with
  |str j=>exact op_lt_str pins s σ H _ _ v u Q I rx ry ⟨i,j,rfl,rfl,h⟩
  |_=>exact False.elim h
 |_=>exact False.elim h
def rIxU:R2:=λx y H Q=>match x,y with
 |.str z,.int i=>z.length<=sizeLine/\∃c,atI z.cps.toList i=some c/\Q (.str ⟨#[c]⟩) H
 |.ref p,.int i=>∃xs,jc8 (H p)=some xs/\∃v,atI xs i=some v/\Q v H
 |_,_=>False
theorem ix_U:IxR X rIxU:=by
 intro value slice pins s σ H x y v u Q I rx ry h hs
 cases x with
 |str z=>cases y with
  |int i=>obtain⟨h1,c,h2,h3⟩:=h;exact ix_str value slice pins s σ H _ _ v u Q I rx ry ⟨z,i,c,rfl,rfl,h1,h2,h3⟩ hs
  |_=>exact False.elim h
 |ref p=>cases y with
  |int i =>
   obtain⟨xs,e,w,h2,h3⟩:=h
   rcases je3 e with e|e
   ·exact jbc value slice pins s σ H _ _ v u Q I rx ry ⟨p,xs,i,w,rfl,rfl,SqL.of e,h2,h3⟩ hs
   ·exact ix_tup value slice pins s σ H _ _ v u Q I rx ry ⟨p,xs,i,w,rfl,rfl,SqT.of e,h2,h3⟩ hs
  |_=>exact False.elim h
 |_=>exact False.elim h
theorem jei{α:Type}(x:α)(r:List α):atI (x::r) 0=some x:=jce (j:=0) rfl
theorem jfm{α:Type}(x y:α)(r:List α):atI (x::y::r) 1=some y:=jce (j:=1) rfl
theorem jpx{α:Type}(x y z:α)(r:List α):atI (x::y::z::r) 2=some z:=jce (j:=2) rfl
theorem je7{α:Type}{xs:List α}{i:Int}{v:α}(h0:0<=i)(h:xs[i.toNat]?=some v):atI xs i=some v:=by
 have:=jce (xs:=xs) (j:=i.toNat) h
 rwa[Int.toNat_of_nonneg h0]at this
def jp5:V->V->V->Hp->(Hp->Prop)->Prop:=λo i v H Q=>match o,i with
 |.ref p,.int k=>∃xs,jcn (H p)=some xs/\∃j,ixN xs.length k=some j/\Q (upd H p (.lst (xs.set j v)))
 |_,_=>False
theorem jhe:PSet X jp5:=by
 intro pins s σ H o i v ov iv u Q I ro ri rv h
 cases o with
 |ref p=>cases i with
  |int k =>
   obtain⟨xs,e,j,h1,h2⟩:=h
   exact jpo pins s σ H _ _ v ov iv u Q I ro ri rv ⟨p,xs,k,j,rfl,rfl,jcs e,h1,h2⟩
  |_=>exact False.elim h
 |_=>exact False.elim h
def jji:List V->Hp->VK->Prop:=λxs H Q=>match xs with
 |[.str z]=>z.length<=sizeLine/\Q (.int z.length) H
 |[.ref p]=>∃ys,jc8 (H p)=some ys/\Q (.int ys.length) H
 |_=>False
theorem j4:jcq X (.builtin "len") jji:=by
 intro pins s σ H xs us Q I r h
 unfold jji at h
 split at h
 ·rename_i z;exact call_len_str pins s σ H _ us Q I r ⟨z,rfl,h⟩
 ·rename_i p
  obtain⟨ys,e,h⟩:=h
  rcases je3 e with e|e
  ·exact z5 pins s σ H _ us Q I r ⟨p,ys,rfl,.inl (SqL.of e),h⟩
  ·exact z5 pins s σ H _ us Q I r ⟨p,ys,rfl,.inr (SqT.of e),h⟩
 ·exact h.elim
def jna:List V->Hp->VK->Prop:=λxs H Q=>match xs with
 |[.int i,.int j]=>Q (.int (if j>i then j else i)) H
 |_=>False
theorem call_maxU(hc:X.calm=true):jcq X (.builtin "max") jna:=by
 intro pins s σ H xs us Q I r h
 unfold jna at h
 split at h
 ·rename_i i j;exact call_max2 hc pins s σ H _ us Q I r ⟨i,j,rfl,h⟩
 ·exact h.elim
def jjh:List V->Hp->VK->Prop:=λxs H Q=>match xs with
 |[.int i]=>Q (.int i) H
 |[.bl k]=>Q (.int (if k then 1 else 0)) H
 |_=>False
theorem jbi:jcq X (.type "int") jjh:=by
 intro pins s σ H xs us Q I r h
 unfold jjh at h
 split at h
 ·rename_i i;exact jbh pins s σ H _ us Q I r (.inl ⟨i,rfl,h⟩)
 ·rename_i k;exact jbh pins s σ H _ us Q I r (.inr ⟨k,rfl,h⟩)
 ·exact h.elim
def sgn(z:Str):List V:=z.cps.toList.map λc=>V.str ⟨#[c]⟩
theorem jrc(z:Str):(sgn z).length=z.length:=by simp[sgn,Str.length]
theorem jpu{z:Str}{acc:Array Value}(h:ItemsOf (SignAt z) acc z.cps.size):Vals (sgn z) acc.toList:=by
 obtain⟨h1,h2⟩:=h
 have hl:(sgn z).length=acc.toList.length:=by simp[sgn,h1]
 have gen:∀(xs:List V)(us:List Value),xs.length=us.length->(∀(i:Nat)(x:V)(u:Value),xs[i]?=some x->us[i]?=some u->RelV x u)->Vals xs us:=by
  intro xs
  induction xs with
  |nil=>intro us hl _;cases us with
   |nil=>exact .nil
   |cons _ _=>simp at hl
  |cons x xs ih=>intro us hl h;cases us with
   |nil=>simp at hl
   |cons u us=>exact .cons (h 0 x u rfl rfl) (ih us (by simpa using hl) λi a b e1 e2=>h (i+1) a b (by simpa using e1) (by simpa using e2))
 refine gen _ _ hl λi x u e1 e2=>?_
 obtain⟨c,t,hc,hu⟩:=h2 i u (by simpa using e2)
 subst hu
 simp only[sgn,Ag]at e1
 have:z.cps.toList[i]?=some c:=by simpa using hc
 rw[this]at e1
 have e1':V.str ⟨#[c]⟩=x:=Av e1
 subst e1'
 exact⟨t,rfl⟩
def jg9:List V->Hp->VK->Prop:=λxs H Q=>match xs with
 |[.str z]=>z.length<=sizeLine/\∀l,H l=none->Q (.ref l) (upd H l (.lst (sgn z)))
 |[.ref p]=>∃ys,jc8 (H p)=some ys/\∀l,H l=none->Q (.ref l) (upd H l (.lst ys))
 |_=>False
theorem call_listU(hc:X.calm=true):jcq X (.type "list") jg9:=by
 intro pins s σ H xs us Q I r h
 unfold jg9 at h
 split at h
 ·rename_i z
  obtain⟨u,rfl,t,rfl⟩:=jc1 r
  obtain⟨hz,q⟩:=h
  refine call_list_str (I.ok.hd hc) z t (λh' tk acc c hk hn hi=>?_) hz
  have hf:=I.hok.fresh (Ak s.heap.objs.size)
  refine⟨.ref s.heap.objs.size,upd H s.heap.objs.size (.lst (sgn z)),I.laid hk (Ak _) ⟨by rw[jrc];exact hz,acc.toList,c,jpu hi,by simpa using hn⟩,rfl,q _ hf⟩
 ·rename_i p
  obtain⟨ys,e,h⟩:=h
  rcases je3 e with e|e
  ·exact jaz pins s σ H _ us Q I r ⟨p,ys,rfl,.inl (SqL.of e),h⟩
  ·exact jaz pins s σ H _ us Q I r ⟨p,ys,rfl,.inr (SqT.of e),h⟩
 ·exact h.elim
def jnc:V->List V->Hp->VK->Prop:=λx vs H Q=>match x,vs with
 |.ref l,[.int i]=>∃xs,jcn (H l)=some xs/\0<=i/\∃y,xs[i.toNat]?=some y/\Q y (upd H l (.lst (xs.eraseIdx i.toNat)))
 |_,_=>False
theorem mt_popU:MtM X "list.pop" jnc:=by
 intro pins s σ H x vs v us Q I rx rv h
 unfold jnc at h
 split at h
 ·rename_i l i
  obtain⟨xs,e,h0,y,hy,q⟩:=h
  have e:=jcs e
  have hz:=(I.lstM e).1
  have hlt:i.toNat<xs.length:=(Ad.mp hy).1
  have hs:sizeLine=16777216:=O5
  refine mt_popAt pins s σ H _ _ v us Q I rx rv ⟨l,xs,i,i.toNat,y,rfl,rfl,e,by omega,by omega,?_,hy,q⟩
  exact seqIndex_of h0 (by omega)
 ·exact h.elim
def rIsU(K:PySem.W.Frag):List V->Hp->VK->Prop:=λxs H Q=>match xs with
 |[x,.ty c]=>∃t b,TyOf K H x t/\PySem.W.kitOne K t (.type c)=some b/\Q (.bl b) H
 |_=>False
theorem call_isinstanceU:jcq X (.builtin "isinstance") (rIsU X.K):=by
 intro pins s σ H xs us Q I r h
 unfold rIsU at h
 split at h
 ·rename_i x c
  obtain⟨t,b,ty,e,q⟩:=h
  obtain⟨u,w',rfl,rx,rc⟩:=jho r
  cases rc
  exact job I rx ty e λtk=>⟨.bl b,H,I.tok tk,rfl,q⟩
 ·exact h.elim
def ItS(z:Str):It:=⟨λi _=>i<z.length,λi H x H'=>H'=H/\∃c,z.cps.toList[i]?=some c/\x=.str ⟨#[c]⟩,λi _=>z.length<=i⟩
theorem jo0{P:Program}{w:World}{K:PySem.W.Frag}{tg:Expr}(z:Str)(t:Tok)(it:Addr):Turn P w K tg (ItS z) [it] it (λi h=>h.IsStrIter it "str_ascii_iterator" z t i) where
 mem:=by simp
 obj:=λi h st b hb=>by
  have e:b=it:=by simpa using hb
  subst e
  obtain⟨o,e,c,d⟩:=st
  exact⟨o,e,λv z=>by rw[d]at z;cases z⟩
 keep:=λi h h' st k=>let⟨o,ho,r⟩:=st;⟨o,k it (by simp) o ho,r⟩
 item:=by
  intro X hP hw hK hc i pins s σ H E I hf st hg
  subst hP hw hK
  obtain⟨f0,f1,f2,f3,f4,f5⟩:=hf it (by simp)
  have hi:i<z.cps.size:=hg
  refine wpAny_pyNext_ascii_item st (c:=z.cps[i]) (by simp[hi]) λh' st' sb=>?_
  have I1:Inv X pins σ H {s with heap:=h',toks:=s.toks+1}:=I.turned (t':=s.toks+1) (λb o hb e=>(sb.2 b hb).trans e) f0 f1 f3 f4 f5
  obtain⟨o,e,c,d⟩:=id st'
  exact⟨_,rfl,jfq (s:={s with heap:=h',toks:=s.toks+1}) e c d (by decide) ⟨.str ⟨#[z.cps[i]]⟩,H,I1,⟨_,rfl⟩,⟨rfl,_,by simp[hi],rfl⟩,st',λb hb=>(hf b hb).1⟩⟩
 done:=by
  intro X hP hw hK hc i pins s σ H E I hf st hg
  subst hP hw hK
  obtain⟨f0,f1,f2,f3,f4,f5⟩:=hf it (by simp)
  have hi:z.cps.size<=i:=hg
  exact wpAny_pyNext_ascii_end (I.ok.hd hc) st (by simp[hi]) λh' eb=>⟨rfl,I.turned (t':=s.toks) (λb o hb e=>eb b o hb e) f0 f1 f3 f4 f5⟩
 self:=λ_ _ _ _ _ st h=>wpAny_pyIter_striter_ascii st h
theorem jo1{P:Program}{w:World}{K:PySem.W.Frag}{tg:Expr}(z:Str)(t:Tok)(it:Addr):Turn P w K tg (ItS z) [it] it (λi h=>h.IsStrIter it "str_iterator" z t i) where
 mem:=by simp
 obj:=λi h st b hb=>by
  have e:b=it:=by simpa using hb
  subst e
  obtain⟨o,e,c,d⟩:=st
  exact⟨o,e,λv z=>by rw[d]at z;cases z⟩
 keep:=λi h h' st k=>let⟨o,ho,r⟩:=st;⟨o,k it (by simp) o ho,r⟩
 item:=by
  intro X hP hw hK hc i pins s σ H E I hf st hg
  subst hP hw hK
  obtain⟨f0,f1,f2,f3,f4,f5⟩:=hf it (by simp)
  have hi:i<z.cps.size:=hg
  refine wpAny_pyNext_wide_item st (c:=z.cps[i]) (by simp[hi]) λh' st' sb=>?_
  have I1:Inv X pins σ H {s with heap:=h',toks:=s.toks+1}:=I.turned (t':=s.toks+1) (λb o hb e=>(sb.2 b hb).trans e) f0 f1 f3 f4 f5
  obtain⟨o,e,c,d⟩:=id st'
  exact⟨_,rfl,jfq (s:={s with heap:=h',toks:=s.toks+1}) e c d (by decide) ⟨.str ⟨#[z.cps[i]]⟩,H,I1,⟨_,rfl⟩,⟨rfl,_,by simp[hi],rfl⟩,st',λb hb=>(hf b hb).1⟩⟩
 done:=by
  intro X hP hw hK hc i pins s σ H E I hf st hg
  subst hP hw hK
  obtain⟨f0,f1,f2,f3,f4,f5⟩:=hf it (by simp)
  have hi:z.cps.size<=i:=hg
  exact wpAny_pyNext_wide_end (I.ok.hd hc) st (by simp[hi]) λh' eb=>⟨rfl,I.turned (t':=s.toks) (λb o hb e=>eb b o hb e) f0 f1 f3 f4 f5⟩
 self:=λ_ _ _ _ _ st h=>wpAny_pyIter_striter_wide st h
def iAny(K:PySem.W.Frag)(t:TE):TI:=λσ H R=>t σ H λx H1=>match x with
 |.str z=>R (ItS z) H1
 |.ref a=>match H1 a with
  |some (.lst _)=>R (Itl K a) H1
  |some (.tup _)=>R (Itt K a) H1
  |_=>False
 |_=>False
theorem pi_any{tg l:Expr}{tl:TE}(hl:PE X l tl):PI X tg l (iAny X.K tl):=by
 intro pins s σ H R I h
 refine thn (hl pins s σ H _ I h) λv s1 ⟨x,H1,I1,r1,q1⟩=>?_
 cases x with
 |str z =>
  obtain⟨t,rfl⟩:=r1
  have fr:∀b∈[s1.heap.objs.size],FpOk X pins H1 b:=λb hb=>by
   have e:b=s1.heap.objs.size:=by simpa using hb
   subst e
   exact I1.fpOk (Ak _) (I1.hok.fresh (Ak _))
  cases ha:z.cps.all (·<128)
  ·exact wpAny_pyIter_wide ha ⟨s1.heap.objs.size,[s1.heap.objs.size],_,_,H1,rfl,I1.kept (t':=s1.toks) λb o e=>Ai _ e,jo1 z t _,⟨_,Aw _ rfl,rfl,rfl⟩,fr,q1⟩
  ·exact wpAny_pyIter_ascii ha ⟨s1.heap.objs.size,[s1.heap.objs.size],_,_,H1,rfl,I1.kept (t':=s1.toks) λb o e=>Ai _ e,jo0 z t _,⟨_,Aw _ rfl,rfl,rfl⟩,fr,q1⟩
 |ref a =>
  cases r1
  have fr:∀b∈[s1.heap.objs.size],FpOk X pins H1 b:=λb hb=>by
   have e:b=s1.heap.objs.size:=by simpa using hb
   subst e
   exact I1.fpOk (Ak _) (I1.hok.fresh (Ak _))
  simp only at q1
  split at q1
  ·rename_i xs e
   obtain⟨its,rv,p,hz⟩:=I1.list (SqL.of e)
   exact U6 p.isList ⟨s1.heap.objs.size,[s1.heap.objs.size],_,_,H1,rfl,I1.kept (t':=s1.toks) λb o e=>Ai _ e,joz a _,⟨_,Aw _ rfl,rfl,rfl⟩,fr,q1⟩
  ·rename_i xs e
   obtain⟨its,rv,p,hz⟩:=I1.tuple (SqT.of e)
   exact wpAny_pyIter_tuple (show s1.heap.IsTuple a its.toArray from p) ⟨s1.heap.objs.size,[s1.heap.objs.size],_,_,H1,rfl,I1.kept (t':=s1.toks) λb o e=>Ai _ e,jnk a _,⟨_,Aw _ rfl,rfl,rfl⟩,fr,q1⟩
  ·exact q1.elim
 |_=>exact False.elim q1
theorem jqo{z:Str}{g:TG}{tb:TS}{D:Ends}{σ:St}{H:Hp}(Pv:Nat->St->Hp->Prop)(h0:Pv 0 σ H)
  (hs:∀i c σ H,z.cps.toList[i]?=some c->Pv i σ H->g (.str ⟨#[c]⟩) σ H λσ2 H2=>tb {D with nx:=Pv (i+1),ct:=Pv (i+1),bk:=D.nx} σ2 H2) (hd:∀σ H,Pv z.length σ H->D.nx σ H) :
  ∃W:Nat->Nat->St->Hp->Prop,(∃m,W 0 m σ H)/\∀i m σ H,W i m σ H ->
   ((ItS z).stop i H/\D.nx σ H)\/((ItS z).go i H/\∃N:St->Hp->Prop,(∀σ' H',N σ' H'->∃m',m'<m/\W (i+1) m' σ' H')/\∀x H',(ItS z).yld i H x H'->g x σ H' λσ2 H2=>tb {D with nx:=N,ct:=N,bk:=D.nx} σ2 H2):=by
 refine⟨λi m σ H=>m=z.length-i/\i<=z.length/\Pv i σ H,⟨z.length,by simp,Oc _,h0⟩,?_⟩
 rintro i m σ H ⟨rfl,hi,p⟩
 by_cases hlt:i<z.length
 ·refine .inr ⟨hlt,Pv (i+1),λσ' H' p'=>⟨z.length-(i+1),by omega,rfl,hlt,p'⟩,λx H' y=>?_⟩
  obtain⟨e,c,e1,e2⟩:=y
  subst e e2
  exact hs i c σ _ e1 p
 ·have e:i=z.length:=by omega
  subst e
  exact .inl ⟨Ak _,hd σ H p⟩
mutual
def Rep(H:Hp):V->PyData->Prop
 |v,.none=>v=.non
 |v,.bool b=>v=.bl b
 |v,.int i=>v=.int i
 |v,.str x=>v=.str x
 |v,.list ds=>∃a vs,v=.ref a/\H a=some (.lst vs)/\Reps H vs ds
 |v,.tuple ds=>∃a vs,v=.ref a/\H a=some (.tup vs)/\Reps H vs ds
 |_,.dict _=>False
def Reps(H:Hp):List V->List PyData->Prop
 |[],[]=>True
 |v::vs,d::ds=>Rep H v d/\Reps H vs ds
 |_,_=>False
end
section
variable{pins:List (Addr×Obj)}{σ:L2.St}{H:Hp}{s:Shared}
mutual
theorem Rep.reads(I:Inv X pins σ H s):∀{d:PyData}{v:V}{u:Value},Rep H v d->RelV v u->∃as,Reads s.heap u d as
 |.none,v,u,h,r=>by simp only[Rep]at h;subst h;cases r;exact⟨_,.none⟩
 |.bool b,v,u,h,r=>by simp only[Rep]at h;subst h;cases r;exact⟨_,.bool b⟩
 |.int i,v,u,h,r=>by simp only[Rep]at h;subst h;obtain⟨t,rfl⟩:=r;exact⟨_,.int i t⟩
 |.str x,v,u,h,r=>by simp only[Rep]at h;subst h;obtain⟨t,rfl⟩:=r;exact⟨_,.str x t⟩
 |.list ds,v,u,h,r=>by
  simp only[Rep]at h
  obtain⟨a,vs,rfl,e,h⟩:=h
  cases r
  obtain⟨its,rv,⟨o,n,e1,e2,e3,e4⟩,hz⟩:=I.list (SqL.of e)
  obtain⟨as,q⟩:=Reps.reads I h rv
  exact⟨_,reads_list_at e1 e2 e4 (by simpa using q)⟩
 |.tuple ds,v,u,h,r=>by
  simp only[Rep]at h
  obtain⟨a,vs,rfl,e,h⟩:=h
  cases r
  obtain⟨its,rv,⟨o,e1,e2,n,e4⟩,hz⟩:=I.tuple (SqT.of e)
  obtain⟨as,q⟩:=Reps.reads I h rv
  exact⟨_,reads_tuple_at e1 e2 e4 (by simpa using q)⟩
 |.dict _,v,u,h,r=>by simp only[Rep]at h
theorem Reps.reads(I:Inv X pins σ H s):∀{ds:List PyData}{vs:List V}{us:List Value},Reps H vs ds->Vals vs us->∃as,ReadsAll s.heap us ds as
 |[],[],us,h,r=>by cases r;exact⟨_,.nil⟩
 |[],v::vs,us,h,r=>by simp only[Reps]at h
 |d::ds,[],us,h,r=>by simp only[Reps]at h
 |d::ds,v::vs,us,h,r=>by
  simp only[Reps]at h
  cases r with
  |cons r1 r2 =>
   obtain⟨as,q⟩:=Rep.reads I h.1 r1
   obtain⟨bs,q2⟩:=Reps.reads I h.2 r2
   exact⟨_,.cons q q2⟩
end
end
def rEqD:R2:=λx y H Q=>∃d e,Rep H x d/\Rep H y e/\SeqAt.shaped d=true/\SeqAt.shaped e=true/\Q (.bl (PyData.eqv d e)) H
theorem op_eqD(hu:X.A.units+64<cLine):OpR X (compareOp .Eq) rEqD:=by
 intro pins s σ H x y v u Q I rx ry h
 obtain⟨d,e,hd,he,sd,se,q⟩:=h
 obtain⟨as,r1⟩:=hd.reads I rx
 obtain⟨bs,r2⟩:=he.reads I ry
 exact eq_dataH r1 r2 sd se hu ⟨.bl _,H,I,rfl,q⟩
def rNeD:R2:=λx y H Q=>∃d e,Rep H x d/\Rep H y e/\SeqAt.shaped d=true/\SeqAt.shaped e=true/\Q (.bl (!PyData.eqv d e)) H
theorem op_neD(hu:X.A.units+64<cLine):OpR X (compareOp .NotEq) rNeD:=by
 intro pins s σ H x y v u Q I rx ry h
 obtain⟨d,e,hd,he,sd,se,q⟩:=h
 obtain⟨as,r1⟩:=hd.reads I rx
 obtain⟨bs,r2⟩:=he.reads I ry
 exact ne_dataH r1 r2 sd se hu ⟨.bl _,H,I,rfl,q⟩
end
theorem kj:bootBuiltins "len"=some (.builtin "len"):=by decide +kernel
theorem bt_max:bootBuiltins "max"=some (.builtin "max"):=by decide +kernel
theorem jah:bootBuiltins "isinstance"=some (.builtin "isinstance"):=by decide +kernel
theorem bt_all:bootBuiltins "all"=some (.builtin "all"):=by decide +kernel
theorem bt_sorted:bootBuiltins "sorted"=some (.builtin "sorted"):=by decide +kernel
theorem jbq:bootBuiltins "int"=some (.type "int"):=by decide +kernel
theorem jbz:bootBuiltins "list"=some (.type "list"):=by decide +kernel
theorem j6:bootBuiltins "tuple"=some (.type "tuple"):=by decide +kernel
theorem jbb:bootBuiltins "dict"=some (.type "dict"):=by decide +kernel
theorem jb8:bootBuiltins "set"=some (.type "set"):=by decide +kernel
theorem bt_bool:bootBuiltins "bool"=some (.type "bool"):=by decide +kernel
theorem bt_range:bootBuiltins "range"=some (.type "range"):=by decide +kernel
theorem jal:bootBuiltins "enumerate"=some (.type "enumerate"):=by decide +kernel
theorem bt_zip:bootBuiltins "zip"=some (.type "zip"):=by decide +kernel
section
variable{X:Cx}
def isL(x:V)(H:Hp):Prop:=match x with
 |.ref p=>(jcn (H p)).isSome=true
 |_=>False
def tBML(r:V->List V->Hp->VK->Prop)(to:TE)(t:TA):TE:=λσ H Q=>to σ H λx H1=>isL x H1/\t σ H1 λxs H2=>r x xs H2 Q
theorem isL.ty{K:PySem.W.Frag}{x:V}{H:Hp}(h:isL x H):tyV K "list" x H:=by
 unfold isL at h
 split at h
 ·rename_i p
  cases e:jcn (H p)with
  |none=>rw[e]at h;cases h
  |some ys=>exact .inl ⟨rfl,ys,SqL.of (jcs e)⟩
 ·exact h.elim
variable{o e:Expr}{es:List Expr}{to:TE}{t:TA}{name:Str}{apos cpos:Pos}{id:String}{r:V->List V->Hp->VK->Prop}
theorem PE.imp{e:Expr}{t t':TE}(h:PE X e t)(hi:∀σ H Q,t' σ H Q->t σ H Q):PE X e t':=λpins s σ H Q I hw=>h pins s σ H Q I (hi σ H Q hw)
theorem pe_bmL(slot:Slot "list" name id)(hty:typeOf (.builtin id)=pure (.type "method_descriptor"))(hm:MtM X id r)(ho:PE X o to)(ha:PA X (e::es) t)(mono:∀σ H Q Q',(∀v H',Q v H'->Q' v H')->to σ H Q->to σ H Q')
  (hbase:attributeBase o name X.env (eval o X.env)=eval o X.env:=by rfl)
  (hfew:((backTo cpos (starEach (e::es) X.env)).all (λx=>!x.1) && (backToKw cpos (keywordEach [] X.env)).all (λx=>x.1.isSome)
   && decide ((e::es).length+([]:List Keyword).length+(if([]:List Keyword).isEmpty then 0 else 1)<30))=true:=by rfl)
  (hline:(apos.endLine == cpos.line)=true:=by rfl) (hs:starEach (e::es) X.env=(false,eval e X.env)::starEach es X.env:=by rfl) (hplain:(backTo cpos (starEach es X.env)).any (·.1)=false:=by rfl) :
  PE X (.Call (.Attribute o name apos) (e::es) [] cpos) (tBML r to t) :=
 (jbp PySem.F.plainAttrs_list slot hty hm ho ha hbase hfew hline hs hplain).imp λσ H Q h=>mono σ H _ _ (λv H' q=>⟨q.1.ty,q.2⟩) h
def jjl(r:V->List V->Hp->VK->Prop)(to:TE):TE:=λσ H Q=>to σ H λx H1=>isL x H1/\r x [] H1 Q
theorem pe_bmL0(slot:Slot "list" name id)(hty:typeOf (.builtin id)=pure (.type "method_descriptor"))(hm:MtM X id r)(ho:PE X o to)(mono:∀σ H Q Q',(∀v H',Q v H'->Q' v H')->to σ H Q->to σ H Q')
  (hbase:attributeBase o name X.env (eval o X.env)=eval o X.env:=by rfl) (hline:(apos.endLine == cpos.line)=true:=by rfl):PE X (.Call (.Attribute o name apos) [] [] cpos) (jjl r to) :=
 (pe_bm0 PySem.F.plainAttrs_list slot hty hm ho hbase hline).imp λσ H Q h=>mono σ H _ _ (λv H' q=>⟨q.1.ty,q.2⟩) h
theorem jcj{i:Nat}:∀σ H Q Q',(∀v H',Q v H'->Q' v H')->tVar i σ H Q->tVar i σ H Q':=λ_ _ _ _ h ⟨v,e,q⟩=>⟨v,e,h v _ q⟩
def jgg:V->List V->Hp->VK->Prop:=λx vs H Q=>match x,vs with
 |.ref l,[y]=>∃xs,jcn (H l)=some xs/\xs.length<sizeLine/\Q .non (upd H l (.lst (xs++[y])))
 |_,_=>False
theorem yj:MtM X "list.append" jgg:=by
 intro pins s σ H x vs v us Q I rx rv h
 unfold jgg at h
 split at h
 ·rename_i l y
  obtain⟨xs,e,h⟩:=h
  exact ja0 pins s σ H _ _ v us Q I rx rv ⟨l,xs,y,rfl,rfl,jcs e,h⟩
 ·exact h.elim
def jgj:V->List V->Hp->VK->Prop:=λx vs H Q=>match x,vs with
 |.ref l,[.ref b]=>∃xs,jcn (H l)=some xs/\∃zs,jcn (H b)=some zs/\xs.length+zs.length<=sizeLine/\Q .non (upd H l (.lst (xs++zs)))
 |_,_=>False
theorem ja8:MtM X "list.extend" jgj:=by
 intro pins s σ H x vs v us Q I rx rv h
 unfold jgj at h
 split at h
 ·rename_i l b
  obtain⟨xs,e1,zs,e2,h⟩:=h
  exact mt_extend pins s σ H _ _ v us Q I rx rv ⟨l,b,xs,zs,rfl,rfl,jcs e1,jcs e2,h⟩
 ·exact h.elim
def rEqU:R2:=λx y H Q=>match x,y with
 |.int i,.int j=>Q (.bl (decide (i=j))) H
 |.bl i,.bl j=>Q (.bl (decide (i=j))) H
 |.str i,.str j=>Q (.bl (decide (i=j))) H
 |.ref a,.ref b=>rEqD (.ref a) (.ref b) H Q
 |x,y=>scal x y=true/\Q (.bl (decide (x=y))) H
def rNeU:R2:=λx y H Q=>match x,y with
 |.int i,.int j=>Q (.bl (!decide (i=j))) H
 |.bl i,.bl j=>Q (.bl (!decide (i=j))) H
 |.str i,.str j=>Q (.bl (!decide (i=j))) H
 |.ref a,.ref b=>rNeD (.ref a) (.ref b) H Q
 |x,y=>scal x y=true/\Q (.bl (!decide (x=y))) H
theorem zc(hu:X.A.units+64<cLine):OpR X (compareOp .Eq) rEqU:=by
 intro pins s σ H x y v u Q I rx ry h
 unfold rEqU at h
 split at h
 ·exact jbn pins s σ H _ _ v u Q I rx ry ⟨rfl,by simpa using h⟩
 ·exact jbn pins s σ H _ _ v u Q I rx ry ⟨rfl,by simpa using h⟩
 ·exact jbn pins s σ H _ _ v u Q I rx ry ⟨rfl,by simpa using h⟩
 ·exact op_eqD hu pins s σ H _ _ v u Q I rx ry h
 ·exact jbn pins s σ H _ _ v u Q I rx ry h
theorem op_neU(hu:X.A.units+64<cLine):OpR X (compareOp .NotEq) rNeU:=by
 intro pins s σ H x y v u Q I rx ry h
 unfold rNeU at h
 split at h
 ·exact jbo pins s σ H _ _ v u Q I rx ry ⟨rfl,by simpa using h⟩
 ·exact jbo pins s σ H _ _ v u Q I rx ry ⟨rfl,by simpa using h⟩
 ·exact jbo pins s σ H _ _ v u Q I rx ry ⟨rfl,by simpa using h⟩
 ·exact op_neD hu pins s σ H _ _ v u Q I rx ry h
 ·exact jbo pins s σ H _ _ v u Q I rx ry h
theorem jko(H:Hp)(Q:VK)(i j:Int):rLtU (.int i) (.int j) H Q=(Q (.bl (decide (i<j))) H):=rfl
theorem jkp(H:Hp)(Q:VK)(i j:Str):rLtU (.str i) (.str j) H Q=(Q (.bl (decide (i.cps.toList<j.cps.toList))) H):=rfl
theorem jkn(H:Hp)(Q:VK)(z:Str)(i:Int):rIxU (.str z) (.int i) H Q=(z.length<=sizeLine/\∃c,atI z.cps.toList i=some c/\Q (.str ⟨#[c]⟩) H):=rfl
theorem jch(H:Hp)(Q:VK)(p:Addr)(i:Int):rIxU (.ref p) (.int i) H Q=(∃xs,jc8 (H p)=some xs/\∃v,atI xs i=some v/\Q v H):=rfl
theorem jiw(H:Hp)(Q:VK)(z:Str):jji [.str z] H Q=(z.length<=sizeLine/\Q (.int z.length) H):=rfl
theorem jfg(H:Hp)(Q:VK)(p:Addr):jji [.ref p] H Q=(∃ys,jc8 (H p)=some ys/\Q (.int ys.length) H):=rfl
theorem jix(H:Hp)(Q:VK)(i j:Int):jna [.int i,.int j] H Q=(Q (.int (if j>i then j else i)) H):=rfl
theorem jiv(H:Hp)(Q:VK)(i:Int):jjh [.int i] H Q=(Q (.int i) H):=rfl
theorem jkm(H:Hp)(Q:VK)(k:Bool):jjh [.bl k] H Q=(Q (.int (if k then 1 else 0)) H):=rfl
theorem jhb(H:Hp)(Q:VK)(z:Str):jg9 [.str z] H Q=(z.length<=sizeLine/\∀l,H l=none->Q (.ref l) (upd H l (.lst (sgn z)))):=rfl
theorem jha(H:Hp)(Q:VK)(p:Addr):jg9 [.ref p] H Q=(∃ys,jc8 (H p)=some ys/\∀l,H l=none->Q (.ref l) (upd H l (.lst ys))):=rfl
theorem ji0(H:Hp)(Q:VK)(l:Addr)(i:Int):jnc (.ref l) [.int i] H Q=(∃xs,jcn (H l)=some xs/\0<=i/\∃y,xs[i.toNat]?=some y/\Q y (upd H l (.lst (xs.eraseIdx i.toNat)))):=rfl
theorem jdu(H:Hp)(Q:VK)(l:Addr)(y:V):jgg (.ref l) [y] H Q=(∃xs,jcn (H l)=some xs/\xs.length<sizeLine/\Q .non (upd H l (.lst (xs++[y])))):=rfl
theorem jfe(H:Hp)(Q:VK)(l b:Addr):jgj (.ref l) [.ref b] H Q=(∃xs,jcn (H l)=some xs/\∃zs,jcn (H b)=some zs/\xs.length+zs.length<=sizeLine/\Q .non (upd H l (.lst (xs++zs)))):=rfl
theorem jgh(H:Hp)(Q:VK)(i j:Int):rEqU (.int i) (.int j) H Q=(Q (.bl (decide (i=j))) H):=rfl
theorem jmf(H:Hp)(Q:VK)(i j:Bool):rEqU (.bl i) (.bl j) H Q=(Q (.bl (decide (i=j))) H):=rfl
theorem jkj(H:Hp)(Q:VK)(i j:Str):rEqU (.str i) (.str j) H Q=(Q (.bl (decide (i=j))) H):=rfl
theorem jgi(H:Hp)(Q:VK)(i j:Addr):rEqU (.ref i) (.ref j) H Q=(rEqD (.ref i) (.ref j) H Q):=rfl
theorem jgk(H:Hp)(Q:VK)(i j:Int):rNeU (.int i) (.int j) H Q=(Q (.bl (!decide (i=j))) H):=rfl
theorem jmh(H:Hp)(Q:VK)(i j:Bool):rNeU (.bl i) (.bl j) H Q=(Q (.bl (!decide (i=j))) H):=rfl
theorem jkr(H:Hp)(Q:VK)(i j:Str):rNeU (.str i) (.str j) H Q=(Q (.bl (!decide (i=j))) H):=rfl
theorem jkq(H:Hp)(Q:VK)(i j:Addr):rNeU (.ref i) (.ref j) H Q=(rNeD (.ref i) (.ref j) H Q):=rfl
theorem jmg(K:PySem.W.Frag)(x:V)(c:String)(H:Hp)(Q:VK):rIsU K [x,.ty c] H Q=(∃t b,TyOf K H x t/\PySem.W.kitOne K t (.type c)=some b/\Q (.bl b) H):=rfl
theorem jem(p:Addr)(k:Int)(v:V)(H:Hp)(Q:Hp->Prop):jp5 (.ref p) (.int k) v H Q=(∃xs,jcn (H p)=some xs/\∃j,ixN xs.length k=some j/\Q (upd H p (.lst (xs.set j v)))):=rfl
theorem jl4(p:Addr)(H:Hp):isL (.ref p) H=((jcn (H p)).isSome=true):=rfl
def jcr(J:It)(g:TG)(tb:TS)(D:Ends)(σ:L2.St)(H1:Hp):Prop:=∃W:Nat->Nat->L2.St->Hp->Prop,(∃m,W 0 m σ H1)/\∀i m σ H,W i m σ H ->
 (J.stop i H/\D.nx σ H)\/(J.go i H/\∃N:L2.St->Hp->Prop,(∀σ' H',N σ' H'->∃m',m'<m/\W (i+1) m' σ' H')/\∀x H',J.yld i H x H'->g x σ H' λσ2 H2=>tb {D with nx:=N,ct:=N,bk:=D.nx} σ2 H2)
theorem jmm(wi:TI)(g:TG)(tb:TS)(D:Ends)(σ:L2.St)(H:Hp):tFor wi g tb D σ H=wi σ H λJ H1=>jcr J g tb D σ H1:=rfl
theorem jcm{lo:Int}{n:Nat}{g:TG}{tb:TS}{D:Ends}{σ:L2.St}{H:Hp}(Pv:Nat->L2.St->Hp->Prop)(h0:Pv 0 σ H)
  (hs:∀i σ H,i<n->Pv i σ H->g (.int (lo+i)) σ H λσ2 H2=>tb {D with nx:=Pv (i+1),ct:=Pv (i+1),bk:=D.nx} σ2 H2) (hd:∀σ H,Pv n σ H->D.nx σ H):jcr (Itr lo n) g tb D σ H:=jn5 Pv h0 hs hd
theorem jgc{z:Str}{g:TG}{tb:TS}{D:Ends}{σ:L2.St}{H:Hp}(Pv:Nat->L2.St->Hp->Prop)(h0:Pv 0 σ H)
  (hs:∀i c σ H,z.cps.toList[i]?=some c->Pv i σ H->g (.str ⟨#[c]⟩) σ H λσ2 H2=>tb {D with nx:=Pv (i+1),ct:=Pv (i+1),bk:=D.nx} σ2 H2) (hd:∀σ H,Pv z.length σ H->D.nx σ H):jcr (ItS z) g tb D σ H:=jqo Pv h0 hs hd
theorem jc9{K:PySem.W.Frag}{a:Addr}{xs:List V}{g:TG}{tb:TS}{D:Ends}{σ:L2.St}{H:Hp}(Pv:Nat->L2.St->Hp->Prop)(h0:Pv 0 σ H)(hl:∀i σ H,i<=xs.length->Pv i σ H->H a=some (.lst xs))
  (hs:∀i x σ H,xs[i]?=some x->Pv i σ H->g x σ H λσ2 H2=>tb {D with nx:=Pv (i+1),ct:=Pv (i+1),bk:=D.nx} σ2 H2) (hd:∀σ H,Pv xs.length σ H->D.nx σ H):jcr (Itl K a) g tb D σ H :=
 jpd Pv h0 (λi σ H h p=>SqL.of (hl i σ H h p)) hs hd
theorem jea{K:PySem.W.Frag}{a:Addr}{xs:List V}{g:TG}{tb:TS}{D:Ends}{σ:L2.St}{H:Hp}(Pv:Nat->L2.St->Hp->Prop)(h0:Pv 0 σ H)(hl:∀i σ H,i<=xs.length->Pv i σ H->H a=some (.tup xs))
  (hs:∀i x σ H,xs[i]?=some x->Pv i σ H->g x σ H λσ2 H2=>tb {D with nx:=Pv (i+1),ct:=Pv (i+1),bk:=D.nx} σ2 H2) (hd:∀σ H,Pv xs.length σ H->D.nx σ H):jcr (Itt K a) g tb D σ H :=
 jqp Pv h0 (λi σ H h p=>SqT.of (hl i σ H h p)) hs hd
end
def clOf(env:Env):List (Str×NameKind)->List (Str×Addr)->List (Str×Addr)
 |[],cs=>cs
 |(n,k)::r,cs=>clOf env r (if k == .free then(n,(env.cells.lookup n).getD 0)::cs else cs)
theorem jd1{env:Env}{scope:Scope}(h:∀y∈scope.names,y.2=.free->∃c,env.cells.lookup y.1=some c):closureFor scope env=pure (clOf env scope.names []):=by
 have gen:∀(l:List (Str×NameKind))(cs:List (Str×Addr)),(∀y∈l,y.2=.free->∃c,env.cells.lookup y.1=some c) ->
   (forIn l cs λx r=>(match x with|(name,kind)=>if(kind == NameKind.free)=true then do let c <-cellOf env name;pure (ForInStep.yield ((name,c)::r))else pure (ForInStep.yield r)):Sem (List (Str×Addr)))=pure (clOf env l cs):=by
  intro l
  induction l with
  |nil=>intro cs _;rfl
  |cons y l ih =>
   intro cs hy
   obtain⟨n,k⟩:=y
   rw[Yt]
   have hr:=λz hz=>hy z (Oh _ hz)
   by_cases hk:k=.free
   ·subst hk
    obtain⟨c,hc⟩:=hy _ (Ox ..) rfl
    have hc':env.cells.lookup n=some c:=hc
    have e:cellOf env n=pure c:=by unfold cellOf;rw[hc']
    simp only[W1,Oz,e,pure_bind]
    rw[ih _ hr]
    simp[clOf,hc']
   ·have hb:(k == NameKind.free)=false:=by simpa using hk
    simp only[hb,A8,Of,pure_bind]
    rw[ih _ hr]
    simp[clOf,hb]
 exact(O4 (· >>= λs=>pure s) (gen scope.names [] h)).trans (by rfl)
theorem jgb{env:Env}:∀(l:List (Str×NameKind))(cs:List (Str×Addr))(x:Str)(c:Addr),(∀y∈l,y.2=.free->∃c,env.cells.lookup y.1=some c)->(∀x c,cs.lookup x=some c->env.cells.lookup x=some c) ->
  (clOf env l cs).lookup x=some c->env.cells.lookup x=some c
 |[],cs,x,c,_,hc,h=>hc x c h
 |(n,k)::r,cs,x,c,hl,hc,h=>by
  unfold clOf at h
  refine jgb r _ x c (λy hy=>hl y (Oh _ hy)) (λz d hz=>?_) h
  split at hz
  ·rename_i hk
   rw[List.lookup_cons]at hz
   cases hzn:z == n with
   |true =>
    rw[hzn]at hz
    obtain⟨c',hc'⟩:=hl _ (Ox ..) (by simpa using hk)
    have hc'':env.cells.lookup n=some c':=hc'
    have ez:z=n:=by simpa using hzn
    subst ez
    rw[hc'']at hz
    rw[hc'']
    exact hz
   |false=>rw[hzn]at hz;exact hc z d hz
  ·exact hc z d hz
theorem jib{env:Env}:∀(l:List (Str×NameKind))(cs:List (Str×Addr))(x:Str),(∃c,cs.lookup x=some c)->∃c,(clOf env l cs).lookup x=some c
 |[],cs,x,h=>h
 |(n,k)::r,cs,x,h=>by
  unfold clOf
  refine jib r _ x ?_
  split
  ·rw[List.lookup_cons]
   cases x == n with
   |true=>exact⟨_,rfl⟩
   |false=>exact h
  ·exact h
theorem jga{env:Env}:∀(l:List (Str×NameKind))(cs:List (Str×Addr))(x:Str),(x,NameKind.free)∈l->∃c,(clOf env l cs).lookup x=some c
 |(n,k)::r,cs,x,h=>by
  unfold clOf
  rcases Ap.mp h with h|h
  ·cases h
   refine jib r _ _ ?_
   simp[List.lookup_cons]
  ·exact jga r _ x h
abbrev Cx.comp(X:Cx)(scope:Scope)(C:Addr)(Nc:List Str)(s3:Shared)(H3:Hp)(fp:List Addr):Cx :=
 {X with N:=Nc,s₀:=s3,H₀:=H3,env:=compEnvC scope (clOf X.env scope.names []) C X.env,outer:=X.stack,stack:=X.stack,ex:=fp,fn:=λ_=>false,pn:=[],xe:=λ_ _=>False}
def jdn(js:List (Option Nat))(σ:L2.St):L2.St:=js.map λo=>o.bind λj=>(σ[j]?).getD none
def jc0(D:Addr)(te:TE):TS:=λE σ H=>te σ H λv H1=>∃ys,jcn (H1 D)=some ys/\ys.length<sizeLine/\E.nx σ (upd H1 D (.lst (ys++[v])))
def jfs(wi:TI)(g:TG)(js:List (Option Nat))(te:TE):TE:=λσ H Q=>wi σ H λJ H1=>∀D,H1 D=none ->
 jcr J g (jc0 D te) {nx:=λ_ H'=>Q (.ref D) H',rt:=λ_ _=>False} (jdn js σ) (upd H1 D (.lst []))
structure CompOk(X:Cx)(scope:Scope)(Nc:List Str)(js:List (Option Nat)):Prop where
 kind:scope.kind=.function
 nocell:∀y∈scope.names,y.2≠.cell
 loc:∀y∈scope.names,y.2=.local->scope.names.lookup y.1=some .local
 free:∀y∈scope.names,y.2=.free->X.env.kindOf y.1=some .cell\/X.env.kindOf y.1=some .free
 len:js.length=Nc.length
 nol:∀x,(x,NameKind.free)∈scope.names->scope.names.lookup x≠some .local
 see:∀(i j:Nat)(x:Str),js[i]?=some (some j)->Nc[i]?=some x->X.N[j]?=some x/\(x,NameKind.free)∈scope.names
section
variable{X:Cx}{pins:List (Addr×Obj)}{σ:L2.St}{H:Hp}{s:Shared}{scope:Scope}{Nc:List Str}{js:List (Option Nat)}{fp:List Addr}
theorem CompOk.has(c:CompOk X scope Nc js)(I:Inv X pins σ H s):∀y∈scope.names,y.2=.free->∃a,X.env.cells.lookup y.1=some a:=λy hy hf=>I.ok.has _ (c.free y hy hf)
theorem jfh{env:Env}{x:Str}:∀{l:List (Str×NameKind)},(∀y∈l,y.2≠.cell) ->
  ((l.map fun(n,k)=>if(k == NameKind.free && env.scope.kind == .function && env.kindOf n == some .cell)then(n,NameKind.cell)else(n,k)).lookup x=some .cell \/
   (l.map fun(n,k)=>if(k == NameKind.free && env.scope.kind == .function && env.kindOf n == some .cell)then(n,NameKind.cell)else(n,k)).lookup x=some .free)->(x,NameKind.free)∈l
 |[],_,h=>by simp at h
 |(n,k)::r,hc,h=>by
  rw[Ay]at h
  by_cases hx:x=n
  ·subst hx
   have hk:k=.free:=by
    have hk':k≠.cell:=hc _ (Ox ..)
    by_cases hcond:(k == NameKind.free && env.scope.kind == .function && env.kindOf x == some .cell)=true
    ·rw[Oy,Oy]at hcond
     simpa using hcond.1.1
    ·simp only[hcond,A8,Of,List.lookup_cons,W1]at h
     rcases h with h|h
     ·exact absurd (Av h) hk'
     ·exact Av h
   subst hk
   exact Ox ..
  ·refine Oh _ (jfh (env:=env) (λy hy=>hc y (Oh _ hy)) ?_)
   have hxn:(x == n)=false:=by simpa using hx
   by_cases hcond:(k == NameKind.free && env.scope.kind == .function && env.kindOf n == some .cell)=true
   ·simpa only[hcond,Oz,List.lookup_cons,hxn]using h
   ·simpa only[hcond,A8,Of,List.lookup_cons,hxn]using h
theorem jf4{env:Env}{x:Str}:∀{l:List (Str×NameKind)},
  (l.map fun(n,k)=>if(k == NameKind.free && env.scope.kind == .function && env.kindOf n == some .cell)then(n,NameKind.cell)else(n,k)).lookup x=some .local->l.lookup x=some .local
 |[],h=>by simp at h
 |(n,k)::r,h=>by
  rw[Ay]at h
  by_cases hx:x=n
  ·subst hx
   by_cases hcond:(k == NameKind.free && env.scope.kind == .function && env.kindOf x == some .cell)=true
   ·simp only[hcond,Oz,List.lookup_cons,W1]at h
    cases h
   ·simp only[hcond,A8,Of,List.lookup_cons,W1]at h
    simp only[List.lookup_cons,W1]
    exact h
  ·have hxn:(x == n)=false:=by simpa using hx
   rw[List.lookup_cons,hxn]
   refine jf4 (env:=env) ?_
   by_cases hcond:(k == NameKind.free && env.scope.kind == .function && env.kindOf n == some .cell)=true
   ·simpa only[hcond,Oz,List.lookup_cons,hxn]using h
   ·simpa only[hcond,A8,Of,List.lookup_cons,hxn]using h
theorem jqi(c:CompOk X scope Nc js)(I:Inv X pins σ H s)(hf:∀b∈fp,FpOk X pins H b)(ho:∀b∈fp,∃o,s.heap.get? b=some o):(X.comp scope s.heap.objs.size Nc s H fp).Ok:=by
 have hs:=c.has I
 have sub:∀x a,(clOf X.env scope.names []).lookup x=some a->X.env.cells.lookup x=some a:=λx a=>jgb _ _ x a hs (λ_ _ z=>nomatch z)
 refine⟨I.ok.mod,c.kind,I.ok.glob,I.ok.blt,Ak _,λx y a e1 e2=>I.ok.inj x y a (sub x a e1) (sub y a e2),λx h=>jga _ _ x (jfh (env:=X.env) c.nocell h),(λx a h=>nomatch h),I.ok.hd,I.ok.frames,.inl rfl,λb hb=>⟨?_,λx a e=>?_⟩,I.bs,
  Iv I.ok.bsz I.sz,λb o e hb=>?_,λb hb hb'=>?_,I.stack,I.stkFree⟩
 ·obtain⟨o,e⟩:=ho b hb
  exact A0 (Ar e)
 ·exact(hf b hb).2.2.2.2.1 x a (sub x a e)
 ·rcases(hf b hb).2.2.2.1 with z|z
  ·exact I.ok.noex b o e z
  ·exact absurd (A2 (Ar (I.ok.bs b o e).1) z) (Wk _)
 ·rcases Ap.mp (I.stkSub b hb')with z|z
  ·exact(hf b hb).2.1 z
  ·exact(hf b hb).2.2.1 z
theorem jj0(c:CompOk X scope Nc js)(I:Inv X pins σ H s)(hf:∀b∈fp,FpOk X pins H b)(ho:∀b∈fp,∃o,s.heap.get? b=some o){h':Heap}{m:Str->Option Value}{tk:Nat}(hn:h'.Ns s.heap.objs.size m)
  (hk:∀b o,s.heap.get? b=some o->h'.get? b=some o):Inv (X.comp scope s.heap.objs.size Nc s H fp) [] (jdn js σ) H {s with heap:=h',toks:=tk}:=by
 have hs:=c.has I
 have sub:∀x a,(clOf X.env scope.names []).lookup x=some a->X.env.cells.lookup x=some a:=λx a=>jgb _ _ x a hs (λ_ _ z=>nomatch z)
 refine⟨jqi c I hf ho,rfl,I.bare,Un.kept hk,⟨m,hn,λi x v e1 e2 e3=>?_⟩,λx a e=>?_,I.hok.fresh (Ak _),λx a e=>I.freeC x a (sub x a e),(λp hp=>nomatch hp),I.hok.kept hk,by simp only[jdn,Ac];exact c.len⟩
 ·have e2':(jdn js σ)[i]?=some (some v):=e2
  unfold jdn at e2'
  rw[Ag]at e2'
  cases ej:js[i]? with
  |none=>rw[ej]at e2';cases e2'
  |some o =>
   rw[ej]at e2'
   cases o with
   |none=>cases e2'
   |some j =>
    have e4:(σ[j]?).getD none=some v:=Av e2'
    have e5:σ[j]?=some (some v):=by
     cases q:σ[j]? with
     |none=>rw[q]at e4;cases e4
     |some w=>rw[q]at e4;exact O4 some e4
    obtain⟨n1,n2⟩:=c.see i j x ej e1
    have hkd:=c.free _ n2 rfl
    obtain⟨a,ha⟩:=jga (env:=X.env) scope.names [] x n2
    obtain⟨m0,_,hl⟩:=I.loc
    obtain⟨u,r,l⟩:=hl j x v n1 e5 (by
     rcases hkd with z|z
     ·exact .inr (.inl z)
     ·exact .inr (.inr z))
    refine⟨u,r,?_⟩
    rcases l with⟨k,_⟩|⟨_,a',ha',hcell⟩
    ·rcases hkd with z|z
     ·rw[z]at k;cases k
     ·rw[z]at k;cases k
    ·have:a'=a:=Av (ha'.symm.trans (sub x a ha))
     subst this
     refine .inr ⟨?_,a',ha,?_⟩
     ·rcases e3 with z|z|z
      ·exfalso
       have q:(relabel scope X.env).names.lookup x=some .local:=z
       exact c.nol x n2 (jf4 q)
      ·exact .inl z
      ·exact .inr z
     ·obtain⟨o,q,d⟩:=hcell
      exact⟨o,hk _ o q,d⟩
 ·obtain⟨v,o,q,d⟩:=I.cell x a (sub x a e)
  exact⟨v,o,hk _ o q,d⟩
theorem jd2(I:Inv X pins σ H s)(hf:∀b∈fp,FpOk X pins H b){σ':L2.St}{H':Hp}{s':Shared}{h'':Heap}(J:Inv (X.comp scope s.heap.objs.size Nc s H fp) [] σ' H' s')(hs:Heap.SameBut s.heap.objs.size s'.heap h'') :
  Inv X pins σ H' {s' with heap:=h''}:=by
 have ne:∀b o,s.heap.get? b=some o->b≠s.heap.objs.size:=λb o e=>A0 (Ar e)
 have u:Un (frs X.stack) fp H H' s.heap s'.heap:=J.base
 refine I.call' (s':={s' with heap:=h''}) (ch:=fp) J.os ⟨λb o e n hb hx=>?_,λb o e n hb hx=>?_,u.free,λb o e hx=>?_,u.tups,u.frzs,u.tbls⟩ (λb o e=>?_) J.bare λb hb=>?_
 ·exact(hs.2 b (ne b o e)).trans (u.keep b o e n hb hx)
 ·obtain⟨sl,q⟩:=u.slot b o e n hb hx
  exact⟨sl,(hs.2 b (ne b o e)).trans q⟩
 ·obtain⟨o',q⟩:=u.there b o e hx
  exact⟨o',(hs.2 b (ne b o e)).trans q⟩
 ·have hC:H' s.heap.objs.size=none:=J.free
  refine(J.hok b o e).stay (λd v hd q=>(hs.2 d ?_).trans q) (λ_ q=>q) λ_ _ q=>q
  rintro rfl
  rcases hd with z|z
  ·rw[<-z,hC]at e;cases e
  ·rw[hC]at z;cases z
 ·obtain⟨_,f1,_,f3,f4,f5⟩:=hf b hb
  exact⟨f3,f1,f4,f5⟩
end
section
variable{X:Cx}{scope:Scope}{Nc:List Str}{js:List (Option Nat)}{elt tg iter:Expr}{pos:Pos}{wi:TI}{g:TG}{te:TE}
theorem jic(hc:X.calm=true)(c:CompOk X scope Nc js)(hi:PI X tg iter wi)(hg:∀C s3 H3 fp,PG (X.comp scope C Nc s3 H3 fp) tg g)(he:∀C s3 H3 fp,PE (X.comp scope C Nc s3 H3 fp) elt te)
  {pins:List (Addr×Obj)}{s:Shared}{σ:L2.St}{H:Hp} (I:Inv X pins σ H s) {RR:Value->Addr->Result->Shared->Prop}{NX:Addr->Hp->Prop}
  (h:wi σ H λJ H1=>∀D,H1 D=none->jcr J g (jc0 D te) {nx:=λ_ H'=>NX D H',rt:=λ_ _=>False} (jdn js σ) (upd H1 D (.lst [])))
  (fin:∀D H3 s3 fp σ5 H5 s6,Inv X pins σ H3 s3->(∀b∈fp,FpOk X pins H3 b)->Inv (X.comp scope s3.heap.objs.size Nc s3 H3 fp) [] σ5 H5 s6->NX D H5->RR (.ref D) s3.heap.objs.size (.ok .next) s6) :
  wpAny (model X.prog X.w) X.A (eval iter X.env) (λx s₁=>wpAny (model X.prog X.w) X.A (pyIter x) (λit s₂=>wpAny (model X.prog X.w) X.A (newList []) (λacc s₃ =>
   wpAny (model X.prog X.w) X.A (newFunctionEnv scope X.env.globals (clOf X.env scope.names []) [] X.env.qual none .none (some X.env)) (λcenv s₄ =>
    codeAny (model X.prog X.w) X.A (.compStart (.ListComp elt [⟨tg,iter,[],0⟩] scope pos) 0 it acc {cenv with scope:=relabel scope X.env}) (RR acc cenv.locals) s₄) X.xe s₃) X.xe s₂) X.xe s₁) X.xe s:=by
 refine thn (hi pins s σ H _ I h) λv s1 h1=>thn h1 λitv s2 h2=>?_
 obtain⟨it,fp,tn,J,H2,rfl,I2,T,st2,f2,h2⟩:=h2
 refine Og ?_ (by show 0<=sizeLine;decide)
 have hD:H2 s2.heap.objs.size=none:=I2.hok.fresh (Ak _)
 have I3:Inv X pins σ (upd H2 s2.heap.objs.size (.lst [])) {s2 with heap:=s2.heap.push {cls:=.type "list",data:=.seq ([]:List Value).toArray}} :=
  I2.laid (t':=s2.toks) (λb u e=>Ai _ e) (Ak _) ⟨by show 0<=sizeLine;decide,[],0,.nil,Aw _ rfl⟩
 have f3:∀b∈fp,FpOk X pins (upd H2 s2.heap.objs.size (.lst [])) b:=λb hb=>by
  obtain⟨q0,q⟩:=f2 b hb
  obtain⟨o,e,_⟩:=T.obj _ _ st2 b hb
  exact⟨by rw[jd (A0 (Ar e))];exact q0,q⟩
 have o3:∀b∈fp,∃o,(s2.heap.push {cls:=.type "list",data:=.seq ([]:List Value).toArray}).get? b=some o:=λb hb=>by
  obtain⟨o,e,_⟩:=T.obj _ _ st2 b hb
  exact⟨o,Ai _ e⟩
 have st3:tn 0 (s2.heap.push {cls:=.type "list",data:=.seq ([]:List Value).toArray}):=T.keep _ _ _ st2 λb _ o e=>Ai _ e
 generalize hh3:s2.heap.push {cls:=.type "list",data:=.seq ([]:List Value).toArray}=h3 at I3 o3 st3⊢
 refine Yu c.nocell (by intro y hy;simp at hy) (λh4 hn4 hs4=>?_) c.kind
 have k4:∀b o,h3.get? b=some o->h4.get? b=some o:=λb o e=>(hs4.2 b (A0 (Ar e))).trans (Ai _ e)
 have I4:=jj0 (tk:=s2.toks+([]:List (Str×Value)).length) c I3 f3 o3 hn4 k4
 have st4:tn 0 h4:=T.keep _ _ _ st3 λb _ o e=>k4 b o e
 obtain⟨W,⟨m0,w0⟩,turn⟩:=h2 _ hD
 let s3:Shared:={s2 with heap:=h3}
 let Y:Cx:=X.comp scope h3.objs.size Nc s3 (upd H2 s2.heap.objs.size (.lst [])) fp
 have stat:∀{H':Hp},(∀b∈fp,H' b=none)->∀b∈fp,FpOk Y [] H' b:=λhn b hb=>⟨hn b hb,(I4.ok.exf b hb).1,I4.ok.exfs b hb,.inl hb,(I4.ok.exf b hb).2,(λp hp=>nomatch hp)⟩
 have loop:codeAny (model X.prog X.w) X.A (.compLoop (.ListComp elt [⟨tg,iter,[],0⟩] scope pos) 0 (.ref it) (.ref s2.heap.objs.size) Y.env)
   (RR (.ref s2.heap.objs.size) h3.objs.size) {s2 with heap:=h4,toks:=s2.toks+([]:List (Str×Value)).length}:=by
  refine codeAny_loop rfl (λn s'=>∃i σ' H',Inv Y [] σ' H' s'/\tn i s'.heap/\(∀b∈fp,H' b=none)/\W i n σ' H') (λn s5 hI=>?_) m0 ⟨0,_,_,I4,st4,λb hb=>(f3 b hb).1,w0⟩
  obtain⟨i,σ5,H5,I5,st5,fr5,w5⟩:=hI
  show wpAny _ X.A ((compTurn (.ListComp elt [⟨tg,iter,[],0⟩] scope pos) 0 (.ref it) (.ref s2.heap.objs.size) Y.env).onRaise (λx=>do noteFrame x Y.env;theTreesLotGoes x)) _ _ s5
  refine wpAny_noted (Uj (E:=λ_ _=>False) ?_ (λ_ _ q=>q) λ_ _ z=>z.elim)
  rw[compTurn_list1]
  refine Ab (Yn (Ab ?_))
  rcases turn i n σ5 H5 w5 with⟨stop,qn⟩|⟨go,N,hN,step⟩
  ·refine thn (T.done Y rfl rfl rfl hc i [] s5 σ5 H5 _ I5 (stat fr5) st5 stop) λr s6 ⟨hr,I6⟩=>?_
   subst hr
   refine Ah ?_
   exact fin _ _ s3 fp σ5 H5 s6 I3 f3 I6 qn
  ·refine thn (T.item Y rfl rfl rfl hc i [] s5 σ5 H5 _ I5 (stat fr5) st5 go) λr s6 ⟨u,hr,h6⟩=>?_
   subst hr
   refine Ab (thn h6 λ_ s7 ⟨x,H7,I7,r7,y7,st7,fr7⟩=>?_)
   have I7':=I7.pinned (stat fr7) (T.obj _ _ st7)
   refine Ab (thn (hg _ _ _ _ _ s7 σ5 H7 x u _ I7' r7 (step x H7 y7)) λ_ s8 ⟨σ8,H8,I8,q8⟩=>?_)
   refine Ab (Ab (thn (he _ _ _ _ _ s8 σ8 H8 _ I8 q8) λv s9 ⟨y,H9,I9,r9,ys,e9,z9,n9⟩=>?_))
   refine Ab (thn (ja0 (X:=Y) _ s9 σ8 H9 (.ref s2.heap.objs.size) [y] (.ref s2.heap.objs.size) [v] (λw H'=>N σ8 H') I9 rfl (.cons r9 .nil) ⟨_,ys,y,rfl,rfl,jcs e9,z9,n9⟩) λw s10 ⟨_,H10,I10,_,n10⟩=>?_)
   refine Ah (Ah ⟨rfl,?_⟩)
   obtain⟨m',hm,w10⟩:=hN σ8 H10 n10
   refine⟨m',hm,i+1,σ8,H10,I10.unpinned,T.keep _ _ _ st7 λb hb o e=>(I10.pin (b,o) (Ip _ (Ip _ (jdl hb e)))).1,λb hb=>?_,w10⟩
   obtain⟨o,e,d⟩:=T.obj _ _ st7 b hb
   exact(I10.pin (b,o) (Ip _ (Ip _ (jdl hb e)))).2.1
 exact codeAny_compStart_list loop (T.self _ 0 _ _ _ st4 loop)
theorem pe_comp(hc:X.calm=true)(c:CompOk X scope Nc js)(hi:PI X tg iter wi)(hg:∀C s3 H3 fp,PG (X.comp scope C Nc s3 H3 fp) tg g)(he:∀C s3 H3 fp,PE (X.comp scope C Nc s3 H3 fp) elt te)
  (hs:∀x,foldedSetIterable iter X.env x=pure x:=by intro _;rfl):PE X (.ListComp elt [⟨tg,iter,[],0⟩] scope pos) (jfs wi g js te):=by
 intro pins s σ H Q I h
 rw[eval_ListComp]
 refine Wd (use:=none) (g:=⟨tg,iter,[],0⟩) (gs:=[]) rfl hs (jd1 (c.has I)) c.kind c.loc
  (jic (RR:=λacc C=>compPost (model X.prog X.w) X.A X.xe none (EP X pins σ Q) acc C) (NX:=λD H'=>Q (.ref D) H') hc c hi hg he I h λD H3 s3 fp σ5 H5 s6 I3 f3 I6 qn=>?_)
 obtain⟨m,hn,_⟩:=I6.loc
 exact⟨m,hn,λh' hs'=>⟨.ref D,H5,jd2 I3 f3 I6 hs',rfl,qn⟩⟩
theorem ps_setc{i:Nat}{y:Str}{py spos:Pos}(hN:X.N.Nodup)(hiN:X.N[i]?=some y)(hy:Loc X.env.scope y)(hc:X.calm=true)(c:CompOk X scope Nc js)(hi:PI X tg iter wi)(hg:∀C s3 H3 fp,PG (X.comp scope C Nc s3 H3 fp) tg g)
  (he:∀C s3 H3 fp,PE (X.comp scope C Nc s3 H3 fp) elt te) (hsw:swapsWith (.ListComp elt [⟨tg,iter,[],0⟩] scope pos) (some (.Name y py)) spos.line X.env=pure true:=by rfl)
  (hs:∀x,foldedSetIterable iter X.env x=pure x:=by intro _;rfl) (hf:X.fn y=true\/X.env.scope.names.lookup y=some .local:=by first|exact .inl rfl|exact .inr rfl|assumption) :
  PS X (.Assign [.Name y py] (.ListComp elt [⟨tg,iter,[],0⟩] scope pos) spos) (tAsg (jfs wi g js te) (jcz i)):=by
 intro pins s σ H D I h
 rw[exec_Assign_Name_used _ _ _ _ hsw]
 refine Ab (Yn (Ab ?_))
 show wpAny _ X.A (do let _ <-comprehension (.ListComp elt [⟨tg,iter,[],0⟩] scope pos) scope X.env _ (newList []) false (eval iter X.env) (some (assign (.Name y py) X.env))) _ _ s
 refine Ab (Uj (Wd (use:=some (assign (.Name y py) X.env)) (g:=⟨tg,iter,[],0⟩) (gs:=[]) (Q:=λ_ s'=>SP X pins D .next s') rfl hs (jd1 (c.has I)) c.kind c.loc
  (jic (RR:=λacc C=>compPost (model X.prog X.w) X.A X.xe (some (assign (.Name y py) X.env)) (λ_ s'=>SP X pins D .next s') acc C) (NX:=λDa H'=>D.nx (σ.set i (some (.ref Da))) H') hc c hi hg he I h λDa H3 s3 fp σ5 H5 s6 I3 f3 I6 qn=>?_))
  (λ_ s' hq=>Ah (Ah hq)) λ_ _ e=>e)
 obtain⟨m,hn,_⟩:=id I6.loc
 have I7:Inv X pins σ H5 s6:=jd2 I3 f3 I6 (.refl ..)
 have hC:H5 s3.heap.objs.size=none:=I6.free
 have nL:s3.heap.objs.size≠X.env.locals:=Uo I3.lt
 have nc:∀x a,X.env.cells.lookup x=some a->a≠s3.heap.objs.size:=λx a e=>by
  obtain⟨v,q⟩:=I3.cell x a e
  exact A0 q.lt
 have np:∀p∈X.pn++pins,p.1≠s3.heap.objs.size:=λp hp=>A0 (Ar (I3.pin p hp).1)
 show wpAny _ _ (assign (.Name y py) X.env (.ref Da)) _ _ _
 refine wpAny_assign_Name (jfk (v:=.ref Da) I7 hN hiN hy rfl (λs8 I8 hb=>?_) hf)
 obtain⟨a,hs8,ha⟩:=hb
 have nCa:s3.heap.objs.size≠a:=by
  rcases ha with z|z
  ·rw[z];exact nL
  ·exact(nc y a z).symm
 refine⟨m,hn.sameBut hs8 nCa,λh9 hs9=>?_⟩
 exact⟨_,H5,I8.turned (t':=s8.toks) (λb o hb e=>(hs9.2 b hb).trans e) hC nL (.inr (Iv I3.sz (Ak _))) nc np,qn⟩
end
section
variable{X:Cx}
def jh3:List V->Hp->VK->Prop:=λxs H Q=>match xs with
 |[.ref p]=>(∃ys,jcn (H p)=some ys/\∀l,H l=none->Q (.ref l) (upd H l (.tup ys)))\/(∃ys,jfx (H p)=some ys/\Q (.ref p) H)
 |_=>False
theorem jx:jcq X (.type "tuple") jh3:=by
 intro pins s σ H xs us Q I r h
 unfold jh3 at h
 split at h
 ·rename_i p
  rcases h with⟨ys,e,h⟩|⟨ys,e,h⟩
  ·exact jay pins s σ H _ us Q I r ⟨p,ys,rfl,.inl ⟨SqL.of (jcs e),h⟩⟩
  ·exact jay pins s σ H _ us Q I r ⟨p,ys,rfl,.inr ⟨SqT.of (jge e),h⟩⟩
 ·exact h.elim
theorem jcf{p:Addr}{H:Hp}{Q:VK}{ys:List V}(e:H p=some (.lst ys))(h:∀l,H l=none->Q (.ref l) (upd H l (.tup ys))):jh3 [.ref p] H Q:=.inl ⟨ys,by rw[e];rfl,h⟩
def jnb:R2:=λx y H Q=>match x,y with
 |.int i,.int j=>CMul i j/\Q (.int (i*j)) H
 |.ref l,.int k=>∃xs,jcn (H l)=some xs/\0<=k/\k<2^62/\xs.length*k.toNat<=sizeLine/\∀p,H p=none->Q (.ref p) (upd H p (.lst (List.replicate k.toNat xs).flatten))
 |_,_=>False
theorem zp:OpR X (binaryOp .Mult) jnb:=by
 intro pins s σ H x y v u Q I rx ry h
 cases x with
 |int i=>cases y with
  |int j=>exact op_mul pins s σ H _ _ v u Q I rx ry ⟨i,j,rfl,rfl,h⟩
  |_=>exact False.elim h
 |ref l=>cases y with
  |int k =>
   obtain⟨xs,e,k0,k1,h⟩:=h
   exact op_rep pins s σ H _ _ v u Q I rx ry ⟨l,k,xs,rfl,rfl,jcs e,by omega,by omega,h⟩
  |_=>exact False.elim h
 |_=>exact False.elim h
theorem jiy(H:Hp)(Q:VK)(i j:Int):jnb (.int i) (.int j) H Q=(CMul i j/\Q (.int (i*j)) H):=rfl
theorem jiz(H:Hp)(Q:VK)(l:Addr)(k:Int):jnb (.ref l) (.int k) H Q=(∃xs,jcn (H l)=some xs/\0<=k/\k<2^62/\xs.length*k.toNat<=sizeLine/\∀p,H p=none->Q (.ref p) (upd H p (.lst (List.replicate k.toNat xs).flatten))):=rfl
def isS(x:V):Prop:=match x with
 |.str _=>True
 |_=>False
def tBMS(r:V->List V->Hp->VK->Prop)(to:TE)(t:TA):TE:=λσ H Q=>to σ H λx H1=>isS x/\t σ H1 λxs H2=>r x xs H2 Q
theorem isS.ty{K:PySem.W.Frag}{x:V}{H:Hp}(h:isS x):tyV K "str" x H:=by
 unfold isS at h
 split at h
 ·rfl
 ·exact h.elim
theorem jl5(z:Str):isS (.str z)=True:=rfl
theorem jr0{v:V}:∀σ H Q Q',(∀v H',Q v H'->Q' v H')->tC v σ H Q->tC v σ H Q':=λ_ _ _ _ h q=>h _ _ q
variable{o e:Expr}{es:List Expr}{to:TE}{t:TA}{name:Str}{apos cpos:Pos}{id:String}{r:V->List V->Hp->VK->Prop}
theorem pe_bmS(slot:Slot "str" name id)(hty:typeOf (.builtin id)=pure (.type "method_descriptor"))(hm:MtM X id r)(ho:PE X o to)(ha:PA X (e::es) t)(mono:∀σ H Q Q',(∀v H',Q v H'->Q' v H')->to σ H Q->to σ H Q')
  (hbase:attributeBase o name X.env (eval o X.env)=eval o X.env:=by rfl)
  (hfew:((backTo cpos (starEach (e::es) X.env)).all (λx=>!x.1) && (backToKw cpos (keywordEach [] X.env)).all (λx=>x.1.isSome)
   && decide ((e::es).length+([]:List Keyword).length+(if([]:List Keyword).isEmpty then 0 else 1)<30))=true:=by rfl)
  (hline:(apos.endLine == cpos.line)=true:=by rfl) (hs:starEach (e::es) X.env=(false,eval e X.env)::starEach es X.env:=by rfl) (hplain:(backTo cpos (starEach es X.env)).any (·.1)=false:=by rfl) :
  PE X (.Call (.Attribute o name apos) (e::es) [] cpos) (tBMS r to t) :=
 (jbp PySem.F.plainAttrs_str slot hty hm ho ha hbase hfew hline hs hplain).imp λσ H Q h=>mono σ H _ _ (λv H' q=>⟨q.1.ty,q.2⟩) h
theorem jhi:∀{ys:List Str}{us:List Value},Vals (ys.map V.str) us->StrsAre us ys
 |[],us,r=>by rw[Up]at r;cases r;exact .nil
 |y::ys,us,r=>by
  rw[Ay]at r
  cases r with
  |cons r1 r2 =>
   obtain⟨t,rfl⟩:=r1
   exact .cons y t (jhi r2)
def jom:V->List V->Hp->VK->Prop:=λx vs H Q=>match x,vs with
 |.str z,[.ref p]=>∃ys:List Str,H p=some (.lst (ys.map V.str))/\(ys.map (·.length)).sum+ys.length*z.length<=16777216/\Q (.str (Txt.join z ys)) H
 |_,_=>False
theorem mt_joinU:MtM X "str.join" jom:=by
 intro pins s σ H x vs v us Q I rx rv h
 unfold jom at h
 split at h
 ·rename_i z p
  obtain⟨ys,e,hz,q⟩:=h
  obtain⟨t,rfl⟩:=rx
  obtain⟨u,rfl,ru⟩:=rv.one
  cases ru
  obtain⟨its,rr,pl,_⟩:=I.list (SqL.of e)
  exact join_list pl.isList (by simpa using jhi rr) hz λt' k=>⟨.str _,H,I.tok k,⟨_,rfl⟩,q⟩
 ·exact h.elim
def cutS(z:Str)(lo hi:Option Int):Str:=⟨((z.cps.toList.drop (HT.sIx z.length 0 lo)).take (HT.sIx z.length z.length hi-HT.sIx z.length 0 lo)).toArray⟩
theorem jk7(lo hi:Option Int)(n:Nat):Builtin.Str.strSliceIndices lo hi 1 n=(List.range (HT.sIx n n hi-HT.sIx n 0 lo)).map (HT.sIx n 0 lo+·):=by
 rw[<-sliceRange_one]
 unfold Builtin.Str.strSliceIndices
 have e1:(match lo with|none=>(if(1:Int)>0 then(0:Int)else(n:Int)-1)|some i=>let i:=if i<0 then i+(n:Int)else i;if(1:Int)>0 then max 0 (min i (n:Int))else max (-1) (min i ((n:Int)-1)))=((HT.sIx n 0 lo:Nat):Int):=by
  cases lo with
  |none=>simp[HT.sIx]
  |some v =>
   simp only[show(1:Int)>0 by decide,Oz,HT.sIx]
   by_cases h:v<0
   ·simp only[h,Oz];omega
   ·simp only[h,Of];omega
 have e2:(match hi with|none=>(if(1:Int)>0 then(n:Int)else -1)|some i=>let i:=if i<0 then i+(n:Int)else i;if(1:Int)>0 then max 0 (min i (n:Int))else max (-1) (min i ((n:Int)-1)))=((HT.sIx n n hi:Nat):Int):=by
  cases hi with
  |none=>simp[HT.sIx]
  |some v =>
   simp only[show(1:Int)>0 by decide,Oz,HT.sIx]
   by_cases h:v<0
   ·simp only[h,Oz];omega
   ·simp only[h,Of];omega
 have key:∀a b a' b':Int,a=a'->b=b'->sliceRange a b 1=sliceRange a' b' 1:=by
  intro a b a' b' h1 h2
  rw[h1,h2]
 exact key _ _ _ _ e1 e2
theorem jlq(z:Str)(lo hi:Option Int):Txt.slice z lo hi=cutS z lo hi:=by
 have e:(Builtin.Str.strSliceIndices lo hi 1 z.length).filterMap (z.cps[·]?)=(z.cps.toList.drop (HT.sIx z.length 0 lo)).take (HT.sIx z.length z.length hi-HT.sIx z.length 0 lo):=by
  rw[jk7,pick_run]
 unfold Txt.slice cutS
 split
 ·rename_i h
  have h2:((Builtin.Str.strSliceIndices lo hi 1 z.length).length == z.length)=true:=by simpa using h
  have h3:(Builtin.Str.strSliceIndices lo hi 1 z.length).length=z.length:=eq_of_beq h2
  rw[jk7,Ac,Az]at h3
  have hl:z.cps.toList.length=z.length:=by simp[Str.length]
  have q:((z.cps.toList.drop (HT.sIx z.length 0 lo)).take (HT.sIx z.length z.length hi-HT.sIx z.length 0 lo))=z.cps.toList:=by
   have hb:HT.sIx z.length z.length hi<=z.length:=by
    cases hi with
    |none=>exact Ak _
    |some v=>simp only[HT.sIx];split <;> omega
   by_cases h0:z.length=0
   ·have:z.cps.toList=[]:=Ux.mp (by omega)
    rw[this];simp
   ·have ha:HT.sIx z.length 0 lo=0:=by omega
    rw[h3,ha,List.drop_zero]
    exact O7 (by omega)
  rw[q]
 ·rw[e]
def rSlS:V->Option Int->Option Int->Hp->VK->Prop:=λx lo hi H Q=>∃z,x=.str z/\z.length<=sizeLine/\Q (.str (cutS z lo hi)) H
theorem sl_str:SlR X rSlS:=by
 intro pins s σ H x v vl vu lo hi sl Q I rx hs pl pu h
 obtain⟨z,rfl,hz,q⟩:=h
 obtain⟨t,rfl⟩:=rx
 have gen:∀(l u:Option (Int×Tok)),vl=partValue l->vu=partValue u->lo=l.map (·.1)->hi=u.map (·.1) ->
   wpAny (model X.prog X.w) X.A (getItem (.str z t) (.ref sl)) (EP X pins σ Q) X.xe s:=by
  intro l u e1 e2 e3 e4
  subst e1 e2 e3 e4
  refine wpAny_getItem_str_slice (l:=l) (u:=u) (st:=none) hs (by rfl) ?_
  have e:(if((((none:Option (Int×Tok)).map (·.1)).getD 1 == 1 && (slicePicked z l u none).length == z.length)=true)then z else⟨((slicePicked z l u none).filterMap (z.cps[·]?)).toArray⟩)=cutS z (l.map (·.1)) (u.map (·.1)):=by
   rw[<-jlq];rfl
  refine post_val_or_str ⟨?_,λt' c=>⟨.str (cutS z (l.map (·.1)) (u.map (·.1))),H,I.tok c,⟨t',O4 (Value.str · t') e⟩,q⟩⟩
  rw[e,<-jlq]
  exact Iv (Txt.slice_le _ _ _) hz
 refine⟨"str",_,F.slot_str_getitem.lookup,typeIs_str _ _ _,?_⟩
 cases pl with
 |none=>cases pu with
  |none=>exact gen none none rfl rfl rfl rfl
  |int j tj=>exact gen none (some (j,tj)) rfl rfl rfl rfl
 |int i ti=>cases pu with
  |none=>exact gen (some (i,ti)) none rfl rfl rfl rfl
  |int j tj=>exact gen (some (i,ti)) (some (j,tj)) rfl rfl rfl rfl
def jlp(sc:Scope)(N:List Str)(scope:Scope)(Nc:List Str)(js:List (Option Nat)):Bool :=
 (scope.kind == .function) && scope.names.all (λy=>!(y.2 == .cell)) && scope.names.all (λy=>!(y.2 == .local) || scope.names.lookup y.1 == some .local) &&
 scope.names.all (λy=>!(y.2 == .free) || ((sc.names.lookup y.1 == some .cell || sc.names.lookup y.1 == some .free) && !(scope.names.lookup y.1 == some .local))) && (js.length == Nc.length) &&
 (List.range js.length).all (λi=>match js[i]? with
  |some (some j)=>(N[j]? == Nc[i]?) && (match Nc[i]? with|some x=>scope.names.any (λy=>y.1 == x && y.2 == .free)|none=>true)
  |_=>true)
theorem jcd{sc scope:Scope}{N Nc:List Str}{js:List (Option Nat)}(hd:jlp sc N scope Nc js=true)(hsc:X.env.scope=sc:=by rfl)(hN:X.N=N:=by rfl):CompOk X scope Nc js:=by
 simp only[jlp,Oy,List.all_eq_true,Bool.or_eq_true,Bool.not_eq_true',beq_iff_eq,At]at hd
 obtain⟨⟨⟨⟨⟨h1,h2⟩,h3⟩,h4⟩,h5⟩,h6⟩:=hd
 have kk:∀x,X.env.kindOf x=sc.names.lookup x:=λx=>by rw[<-hsc];rfl
 refine⟨h1,λy hy e=>?_,λy hy e=>?_,λy hy e=>?_,h5,λx hx=>?_,λi j x e1 e2=>?_⟩
 ·have:=h2 y hy
  rw[e]at this;cases this
 ·rcases h3 y hy with q|q
  ·rw[e]at q;cases q
  ·exact q
 ·rcases h4 y hy with q|q
  ·rw[e]at q;cases q
  ·rw[kk]
   exact q.1
 ·rcases h4 _ hx with q|q
  ·cases q
  ·intro z
   have q2:=q.2
   rw[z]at q2
   cases q2
 ·have hi:i<js.length:=(Ad.mp e1).1
  have q:=h6 i hi
  rw[e1,e2]at q
  simp only[Oy,beq_iff_eq,List.any_eq_true]at q
  refine⟨by rw[hN];exact q.1,?_⟩
  obtain⟨y,hy,hy1,hy2⟩:=q.2
  obtain⟨a,b⟩:=y
  simp only at hy1 hy2
  subst hy1 hy2
  exact hy
theorem Reps.len{H:Hp}:∀{vs:List V}{ds:List PyData},Reps H vs ds->vs.length=ds.length
 |[],[],_=>rfl
 |[],_::_,h=>by simp only[Reps]at h
 |_::_,[],h=>by simp only[Reps]at h
 |_::vs,_::ds,h=>by simp only[Reps]at h;simp[Reps.len h.2]
theorem Reps.app{H:Hp}:∀{vs us:List V}{ds es:List PyData},Reps H vs ds->Reps H us es->Reps H (vs++us) (ds++es)
 |[],_,[],_,_,h=>h
 |[],_,_::_,_,h,_=>by simp only[Reps]at h
 |_::_,_,[],_,h,_=>by simp only[Reps]at h
 |_::vs,us,_::ds,es,h,h'=>by
  simp only[Reps]at h
  simp only[List.cons_append,Reps]
  exact⟨h.1,Reps.app h.2 h'⟩
mutual
def jdy:PyData->Bool
 |.list _=>false
 |.tuple ds=>jdi ds
 |.dict _=>false
 |_=>true
def jdi:List PyData->Bool
 |[]=>true
 |d::ds=>jdy d && jdi ds
end
mutual
theorem Rep.kp{S:List Addr}{H H':Hp}(k:Kp S H H'):∀{d:PyData}{v:V},jdy d=true->Rep H v d->Rep H' v d
 |.none,_,_,h=>by simp only[Rep]at h⊢;exact h
 |.bool _,_,_,h=>by simp only[Rep]at h⊢;exact h
 |.int _,_,_,h=>by simp only[Rep]at h⊢;exact h
 |.str _,_,_,h=>by simp only[Rep]at h⊢;exact h
 |.list _,_,t,_=>by simp only[jdy]at t;cases t
 |.tuple ds,_,t,h=>by
  simp only[Rep]at h⊢
  obtain⟨a,vs,e,e2,h⟩:=h
  exact⟨a,vs,e,k.tup _ _ e2,Reps.kp k (by simpa only[jdy]using t) h⟩
 |.dict _,_,t,_=>by simp only[jdy]at t;cases t
theorem Reps.kp{S:List Addr}{H H':Hp}(k:Kp S H H'):∀{ds:List PyData}{vs:List V},jdi ds=true->Reps H vs ds->Reps H' vs ds
 |[],[],_,_=>by simp only[Reps]
 |[],_::_,_,h=>by simp only[Reps]at h
 |_::_,[],_,h=>by simp only[Reps]at h
 |d::ds,v::vs,t,h=>by
  simp only[Reps]at h⊢
  simp only[jdi,Oy]at t
  exact⟨Rep.kp k t.1 h.1,Reps.kp k t.2 h.2⟩
end
theorem Reps.ints(H:Hp):∀l:List Int,Reps H (l.map V.int) (l.map PyData.int)
 |[]=>by simp[Reps]
 |x::r=>by simp[Reps,Rep,Reps.ints H r]
theorem Reps.bools(H:Hp):∀l:List Bool,Reps H (l.map V.bl) (l.map PyData.bool)
 |[]=>by simp[Reps]
 |x::r=>by simp[Reps,Rep,Reps.bools H r]
end
def ItT(n:Nat)(vals:Nat->List V):It:=⟨λi _=>i<n,λi H x H'=>∃T,H T=none/\x=.ref T/\H'=upd H T (.tup (vals i)),λi _=>i=n⟩
theorem Inv.turnedNew{X:Cx}{pins:List (Addr×Obj)}{σ:L2.St}{H:Hp}{s:Shared}{h':Heap}{t':Nat}{fp wr:List Addr}{T:Addr}{xs:List V}{vs:List Value}(I:Inv X pins σ H s)(hf:∀b∈wr,FpOk X pins H b)
  (k:∀b o,b∉wr->s.heap.get? b=some o->h'.get? b=some o) (hT:s.heap.objs.size<=T) (tup:IsTup h' T vs.toArray) (r:Vals xs vs) (hz:xs.length<=sizeLine) (there:∀b∈wr,∃o,h'.get? b=some o) :
  Inv X pins σ (upd H T (.tup xs)) {s with heap:=h',toks:=t'}:=by
 have neT:∀b u,H b=some u->b≠T:=λb u e=>A0 (A2 (I.hok.lt e) hT)
 have nw:∀b u,H b=some u->b∉wr:=λb u e hb=>by rw[(hf b hb).1]at e;cases e
 refine I.step (g':=s.gens) (d':=s.drawn) (ch:=wr) (λb hb=>?_) (λb o _ _ hc e _=>k b o hc e) (λb o _ _ hc e _=>⟨o.slots,k b o hc e⟩) (λb o hc e n=>?_) (λb o hc e=>⟨o,k b o hc e⟩)
  (λb ys e=>by rw[jd (neT b _ e)];exact e) (λb o u e=>by rw[jd (neT b _ e)];exact e) (λb ps e=>⟨#[],by rw[jd (neT b _ e),e];simp⟩) (λm hm=>?_) (λb u e=>?_) I.bare
 ·obtain⟨_,f1,_,f3,f4,f5⟩:=hf b hb
  exact⟨f3,f1,f4,f5⟩
 ·rw[jd (A0 (A2 (Ar e) hT))];exact n
 ·obtain⟨o,es,ep,ho,rr⟩:=hm
  exact⟨o,es,ep,k _ o (λz=>(hf _ z).2.1 rfl) ho,rr⟩
 ·by_cases hb:b=T
  ·subst hb
   rw[jb]at e
   cases e
   exact⟨hz,vs,r,tup⟩
  ·rw[jd hb]at e
   refine(I.hok b u e).stay (λd v hd q=>k d v ?_ q) (λd q=>by rw[jd (neT d _ q)];exact q) λd ys q=>by rw[jd (neT d _ q)];exact q
   rcases hd with rfl|hd
   ·exact nw _ _ e
   ·exact nw _ _ hd
theorem jrf{P:Program}{w:World}{K:PySem.W.Frag}{elts:List Expr}{kk:Nat}{pos:Pos}{it:Addr}{fp wr:List Addr}{n:Nat}{Pt:Nat->Array Value->Prop}{St:Nat->Heap->Prop}{Mid:Nat->Addr->Heap->Prop}{vals:Nat->List V}
  (W:∀A:Around,A.handled=none->WalksT P w A it fp wr n Pt St Mid) (hI:it∈fp) (obj:∀i h,St i h->∀b∈fp,∃o,h.get? b=some o/\∀v,o.data≠.cell v)
  (hself:∀(A:Around)(i:Nat)(s:Shared)(Q:Value->Shared->Prop)(E:Value->Shared->Prop),St i s.heap->Q (.ref it) s->wpAny (model P w) A (pyIter (.ref it)) Q E s)
  (hv:∀i vs,Pt i vs->Vals (vals i) vs.toList) (hz:∀i,(vals i).length<=sizeLine):Turn P w K (.Tuple elts kk pos) (ItT n vals) fp it St where
 mem:=hI
 obj:=obj
 keep:=λi h h' st k=>by
  obtain⟨A,hA⟩:∃A:Around,A.handled=none:=⟨callerA,rfl⟩
  exact(W A hA).frame i h h' st k
 item:=by
  intro X hP hw hK hc i pins s σ H E I hf st hg
  subst hP hw hK
  have WA:=W X.A (I.ok.hd hc)
  refine WA.item i s _ _ hg st λT vs h' tk hp hT htup mid kk'=>⟨_,rfl,?_⟩
  have nTw:=WA.apart _ _ _ mid
  refine WA.go _ _ _ i T {s with heap:=h',toks:=tk} _ _ mid λh'' st'' k''=>?_
  have fw:∀b∈wr,FpOk X pins H b:=λb hb=>hf b (WA.sub b hb)
  have tup':IsTup h'' T vs:=by
   obtain⟨o,e,r⟩:=htup
   exact⟨o,k'' T o nTw e,r⟩
  refine⟨.ref T,upd H T (.tup (vals i)),?_,rfl,⟨T,I.hok.fresh hT,rfl,rfl⟩,st'',λb hb=>?_⟩
  ·exact I.turnedNew (fp:=fp) fw (λb o hb e=>k'' b o hb (kk' b o hb e)) hT (by simpa using tup') (hv i vs hp) (hz i) λb hb=>let⟨o,e,_⟩:=obj _ _ st'' b (WA.sub b hb);⟨o,e⟩
  ·have hlt:b<s.heap.objs.size:=by
    obtain⟨o,e,_⟩:=obj _ _ st b hb
    exact Ar e
   rw[jd (A0 (A2 hlt hT))]
   exact(hf b hb).1
 done:=by
  intro X hP hw hK hc i pins s σ H E I hf st hg
  subst hP hw hK
  have hi:i=n:=hg
  subst hi
  have WA:=W X.A (I.ok.hd hc)
  refine WA.done s _ _ st λh' tk kk'=>⟨rfl,?_⟩
  have fw:∀b∈wr,FpOk X pins H b:=λb hb=>hf b (WA.sub b hb)
  have nw:∀b u,H b=some u->b∉wr:=λb u e hb=>by rw[(fw b hb).1]at e;cases e
  refine I.step (g':=s.gens) (d':=s.drawn) (ch:=wr) (λb hb=>?_) (λb o _ _ hc e _=>kk' b o hc e) (λb o _ _ hc e _=>⟨o.slots,kk' b o hc e⟩) (λb o hc e n=>n) (λb o hc e=>⟨o,kk' b o hc e⟩)
   (λ_ _ e=>e) (λ_ _ _ e=>e) (λb ps e=>⟨#[],by rw[e];simp⟩) (λm hm=>?_) (λb u e=>?_) I.bare
  ·obtain⟨_,f1,_,f3,f4,f5⟩:=fw b hb
   exact⟨f3,f1,f4,f5⟩
  ·obtain⟨o,es,ep,ho,rr⟩:=hm
   exact⟨o,es,ep,kk' _ o (λz=>(fw _ z).2.1 rfl) ho,rr⟩
  ·refine(I.hok b u e).stay (λd v hd q=>kk' d v ?_ q) (λ_ q=>q) λ_ _ q=>q
   rcases hd with rfl|hd
   ·exact nw _ _ e
   ·exact nw _ _ hd
 self:=hself
theorem jry{n:Nat}{vals:Nat->List V}{g:TG}{tb:TS}{D:Ends}{σ:L2.St}{H:Hp}(Pv:Nat->L2.St->Hp->Prop)(h0:Pv 0 σ H)
  (hs:∀i σ H T,i<n->Pv i σ H->H T=none->g (.ref T) σ (upd H T (.tup (vals i))) λσ2 H2=>tb {D with nx:=Pv (i+1),ct:=Pv (i+1),bk:=D.nx} σ2 H2) (hd:∀σ H,Pv n σ H->D.nx σ H):jcr (ItT n vals) g tb D σ H:=by
 refine⟨λi m σ H=>m=n-i/\i<=n/\Pv i σ H,⟨n,by simp,Oc _,h0⟩,?_⟩
 rintro i m σ H ⟨rfl,hi,p⟩
 by_cases hlt:i<n
 ·refine .inr ⟨hlt,Pv (i+1),λσ' H' p'=>⟨n-(i+1),by omega,rfl,hlt,p'⟩,λx H' y=>?_⟩
  obtain⟨T,hT,e1,e2⟩:=y
  subst e1 e2
  exact hs i σ H T hlt p hT
 ·have e:i=n:=by omega
  subst e
  exact .inl ⟨rfl,hd σ H p⟩
def jgw(z:Str)(i:Nat):List V:=[.int (i:Int),.str ⟨#[z.cps.toList.getD i 0]⟩]
section
variable{X:Cx}
def jg0(ta:TA):TI:=λσ H R=>ta σ H λvs H1=>∃z,vs=[.str z]/\R (ItT z.length (jgw z)) H1
theorem jnh{P:Program}{w:World}{K:PySem.W.Frag}{elts:List Expr}{kk:Nat}{pos:Pos}(z:Str)(t:Tok)(e it:Addr)(ne:e≠it) :
  Turn P w K (.Tuple elts kk pos) (ItT z.length (jgw z)) [e,it] e (λi h=>(∃old,IsEnum h e it i old)/\h.IsStrIter it (strIterType z) z t i):=by
 have D:∀A:Around,A.handled=none->Draws P w A.in1 it [it] z.cps.size (λi v=>∃c u,z.cps[i]?=some c/\v=.str ⟨#[c]⟩ u) (λi h=>h.IsStrIter it (strIterType z) z t i):=λA hA=>by
  unfold strIterType
  split
  ·exact Draws.strAscii (A:=A.in1) (show A.in1.handled=none from hA) it z t
  ·exact Draws.strWide (A:=A.in1) (show A.in1.handled=none from hA) it z t
 refine jrf (wr:=[e,it]) (λA hA=>Wt (D A hA) e ne (by simpa using ne) (by simp)) (by simp) (λi h st b hb=>?_) (λA i s Q E st q=>?_) (λi vs hp=>?_) (λi=>by show 2<=sizeLine;decide)
 ·obtain⟨⟨old,he⟩,⟨o,ho,hc,hd⟩⟩:=st
  rcases Ap.mp hb with rfl|hb
  ·exact⟨_,he,λv z=>by cases z⟩
  ·rw[Aj.mp hb]
   exact⟨o,ho,λv z=>by rw[hd]at z;cases z⟩
 ·obtain⟨⟨old,he⟩,_⟩:=st
  exact U7 he q
 ·obtain⟨t',x,⟨c,u,hc,rfl⟩,rfl⟩:=hp
  have e1:z.cps.toList.getD i 0=c:=by
   have:z.cps.toList[i]?=some c:=by simpa using hc
   rw[Ae,this];rfl
  refine .cons ⟨t',rfl⟩ (.cons ⟨u,?_⟩ .nil)
  rw[e1]
theorem pi_enumerate{a:Expr}{ta:TA}{p pos tpos:Pos}{elts:List Expr}{kk:Nat}(hg:Gl X "enumerate")(hm:X.mg "enumerate"=none)(ha:PA X [a] ta)(hs:starEach [a] X.env=[(false,eval a X.env)]:=by rfl) :
  PI X (.Tuple elts kk tpos) (.Call (.Name "enumerate" p) [a] [] pos) (jg0 ta):=by
 intro pins s σ H R I h
 refine Call_ (jdd I hg hm jal (Oj (thn (ha pos pins s σ H _ I h) λus s1 ⟨vs,H1,I1,r1,q1⟩=>?_) hs rfl))
 obtain⟨z,e,q⟩:=q1
 subst e
 obtain⟨u,rfl,t,rfl⟩:=jc1 r1
 refine call_enumerate_str λh' he hi hz hk=>?_
 have I2:Inv X pins σ H1 {s1 with heap:=h'}:=I1.kept (t':=s1.toks) hk
 refine U7 he ⟨s1.heap.objs.size+1,[s1.heap.objs.size+1,s1.heap.objs.size],_,_,H1,rfl,I2,jnh z t (s1.heap.objs.size+1) s1.heap.objs.size (Nat.succ_ne_self _),⟨⟨.none,he⟩,hi⟩,λb hb=>?_,q⟩
 have hb':s1.heap.objs.size<=b:=by
  rcases Ap.mp hb with rfl|hb
  ·omega
  ·rw[Aj.mp hb];exact Ak _
 obtain⟨f0,f1,f2,f3,f4,f5⟩:=I1.fpOk (H':=H1) hb' (I1.hok.fresh hb')
 exact⟨f0,f1,f2,f3,f4,f5⟩
def jmi:List V->Hp->VK->Prop:=λxs H Q=>match xs with
 |[.int j]=>-(2^62)<=j/\j<2^62/\∀p,H p=none->Q (.ref p) (upd H p (.rng 0 j))
 |[.int i,.int j]=>-(2^62)<=i/\i<2^62/\-(2^62)<=j/\j<2^62/\∀p,H p=none->Q (.ref p) (upd H p (.rng i j))
 |_=>False
theorem call_rangeU:jcq X (.type "range") jmi:=by
 intro pins s σ H xs us Q I r h
 unfold jmi at h
 split at h
 ·rename_i j
  obtain⟨u,rfl,t,rfl⟩:=jc1 r
  obtain⟨h1,h2,q⟩:=h
  refine call_range_1 ⟨.ref s.heap.objs.size,upd H s.heap.objs.size (.rng 0 j),I.laid (λb o e=>Ai _ e) (Ak _) ⟨_,_,_,Aw _ rfl⟩,rfl,q _ (I.hok.fresh (Ak _))⟩
 ·rename_i i j
  obtain⟨u,w',rfl,⟨t,rfl⟩,⟨t',rfl⟩⟩:=jho r
  obtain⟨h1,h2,h3,h4,q⟩:=h
  refine call_range_2 ⟨.ref s.heap.objs.size,upd H s.heap.objs.size (.rng i j),I.laid (λb o e=>Ai _ e) (Ak _) ⟨_,_,_,Aw _ rfl⟩,rfl,q _ (I.hok.fresh (Ak _))⟩
 ·exact h.elim
end
section
variable{X:Cx}
def jon:List V->Hp->VK->Prop:=λxs H Q=>match xs with
 |[.ref p]=>∃lo hi:Int,H p=some (.rng lo hi)/\-(2^62)<=lo/\lo<2^62/\-(2^62)<=hi/\hi<2^62/\(hi-lo).toNat<=sizeLine/\∀l,H l=none->Q (.ref l) (upd H l (.lst ((List.range (hi-lo).toNat).map λi=>V.int (lo+(i:Nat)))))
 |_=>False
theorem jrh{xs:List V}{us:List Value}(hl:xs.length=us.length)(h:∀(i:Nat) (x:V) (u:Value),xs[i]?=some x->us[i]?=some u->RelV x u):Vals xs us:=by
 induction xs generalizing us with
 |nil=>cases us with
  |nil=>exact .nil
  |cons _ _=>simp at hl
 |cons x xs ih=>cases us with
  |nil=>simp at hl
  |cons u us=>exact .cons (h 0 x u rfl rfl) (ih (by simpa using hl) λi a b e1 e2=>h (i+1) a b (by simpa using e1) (by simpa using e2))
theorem call_listR(hc:X.calm=true):jcq X (.type "list") jon:=by
 intro pins s σ H xs us Q I r h
 unfold jon at h
 split at h
 ·rename_i p
  obtain⟨lo,hi,e,h1,h2,h3,h4,hz,q⟩:=h
  obtain⟨u,rfl,ru⟩:=jc1 r
  cases ru
  obtain⟨t,u,v,e'⟩:=(show ObjOk X.prog X.w H s.heap p (.rng lo hi)from I.hok p _ e)
  have hsz:sizeLine=16777216:=O5
  refine call_list_range (n:=(hi-lo).toNat) (I.ok.hd hc) (show IsRange s.heap p lo hi 1 t u v from e') (small_one h1 h2 h3 h4) (by rw[rangeSize_one];split <;> omega) (by omega) λh' tk acc c hk hn hit=>?_
  refine⟨.ref s.heap.objs.size,_,I.laid (o:=.lst ((List.range (hi-lo).toNat).map λi=>V.int (lo+(i:Nat)))) hk (Ak _) ⟨?_,acc.toList,c,?_,by simpa using hn⟩,rfl,q _ (I.hok.fresh (Ak _))⟩
  ·rw[Ac,Az];exact hz
  ·obtain⟨i1,i2⟩:=hit
   refine jrh (by simp[i1]) λi x u e1 e2=>?_
   obtain⟨t',ht⟩:=i2 i u (by simpa using e2)
   subst ht
   rw[Ag]at e1
   cases q:(List.range (hi-lo).toNat)[i]? with
   |none=>rw[q]at e1;cases e1
   |some j =>
    rw[q]at e1
    have ej:j=i:=by
     have:=Ad.mp q
     obtain⟨_,e⟩:=this
     simpa using e.symm
    subst ej
    have e1':V.int (lo+(j:Nat))=x:=Av e1
    subst e1'
    exact⟨t',by rw[Int.mul_one]⟩
 ·exact h.elim
def rAddW:R2:=λx y H Q=>match x,y with
 |.int i,.int j=>Q (.int (i+j)) H
 |.str i,.str j=>i.length+j.length<=sizeLine/\Q (.str (i++j)) H
 |.ref l,.ref b=>(∃xs zs,jcn (H l)=some xs/\jcn (H b)=some zs/\xs.length+zs.length<=sizeLine/\∀p,H p=none->Q (.ref p) (upd H p (.lst (xs++zs)))) \/
   (∃xs zs,jfx (H l)=some xs/\jfx (H b)=some zs/\xs≠[]/\zs≠[]/\xs.length+zs.length<=sizeLine/\∀p,H p=none->Q (.ref p) (upd H p (.tup (xs++zs))))
 |_,_=>False
theorem ki:OpR X (binaryOp .Add) rAddW:=by
 intro pins s σ H x y v u Q I rx ry h
 cases x with
 |int i=>cases y with
  |int j=>exact op_add pins s σ H _ _ v u Q I rx ry ⟨i,j,rfl,rfl,h⟩
  |_=>exact False.elim h
 |str i=>cases y with
  |str j=>exact op_add_str pins s σ H _ _ v u Q I rx ry ⟨i,j,rfl,rfl,h⟩
  |_=>exact False.elim h
 |ref l=>cases y with
  |ref b =>
   rcases h with⟨xs,zs,e1,e2,h⟩|⟨xs,zs,e1,e2,n1,n2,hz,h⟩
   ·exact op_cat pins s σ H _ _ v u Q I rx ry ⟨l,b,xs,zs,rfl,rfl,jcs e1,jcs e2,h⟩
   ·exact op_catT pins s σ H _ _ v u Q I rx ry ⟨l,b,xs,zs,rfl,rfl,SqT.of (jge e1),SqT.of (jge e2),n1,hz,λz=>absurd z n2,λ_=>h⟩
  |_=>exact False.elim h
 |_=>exact False.elim h
theorem jc4(H:Hp)(Q:VK)(i j:Int):rAddW (.int i) (.int j) H Q=(Q (.int (i+j)) H):=rfl
theorem jit(H:Hp)(Q:VK)(i j:Str):rAddW (.str i) (.str j) H Q=(i.length+j.length<=sizeLine/\Q (.str (i++j)) H):=rfl
theorem rAddW.tup{H:Hp}{Q:VK}{l b:Addr}{xs zs:List V}(e1:H l=some (.tup xs))(e2:H b=some (.tup zs))(n1:xs≠[])(n2:zs≠[])(hz:xs.length+zs.length<=sizeLine)
  (h:∀p,H p=none->Q (.ref p) (upd H p (.tup (xs++zs)))):rAddW (.ref l) (.ref b) H Q:=.inr ⟨xs,zs,by rw[e1];rfl,by rw[e2];rfl,n1,n2,hz,h⟩
theorem rAddW.lst{H:Hp}{Q:VK}{l b:Addr}{xs zs:List V}(e1:H l=some (.lst xs))(e2:H b=some (.lst zs))(hz:xs.length+zs.length<=sizeLine)
  (h:∀p,H p=none->Q (.ref p) (upd H p (.lst (xs++zs)))):rAddW (.ref l) (.ref b) H Q:=.inl ⟨xs,zs,by rw[e1];rfl,by rw[e2];rfl,hz,h⟩
end
section
variable{X:Cx}
def rSlU(K:PySem.W.Frag):V->Option Int->Option Int->Hp->VK->Prop:=λx lo hi H Q=>match x with
 |.str z=>z.length<=sizeLine/\Q (.str (cutS z lo hi)) H
 |.ref a=>(∃xs,SqL K H a xs/\∀p,H p=none->Q (.ref p) (upd H p (.lst (cutV xs lo hi)))) \/
   ∃xs,SqT K H a xs/\¬(HT.sIx xs.length 0 lo=0/\HT.sIx xs.length xs.length hi=xs.length)/\∀p,H p=none->Q (.ref p) (upd H p (.tup (cutV xs lo hi)))
 |_=>False
theorem sl_U:SlR X (rSlU X.K):=by
 intro pins s σ H x v vl vu lo hi sl Q I rx hs pl pu h
 unfold rSlU at h
 split at h
 ·rename_i z
  exact sl_str pins s σ H (.str z) v vl vu lo hi sl Q I rx hs pl pu ⟨z,rfl,h⟩
 ·rename_i a
  rcases h with⟨xs,hx,q⟩|⟨xs,hx,nw,q⟩
  ·exact sl_list pins s σ H (.ref a) v vl vu lo hi sl Q I rx hs pl pu ⟨a,xs,rfl,hx,q⟩
  ·exact sl_tup pins s σ H (.ref a) v vl vu lo hi sl Q I rx hs pl pu ⟨a,xs,rfl,hx,nw,q⟩
 ·exact h.elim
theorem jkt(K:PySem.W.Frag)(H:Hp)(Q:VK)(z:Str)(lo hi:Option Int):rSlU K (.str z) lo hi H Q=(z.length<=sizeLine/\Q (.str (cutS z lo hi)) H):=rfl
theorem rSlU.sq{K:PySem.W.Frag}{H:Hp}{Q:VK}{a:Addr}{xs:List V}{lo hi:Option Int}(e:SqL K H a xs)(h:∀p,H p=none->Q (.ref p) (upd H p (.lst (cutV xs lo hi)))):rSlU K (.ref a) lo hi H Q:=.inl ⟨xs,e,h⟩
end
section
variable{X:Cx}
def hasS(z y:Str):Bool:=!(Builtin.Str.occurrences z y 0 z.length 1).isEmpty
def rInU(K:PySem.W.Frag)(neg:Bool):R2:=λx y H Q=>match x,y with
 |.str i,.str j=>Q (.bl (if neg then !hasS j i else hasS j i)) H
 |x,.ref p=>∃xs,(SqL K H p xs\/SqT K H p xs)/\jdj x=true/\xs.all jdj=true/\Q (.bl (if neg then !inV x xs else inV x xs)) H
 |_,_=>False
theorem jkl(K:PySem.W.Frag)(neg:Bool)(H:Hp)(Q:VK)(i j:Str):rInU K neg (.str i) (.str j) H Q=Q (.bl (if neg then !hasS j i else hasS j i)) H:=rfl
theorem op_notinU{K:PySem.W.Frag}(hK:X.K=K):OpR X (compareOp .NotIn) (rInU K true):=by
 subst hK
 intro pins s σ H x y v u Q I rx ry h
 unfold rInU at h
 split at h
 ·rename_i i j
  exact op_notIn_str pins s σ H _ _ v u Q I rx ry ⟨i,j,rfl,rfl,h⟩
 ·rename_i p
  obtain⟨xs,h⟩:=h
  exact op_notIn_seq pins s σ H _ _ v u Q I rx ry ⟨p,xs,rfl,h⟩
 ·exact h.elim
theorem rInU.lst{K:PySem.W.Frag}{neg:Bool}{H:Hp}{Q:VK}{x:V}{p:Addr}{xs:List V}(e:H p=some (.lst xs))(fx:jdj x=true)(fs:xs.all jdj=true)(q:Q (.bl (if neg then !inV x xs else inV x xs)) H):rInU K neg x (.ref p) H Q:=by
 cases x <;> exact⟨xs,.inl (SqL.of e),fx,fs,q⟩
theorem jnd(bs:List Bool)(d:Bool):(List.range bs.length).map (λi=>(bs[i]?).getD d)=bs:=by
 apply Wu
 intro i
 by_cases h:i<bs.length
 ·simp[h]
 ·rw[List.getElem?_eq_none_iff.mpr (by simp;omega),List.getElem?_eq_none_iff.mpr (by omega)]
theorem jhp:∀{bs:List Bool}{us:List Value},Vals (bs.map V.bl) us->∀(i:Nat)(v:Value),us[i]?=some v->∃b,bs[i]?=some b/\v=.bool b
 |[],us,r,i,v,e=>by rw[Up]at r;cases r;simp at e
 |b::bs,us,r,i,v,e=>by
  rw[Ay]at r
  cases r with
  |cons r1 r2 =>
   cases i with
   |zero=>cases r1;simp at e;exact⟨b,rfl,e.symm⟩
   |succ i=>simp at e;obtain⟨b',e1,e2⟩:=jhp r2 i v e;exact⟨b',by simpa using e1,e2⟩
def jm9:List V->Hp->VK->Prop:=λxs H Q=>match xs with
 |[.ref p]=>∃bs:List Bool,H p=some (.lst (bs.map V.bl))/\Q (.bl (bs.all id)) H
 |_=>False
theorem jqy{s:Shared}{h':Heap}{o:Obj}(hk:∀b x,b∉[s.heap.objs.size]->(s.heap.push o).get? b=some x->h'.get? b=some x):∀b x,s.heap.get? b=some x->h'.get? b=some x :=
 λb x e=>hk b x (λhm=>by rw[Aj.mp hm]at e;exact Wk _ (Ar e)) (Ai _ e)
theorem call_allU(hc:X.calm=true):jcq X (.builtin "all") jm9:=by
 intro pins s σ H xs us Q I r h
 unfold jm9 at h
 split at h
 ·rename_i p
  obtain⟨bs,e,q⟩:=h
  obtain⟨u,rfl,ru⟩:=jc1 r
  cases ru
  obtain⟨its,rr,pl,_⟩:=I.list (SqL.of e)
  have isl:=pl.isList
  have plt:p<s.heap.objs.size:=by obtain⟨_,e,_⟩:=isl;exact Ar e
  refine call_all_walk (U6 isl ?_)
  refine⟨s.heap.objs.size,[s.heap.objs.size,p],[s.heap.objs.size],its.toArray.size,_,_,λi=>(bs[i]?).getD true,rfl,Walks.list (A:=X.A.in1) (I.ok.hd hc) _ p (A0 plt) its.toArray,
   ⟨⟨_,Aw _ rfl,rfl,rfl⟩,isl.push _⟩,λi v s' Q' E' hp hq=>?_,λh' tk hk=>?_⟩
  ·obtain⟨b,e,rfl⟩:=jhp rr i v (by simpa using hp)
   simp only[Option.getD_some,e]at hq
   exact Us hq
  ·have e:((List.range its.toArray.size).all λi=>(bs[i]?).getD true)=bs.all id:=by
    have hlen:its.length=bs.length:=by have:=rr.length;simpa using this.symm
    rw[Aq,hlen]
    conv=>rhs;rw[<-jnd bs true,List.all_map]
    rfl
   rw[e]
   exact⟨.bl _,H,I.kept (jqy hk),rfl,q⟩
 ·exact h.elim
theorem jiu(p:Addr)(H:Hp)(Q:VK):jm9 [.ref p] H Q=(∃bs:List Bool,H p=some (.lst (bs.map V.bl))/\Q (.bl (bs.all id)) H):=rfl
end
theorem jhm{H:Hp}{D:Addr}{a b:HO}:upd (upd H D a) D b=upd H D b:=jex
section
variable{D:Addr}{te:TE}{E:Ends}{r:L2.St}{H:Hp}
theorem jgs{lo:Int}{n:Nat}(f:Nat->V)(hz:n<=sizeLine)(he:∀i,i<n->∀l Q,Q (f i) (upd H D (.lst l))->te (some (.int (lo+(i:Nat)))::r) (upd H D (.lst l)) Q)
  (hn:∀v,E.nx (v::r) (upd H D (.lst ((List.range n).map f)))):jcr (Itr lo n) (jcz 0) (jc0 D te) E (none::r) (upd H D (.lst [])):=by
 refine jcm (λi σ H'=>∃v:Option V,σ=v::r/\H'=upd H D (.lst ((List.range i).map f))) ⟨none,rfl,rfl⟩ ?_ ?_
 ·rintro i σ H' hi ⟨v,rfl,rfl⟩
  refine he i hi _ _ ⟨_,by rw[jb];rfl,by simp;omega,some (.int (lo+(i:Nat))),rfl,?_⟩
  rw[jhm,Uq]
  simp
 ·rintro σ H' ⟨v,rfl,rfl⟩
  exact hn v
theorem jd0{K:PySem.W.Frag}{a:Addr}{xs:List V}(f:V->V)(ha:H a=some (.lst xs))(hD:H D=none)(hz:xs.length<=sizeLine)(he:∀x∈xs,∀l Q,Q (f x) (upd H D (.lst l))->te (some x::r) (upd H D (.lst l)) Q)
  (hn:∀v,E.nx (v::r) (upd H D (.lst (xs.map f)))):jcr (Itl K a) (jcz 0) (jc0 D te) E (none::r) (upd H D (.lst [])):=by
 have ne:a≠D:=je ha hD
 refine jc9 (xs:=xs) (λi σ H'=>∃v:Option V,σ=v::r/\H'=upd H D (.lst ((xs.take i).map f))) ⟨none,rfl,rfl⟩ ?_ ?_ ?_
 ·rintro i σ H' _ ⟨v,_,rfl⟩
  rw[jd ne];exact ha
 ·rintro i x σ H' hx ⟨v,rfl,rfl⟩
  have hl:i<xs.length:=(Ad.mp hx).1
  refine he x (Al hx) _ _ ⟨_,by rw[jb];rfl,by simp;omega,some x,rfl,?_⟩
  rw[jhm,Yc,hx]
  simp
 ·rintro σ H' ⟨v,rfl,rfl⟩
  rw[O7 (Ak _)]
  exact hn v
theorem jc5{K:PySem.W.Frag}{a:Addr}{xs:List V}(f:V->V)(ha:H a=some (.tup xs))(hD:H D=none)(hz:xs.length<=sizeLine)(he:∀x∈xs,∀l Q,Q (f x) (upd H D (.lst l))->te (some x::r) (upd H D (.lst l)) Q)
  (hn:∀v,E.nx (v::r) (upd H D (.lst (xs.map f)))):jcr (Itt K a) (jcz 0) (jc0 D te) E (none::r) (upd H D (.lst [])):=by
 have ne:a≠D:=je ha hD
 refine jea (xs:=xs) (λi σ H'=>∃v:Option V,σ=v::r/\H'=upd H D (.lst ((xs.take i).map f))) ⟨none,rfl,rfl⟩ ?_ ?_ ?_
 ·rintro i σ H' _ ⟨v,_,rfl⟩
  rw[jd ne];exact ha
 ·rintro i x σ H' hx ⟨v,rfl,rfl⟩
  have hl:i<xs.length:=(Ad.mp hx).1
  refine he x (Al hx) _ _ ⟨_,by rw[jb];rfl,by simp;omega,some x,rfl,?_⟩
  rw[jhm,Yc,hx]
  simp
 ·rintro σ H' ⟨v,rfl,rfl⟩
  rw[O7 (Ak _)]
  exact hn v
end
end L2
set_option autoImplicit true
set_option relaxedAutoImplicit true
namespace L2
open PySem PySem.Spec PyProof.Rows
structure QE(X:Cx)(e:Expr)(t:TE):Prop where
 h:PE X e t
structure QT(X:Cx)(e:Expr)(t:TT):Prop where
 h:PT X e t
structure QW(X:Cx)(e:Expr)(t:TT):Prop where
 h:PW X e t
structure QA(X:Cx)(es:List Expr)(t:TA):Prop where
 h:PA X es t
structure QS(X:Cx)(st:Stmt)(t:TS):Prop where
 h:PS X st t
structure QSs(X:Cx)(st:List Stmt)(t:TS):Prop where
 h:PSs X st t
structure QG(X:Cx)(e:Expr)(t:TG):Prop where
 h:PG X e t
structure QGs(X:Cx)(es:List Expr)(t:TGs):Prop where
 h:PGs X es t
structure QI(X:Cx)(tg iter:Expr)(wi:TI):Prop where
 h:PI X tg iter wi
structure QO(X:Cx)(e:Option Expr)(t:TO):Prop where
 h:PO X e t
structure QC(X:Cx)(op:CmpOp)(a b:Expr)(t:TE):Prop where
 h:PC X op a b t
theorem ya:QSs X [] jjp:=⟨pss_nil⟩
theorem jj(h1:QS X stm t):QSs X [stm] t:=⟨pss_one h1.h⟩
theorem jg(h1:QS X stm t)(h2:QSs X rst u):QSs X (stm::rst) (tSeq t u):=⟨pss_cons h1.h h2.h⟩
theorem qpv(i:Nat){x:Str}{pos:Pos}(hN:X.N[i]?=some x:=by rfl)(hv:Vis X.env.scope x:=by first|exact Or.inl rfl|exact Or.inr (Or.inl rfl)|exact Or.inr (Or.inr rfl))
  (hd:(x == ("__debug__":Str))=false:=by decide) (hcd:(x == ("__classdict__":Str))=false:=by decide):QE X (.Name x pos) (tVar i):=⟨pv i hN hv hd hcd⟩
theorem jh:QE X (.Constant (.int i) j pos) (tC (.int i)):=⟨pe_int⟩
theorem jaa:QE X (.Constant (.bool b) j pos) (tC (.bl b)):=⟨pe_bl⟩
theorem jbf:QE X (.Constant (.str x) j pos) (tC (.str x)):=⟨pe_str⟩
theorem ja6{x:Str}{v:V}{u:Value}{pos:Pos}(hg:Gl X x)(hm:X.mg x=none)(hv:bootBuiltins x=some u)(r:RelV v u)(hn:x≠"__name__":=by decide)(hd:(x == ("__debug__":Str))=false:=by decide) :
  QE X (.Name x pos) (tC v):=⟨pe_bltn hg hm hv r hn hd⟩
theorem jv(ho:OpR X (binaryOp op) r)(ha:QE X a ta)(hb:QE X b tb):QE X (.BinOp a op b pos) (tOp r ta tb):=⟨pe_op ho ha.h hb.h⟩
theorem jb4(ha:QE X a ta):QE X (.UnaryOp .Not a pos) (jjq ta):=⟨pe_not ha.h⟩
theorem jac(ho:OpR X (compareOp op) r)(ha:QE X a ta)(hb:QE X b tb)(hm:behindInMarks op b=false):QE X (.Compare a [op] [b] pos) (tOp r ta tb):=⟨pe_cmpR ho ha.h hb.h hm⟩
theorem ku(ho:OpR X (compareOp op) r)(ha:QE X a ta)(hb:QE X b tb)(hm:behindInMarks op b=false):QT X (.Compare a [op] [b] pos) (jjs (tOp r ta tb)):=⟨pt_cmpR ho ha.h hb.h hm⟩
theorem jbg(h:QC X op a b t)(h1:behindInMarks op b=false:=by first|exact nobehind _ (by decide) (by decide)|rfl):QT X (.Compare a [op] [b] pos) (tB t):=⟨pt_cmp h.h h1⟩
theorem jaw(hu:X.A.units+1<cLine)(hi:QE X i ty)(ho:QE X o td):QC X .NotIn i o (jft ty td):=⟨pc_dnotin hu hi.h ho.h⟩
theorem ja3(ha:QT X a tA):QT X (.UnaryOp .Not a pos) (tNot tA):=⟨pt_not ha.h⟩
theorem QW.pt(h:QW X e t):QT X e t:=⟨PW.pt h.h⟩
theorem qpw_and(ha:QT X a tA)(hb:QW X (.BoolOp .And (b::rst) pos) tB'):QW X (.BoolOp .And (a::b::rst) pos) (tAnd tA tB'):=⟨pw_and ha.h hb.h⟩
theorem jcc(ha:QT X a tA)(hb:QW X (.BoolOp .Or (b::rst) pos) tB'):QW X (.BoolOp .Or (a::b::rst) pos) (tOr tA tB'):=⟨pw_or ha.h hb.h⟩
theorem qpw_and1(ha:QT X a tA):QW X (.BoolOp .And [a] pos) tA:=⟨pw_and1 ha.h⟩
theorem jb6(ha:QT X a tA):QW X (.BoolOp .Or [a] pos) tA:=⟨pw_or1 ha.h⟩
theorem jak{e:Expr}(h:QE X e t)(he:∀whole,isTrue e X.env whole=(do let v <-whole;standAt e.pos;holding [v] (truthy v)):=by intro _;rfl):QT X e (tB t):=⟨pt_val h.h he⟩
theorem jb5(h:QE X a t):QE X (.BoolOp op [a] pos) t:=⟨pe_one h.h⟩
theorem jbe(ha:QE X a ta)(hb:QE X (.BoolOp .And (b::rst) pos) tb):QE X (.BoolOp .And (a::b::rst) pos) (jjk ta tb):=⟨pe_and ha.h hb.h⟩
theorem yg(h:QA X es t):QE X (.List es pos) (tLst t):=⟨pe_lst h.h⟩
theorem y9(h:QA X es t):QE X (.Tuple es x1 pos) (tTup t):=⟨pe_tup h.h⟩
theorem qpe_slice(hr:SlR X r)(he:QE X e te)(hl:QO X lw tl)(hu:QO X hi th):QE X (.Subscript e (.Slice lw hi none p2) pos) (tSl r te tl th):=⟨pe_slice hr he.h hl.h hu.h⟩
theorem jbv(h:QE X e te):QO X (some e) (jjr te):=⟨po_some h.h⟩
theorem jt(hr:IxR X r)(ha:QE X a ta)(hb:QE X b tb)(hs:jll b):QE X (.Subscript a b pos) (tOp r ta tb):=⟨pe_ix hr ha.h hb.h hs⟩
theorem kc(hc:X.calm=true)(c:CompOk X scope Nc js)(hi:QI X tg iter wi)(hg:∀C s3 H3 fp,QG (X.comp scope C Nc s3 H3 fp) tg g)(he:∀C s3 H3 fp,QE (X.comp scope C Nc s3 H3 fp) elt te)
  (hs:∀x,foldedSetIterable iter X.env x=pure x:=by intro _;rfl):QE X (.ListComp elt [⟨tg,iter,[],0⟩] scope pos) (jfs wi g js te):=⟨pe_comp hc c hi.h (λC s H f=>(hg C s H f).h) (λC s H f=>(he C s H f).h) hs⟩
theorem zf{i:Nat}{y:Str}{py spos:Pos}(hN:X.N.Nodup)(hiN:X.N[i]?=some y)(hy:Loc X.env.scope y)(hc:X.calm=true)(c:CompOk X scope Nc js)(hi:QI X tg iter wi)(hg:∀C s3 H3 fp,QG (X.comp scope C Nc s3 H3 fp) tg g)
  (he:∀C s3 H3 fp,QE (X.comp scope C Nc s3 H3 fp) elt te) (hsw:swapsWith (.ListComp elt [⟨tg,iter,[],0⟩] scope pos) (some (.Name y py)) spos.line X.env=pure true:=by rfl)
  (hs:∀x,foldedSetIterable iter X.env x=pure x:=by intro _;rfl) (hf:X.fn y=true\/X.env.scope.names.lookup y=some .local:=by first|exact .inl rfl|exact .inr rfl|assumption) :
  QS X (.Assign [.Name y py] (.ListComp elt [⟨tg,iter,[],0⟩] scope pos) spos) (tAsg (jfs wi g js te) (jcz i)):=⟨ps_setc hN hiN hy hc c hi.h (λC s H f=>(hg C s H f).h) (λC s H f=>(he C s H f).h) hsw hs hf⟩
theorem jr(F:FnOk X.prog X.w X.K X.mg X.base CX k f fd ps sp)(hr:Room k X.A)(hg:Gl X x)(hm:X.mg x=some (.ref f))(hk:PySem.W.keepIn X.K (.ref f)=true)(hb:Binds X.K fd ps ds)(hd:Vals dvs ds)(hx:jgo CX X E)
  (ha:QA X (e::es) t) (hdb:(x == ("__debug__":Str))=false:=by decide) (he:starEach (e::es) X.env=(false,eval e X.env)::starEach es X.env:=by rfl) (hpl:(backTo pos (starEach es X.env)).any (·.1)=false:=by rfl) :
  QE X (.Call (.Name x p) (e::es) [] pos) (jjm sp dvs E t):=⟨pe_call F hr hg hm hk hb hd hx ha.h hdb he hpl⟩
theorem ju(hc:jcq X (.type T) r)(hg:Gl X x)(hm:X.mg x=none)(hv:bootBuiltins x=some (.type T))(ha:QA X (e::es) t)(hn:x≠"__name__":=by decide)(hdb:(x == ("__debug__":Str))=false:=by decide)
  (he:starEach (e::es) X.env=(false,eval e X.env)::starEach es X.env:=by rfl) (hpl:(backTo pos (starEach es X.env)).any (·.1)=false:=by rfl):QE X (.Call (.Name x p) (e::es) [] pos) (tCB r t):=⟨pe_callTy hc hg hm hv ha.h hn hdb he hpl⟩
theorem jw(hc:jcq X (.builtin idn) r)(hg:Gl X x)(hm:X.mg x=none)(hv:bootBuiltins x=some (.builtin idn))(ha:QA X (e::es) t)(hn:x≠"__name__":=by decide)(hdb:(x == ("__debug__":Str))=false:=by decide)
  (he:starEach (e::es) X.env=(false,eval e X.env)::starEach es X.env:=by rfl) (hpl:(backTo pos (starEach es X.env)).any (·.1)=false:=by rfl):QE X (.Call (.Name x p) (e::es) [] pos) (tCB r t):=⟨pe_callB hc hg hm hv ha.h hn hdb he hpl⟩
theorem yf(slot:Slot "list" name idn)(hty:typeOf (.builtin idn)=pure (.type "method_descriptor"))(hm:MtM X idn r)(ho:QE X o to)(ha:QA X (e::es) t)(mono:∀σ H Q Q',(∀v H',Q v H'->Q' v H')->to σ H Q->to σ H Q')
  (hbase:attributeBase o name X.env (eval o X.env)=eval o X.env:=by rfl)
  (hfew:((backTo cpos (starEach (e::es) X.env)).all (λx=>!x.1) && (backToKw cpos (keywordEach [] X.env)).all (λx=>x.1.isSome)
   && decide ((e::es).length+([]:List Keyword).length+(if([]:List Keyword).isEmpty then 0 else 1)<30))=true:=by rfl)
  (hline:(apos.endLine == cpos.line)=true:=by rfl) (hs:starEach (e::es) X.env=(false,eval e X.env)::starEach es X.env:=by rfl) (hplain:(backTo cpos (starEach es X.env)).any (·.1)=false:=by rfl) :
  QE X (.Call (.Attribute o name apos) (e::es) [] cpos) (tBML r to t):=⟨pe_bmL slot hty hm ho.h ha.h mono hbase hfew hline hs hplain⟩
theorem jb3(slot:Slot "str" name idn)(hty:typeOf (.builtin idn)=pure (.type "method_descriptor"))(hm:MtM X idn r)(ho:QE X o to)(ha:QA X (e::es) t)(mono:∀σ H Q Q',(∀v H',Q v H'->Q' v H')->to σ H Q->to σ H Q')
  (hbase:attributeBase o name X.env (eval o X.env)=eval o X.env:=by rfl)
  (hfew:((backTo cpos (starEach (e::es) X.env)).all (λx=>!x.1) && (backToKw cpos (keywordEach [] X.env)).all (λx=>x.1.isSome)
   && decide ((e::es).length+([]:List Keyword).length+(if([]:List Keyword).isEmpty then 0 else 1)<30))=true:=by rfl)
  (hline:(apos.endLine == cpos.line)=true:=by rfl) (hs:starEach (e::es) X.env=(false,eval e X.env)::starEach es X.env:=by rfl) (hplain:(backTo cpos (starEach es X.env)).any (·.1)=false:=by rfl) :
  QE X (.Call (.Attribute o name apos) (e::es) [] cpos) (tBMS r to t):=⟨pe_bmS slot hty hm ho.h ha.h mono hbase hfew hline hs hplain⟩
theorem qpe_bmL0(slot:Slot "list" name idn)(hty:typeOf (.builtin idn)=pure (.type "method_descriptor"))(hm:MtM X idn r)(ho:QE X o to)(mono:∀σ H Q Q',(∀v H',Q v H'->Q' v H')->to σ H Q->to σ H Q')
  (hbase:attributeBase o name X.env (eval o X.env)=eval o X.env:=by rfl) (hline:(apos.endLine == cpos.line)=true:=by rfl):QE X (.Call (.Attribute o name apos) [] [] cpos) (jjl r to):=⟨pe_bmL0 slot hty hm ho.h mono hbase hline⟩
theorem jc:QA X [] tNil:=⟨jbr⟩
theorem ja(ha:QE X e te)(hr:QA X es t)(hs:starEach (e::es) X.env=(false,eval e X.env)::starEach es X.env:=by rfl):QA X (e::es) (jeo te t):=⟨jbd ha.h hr.h hs⟩
theorem jo{i:Nat}{x:Str}(hN:X.N.Nodup)(hi:X.N[i]?=some x)(hx:Loc X.env.scope x)(hf:X.fn x=true\/X.env.scope.names.lookup x=some .local:=by first|exact .inl rfl|exact .inr rfl|assumption):QG X (.Name x pos) (jcz i):=⟨pg_name hN hi hx hf⟩
theorem jaj{es:List Expr}{t:TGs}{n:Nat}{K:PySem.W.Frag}(hc:X.calm=true)(h:QGs X es t)(hK:X.K=K)(hn:(assignEach es X.env).length=n:=by rfl)(hst:(assignEach es X.env).findIdx? (·.1)=none:=by rfl) :
  QG X (.Tuple es k pos) (gTup K n t):=by subst hK;exact⟨pg_tup hc h.h hn hst⟩
theorem jad:QGs X [] gNil:=⟨pgs_nil⟩
theorem yu{e:Expr}{es:List Expr}(h1:QG X e t)(h2:QGs X es u)(hs:(assignEach (e::es) X.env).map (·.2)=assign e X.env::(assignEach es X.env).map (·.2):=by rfl):QGs X (e::es) (jp0 t u):=⟨pgs_cons h1.h h2.h hs⟩
theorem jat{o i:Expr}(ho:QE X o to)(hi:QE X i ti)(hs:PSet X t)
  (ha:∀v,assign (.Subscript o i pos) X.env v=(do
   let ov <-holding [v] (eval o X.env)
   let iv <-holding [v,ov] (eval i X.env)
   standAt pos
   holding [v,ov,iv] (setItem ov iv v)
   release [v,ov,iv] []):=by intro _;rfl):QG X (.Subscript o i pos) (gSub to ti t):=⟨pg_sub ho.h hi.h hs ha⟩
theorem jq{i:Nat}{x:Str}{e:Expr}{te:TE}{pos':Pos}(hN:X.N.Nodup)(hi:X.N[i]?=some x)(hx:Loc X.env.scope x)(he:QE X e te)(hs:swapsWith e (some (.Name x pos')) pos.line X.env=pure false:=by rfl)
  (hf:X.fn x=true\/X.env.scope.names.lookup x=some .local:=by first|exact .inl rfl|exact .inr rfl|assumption):QS X (.Assign [.Name x pos'] e pos) (tAsg te (jcz i)):=⟨ps_set hN hi hx he.h hs hf⟩
theorem jae{tg e:Expr}(he:QE X e te)(hg:QG X tg g)(hs:swapsWithSole [tg] e pos.line X.env=pure false:=by rfl)(hw:swappedStores [tg] e X.env=pure none:=by rfl)
  (h1:(assignEach [tg] X.env).map (·.2)=[assign tg X.env]:=by rfl):QS X (.Assign [tg] e pos) (tAsg te g):=⟨ps_asg he.h hg.h hs hw h1⟩
theorem jbw(hu:X.A.units+1<cLine)(ho:QE X o td)(hi:QE X i ty)(hv:QE X value tv)(hs:swapsWith value (some (.Subscript o i pos')) pos.line X.env=pure false) :
  QS X (.Assign [.Subscript o i pos'] value pos) (jjj td ty tv):=⟨ps_dput hu ho.h hi.h hv.h hs⟩
theorem j7(he:QE X e te):QS X (.Return (some e) pos) (tRet te):=⟨ps_ret he.h⟩
theorem yh(he:QE X e te)(hs:swapsWith e none pos.line X.env=pure false:=by rfl):QS X (.Expr e pos) (jjo te):=⟨ps_expr he.h hs⟩
theorem yt(hc:QT X c tc)(ha:QSs X a t)(hb:QSs X b u):QS X (.If c a b pos) (tIfS tc t u):=⟨ps_if hc.h ha.h hb.h⟩
theorem ym{iter:Expr}(hp:PassesOwn (model X.prog X.w) X.A X.env X.xe)(hc:X.calm=true)(hi:QI X tg iter wi)(hg:QG X tg g)(hb:QSs X body tb)(hs:∀x,foldedSetIterable iter X.env x=pure x:=by intro _;rfl) :
  QS X (.For tg iter body [] pos) (tFor wi g tb):=⟨ps_for hp hc hi.h hg.h hb.h hs⟩
theorem jap(hp:PassesOwn (model X.prog X.w) X.A X.env X.xe)(hc:QT X c tc)(hb:QSs X body tb):QS X (.While c body [] pos) (joy tc tb):=⟨ps_while hp hc.h hb.h⟩
theorem kg{a:Expr}{ta:TA}{p pos:Pos}(hg:Gl X "range")(hm:X.mg "range"=none)(ha:QA X [a] ta)(hs:starEach [a] X.env=[(false,eval a X.env)]:=by rfl):QI X tg (.Call (.Name "range" p) [a] [] pos) (jjg ta):=⟨pi_range1 hg hm ha.h hs⟩
theorem qpi_enumerate{a:Expr}{ta:TA}{p pos tpos:Pos}(hg:Gl X "enumerate")(hm:X.mg "enumerate"=none)(ha:QA X [a] ta)(hs:starEach [a] X.env=[(false,eval a X.env)]:=by rfl) :
  QI X (.Tuple elts kk tpos) (.Call (.Name "enumerate" p) [a] [] pos) (jg0 ta):=⟨pi_enumerate hg hm ha.h hs⟩
theorem j9{K:PySem.W.Frag}(hl:QE X l tl)(hK:X.K=K):QI X tg l (iAny K tl):=by subst hK;exact⟨pi_any hl.h⟩
def jfv(D:Addr)(tt:TT)(te:TE):TS:=λE σ H=>tt σ H λb H1=>if b=true then jc0 D te E σ H1 else E.nx σ H1
def jd3(wi:TI)(g:TG)(js:List (Option Nat))(tt:TT)(te:TE):TE:=λσ H Q=>wi σ H λJ H1=>∀D,H1 D=none ->
 jcr J g (jfv D tt te) {nx:=λ_ H'=>Q (.ref D) H',rt:=λ_ _=>False} (jdn js σ) (upd H1 D (.lst []))
theorem jjz(elt target iter cd:Expr)(scope:Scope)(pos:Pos)(it acc:Value)(env:Env) :
  compTurn (.ListComp elt [⟨target,iter,[cd],0⟩] scope pos) 0 it acc env=(standAt iter.pos >>= λ_=>pyNext it >>= λr=>match r with
   |none=>pure (.done .next)
   |some v=>letOwnedTupleGo target it v >>= λ_=>assign target env v >>= λ_ =>
    (forIn [cd] true λc ok=>if ok=true then(isTrue c env (eval c env) >>= λb=>pure (ForInStep.yield b))else pure (ForInStep.yield ok)) >>= λok =>
    if ok=true then((eval elt env >>= λx=>call (.builtin "list.append") [acc,x] >>= λ_=>pure ()) >>= λ_=>again (.compLoop (.ListComp elt [⟨target,iter,[cd],0⟩] scope pos) 0 it acc env))
    else again (.compLoop (.ListComp elt [⟨target,iter,[cd],0⟩] scope pos) 0 it acc env)):=by rfl
section
variable{X:Cx}{scope:Scope}{Nc:List Str}{js:List (Option Nat)}{elt tg iter cd:Expr}{pos:Pos}{wi:TI}{g:TG}{te:TE}{tt:TT}
theorem jfy(hc:X.calm=true)(c:CompOk X scope Nc js)(hi:PI X tg iter wi)(hg:∀C s3 H3 fp,PG (X.comp scope C Nc s3 H3 fp) tg g)(ht:∀C s3 H3 fp,PT (X.comp scope C Nc s3 H3 fp) cd tt)(he:∀C s3 H3 fp,PE (X.comp scope C Nc s3 H3 fp) elt te)
  {pins:List (Addr×Obj)}{s:Shared}{σ:L2.St}{H:Hp} (I:Inv X pins σ H s) {RR:Value->Addr->Result->Shared->Prop}{NX:Addr->Hp->Prop}
  (h:wi σ H λJ H1=>∀D,H1 D=none->jcr J g (jfv D tt te) {nx:=λ_ H'=>NX D H',rt:=λ_ _=>False} (jdn js σ) (upd H1 D (.lst [])))
  (fin:∀D H3 s3 fp σ5 H5 s6,Inv X pins σ H3 s3->(∀b∈fp,FpOk X pins H3 b)->Inv (X.comp scope s3.heap.objs.size Nc s3 H3 fp) [] σ5 H5 s6->NX D H5->RR (.ref D) s3.heap.objs.size (.ok .next) s6) :
  wpAny (model X.prog X.w) X.A (eval iter X.env) (λx s₁=>wpAny (model X.prog X.w) X.A (pyIter x) (λit s₂=>wpAny (model X.prog X.w) X.A (newList []) (λacc s₃ =>
   wpAny (model X.prog X.w) X.A (newFunctionEnv scope X.env.globals (clOf X.env scope.names []) [] X.env.qual none .none (some X.env)) (λcenv s₄ =>
    codeAny (model X.prog X.w) X.A (.compStart (.ListComp elt [⟨tg,iter,[cd],0⟩] scope pos) 0 it acc {cenv with scope:=relabel scope X.env}) (RR acc cenv.locals) s₄) X.xe s₃) X.xe s₂) X.xe s₁) X.xe s:=by
 refine thn (hi pins s σ H _ I h) λv s1 h1=>thn h1 λitv s2 h2=>?_
 obtain⟨it,fp,tn,J,H2,rfl,I2,T,st2,f2,h2⟩:=h2
 refine Og ?_ (by show 0<=sizeLine;decide)
 have hD:H2 s2.heap.objs.size=none:=I2.hok.fresh (Ak _)
 have I3:Inv X pins σ (upd H2 s2.heap.objs.size (.lst [])) {s2 with heap:=s2.heap.push {cls:=.type "list",data:=.seq ([]:List Value).toArray}} :=
  I2.laid (t':=s2.toks) (λb u e=>Ai _ e) (Ak _) ⟨by show 0<=sizeLine;decide,[],0,.nil,Aw _ rfl⟩
 have f3:∀b∈fp,FpOk X pins (upd H2 s2.heap.objs.size (.lst [])) b:=λb hb=>by
  obtain⟨q0,q⟩:=f2 b hb
  obtain⟨o,e,_⟩:=T.obj _ _ st2 b hb
  exact⟨by rw[jd (A0 (Ar e))];exact q0,q⟩
 have o3:∀b∈fp,∃o,(s2.heap.push {cls:=.type "list",data:=.seq ([]:List Value).toArray}).get? b=some o:=λb hb=>by
  obtain⟨o,e,_⟩:=T.obj _ _ st2 b hb
  exact⟨o,Ai _ e⟩
 have st3:tn 0 (s2.heap.push {cls:=.type "list",data:=.seq ([]:List Value).toArray}):=T.keep _ _ _ st2 λb _ o e=>Ai _ e
 generalize hh3:s2.heap.push {cls:=.type "list",data:=.seq ([]:List Value).toArray}=h3 at I3 o3 st3⊢
 refine Yu c.nocell (by intro y hy;simp at hy) (λh4 hn4 hs4=>?_) c.kind
 have k4:∀b o,h3.get? b=some o->h4.get? b=some o:=λb o e=>(hs4.2 b (A0 (Ar e))).trans (Ai _ e)
 have I4:=jj0 (tk:=s2.toks+([]:List (Str×Value)).length) c I3 f3 o3 hn4 k4
 have st4:tn 0 h4:=T.keep _ _ _ st3 λb _ o e=>k4 b o e
 obtain⟨W,⟨m0,w0⟩,turn⟩:=h2 _ hD
 let s3:Shared:={s2 with heap:=h3}
 let Y:Cx:=X.comp scope h3.objs.size Nc s3 (upd H2 s2.heap.objs.size (.lst [])) fp
 have stat:∀{H':Hp},(∀b∈fp,H' b=none)->∀b∈fp,FpOk Y [] H' b:=λhn b hb=>⟨hn b hb,(I4.ok.exf b hb).1,I4.ok.exfs b hb,.inl hb,(I4.ok.exf b hb).2,(λp hp=>nomatch hp)⟩
 have loop:codeAny (model X.prog X.w) X.A (.compLoop (.ListComp elt [⟨tg,iter,[cd],0⟩] scope pos) 0 (.ref it) (.ref s2.heap.objs.size) Y.env)
   (RR (.ref s2.heap.objs.size) h3.objs.size) {s2 with heap:=h4,toks:=s2.toks+([]:List (Str×Value)).length}:=by
  refine codeAny_loop rfl (λn s'=>∃i σ' H',Inv Y [] σ' H' s'/\tn i s'.heap/\(∀b∈fp,H' b=none)/\W i n σ' H') (λn s5 hI=>?_) m0 ⟨0,_,_,I4,st4,λb hb=>(f3 b hb).1,w0⟩
  obtain⟨i,σ5,H5,I5,st5,fr5,w5⟩:=hI
  show wpAny _ X.A ((compTurn (.ListComp elt [⟨tg,iter,[cd],0⟩] scope pos) 0 (.ref it) (.ref s2.heap.objs.size) Y.env).onRaise (λx=>do noteFrame x Y.env;theTreesLotGoes x)) _ _ s5
  refine wpAny_noted (Uj (E:=λ_ _=>False) ?_ (λ_ _ q=>q) λ_ _ z=>z.elim)
  rw[jjz]
  refine Ab (Yn (Ab ?_))
  rcases turn i n σ5 H5 w5 with⟨stop,qn⟩|⟨go,N,hN,step⟩
  ·refine thn (T.done Y rfl rfl rfl hc i [] s5 σ5 H5 _ I5 (stat fr5) st5 stop) λr s6 ⟨hr,I6⟩=>?_
   subst hr
   refine Ah ?_
   exact fin _ _ s3 fp σ5 H5 s6 I3 f3 I6 qn
  ·refine thn (T.item Y rfl rfl rfl hc i [] s5 σ5 H5 _ I5 (stat fr5) st5 go) λr s6 ⟨u,hr,h6⟩=>?_
   subst hr
   refine Ab (thn h6 λ_ s7 ⟨x,H7,I7,r7,y7,st7,fr7⟩=>?_)
   have I7':=I7.pinned (stat fr7) (T.obj _ _ st7)
   refine Ab (thn (hg _ _ _ _ _ s7 σ5 H7 x u _ I7' r7 (step x H7 y7)) λ_ s8 ⟨σ8,H8,I8,q8⟩=>?_)
   have fin2:∀{H':Hp}{s':Shared},Inv Y ([]++jfc fp s7.heap) σ8 H' s'->N σ8 H'->∃m,m<n/\∃i σ1 H1,Inv Y [] σ1 H1 s'/\tn i s'.heap/\(∀b∈fp,H1 b=none)/\W i m σ1 H1:=fun{H'}{s'} I10 n10=>by
    obtain⟨m',hm,w10⟩:=hN σ8 H' n10
    refine⟨m',hm,i+1,σ8,H',I10.unpinned,T.keep _ _ _ st7 λb hb o e=>(I10.pin (b,o) (Ip _ (Ip _ (jdl hb e)))).1,λb hb=>?_,w10⟩
    obtain⟨o,e,d⟩:=T.obj _ _ st7 b hb
    exact(I10.pin (b,o) (Ip _ (Ip _ (jdl hb e)))).2.1
   rw[Yt,Ao rfl]
   refine Ab (Ab (Ab (thn (ht _ _ _ _ _ s8 σ8 H8 _ I8 q8) λok s9 ⟨H9,I9,q9⟩=>Ah ?_)))
   simp only[List.forIn_nil]
   refine Ah ?_
   cases ok with
   |false =>
    simp only[A8,Of]at q9⊢
    exact Ah ⟨rfl,fin2 I9 q9⟩
   |true =>
    simp only[Oz]at q9⊢
    refine Ab (Ab (thn (he _ _ _ _ _ s9 σ8 H9 _ I9 q9) λv s10 ⟨y,H10,I10,r10,ys,e10,z10,n10⟩=>?_))
    refine Ab (thn (ja0 (X:=Y) _ s10 σ8 H10 (.ref s2.heap.objs.size) [y] (.ref s2.heap.objs.size) [v] (λw H'=>N σ8 H') I10 rfl (.cons r10 .nil) ⟨_,ys,y,rfl,rfl,jcs e10,z10,n10⟩) λw s11 ⟨_,H11,I11,_,n11⟩=>?_)
    exact Ah (Ah ⟨rfl,fin2 I11 n11⟩)
 exact codeAny_compStart_list loop (T.self _ 0 _ _ _ st4 loop)
theorem pe_compIf(hc:X.calm=true)(c:CompOk X scope Nc js)(hi:PI X tg iter wi)(hg:∀C s3 H3 fp,PG (X.comp scope C Nc s3 H3 fp) tg g)(ht:∀C s3 H3 fp,PT (X.comp scope C Nc s3 H3 fp) cd tt)(he:∀C s3 H3 fp,PE (X.comp scope C Nc s3 H3 fp) elt te)
  (hs:∀x,foldedSetIterable iter X.env x=pure x:=by intro _;rfl):PE X (.ListComp elt [⟨tg,iter,[cd],0⟩] scope pos) (jd3 wi g js tt te):=by
 intro pins s σ H Q I h
 rw[eval_ListComp]
 refine Wd (use:=none) (g:=⟨tg,iter,[cd],0⟩) (gs:=[]) rfl hs (jd1 (c.has I)) c.kind c.loc
  (jfy (RR:=λacc C=>compPost (model X.prog X.w) X.A X.xe none (EP X pins σ Q) acc C) (NX:=λD H'=>Q (.ref D) H') hc c hi hg ht he I h λD H3 s3 fp σ5 H5 s6 I3 f3 I6 qn=>?_)
 obtain⟨m,hn,_⟩:=I6.loc
 exact⟨m,hn,λh' hs'=>⟨.ref D,H5,jd2 I3 f3 I6 hs',rfl,qn⟩⟩
theorem ps_setcIf{i:Nat}{y:Str}{py spos:Pos}(hN:X.N.Nodup)(hiN:X.N[i]?=some y)(hy:Loc X.env.scope y)(hc:X.calm=true)(c:CompOk X scope Nc js)(hi:PI X tg iter wi)(hg:∀C s3 H3 fp,PG (X.comp scope C Nc s3 H3 fp) tg g)
  (ht:∀C s3 H3 fp,PT (X.comp scope C Nc s3 H3 fp) cd tt) (he:∀C s3 H3 fp,PE (X.comp scope C Nc s3 H3 fp) elt te) (hsw:swapsWith (.ListComp elt [⟨tg,iter,[cd],0⟩] scope pos) (some (.Name y py)) spos.line X.env=pure true:=by rfl)
  (hs:∀x,foldedSetIterable iter X.env x=pure x:=by intro _;rfl) (hf:X.fn y=true\/X.env.scope.names.lookup y=some .local:=by first|exact .inl rfl|exact .inr rfl|assumption) :
  PS X (.Assign [.Name y py] (.ListComp elt [⟨tg,iter,[cd],0⟩] scope pos) spos) (tAsg (jd3 wi g js tt te) (jcz i)):=by
 intro pins s σ H D I h
 rw[exec_Assign_Name_used _ _ _ _ hsw]
 refine Ab (Yn (Ab ?_))
 show wpAny _ X.A (do let _ <-comprehension (.ListComp elt [⟨tg,iter,[cd],0⟩] scope pos) scope X.env _ (newList []) false (eval iter X.env) (some (assign (.Name y py) X.env))) _ _ s
 refine Ab (Uj (Wd (use:=some (assign (.Name y py) X.env)) (g:=⟨tg,iter,[cd],0⟩) (gs:=[]) (Q:=λ_ s'=>SP X pins D .next s') rfl hs (jd1 (c.has I)) c.kind c.loc
  (jfy (RR:=λacc C=>compPost (model X.prog X.w) X.A X.xe (some (assign (.Name y py) X.env)) (λ_ s'=>SP X pins D .next s') acc C) (NX:=λDa H'=>D.nx (σ.set i (some (.ref Da))) H') hc c hi hg ht he I h λDa H3 s3 fp σ5 H5 s6 I3 f3 I6 qn=>?_))
  (λ_ s' hq=>Ah (Ah hq)) λ_ _ e=>e)
 obtain⟨m,hn,_⟩:=id I6.loc
 have I7:Inv X pins σ H5 s6:=jd2 I3 f3 I6 (.refl ..)
 have hC:H5 s3.heap.objs.size=none:=I6.free
 have nL:s3.heap.objs.size≠X.env.locals:=Uo I3.lt
 have nc:∀x a,X.env.cells.lookup x=some a->a≠s3.heap.objs.size:=λx a e=>by
  obtain⟨v,q⟩:=I3.cell x a e
  exact A0 q.lt
 have np:∀p∈X.pn++pins,p.1≠s3.heap.objs.size:=λp hp=>A0 (Ar (I3.pin p hp).1)
 show wpAny _ _ (assign (.Name y py) X.env (.ref Da)) _ _ _
 refine wpAny_assign_Name (jfk (v:=.ref Da) I7 hN hiN hy rfl (λs8 I8 hb=>?_) hf)
 obtain⟨a,hs8,ha⟩:=hb
 have nCa:s3.heap.objs.size≠a:=by
  rcases ha with z|z
  ·rw[z];exact nL
  ·exact(nc y a z).symm
 refine⟨m,hn.sameBut hs8 nCa,λh9 hs9=>?_⟩
 exact⟨_,H5,I8.turned (t':=s8.toks) (λb o hb e=>(hs9.2 b hb).trans e) hC nL (.inr (Iv I3.sz (Ak _))) nc np,qn⟩
theorem ja9(hc:X.calm=true)(c:CompOk X scope Nc js)(hi:QI X tg iter wi)(hg:∀C s3 H3 fp,QG (X.comp scope C Nc s3 H3 fp) tg g)(ht:∀C s3 H3 fp,QT (X.comp scope C Nc s3 H3 fp) cd tt)(he:∀C s3 H3 fp,QE (X.comp scope C Nc s3 H3 fp) elt te)
  (hs:∀x,foldedSetIterable iter X.env x=pure x:=by intro _;rfl):QE X (.ListComp elt [⟨tg,iter,[cd],0⟩] scope pos) (jd3 wi g js tt te) :=
 ⟨pe_compIf hc c hi.h (λC s H f=>(hg C s H f).h) (λC s H f=>(ht C s H f).h) (λC s H f=>(he C s H f).h) hs⟩
theorem qps_setcIf{i:Nat}{y:Str}{py spos:Pos}(hN:X.N.Nodup)(hiN:X.N[i]?=some y)(hy:Loc X.env.scope y)(hc:X.calm=true)(c:CompOk X scope Nc js)(hi:QI X tg iter wi)(hg:∀C s3 H3 fp,QG (X.comp scope C Nc s3 H3 fp) tg g)
  (ht:∀C s3 H3 fp,QT (X.comp scope C Nc s3 H3 fp) cd tt) (he:∀C s3 H3 fp,QE (X.comp scope C Nc s3 H3 fp) elt te) (hsw:swapsWith (.ListComp elt [⟨tg,iter,[cd],0⟩] scope pos) (some (.Name y py)) spos.line X.env=pure true:=by rfl)
  (hs:∀x,foldedSetIterable iter X.env x=pure x:=by intro _;rfl) (hf:X.fn y=true\/X.env.scope.names.lookup y=some .local:=by first|exact .inl rfl|exact .inr rfl|assumption) :
  QS X (.Assign [.Name y py] (.ListComp elt [⟨tg,iter,[cd],0⟩] scope pos) spos) (tAsg (jd3 wi g js tt te) (jcz i)) :=
 ⟨ps_setcIf hN hiN hy hc c hi.h (λC s H f=>(hg C s H f).h) (λC s H f=>(ht C s H f).h) (λC s H f=>(he C s H f).h) hsw hs hf⟩
end
section
variable{D:Addr}{te:TE}{tt:TT}{E:Ends}{r:L2.St}{H:Hp}
theorem jig{α:Type}(p:α->Bool)(f:α->V)(xs:List α)(i:Nat)(x:α)(h:xs[i]?=some x):((xs.take (i+1)).filter p).map f=((xs.take i).filter p).map f++(if p x=true then[f x]else[]):=by
 rw[Yc,h]
 simp only[Option.toList_some,Y5,A5]
 congr 1
 by_cases q:p x=true
 ·simp[q]
 ·simp[q]
theorem je8{lo:Int}{n:Nat}(p:Nat->Bool)(f:Nat->V)(hz:n<=sizeLine)
  (ht:∀i,i<n->∀l Q,Q (p i) (upd H D (.lst l))->tt (some (.int (lo+(i:Nat)))::r) (upd H D (.lst l)) Q) (he:∀i,i<n->p i=true->∀l Q,Q (f i) (upd H D (.lst l))->te (some (.int (lo+(i:Nat)))::r) (upd H D (.lst l)) Q)
  (hn:∀v,E.nx (v::r) (upd H D (.lst (((List.range n).filter p).map f)))):jcr (Itr lo n) (jcz 0) (jfv D tt te) E (none::r) (upd H D (.lst [])):=by
 refine jcm (λi σ H'=>∃v:Option V,σ=v::r/\H'=upd H D (.lst (((List.range i).filter p).map f))) ⟨none,rfl,rfl⟩ ?_ ?_
 ·rintro i σ H' hi ⟨v,rfl,rfl⟩
  have hf:(((List.range i).filter p).map f).length<=i:=by
   rw[Ac]
   exact Iv (Ub _ _) (by rw[Az];omega)
  refine ht i hi _ _ ?_
  by_cases q:p i=true
  ·rw[q,Ao rfl]
   refine he i hi q _ _ ⟨_,by rw[jb];rfl,by omega,some (.int (lo+(i:Nat))),rfl,?_⟩
   rw[jhm,Uq]
   simp[q]
  ·rw[An q]
   refine⟨some (.int (lo+(i:Nat))),rfl,?_⟩
   rw[Uq]
   simp[q]
 ·rintro σ H' ⟨v,rfl,rfl⟩
  exact hn v
end
section
variable{X:Cx}
def rTru(x:V)(H:Hp)(Q:Bool->Hp->Prop):Prop:=match x with
 |.bl b=>Q b H
 |.int i=>Q (i != 0) H
 |.non=>Q false H
 |.str y=>y.length<=sizeLine/\Q ((y.length:Int) != 0) H
 |.ref p=>∃xs,jc8 (H p)=some xs/\Q (!xs.isEmpty) H
 |_=>False
def tTru(ta:TE):TT:=λσ H Q=>ta σ H λx H1=>rTru x H1 Q
theorem je4(p:Addr)(H:Hp)(Q:Bool->Hp->Prop):rTru (.ref p) H Q=(∃xs,jc8 (H p)=some xs/\Q (!xs.isEmpty) H):=rfl
theorem jmj(b:Bool)(H:Hp)(Q:Bool->Hp->Prop):rTru (.bl b) H Q=Q b H:=rfl
theorem jku(y:Str)(H:Hp)(Q:Bool->Hp->Prop):rTru (.str y) H Q=(y.length<=sizeLine/\Q ((y.length:Int) != 0) H):=rfl
theorem pt_tru{a:Expr}{ta:TE}(ha:PE X a ta)(he:∀whole,isTrue a X.env whole=(do let v <-whole;standAt a.pos;holding [v] (truthy v)):=by intro _;rfl):PT X a (tTru ta):=by
 intro pins s σ H Q I h
 refine isTrue_plain (thn (ha pins s σ H _ I h) λv s1 ⟨x,H1,I1,r1,q1⟩=>jr7 pins s1 σ H1 x v Q I1 r1 ?_) (he _)
 replace q1:rTru x H1 Q:=q1
 unfold rTru at q1
 split at q1
 ·exact⟨_,rfl,q1⟩
 ·exact⟨_,rfl,q1⟩
 ·exact⟨_,rfl,q1⟩
 ·exact⟨_,⟨q1.1,rfl⟩,q1.2⟩
 ·obtain⟨xs,e,q⟩:=q1
  rcases je3 e with e|e
  ·exact⟨_,.inl ⟨xs,SqL.of e,rfl⟩,q⟩
  ·exact⟨_,.inr (.inl ⟨xs,SqT.of e,rfl⟩),q⟩
 ·exact q1.elim
def jks:V->List V->Hp->VK->Prop:=λx vs H Q=>match x,vs with
 |.ref l,[]=>∃xs,jcn (H l)=some xs/\∃y,xs[xs.length-1]?=some y/\Q y (upd H l (.lst xs.dropLast))
 |_,_=>False
theorem jhc(l:Addr)(H:Hp)(Q:VK):jks (.ref l) [] H Q=(∃xs,jcn (H l)=some xs/\∃y,xs[xs.length-1]?=some y/\Q y (upd H l (.lst xs.dropLast))):=rfl
theorem mt_pop0U:MtM X "list.pop" jks:=by
 intro pins s σ H x vs v us Q I rx rv h
 unfold jks at h
 split at h
 ·rename_i l
  obtain⟨xs,e,y,hy,q⟩:=h
  exact mt_pop pins s σ H _ _ v us Q I rx rv ⟨l,xs,y,rfl,rfl,jcs e,hy,q⟩
 ·exact h.elim
end
def tMid(t u:TS):TS:=λD σ H=>∃J:L2.St->Hp->Prop,t {D with nx:=J} σ H/\∀σ H,J σ H->u D σ H
theorem pss_mid{X:Cx}{st:Stmt}{rest:List Stmt}{t u:TS}(h1:PS X st t)(h2:PSs X rest u):PSs X (st::rest) (tMid t u):=by
 intro pins s σ H D I h
 obtain⟨J,h,hJ⟩:=h
 refine wpAny_execs_cons (thn (h1 pins s σ H {D with nx:=J} I h) λf s1 q=>?_)
 cases f with
 |next =>
  obtain⟨σ1,H1,I1,q1⟩:=q
  exact h2 pins s1 σ1 H1 D I1 (hJ _ _ q1)
 |ret v=>exact q
 |brk=>exact q
 |cont=>exact q
theorem kn{X:Cx}{st:Stmt}{rest:List Stmt}{t u:TS}(h1:QS X st t)(h2:QSs X rest u):QSs X (st::rest) (tMid t u):=⟨pss_mid h1.h h2.h⟩
section
variable{X:Cx}
theorem jbm{st:Stmt}:QS X st jox:=⟨ps_never⟩
theorem qpt_tru{a:Expr}{ta:TE}(ha:QE X a ta)(he:∀whole,isTrue a X.env whole=(do let v <-whole;standAt a.pos;holding [v] (truthy v)):=by intro _;rfl):QT X a (tTru ta):=⟨pt_tru ha.h he⟩
theorem z8{K:PySem.W.Frag}(hK:X.K=K):jcq X (.builtin "isinstance") (rIsU K):=by
 subst hK
 exact call_isinstanceU
end
theorem jj5:entryFor table "dict.update.loop"=some Builtin.«dict.update.loop»:=entryFor_of_tree (by kernel_rfl)
theorem jez:plainId "dict.update.loop"=true:=by decide +kernel
theorem jny:typeLookup (.type "list") "keys"=pure none:=by rw[typeLookup_type,Yp];kernel_rfl
section
variable{P:Program}{w:World}{A:Around}{R:Result->Shared->Prop}{I:Addr}{fp wr:List Addr}{n:Nat}{Pv:Nat->Value->Prop}{St:Nat->Heap->Prop}
theorem jql{A:Around}{E:Value->Shared->Prop}{s:Shared}{a:Addr}{o:Obj}{xs:Array Value}{k:Nat}{u:Tok}{Q:Value->Shared->Prop}
  (hx:s.heap.get? a=some o) (hc:o.cls=.type "list") (hdat:o.data=.seq xs k) (hd:o.dict=none) (hA:A.handled=none)
  (h:∀h' tk e,Heap.NewExcOf s.heap h' e "AttributeError"->E (.ref e) {s with heap:=h',toks:=tk}):wpAny (model P w) A (getAttrBy (.ref a) (.str "keys" u) false) Q E s:=by
 obtain⟨c,dct,dat,sl⟩:=o
 simp only at hc hdat hd
 subst hc hdat hd
 obtain⟨hp,g,d,tk,os⟩:=s
 have hT:∀tk',(⟨hp,g,d,tk',os⟩:Shared).TypeIs (.ref a) "list":=λ_=>⟨_,hx,rfl⟩
 have g1:=sub_AttributeError
 have g3:=W9.lookup
 have g4:=W9.bind (.ref a)
 have g5:=am_list_getattr_none
 unfold getAttrBy
 repeat (any_goals (first|assumption|exact hT _|((with_reducible show wpAny _ _ (call (Value.builtin "list.__getattribute__") _ _) _ _ _);refine W0 W9 (hT _) am_entry_list_getattribute (F.args_list_getattribute_2 _ _) (meets_getattribute_miss_list a xs k sl "keys" _ jny (by decide +kernel) (by size_fits)) ⟨hx,hA,λh' tk' e hx'=>?_⟩)|wp_step))
 obtain⟨t',u',he⟩:=hx'.there
 show wpAny _ _ (getattributeRaised _ _ _ _ _ _ _) _ _ _
 unfold getattributeRaised
 repeat (any_goals (first|assumption|wp_step))
 exact h _ _ _ hx'.of
end
section
variable{P:Program}{w:World}{A:Around}{E:Value->Shared->Prop}{s:Shared}{d it:Addr}{o:Obj}{es:Array DictEntry}{ep i:Nat}
theorem jqx{Q:Value->Shared->Prop}(hd:(d == sysModules)=false)(ho:s.heap.get? d=some o)(hx:o.ExactDict)(hdat:o.data=.dict es ep)
  (hQ:Q (.ref s.heap.objs.size) {s with heap:=s.heap.push {cls:=.type "dict_keyiterator",data:=.fields #[.ref d,.int 0 0,.int es.size 0,.int ep 0]}}):wpAny (model P w) A (pyIter (.ref d)) Q E s:=by
 have hT:s.TypeIs (.ref d) "dict":=⟨o,ho,hx.1⟩
 refine wpAny_pyIter_slot hT F.slot_dict_iter (On F.slot_dict_iter hT F.entry_dict_iter ?_ (F.args_dict_iter_1 _))
 unfold Builtin.«dict.__iter__»
 refine Ab ?_
 unfold Builtin.Dict.dictSlotNone
 refine Ab (wpAny_notOrdered_dict hT ?_)
 refine(show wpAny _ _ (pure (Value.ref d)) _ _ s from Ah ?_)
 show wpAny _ _ (Builtin.Dict.showsAll d >>= _) _ _ s
 unfold Builtin.Dict.showsAll
 rw[An (show ¬((d == sysModules)=true)by rw[hd];exact A4)]
 refine Ab (Ah (Ab (wpAny_dictEntries ho hdat (Ab (wpAny_dictEpoch ho hdat ?_)))))
 refine Ab (Og (Ah ⟨_,rfl,"dict_keyiterator",_,⟨_,Aw _ rfl,rfl⟩,Ud.lookup,?_⟩))
 simpa[rawInt]using hQ
theorem jqw{e:DictEntry}{Q:Option Value->Shared->Prop}(hit:s.heap.IsKeyIter it d i es.size ep)(hod:s.heap.get? d=some o)(hdd:o.data=.dict es ep)(hx:es[i]?=some e)
  (hQ:∀h',h'.IsKeyIter it d (i+1) es.size ep->Heap.SameBut it s.heap h'->Q (some e.key) {s with heap:=h'}):wpAny (model P w) A (pyNext (.ref it)) Q E s:=by
 obtain⟨oi,hoi,hci,hdi⟩:=id hit
 unfold pyNext
 refine Ab (W3 (Ot (name:=Str.ofString "__next__") hit.typeIs Ud (On Ud hit.typeIs F.entry_dict_keyiterator_next ?_ (F.args_dict_keyiterator_next_1 _))))
 refine Ab (Ah (Ab (Ab ?_)))
 first|refine Ab (Uu hit.typeIs (Ah (Ab (Yd hoi hdi ?_))))|refine Ab (We hit.typeIs (Ah (Ab (Yd hoi hdi ?_))))
 have own0:Builtin.Dict_items.ownsTuple "dict_keyiterator"=false:=by decide
 simp only[own0,A8,Of]
 refine(show wpAny _ _ (if(Value.ref d == Value.none)=true then _ else _) _ _ s from ?_)
 rw[An (show ¬((Value.ref d == Value.none)=true)by exact A4)]
 refine Ab (Ah (Ab (wpAny_dictEntries hod hdd ?_)))
 rw[An (show ¬_ by simp)]
 refine Ab (Ah (Ab (wpAny_dictEpoch hod hdd ?_)))
 rw[An (show ¬_ by simp)]
 refine Ah ?_
 simp only[show ¬((i:Int)<0)by omega,Of,Int.toNat_natCast,hx]
 refine Ab ?_
 first|refine Ab (Uu hit.typeIs (Ah (Ab (Yq hit.typeIs ?_))))|refine Ab (We hit.typeIs (Ah (Ab (Yq hit.typeIs ?_))))
 refine(show wpAny _ _ (setField (.ref it) 1 (rawInt ((i:Int)+1)) >>= _) _ _ s from Ab (Wb hoi hdi (by simp) ?_))
 have hit2:(s.heap.update it (Obj.mapFields (·.setIfInBounds 1 (rawInt ((i:Int)+1))))).IsKeyIter it d (i+1) es.size ep :=
  ⟨_,O1 _ hoi (Yr (Uz hdi _)),(Obj.cls_mapFields ..).trans hci,by rw[Uz hdi];simp[rawInt]⟩
 refine Ab (Ou (Ab (Yq (s:={s with heap:=s.heap.update it (Obj.mapFields (·.setIfInBounds 1 (rawInt ((i:Int)+1))))}) hit2.typeIs ?_)))
 refine(show wpAny _ _ (pure e.key) _ _ _ from Ah (Ah ⟨_,rfl,Ah (hQ _ hit2 (Ui ..))⟩))
theorem jrs{Q:Option Value->Shared->Prop}(hh:A.handled=none)(hit:s.heap.IsKeyIter it d i es.size ep)(hod:s.heap.get? d=some o)(hdd:o.data=.dict es ep)(hx:es.size<=i)
  (hQ:∀h',Heap.ExtBut it s.heap h'->Q none {s with heap:=h'}):wpAny (model P w) A (pyNext (.ref it)) Q E s:=by
 obtain⟨oi,hoi,hci,hdi⟩:=id hit
 unfold pyNext
 refine Ab (W3 (Ot (name:=Str.ofString "__next__") hit.typeIs Ud (On Ud hit.typeIs F.entry_dict_keyiterator_next ?_ (F.args_dict_keyiterator_next_1 _))))
 refine Ab (Ah (Ab (Ab ?_)))
 first|refine Ab (Uu hit.typeIs (Ah (Ab (Yd hoi hdi ?_))))|refine Ab (We hit.typeIs (Ah (Ab (Yd hoi hdi ?_))))
 have own0:Builtin.Dict_items.ownsTuple "dict_keyiterator"=false:=by decide
 simp only[own0,A8,Of]
 refine(show wpAny _ _ (if(Value.ref d == Value.none)=true then _ else _) _ _ s from ?_)
 rw[An (show ¬((Value.ref d == Value.none)=true)by exact A4)]
 refine Ab (Ah (Ab (wpAny_dictEntries hod hdd ?_)))
 rw[An (show ¬_ by simp)]
 refine Ab (Ah (Ab (wpAny_dictEpoch hod hdd ?_)))
 rw[An (show ¬_ by simp)]
 refine Ah ?_
 simp only[show ¬((i:Int)<0)by omega,Of,Int.toNat_natCast,Array.getElem?_eq_none hx]
 refine Ab ?_
 first|refine Ab (Uu hit.typeIs (Ah ?_))|refine Ab (We hit.typeIs (Ah ?_))
 refine(show wpAny _ _ (setField (.ref it) 0 .none >>= _) _ _ s from Ab (Wb hoi hdi (by simp) ?_))
 refine(show wpAny _ _ (newExc (.type "StopIteration") [] >>= _) _ _ _ from Ab ?_)
 simp only[newExc,newTuple]
 refine Ab (Og ?_ (by size_fits))
 refine Ab (m:=firstArgMember _ _) (wpAny_of_eq (a:=Value.none) (by first|rfl|(simp only[firstArgMember];rfl)) (Og ?_ (by size_fits)))
 simp only[raiseNew]
 refine Ab (wpAny_handled ?_)
 rw[show A.in1.handled=none by exact hh]
 refine Ab (Ah (wpAny_throw ?_))
 refine Ab (W2 (T:="StopIteration") (b:=true) (by exact⟨_,Aw _ rfl,rfl⟩) isSubtype_stop ?_)
 exact Ah (hQ _ (((Ui ..).extBut.push _).push _))
end
section
variable{D:Addr}{te:TE}{tt:TT}{E:Ends}{r:L2.St}{H:Hp}
def Firm(P:V->Hp->Prop):Prop:=∀S x H1 H2,Kp S H1 H2->P x H1->P x H2
theorem jdz{lo:Int}{n:Nat}(P:Nat->V->Hp->Prop)(hP:∀i,Firm (P i))(hD:H D=none)(hz:n<=sizeLine)
  (he:∀i H1 Q,i<n->Kp [] H H1->(∀v H2,Kp [] H1 H2->P i v H2->Q v H2)->te (some (.int (lo+(i:Nat)))::r) H1 Q)
  (hn:∀v xs H',Kp [] H H'->H' D=some (.lst xs)->Paired (λi x=>P i x H') (List.range n) xs->E.nx (v::r) H'):jcr (Itr lo n) (jcz 0) (jc0 D te) E (none::r) (upd H D (.lst [])):=by
 refine jcm (λi σ H'=>∃(v:Option V)(xs:List V),σ=v::r/\Kp [] H H'/\H' D=some (.lst xs)/\Paired (λi x=>P i x H') (List.range i) xs) ⟨none,[],rfl,(Kp.refl [] H).new hD,jb,.nil⟩ ?_ ?_
 ·rintro i σ H' hi ⟨v,xs,rfl,kp,hd,pr⟩
  have hl:xs.length=i:=by have:=Il pr;simpa using this.symm
  refine he i H' _ hi kp λy H2 k2 hy=>?_
  have hd2:H2 D=some (.lst xs):=k2.old _ _ hd Af
  refine⟨xs,by rw[hd2];rfl,by omega,some (.int (lo+(i:Nat))),xs++[y],rfl,(kp.trans k2).set hd2 (.inr hD),jb,?_⟩
  have k3:Kp [D] H2 (upd H2 D (.lst (xs++[y]))):=(Kp.refl [D] H2).set hd2 (.inl (.head _))
  rw[Uq]
  exact Yk (Paired.mapP pr λj x q=>hP j _ x _ _ k3 (hP j _ x _ _ k2 q)) (hP i _ y _ _ k3 hy)
 ·rintro σ H' ⟨v,xs,rfl,kp,hd,pr⟩
  exact hn v xs H' kp hd pr
theorem jds{K:PySem.W.Frag}{a:Addr}{ys:List V}(P:V->V->Hp->Prop)(hP:∀y,Firm (P y))(ha:H a=some (.lst ys))(hD:H D=none)(hz:ys.length<=sizeLine)
  (he:∀(i:Nat)(y:V)(H1:Hp)(Q:VK),ys[i]?=some y->Kp [] H H1->(∀v H2,Kp [] H1 H2->P y v H2->Q v H2)->te (some y::r) H1 Q)
  (hn:∀v xs H',Kp [] H H'->H' D=some (.lst xs)->Paired (λy x=>P y x H') ys xs->E.nx (v::r) H'):jcr (Itl K a) (jcz 0) (jc0 D te) E (none::r) (upd H D (.lst [])):=by
 refine jc9 (xs:=ys) (λi σ H'=>∃(v:Option V)(xs:List V),σ=v::r/\Kp [] H H'/\H' D=some (.lst xs)/\Paired (λy x=>P y x H') (ys.take i) xs) ⟨none,[],rfl,(Kp.refl [] H).new hD,jb,.nil⟩ ?_ ?_ ?_
 ·rintro i σ H' _ ⟨v,xs,rfl,kp,hd,pr⟩
  exact kp.old _ _ ha Af
 ·rintro i y σ H' hy ⟨v,xs,rfl,kp,hd,pr⟩
  have hi:i<ys.length:=(Ad.mp hy).1
  have hl:xs.length=i:=by have:=Il pr;rw[Oe]at this;omega
  refine he i y H' _ hy kp λx H2 k2 hx=>?_
  have hd2:H2 D=some (.lst xs):=k2.old _ _ hd Af
  refine⟨xs,by rw[hd2];rfl,by omega,some y,xs++[x],rfl,(kp.trans k2).set hd2 (.inr hD),jb,?_⟩
  have k3:Kp [D] H2 (upd H2 D (.lst (xs++[x]))):=(Kp.refl [D] H2).set hd2 (.inl (.head _))
  rw[Yc,hy]
  exact Yk (Paired.mapP pr λj x q=>hP j _ x _ _ k3 (hP j _ x _ _ k2 q)) (hP y _ x _ _ k3 hx)
 ·rintro σ H' ⟨v,xs,rfl,kp,hd,pr⟩
  rw[O7 (Ak _)]at pr
  exact hn v xs H' kp hd pr
end
theorem sl_UK{X:Cx}{K:PySem.W.Frag}(hK:X.K=K):SlR X (rSlU K):=by
 subst hK
 exact sl_U
structure ZA(z TI TO i1 i2:Addr)(f1 f2:List Addr):Prop where
 TIz:TI≠z
 TOz:TO≠z
 i1z:i1≠z
 i2z:i2≠z
 TITO:TI≠TO
 TIi1:TI≠i1
 TIi2:TI≠i2
 TOi1:TO≠i1
 TOi2:TO≠i2
 i12:i1≠i2
 zf1:z∉f1
 zf2:z∉f2
 Tf1:TO∉f1
 Tf2:TO∉f2
 jf2:i1∉f2
 jf1:i2∉f1
section
variable{prog:Program}{w:World}{A:Around}{E:Value->Shared->Prop}{s:Shared}{i1 i2:Addr}{f1 f2:List Addr}{n1 n2:Nat}{P1 P2:Nat->Value->Prop}{S1 S2:Nat->Heap->Prop}
theorem jcy{it:Addr}{fp:List Addr}{n:Nat}{P:Nat->Value->Prop}{St:Nat->Heap->Prop}(D:Draws prog w A it fp n P St){i:Nat}{h h':Heap}{c:Addr}(st:St i h)(hs:Heap.SameBut c h h')(hc:c∉fp):St i h' :=
 D.frame i h h' st λb hb o e=>hs.extBut b o (λx=>hc (x▸hb)) e
theorem jo3{z TI TO:Addr}{k:Nat}{a b:Value}{Q:Value->Shared->Prop}(D1:Draws prog w A i1 f1 n1 P1 S1)(D2:Draws prog w A i2 f2 n2 P2 S2)(D:ZA z TI TO i1 i2 f1 f2)
  (hz:IsZip s.heap z TI TO .none) (hTI:IsPair s.heap TI (.ref i1) (.ref i2)) (hTO:IsPair s.heap TO a b) (h1:S1 k s.heap) (h2:S2 k s.heap) (l1:k<n1) (l2:k<n2)
  (hQ:∀x y h' tk,P1 k x->P2 k y->IsZip h' z TI TO (rawInt s.heap.objs.size)->IsPair h' TO x y->S1 (k+1) h'->S2 (k+1) h'->IsPair h' s.heap.objs.size x y->h'.objs.size=s.heap.objs.size+1 ->
   (∀c o,c≠z->c≠TO->c≠i1->c≠i2->s.heap.get? c=some o->h'.get? c=some o)->Q (.ref s.heap.objs.size) {s with heap:=h',toks:=tk}) :
  wpAny (model prog w) A (Builtin.«zip.__next__» ⟨[.ref z],[]⟩) (λfin s'=>∃v,fin=.done (.ret v)/\Q v s') E s:=by
 show wpAny _ _ (field (.ref z) 2 >>= _) _ _ _
 refine Ab (Um hz rfl (x:=.bool false) rfl ?_)
 show wpAny _ _ (field (.ref z) 3 >>= _) _ _ _
 refine Ab (Um hz rfl (x:=.ref TI) rfl ?_)
 refine Ab (Ul hTI rfl ?_)
 show wpAny _ _ (Builtin.SmallTypes.ownedTupleIsFree (.ref z) >>= _) _ _ _
 refine Ab ?_
 unfold Builtin.SmallTypes.ownedTupleIsFree
 refine Ab (Um hz rfl (x:=.none) rfl (Ah ?_))
 simp only[Oz]
 refine Ab (wpAny_rule ?_)
 refine Ab (Um hz rfl (x:=.ref TO) rfl ?_)
 refine Ab (U0 hz (by simp) λh₁ hz₁ hs₁=>?_)
 replace hz₁:IsZip h₁ z TI TO .ellipsis:=hz₁
 refine Ab ?_
 simp only[List.zipIdx_cons,List.zipIdx_nil,Yt,List.forIn_nil]
 refine Ab (Ab (Y7 ?_))
 show wpAny _ _ (Builtin.SmallTypes.nextOf (.ref i1) >>= _) _ _ _
 refine Ab (D1.item k _ _ _ l1 (jcy D1 h1 hs₁ D.zf1) λx h₂ tk₂ p1 h1₂ hs₂=>Ah ?_)
 have hTO₂:IsPair h₂ TO a b:=hs₂.extBut _ _ D.TOi1 (hs₁.extBut _ _ D.TOz hTO)
 refine Ab (Ul hTO₂ rfl ?_)
 refine Ab (Yv hTO₂ λh₃ hTO₃ hs₃=>?_)
 replace hTO₃:IsPair h₃ TO x b:=hTO₃
 refine Ab (wpAny_letGo (Ah ?_))
 refine Ab (Ab (Y7 ?_))
 show wpAny _ _ (Builtin.SmallTypes.nextOf (.ref i2) >>= _) _ _ _
 refine Ab (D2.item k _ _ _ l2 (jcy D2 (jcy D2 (jcy D2 h2 hs₁ D.zf2) hs₂ D.jf2) hs₃ D.Tf2) λy h₄ tk₄ p2 h2₄ hs₄=>Ah ?_)
 have hTO₄:IsPair h₄ TO x b:=hs₄.extBut _ _ D.TOi2 hTO₃
 refine Ab (Ul hTO₄ rfl ?_)
 refine Ab (Yv hTO₄ λh₅ hTO₅ hs₅=>?_)
 replace hTO₅:IsPair h₅ TO x y:=hTO₅
 refine Ab (wpAny_letGo (Ah (Ah ?_)))
 refine Ab (Ul hTO₅ rfl ?_)
 refine Ab (wpAny_newTuple ?_)
 have hsz:h₅.objs.size=s.heap.objs.size:=by rw[hs₅.1,hs₄.1,hs₃.1,hs₂.1,hs₁.1]
 have hz₅:IsZip h₅ z TI TO .ellipsis:=hs₅.extBut _ _ D.TOz.symm (hs₄.extBut _ _ D.i2z.symm (hs₃.extBut _ _ D.TOz.symm (hs₂.extBut _ _ D.i1z.symm hz₁)))
 have hk₅:∀c o,c≠z->c≠TO->c≠i1->c≠i2->s.heap.get? c=some o->h₅.get? c=some o:=λc o c1 c2 c3 c4 e =>
  hs₅.extBut _ _ c2 (hs₄.extBut _ _ c4 (hs₃.extBut _ _ c2 (hs₂.extBut _ _ c3 (hs₁.extBut _ _ c1 e))))
 have h1₅:S1 (k+1) h₅:=jcy D1 (jcy D1 (jcy D1 h1₂ hs₃ D.Tf1) hs₄ D.jf1) hs₅ D.Tf1
 have h2₅:S2 (k+1) h₅:=jcy D2 h2₄ hs₅ D.Tf2
 have hzlt:z<h₅.objs.size:=Ar hz₅
 show wpAny _ _ (Builtin.SmallTypes.ownedTupleHandOut (.ref z) (.ref h₅.objs.size) >>= _) _ _ _
 refine Ab ?_
 unfold Builtin.SmallTypes.ownedTupleHandOut
 have hz₆:IsZip (h₅.push {cls:=.type "tuple",data:=.seq #[x,y]}) z TI TO .ellipsis:=Ai _ hz₅
 refine Ab (U0 hz₆ (by simp) λh₇ hz₇ hs₇=>?_)
 replace hz₇:IsZip h₇ z TI TO (rawInt h₅.objs.size):=hz₇
 refine U0 hz₇ (by simp) λh₈ hz₈ hs₈=>?_
 replace hz₈:IsZip h₈ z TI TO (rawInt h₅.objs.size):=hz₈
 have up:∀c o,c≠z->h₅.get? c=some o->h₈.get? c=some o:=λc o c1 e=>hs₈.extBut _ _ c1 (hs₇.extBut _ _ c1 (Ai _ e))
 have hT₈:IsPair h₈ h₅.objs.size x y:=hs₈.extBut _ _ (Uo hzlt) (hs₇.extBut _ _ (Uo hzlt) (Aw _ rfl))
 have hz8:h₈.objs.size=h₅.objs.size+1:=by rw[hs₈.1,hs₇.1,Ov]
 have h1₈:S1 (k+1) h₈:=D1.frame _ _ _ h1₅ λc hc o e=>up c o (λq=>D.zf1 (q▸hc)) e
 have h2₈:S2 (k+1) h₈:=D2.frame _ _ _ h2₅ λc hc o e=>up c o (λq=>D.zf2 (q▸hc)) e
 have hk₈:∀c o,c≠z->c≠TO->c≠i1->c≠i2->s.heap.get? c=some o->h₈.get? c=some o:=λc o c1 c2 c3 c4 e=>up c o c1 (hk₅ c o c1 c2 c3 c4 e)
 rw[hsz]at hz₈ hT₈ hz8
 refine Ah ⟨_,rfl,?_⟩
 show Q (.ref h₅.objs.size) _
 rw[hsz]
 exact hQ x y h₈ _ p1 p2 hz₈ (up _ _ D.TOz hTO₅) h1₈ h2₈ hT₈ hz8 hk₈
theorem jpv{z TI TO:Addr}{k:Nat}{a b:Value}{Q:Fin->Shared->Prop}(D1:Draws prog w A i1 f1 n1 P1 S1)(D2:Draws prog w A i2 f2 n2 P2 S2)(D:ZA z TI TO i1 i2 f1 f2)
  (hz:IsZip s.heap z TI TO .none) (hTI:IsPair s.heap TI (.ref i1) (.ref i2)) (hTO:IsPair s.heap TO a b) (h1:S1 k s.heap) (h2:S2 k s.heap) (hend:k=n1\/k<n1/\k=n2)
  (hE:∀h' tk e,(∀c o,c≠z->c≠TO->c≠i1->c≠i2->s.heap.get? c=some o->h'.get? c=some o)->(∃o,h'.get? e=some o/\o.cls=.type "StopIteration")->E (.ref e) {s with heap:=h',toks:=tk}) :
  wpAny (model prog w) A (Builtin.«zip.__next__» ⟨[.ref z],[]⟩) Q E s:=by
 show wpAny _ _ (field (.ref z) 2 >>= _) _ _ _
 refine Ab (Um hz rfl (x:=.bool false) rfl ?_)
 show wpAny _ _ (field (.ref z) 3 >>= _) _ _ _
 refine Ab (Um hz rfl (x:=.ref TI) rfl ?_)
 refine Ab (Ul hTI rfl ?_)
 show wpAny _ _ (Builtin.SmallTypes.ownedTupleIsFree (.ref z) >>= _) _ _ _
 refine Ab ?_
 unfold Builtin.SmallTypes.ownedTupleIsFree
 refine Ab (Um hz rfl (x:=.none) rfl (Ah ?_))
 simp only[Oz]
 refine Ab (wpAny_rule ?_)
 refine Ab (Um hz rfl (x:=.ref TO) rfl ?_)
 refine Ab (U0 hz (by simp) λh₁ hz₁ hs₁=>?_)
 replace hz₁:IsZip h₁ z TI TO .ellipsis:=hz₁
 refine Ab ?_
 simp only[List.zipIdx_cons,List.zipIdx_nil,Yt,List.forIn_nil]
 refine Ab (Ab (Y7 ?_))
 show wpAny _ _ (Builtin.SmallTypes.nextOf (.ref i1) >>= _) _ _ _
 rcases hend with e|⟨lt,e⟩
 ·subst e
  refine Ab (D1.done _ _ _ (jcy D1 h1 hs₁ D.zf1) λh₂ e hs₂ he=>?_)
  obtain⟨oe,hoe,hce⟩:=he
  have hz₂:IsZip h₂ z TI TO .ellipsis:=hs₂ _ _ D.i1z.symm hz₁
  have hez:e≠z:=λx=>by subst x;rw[hz₂]at hoe;cases hoe;simp at hce
  refine U0 hz₂ (by simp) λh₃ _ hs₃=>hE h₃ _ e (λc o c1 _ c3 _ x=>hs₃.extBut _ _ c1 (hs₂ _ _ c3 (hs₁.extBut _ _ c1 x))) ⟨oe,hs₃.extBut _ _ hez hoe,hce⟩
 ·subst e
  refine Ab (D1.item k _ _ _ lt (jcy D1 h1 hs₁ D.zf1) λx h₂ tk₂ p1 h1₂ hs₂=>Ah ?_)
  have hTO₂:IsPair h₂ TO a b:=hs₂.extBut _ _ D.TOi1 (hs₁.extBut _ _ D.TOz hTO)
  refine Ab (Ul hTO₂ rfl ?_)
  refine Ab (Yv hTO₂ λh₃ hTO₃ hs₃=>?_)
  refine Ab (wpAny_letGo (Ah ?_))
  refine Ab (Ab (Y7 ?_))
  show wpAny _ _ (Builtin.SmallTypes.nextOf (.ref i2) >>= _) _ _ _
  refine Ab (D2.done _ _ _ (jcy D2 (jcy D2 (jcy D2 h2 hs₁ D.zf2) hs₂ D.jf2) hs₃ D.Tf2) λh₄ e hs₄ he=>?_)
  obtain⟨oe,hoe,hce⟩:=he
  have hz₄:IsZip h₄ z TI TO .ellipsis:=hs₄ _ _ D.i2z.symm (hs₃.extBut _ _ D.TOz.symm (hs₂.extBut _ _ D.i1z.symm hz₁))
  have hez:e≠z:=λx=>by subst x;rw[hz₄]at hoe;cases hoe;simp at hce
  refine U0 hz₄ (by simp) λh₅ _ hs₅=>hE h₅ _ e (λc o c1 c2 c3 c4 x=>hs₅.extBut _ _ c1 (hs₄ _ _ c4 (hs₃.extBut _ _ c2 (hs₂.extBut _ _ c3 (hs₁.extBut _ _ c1 x))))) ⟨oe,hs₅.extBut _ _ hez hoe,hce⟩
theorem jh1{z TI TO:Addr}{k:Nat}{a b:Value}{Q:Option Value->Shared->Prop}(D1:Draws prog w A.in1 i1 f1 n1 P1 S1)(D2:Draws prog w A.in1 i2 f2 n2 P2 S2)(D:ZA z TI TO i1 i2 f1 f2)
  (hz:IsZip s.heap z TI TO .none) (hTI:IsPair s.heap TI (.ref i1) (.ref i2)) (hTO:IsPair s.heap TO a b) (h1:S1 k s.heap) (h2:S2 k s.heap) (l1:k<n1) (l2:k<n2)
  (hQ:∀x y h' tk,P1 k x->P2 k y->IsZip h' z TI TO (rawInt s.heap.objs.size)->IsPair h' TO x y->S1 (k+1) h'->S2 (k+1) h'->IsPair h' s.heap.objs.size x y->h'.objs.size=s.heap.objs.size+1 ->
   (∀c o,c≠z->c≠TO->c≠i1->c≠i2->s.heap.get? c=some o->h'.get? c=some o)->Q (some (.ref s.heap.objs.size)) {s with heap:=h',toks:=tk}) :
  wpAny (model prog w) A (pyNext (.ref z)) Q E s:=by
 have hT:s.TypeIs (.ref z) "zip":=⟨_,hz,rfl⟩
 unfold pyNext
 exact Ab (W3 (Ot (name:=Str.ofString "__next__") hT Wy
  (On Wy hT PySem.F.entry_zip_next
   (jo3 D1 D2 D hz hTI hTO h1 h2 l1 l2 λx y h' tk p1 p2 a1 a2 a3 a4 a5 a6 a7=>Ah (hQ x y h' tk p1 p2 a1 a2 a3 a4 a5 a6 a7)) (PySem.F.args_zip_next_1 _))))
theorem jjc{z TI TO:Addr}{k:Nat}{a b:Value}{Q:Option Value->Shared->Prop}(D1:Draws prog w A.in1 i1 f1 n1 P1 S1)(D2:Draws prog w A.in1 i2 f2 n2 P2 S2)(D:ZA z TI TO i1 i2 f1 f2)
  (hz:IsZip s.heap z TI TO .none) (hTI:IsPair s.heap TI (.ref i1) (.ref i2)) (hTO:IsPair s.heap TO a b) (h1:S1 k s.heap) (h2:S2 k s.heap) (hend:k=n1\/k<n1/\k=n2)
  (hQ:∀h' tk,(∀c o,c≠z->c≠TO->c≠i1->c≠i2->s.heap.get? c=some o->h'.get? c=some o)->Q none {s with heap:=h',toks:=tk}):wpAny (model prog w) A (pyNext (.ref z)) Q E s:=by
 have hT:s.TypeIs (.ref z) "zip":=⟨_,hz,rfl⟩
 unfold pyNext
 refine Ab (W3 (Ot (name:=Str.ofString "__next__") hT Wy
  (On Wy hT PySem.F.entry_zip_next (jpv D1 D2 D hz hTI hTO h1 h2 hend λh' tk e hk he=>?_) (PySem.F.args_zip_next_1 _))))
 obtain⟨o,ho,hc⟩:=he
 refine Ab (W2 (T:="StopIteration") (b:=true) ⟨o,ho,hc⟩ isSubtype_stop ?_)
 exact Ah (hQ _ _ hk)
theorem jhq{z TI TO:Addr}(D1:Draws prog w A.in1 i1 f1 n1 P1 S1)(D2:Draws prog w A.in1 i2 f2 n2 P2 S2)(D:ZA z TI TO i1 i2 f1 f2) :
  WalksT prog w A z ([z,TI,TO,i1,i2]++f1++f2) [z,TO,i1,i2] (min n1 n2) (λi vals=>∃x y,P1 i x/\P2 i y/\vals=#[x,y])
   (λi h=>IsZip h z TI TO .none/\IsPair h TI (.ref i1) (.ref i2)/\(∃a b,IsPair h TO a b)/\S1 i h/\S2 i h)
   (λi T h=>IsZip h z TI TO (rawInt T)/\IsPair h TI (.ref i1) (.ref i2)/\(∃a b,IsPair h TO a b)/\S1 (i+1) h/\S2 (i+1) h/\T≠z/\T≠TO/\T≠i1/\T≠i2) where
 sub:=λc hc=>by simp at hc⊢;rcases hc with rfl|rfl|rfl|rfl <;> simp
 frame:=λi h h' hst hk=>by
  obtain⟨hz,hTI,⟨a,b,hTO⟩,h1,h2⟩:=hst
  exact⟨hk z (by simp) _ hz,hk TI (by simp) _ hTI,⟨a,b,hk TO (by simp) _ hTO⟩,D1.frame _ _ _ h1 λb hb o e=>hk b (by simp[hb]) o e,D2.frame _ _ _ h2 λb hb o e=>hk b (by simp[hb]) o e⟩
 item:=λi s Q E hi hst hQ=>by
  obtain⟨hz,hTI,⟨a,b,hTO⟩,h1,h2⟩:=hst
  refine jh1 D1 D2 D hz hTI hTO h1 h2 (A2 hi (Nat.min_le_left ..)) (A2 hi (Nat.min_le_right ..)) λx y h' tk p1 p2 a1 a2 a3 a4 a5 a6 hk=>?_
  have lt:∀{c o},s.heap.get? c=some o->s.heap.objs.size≠c:=λe=>Uo (Ar e)
  obtain⟨o1,e1⟩:=D1.live _ _ h1
  obtain⟨o2,e2⟩:=D2.live _ _ h2
  exact hQ s.heap.objs.size #[x,y] h' tk ⟨x,y,p1,p2,rfl⟩ (Ak _) ⟨_,a5,rfl,_,rfl⟩
   ⟨a1,hk _ _ D.TIz D.TITO D.TIi1 D.TIi2 hTI,⟨_,_,a2⟩,a3,a4,lt hz,lt hTO,lt e1,lt e2⟩
   λc o hc e=>hk c o (λx=>hc (by simp[x])) (λx=>hc (by simp[x])) (λx=>hc (by simp[x])) (λx=>hc (by simp[x])) e
 go:=λelts k pos i T s Q E hm hQ=>by
  obtain⟨hz,hTI,⟨a,b,hTO⟩,h1,h2,_⟩:=hm
  refine wpAny_letOwnedTupleGo_zip hz λh' hz' hs'=>hQ h' ⟨hz',hs'.extBut _ _ D.TIz hTI,⟨a,b,hs'.extBut _ _ D.TOz hTO⟩,jcy D1 h1 hs' D.zf1,jcy D2 h2 hs' D.zf2⟩ λc o hc e=>hs'.extBut _ _ (λx=>hc (by simp[x])) e
 apart:=λi T h hm hT=>by
  obtain⟨_,_,_,_,_,t1,t2,t3,t4⟩:=hm
  simp at hT
  rcases hT with rfl|rfl|rfl|rfl
  ·exact t1 rfl
  ·exact t2 rfl
  ·exact t3 rfl
  ·exact t4 rfl
 done:=λs Q E hst hQ=>by
  obtain⟨hz,hTI,⟨a,b,hTO⟩,h1,h2⟩:=hst
  exact jjc D1 D2 D hz hTI hTO h1 h2 (by omega) λh' tk hk=>hQ h' tk λc o hc e =>
   hk c o (λx=>hc (by simp[x])) (λx=>hc (by simp[x])) (λx=>hc (by simp[x])) (λx=>hc (by simp[x])) e
 self:=λi s Q E hst hQ=>wpAny_pyIter_zip hst.1 hQ
end
def plc(l:List Nat)(c:Nat):Int:=if c∈l then(l.idxOf c:Int)else -1
theorem jmd(x:Str)(c:Nat):(match Builtin.Str.occurrences x ⟨#[c]⟩ 0 x.length 1 with|i::_=>(i:Int)|[]=>-1)=plc x.cps.toList c:=by
 rcases StrLaws.occ_head x ⟨#[c]⟩ 1 (Ak _)with⟨e,hn⟩|⟨i,r,e,hi,hk⟩
 ·rw[e]
  unfold plc
  rw[An]
  intro hm
  obtain⟨i,hi⟩:=List.mem_iff_getElem?.mp hm
  exact hn i ((StrLaws.subAt_one x c i).mpr hi)
 ·rw[e]
  have h1:=(StrLaws.subAt_one x c i).mp hi
  have hm:c∈x.cps.toList:=List.mem_iff_getElem?.mpr ⟨i,h1⟩
  unfold plc
  rw[Ao hm]
  have hlt:x.cps.toList.idxOf c<x.cps.toList.length:=List.idxOf_lt_length_of_mem hm
  have h2:x.cps.toList[x.cps.toList.idxOf c]?=some c:=by rw[Aa hlt,Iw]
  have a1:¬x.cps.toList.idxOf c<i:=λh=>hk _ h ((StrLaws.subAt_one x c _).mpr h2)
  have a2:¬i<x.cps.toList.idxOf c:=λh=>by
   have h3:=List.not_of_lt_findIdx (p:=(· == c)) (xs:=x.cps.toList) (i:=i) h
   obtain⟨hl,h4⟩:=Ad.mp h1
   simp[h4]at h3
  show(i:Int)=_
  omega
theorem jq7(x:Str)(c:Nat)(hm:c∈x.cps.toList):∃i r,Builtin.Str.occurrences x ⟨#[c]⟩ 0 x.length 1=i::r/\(i:Int)=plc x.cps.toList c:=by
 have h:=jmd x c
 cases e:Builtin.Str.occurrences x ⟨#[c]⟩ 0 x.length 1 with
 |nil =>
  rw[e]at h
  unfold plc at h
  rw[Ao hm]at h
  simp at h
  try omega
 |cons i r=>rw[e]at h;exact⟨i,r,rfl,h⟩
section
variable{X:Cx}
def jkk:V->List V->Hp->VK->Prop:=λx vs H Q=>match x,vs with
 |.str z,[.str y]=>∃c,y=⟨#[c]⟩/\Q (.int (plc z.cps.toList c)) H
 |_,_=>False
theorem jg8(z y:Str)(H:Hp)(Q:VK):jkk (.str z) [.str y] H Q=(∃c,y=⟨#[c]⟩/\Q (.int (plc z.cps.toList c)) H):=rfl
theorem mt_findU:MtM X "str.find" jkk:=by
 intro pins s σ H x vs v us Q I rx rv h
 unfold jkk at h
 split at h
 ·rename_i z y
  obtain⟨c,rfl,q⟩:=h
  obtain⟨t,rfl⟩:=rx
  obtain⟨u,rfl,⟨t',rfl⟩⟩:=rv.one
  refine call_gives PySem.F.slot_str_find (typeIs_str s z t) PySem.F.entry_str_find (PySem.F.args_str_find_2 _ _) (gives_str_find z _ t t') ?_
  refine(O4 (λj=>(Made.int j).post (EP X pins σ Q) s) (jmd z c)).mpr ?_
  exact⟨.int _,H,I.tok _,⟨_,rfl⟩,q⟩
 ·exact h.elim
def jh2:V->List V->Hp->VK->Prop:=λx vs H Q=>match x,vs with
 |.str z,[.str y]=>∃c,y=⟨#[c]⟩/\c∈z.cps.toList/\Q (.int (plc z.cps.toList c)) H
 |_,_=>False
theorem jf3(z y:Str)(H:Hp)(Q:VK):jh2 (.str z) [.str y] H Q=(∃c,y=⟨#[c]⟩/\c∈z.cps.toList/\Q (.int (plc z.cps.toList c)) H):=rfl
theorem mt_indexU:MtM X "str.index" jh2:=by
 intro pins s σ H x vs v us Q I rx rv h
 unfold jh2 at h
 split at h
 ·rename_i z y
  obtain⟨c,rfl,hm,q⟩:=h
  obtain⟨t,rfl⟩:=rx
  obtain⟨u,rfl,⟨t',rfl⟩⟩:=rv.one
  obtain⟨i,r,e,ei⟩:=jq7 z c hm
  refine call_gives PySem.F.slot_str_index (typeIs_str s z t) PySem.F.entry_str_index (PySem.F.args_str_index_2 _ _) (gives_str_index z _ t t' i r e) ?_
  rw[ei]
  exact⟨.int _,H,I.tok _,⟨_,rfl⟩,q⟩
 ·exact h.elim
end
end L2
set_option autoImplicit true
set_option relaxedAutoImplicit true
set_option autoImplicit true
set_option relaxedAutoImplicit true
namespace L2
open PySem PySem.Spec PyProof.Rows
section
variable{X:Cx}
theorem jmo(K:PySem.W.Frag)(z:Str)(H:Hp):tyV K "str" (.str z) H=True:=by simp[tyV]
theorem qpe_bmT{o e:Expr}{es:List Expr}{to:TE}{t:TA}{name:Str}{apos cpos:Pos}{id:String}{r:V->List V->Hp->VK->Prop}(slot:Slot "str" name id)(hty:typeOf (.builtin id)=pure (.type "method_descriptor"))(hm:MtM X id r)(ho:QE X o to)(ha:QA X (e::es) t)
  (hbase:attributeBase o name X.env (eval o X.env)=eval o X.env:=by rfl)
  (hfew:((backTo cpos (starEach (e::es) X.env)).all (λx=>!x.1) && (backToKw cpos (keywordEach [] X.env)).all (λx=>x.1.isSome)
   && decide ((e::es).length+([]:List Keyword).length+(if([]:List Keyword).isEmpty then 0 else 1)<30))=true:=by rfl)
  (hline:(apos.endLine == cpos.line)=true:=by rfl) (hs:starEach (e::es) X.env=(false,eval e X.env)::starEach es X.env:=by rfl) (hplain:(backTo cpos (starEach es X.env)).any (·.1)=false:=by rfl) :
  QE X (.Call (.Attribute o name apos) (e::es) [] cpos) (tBM X.K "str" r to t):=⟨jbp PySem.F.plainAttrs_str slot hty hm ho.h ha.h hbase hfew hline hs hplain⟩
end
section
variable{prog:Program}{w:World}{A:Around}{E:Value->Shared->Prop}{s:Shared}
theorem jla{h:Heap}{g:Array GenState}{d:Drawn}{t:Nat}{os:OsState}{it a:Addr}{i:Nat}{vs:Array Value}{u:Value}{Q:Value->Shared->Prop}(hi:h.IsTupleIter it a i)(ha:h.IsTuple a vs)(hu:vs[i]?=some u)
  (q:∀h',h'.IsTupleIter it a (i+1)->Heap.SameBut it h h'->Q u ⟨h',g,d,t,os⟩):wpAny (model prog w) A (Builtin.SmallTypes.nextOf (.ref it)) Q E ⟨h,g,d,t,os⟩:=by
 obtain⟨⟨ci,di,dti,si⟩,e1,c1,d1⟩:=id hi
 obtain⟨⟨ca,da,dta,sa⟩,e2,c2,n2,d2⟩:=ha
 dsimp only at c1 d1 c2 d2
 subst c1 d1 c2 d2
 have sl:=PySem.F.slot_tuple_iterator_next
 have hT:(⟨h,g,d,t,os⟩:Shared).TypeIs (.ref it) "tuple_iterator":=hi.typeIs
 have fin:=q _ ⟨_,O1 (Obj.mapFields (·.setIfInBounds 1 (rawInt (i+1)))) e1 rfl,rfl,by simp[Obj.mapFields,rawInt]⟩ (.update ..)
 refine Ab (Ot hT sl (On sl hT Yl ?_ (Yg _)))
 unfold Builtin.«tuple_iterator.__next__»
 repeat (any_goals (first|assumption|with_reducible refine Yh e1 ?_|with_reducible refine Yh e2 ?_|wp_step))
 have e3:vs[((i:Nat):Int).toNat]?=some u:=hu
 rw[e3]
 exact Ab (Wb e1 rfl (by simp) (Ah ⟨u,rfl,Ah fin⟩))
theorem jlj{h:Heap}{g:Array GenState}{d:Drawn}{t:Nat}{os:OsState}{it a:Addr}{i:Nat}{vs:Array Value}{Q:Value->Shared->Prop}(hh:A.handled=none)(hi:h.IsTupleIter it a i)(ha:h.IsTuple a vs)(hu:vs[i]?=none)
  (q:∀h' e,Heap.ExtBut it h h'->(∃o,h'.get? e=some o/\o.cls=.type "StopIteration")->E (.ref e) ⟨h',g,d,t,os⟩):wpAny (model prog w) A (Builtin.SmallTypes.nextOf (.ref it)) Q E ⟨h,g,d,t,os⟩:=by
 obtain⟨⟨ci,di,dti,si⟩,e1,c1,d1⟩:=id hi
 obtain⟨⟨ca,da,dta,sa⟩,e2,c2,n2,d2⟩:=ha
 dsimp only at c1 d1 c2 d2
 subst c1 d1 c2 d2
 have sl:=PySem.F.slot_tuple_iterator_next
 have hT:(⟨h,g,d,t,os⟩:Shared).TypeIs (.ref it) "tuple_iterator":=hi.typeIs
 have h1:A.in1.handled=none:=hh
 refine Ab (Ot hT sl (On sl hT Yl ?_ (Yg _)))
 unfold Builtin.«tuple_iterator.__next__»
 repeat (any_goals (first|assumption|with_reducible refine Yh e1 ?_|with_reducible refine Yh e2 ?_|wp_step))
 have e3:vs[((i:Nat):Int).toNat]?=none:=hu
 rw[e3]
 refine Ab (wpAny_rule (Ab (Wb e1 rfl (by simp) ?_)))
 unfold Builtin.SmallTypes.stopIteration
 have fm:firstArgMember (.type "StopIteration") []=pure .none:=rfl
 unfold newExc
 repeat (any_goals (first|assumption|rw[fm]|wp_step))
 exact wpAny_raiseNew_none h1 (q _ _ (((Ui ..).extBut.push _).push _) ⟨_,Aw _ rfl,rfl⟩)
theorem jnz(hh:A.handled=none)(it a:Addr)(ne:a≠it)(vs:Array Value):Draws prog w A it [it,a] vs.size (λi v=>vs[i]?=some v) (λi h=>h.IsTupleIter it a i/\h.IsTuple a vs) where
 live:=λ_ _ st=>let⟨o,ho,_⟩:=st.1;⟨o,ho⟩
 frame:=λ_ _ _ st hk=>by
  obtain⟨⟨o,ho,r⟩,⟨o2,ho2,r2⟩⟩:=st
  exact⟨⟨o,hk it (by simp) o ho,r⟩,⟨o2,hk a (by simp) o2 ho2,r2⟩⟩
 item:=λi s Q E hi st hQ=>by
  obtain⟨hp,g,d,t,os⟩:=s
  obtain⟨o2,ho2,r2⟩:=st.2
  exact jla st.1 st.2 (u:=vs[i]) (by simp[hi]) λh' hit' hs'=>hQ _ h' t (by simp[hi]) ⟨hit',⟨o2,(hs'.2 a ne).trans ho2,r2⟩⟩ hs'
 done:=λs Q E st hE=>by
  obtain⟨hp,g,d,t,os⟩:=s
  exact jlj hh st.1 st.2 (by simp) hE
open AutoSeq1 (wpAny_loadPart')in
theorem jn0(a:Addr)(vs:Array Value)(n:Nat)(dct:Option Addr)(sl:Array (Option Value)) :
  Meets (Builtin.«enumerate.__new__» ⟨[.type "enumerate",.ref a],[]⟩) (λ_ R s=>s.heap.get? a=some ⟨.type "tuple",dct,.seq vs n,sl⟩ /\
   R (.ok (.ret (.ref (s.heap.push {cls:=.type "tuple_iterator",data:=.fields #[.ref a,.int 0 0]}).objs.size)))
    {s with heap:=(s.heap.push {cls:=.type "tuple_iterator",data:=.fields #[.ref a,.int 0 0]}).push {cls:=.type "enumerate",data:=.fields #[.none,.bool false,.ref s.heap.objs.size,rawInt 0,.none,.none]}}) :=
 .of_wp λprog w A R s h=>by
  obtain⟨hp,g,d,tk,os⟩:=s;obtain⟨ha,h⟩:=h
  have hsb:=sub_enumerate
  have hT:Heap.IsTuple (Shared.heap ⟨hp,g,d,tk,os⟩) a vs:=⟨_,ha,rfl,n,rfl⟩
  wp_walk using Wr ha
  refine wpAny_stack_any λk=>Ah ?_
  split <;> (try (rename_i c _ _ _ _ _;generalize(c == Value.type "enumerate")=b;cases b)) <;> (wp_walk using Wr ha,wpAny_pyIter_tuple hT) <;> exact⟨_,rfl,h⟩
theorem call_enumT{a:Addr}{vs:Array Value}{Q:Value->Shared->Prop}(ht:s.heap.IsTuple a vs)
  (q:∀h',IsEnum h' (s.heap.objs.size+1) s.heap.objs.size 0 .none->h'.IsTupleIter s.heap.objs.size a 0->(∀b o,s.heap.get? b=some o->h'.get? b=some o)->Q (.ref (s.heap.objs.size+1)) {s with heap:=h'}) :
  wpAny (model prog w) A (call (.type "enumerate") [.ref a]) Q E s:=by
 obtain⟨⟨c,dct,dt,sl⟩,ha,hc,n,hd⟩:=ht
 dsimp only at hc hd
 subst hc hd
 refine callType_new PySem.F.called_enumerate (by decide) (PySem.F.typeCall_enumerate_1 _) (PySem.F.newCall_enumerate_1 _) (λobj=>PySem.F.args_object_init_2 obj _) PySem.F.entry_enumerate_new (jn0 a vs n dct sl) ⟨ha,?_⟩
 have hz:(s.heap.push {cls:=.type "tuple_iterator",data:=.fields #[.ref a,.int 0 0]}).objs.size=s.heap.objs.size+1:=Ov ..
 have he:IsEnum ((s.heap.push {cls:=.type "tuple_iterator",data:=.fields #[.ref a,.int 0 0]}).push {cls:=.type "enumerate",data:=.fields #[.none,.bool false,.ref s.heap.objs.size,rawInt 0,.none,.none]}) (s.heap.objs.size+1) s.heap.objs.size 0 .none:=by
  have e:=Aw (s.heap.push {cls:=.type "tuple_iterator",data:=.fields #[.ref a,.int 0 0]}) (o:={cls:=.type "enumerate",data:=.fields #[.none,.bool false,.ref s.heap.objs.size,rawInt 0,.none,.none]}) rfl
  rw[hz]at e;exact e
 show _/\_
 rw[hz]
 exact⟨⟨_,he,rfl⟩,q _ he ⟨_,Ai _ (Aw _ rfl),rfl,rfl⟩ λb o x=>Ai _ (Ai _ x)⟩
end
def ItE(K:PySem.W.Frag)(a:Addr):It:=⟨λi H=>∃xs x,SqT K H a xs/\xs[i]?=some x,λi H x H'=>∃T y,H T=none/\x=.ref T/\(∀xs,SqT K H a xs->xs[i]?=some y)/\H'=upd H T (.tup [.int (i:Int),y]),λi H=>∃xs,SqT K H a xs/\xs.length=i⟩
theorem jni{P:Program}{w:World}{K:PySem.W.Frag}{elts:List Expr}{kk:Nat}{pos:Pos}(a e it:Addr)(ne:e≠it):Turn P w K (.Tuple elts kk pos) (ItE K a) [e,it] e (λi h=>(∃old,IsEnum h e it i old)/\h.IsTupleIter it a i) where
 mem:=by simp
 obj:=λi h st b hb=>by
  obtain⟨⟨old,he⟩,⟨o,ho,hc,hd⟩⟩:=st
  rcases Ap.mp hb with rfl|hb
  ·exact⟨_,he,λv z=>by cases z⟩
  ·rw[Aj.mp hb]
   exact⟨o,ho,λv z=>by rw[hd]at z;cases z⟩
 keep:=λi h h' st k=>by
  obtain⟨⟨old,he⟩,⟨o,ho,r⟩⟩:=st
  exact⟨⟨old,k e (by simp) _ he⟩,⟨o,k it (by simp) o ho,r⟩⟩
 item:=by
  intro X hP hw hK hc i pins s σ H E I hf st hg
  subst hP hw hK
  obtain⟨xs,x,hq,hx⟩:=hg
  obtain⟨its,rv,p,hz⟩:=I.tuple hq
  obtain⟨u,hu,ru⟩:=rv.get hx
  have fr:∀b∈[e,it],b≠a:=λb hb z=>by
   subst z
   obtain⟨o,eo,hcl⟩:∃o,s.heap.get? b=some o/\o.cls≠.type "tuple":=by
    obtain⟨⟨old,he⟩,⟨o,ho,hc',hd⟩⟩:=st
    rcases Ap.mp hb with rfl|hb
    ·exact⟨_,he,by simp⟩
    ·rw[Aj.mp hb]
     exact⟨o,ho,by rw[hc'];simp⟩
   obtain⟨o2,ho2,hc2,_⟩:=p
   rw[eo]at ho2
   cases ho2
   exact hcl hc2
  have WA:=Wt (jnz (prog:=X.prog) (w:=X.w) (A:=X.A.in1) (show X.A.in1.handled=none from I.ok.hd hc) it a (fr it (by simp)).symm its.toArray) e ne (by simp[ne,fr e (by simp)]) (by simp)
  have hlt:i<its.toArray.size:=by
   rw[Aq]
   exact(Ad.mp hu).1
  refine WA.item i s _ _ hlt ⟨st.1,st.2,p⟩ λT vs h' tk hp hT htup mid kk'=>⟨_,rfl,?_⟩
  have nTw:=WA.apart _ _ _ mid
  refine WA.go _ _ _ i T {s with heap:=h',toks:=tk} _ _ mid λh'' st'' k''=>?_
  have tup':IsTup h'' T vs:=by
   obtain⟨o,eo,r⟩:=htup
   exact⟨o,k'' T o nTw eo,r⟩
  have hv:Vals [V.int (i:Int),x] vs.toList:=by
   obtain⟨t',u',hu',rfl⟩:=hp
   rw[show its.toArray[i]?=some u from by simpa using hu]at hu'
   cases hu'
   exact .cons ⟨t',rfl⟩ (.cons ru .nil)
  refine⟨.ref T,upd H T (.tup [.int (i:Int),x]),?_,rfl,⟨T,x,I.hok.fresh hT,rfl,λys hy=>by rw[I.tuple_inj hy hq];exact hx,rfl⟩,⟨st''.1,st''.2.1⟩,λb hb=>?_⟩
  ·refine I.turnedNew (fp:=[e,it]) (wr:=[e,it]) hf (λb o hb eo=>k'' b o hb (kk' b o hb eo)) hT (by simpa using tup') hv (by show 2<=sizeLine;decide) λb hb=>?_
   obtain⟨⟨old,he⟩,⟨⟨o,ho,_⟩,_⟩⟩:=st''
   rcases Ap.mp hb with rfl|hb
   ·exact⟨_,he⟩
   ·rw[Aj.mp hb];exact⟨o,ho⟩
  ·have hlt:b<s.heap.objs.size:=by
    obtain⟨⟨old,he⟩,⟨o,ho,_⟩⟩:=st
    rcases Ap.mp hb with rfl|hb
    ·exact Ar he
    ·rw[Aj.mp hb];exact Ar ho
   rw[jd (A0 (A2 hlt hT))]
   exact(hf b hb).1
 done:=by
  intro X hP hw hK hc i pins s σ H E I hf st hg
  subst hP hw hK
  obtain⟨xs,hq,hi⟩:=hg
  obtain⟨its,rv,p,hz⟩:=I.tuple hq
  have fr:∀b∈[e,it],b≠a:=λb hb z=>by
   subst z
   obtain⟨o,eo,hcl⟩:∃o,s.heap.get? b=some o/\o.cls≠.type "tuple":=by
    obtain⟨⟨old,he⟩,⟨o,ho,hc',hd⟩⟩:=st
    rcases Ap.mp hb with rfl|hb
    ·exact⟨_,he,by simp⟩
    ·rw[Aj.mp hb]
     exact⟨o,ho,by rw[hc'];simp⟩
   obtain⟨o2,ho2,hc2,_⟩:=p
   rw[eo]at ho2
   cases ho2
   exact hcl hc2
  have WA:=Wt (jnz (prog:=X.prog) (w:=X.w) (A:=X.A.in1) (show X.A.in1.handled=none from I.ok.hd hc) it a (fr it (by simp)).symm its.toArray) e ne (by simp[ne,fr e (by simp)]) (by simp)
  have hn:its.toArray.size=i:=by rw[Aq,<-rv.length];exact hi
  refine WA.done s _ _ (by rw[hn];exact⟨st.1,st.2,p⟩) λh' tk kk'=>⟨rfl,?_⟩
  have nw:∀b u,H b=some u->b∉[e,it]:=λb u eo hb=>by rw[(hf b hb).1]at eo;cases eo
  refine I.step (g':=s.gens) (d':=s.drawn) (ch:=[e,it]) (λb hb=>?_) (λb o _ _ hc e _=>kk' b o hc e) (λb o _ _ hc e _=>⟨o.slots,kk' b o hc e⟩) (λb o hc e n=>n) (λb o hc e=>⟨o,kk' b o hc e⟩)
   (λ_ _ e=>e) (λ_ _ _ e=>e) (λb ps e=>⟨#[],by rw[e];simp⟩) (λm hm=>?_) (λb u e=>?_) I.bare
  ·obtain⟨_,f1,_,f3,f4,f5⟩:=hf b hb
   exact⟨f3,f1,f4,f5⟩
  ·obtain⟨o,es,ep,ho,rr⟩:=hm
   exact⟨o,es,ep,kk' _ o (λz=>(hf _ z).2.1 rfl) ho,rr⟩
  ·refine(I.hok b u e).stay (λd v hd q=>kk' d v ?_ q) (λ_ q=>q) λ_ _ q=>q
   rcases hd with rfl|hd
   ·exact nw _ _ e
   ·exact nw _ _ hd
 self:=λA i s Q E st q=>by
  obtain⟨⟨old,he⟩,_⟩:=st
  exact U7 he q
theorem jq4{K:PySem.W.Frag}{a:Addr}{xs:List V}{g:TG}{tb:TS}{D:Ends}{σ:L2.St}{H:Hp}(Pv:Nat->L2.St->Hp->Prop)(h0:Pv 0 σ H)(hl:∀i σ H,i<=xs.length->Pv i σ H->H a=some (.tup xs))
  (hs:∀i x σ H T,xs[i]?=some x->Pv i σ H->H T=none->g (.ref T) σ (upd H T (.tup [.int (i:Int),x])) λσ2 H2=>tb {D with nx:=Pv (i+1),ct:=Pv (i+1),bk:=D.nx} σ2 H2) (hd:∀σ H,Pv xs.length σ H->D.nx σ H):jcr (ItE K a) g tb D σ H:=by
 refine⟨λi m σ H=>m=xs.length-i/\i<=xs.length/\Pv i σ H,⟨xs.length,by simp,Oc _,h0⟩,?_⟩
 rintro i m σ H ⟨rfl,hi,p⟩
 have q:SqT K H a xs:=SqT.of (hl i σ H hi p)
 by_cases hlt:i<xs.length
 ·refine .inr ⟨⟨xs,xs[i],q,by simp[hlt]⟩,Pv (i+1),λσ' H' p'=>⟨xs.length-(i+1),by omega,rfl,hlt,p'⟩,λx H' y=>?_⟩
  obtain⟨T,y',hT,e1,hy,e2⟩:=y
  subst e1 e2
  exact hs i y' σ H T (hy xs q) p hT
 ·have e:i=xs.length:=by omega
  subst e
  exact .inl ⟨⟨xs,q,rfl⟩,hd σ H p⟩
section
variable{X:Cx}
def jg1(K:PySem.W.Frag)(ta:TA):TI:=λσ H R=>ta σ H λvs H1=>∃a,vs=[.ref a]/\(∃xs,SqT K H1 a xs)/\R (ItE K a) H1
theorem pi_enumT{K:PySem.W.Frag}{a:Expr}{ta:TA}{p pos tpos:Pos}{elts:List Expr}{kk:Nat}(hK:X.K=K)(hg:Gl X "enumerate")(hm:X.mg "enumerate"=none)(ha:PA X [a] ta)(hs:starEach [a] X.env=[(false,eval a X.env)]:=by rfl) :
  PI X (.Tuple elts kk tpos) (.Call (.Name "enumerate" p) [a] [] pos) (jg1 K ta):=by
 subst hK
 intro pins s σ H R I h
 refine Call_ (jdd I hg hm jal (Oj (thn (ha pos pins s σ H _ I h) λus s1 ⟨vs,H1,I1,r1,q1⟩=>?_) hs rfl))
 obtain⟨ad,e,⟨xs,hx⟩,q⟩:=q1
 subst e
 obtain⟨u,rfl,ru⟩:=jc1 r1
 cases ru
 obtain⟨its,rv,pt,hz⟩:=I1.tuple hx
 refine call_enumT (vs:=its.toArray) pt λh' he hi hk=>?_
 have I2:Inv X pins σ H1 {s1 with heap:=h'}:=I1.kept (t':=s1.toks) hk
 refine U7 he ⟨s1.heap.objs.size+1,[s1.heap.objs.size+1,s1.heap.objs.size],_,_,H1,rfl,I2,jni ad (s1.heap.objs.size+1) s1.heap.objs.size (Nat.succ_ne_self _),⟨⟨.none,he⟩,hi⟩,λb hb=>?_,q⟩
 have hb':s1.heap.objs.size<=b:=by
  rcases Ap.mp hb with rfl|hb
  ·omega
  ·rw[Aj.mp hb];exact Ak _
 exact I1.fpOk (H':=H1) hb' (I1.hok.fresh hb')
theorem qpi_enumT{K:PySem.W.Frag}{a:Expr}{ta:TA}{p pos tpos:Pos}{elts:List Expr}{kk:Nat}(hK:X.K=K)(hg:Gl X "enumerate")(hm:X.mg "enumerate"=none)(ha:QA X [a] ta)(hs:starEach [a] X.env=[(false,eval a X.env)]:=by rfl) :
  QI X (.Tuple elts kk tpos) (.Call (.Name "enumerate" p) [a] [] pos) (jg1 K ta):=⟨pi_enumT hK hg hm ha.h hs⟩
end
theorem Inv.walked{X:Cx}{pins:List (Addr×Obj)}{σ:L2.St}{H:Hp}{s:Shared}{h':Heap}{t':Nat}{wr:List Addr}(I:Inv X pins σ H s)(hf:∀b∈wr,FpOk X pins H b)(k:∀b o,b∉wr->s.heap.get? b=some o->h'.get? b=some o) :
  Inv X pins σ H {s with heap:=h',toks:=t'}:=by
 have nw:∀b u,H b=some u->b∉wr:=λb u e hb=>by rw[(hf b hb).1]at e;cases e
 refine I.step (g':=s.gens) (d':=s.drawn) (ch:=wr) (λb hb=>?_) (λb o _ _ hc e _=>k b o hc e) (λb o _ _ hc e _=>⟨o.slots,k b o hc e⟩) (λb o hc e n=>n) (λb o hc e=>⟨o,k b o hc e⟩)
  (λ_ _ e=>e) (λ_ _ _ e=>e) (λb ps e=>⟨#[],by rw[e];simp⟩) (λm hm=>?_) (λb u e=>?_) I.bare
 ·obtain⟨_,f1,_,f3,f4,f5⟩:=hf b hb
  exact⟨f3,f1,f4,f5⟩
 ·obtain⟨o,es,ep,ho,rr⟩:=hm
  exact⟨o,es,ep,k _ o (λz=>(hf _ z).2.1 rfl) ho,rr⟩
 ·refine(I.hok b u e).stay (λd v hd q=>k d v ?_ q) (λ_ q=>q) λ_ _ q=>q
  rcases hd with rfl|hd
  ·exact nw _ _ e
  ·exact nw _ _ hd
section
variable{X:Cx}
def ItF(a:Addr):It:=⟨λi H=>∃xs x,H a=some (.lst xs)/\xs[i]?=some x,λi H v H'=>∃T x,H T=none/\v=.ref T/\(∀xs,H a=some (.lst xs)->xs[i]?=some x)/\H'=upd H T (.tup [.int (i:Int),x]),λi H=>∃xs,H a=some (.lst xs)/\xs.length=i⟩
theorem jng{P:Program}{w:World}{K:PySem.W.Frag}{elts:List Expr}{kk:Nat}{pos:Pos}(a e it:Addr)(ne:e≠it):Turn P w K (.Tuple elts kk pos) (ItF a) [e,it] e (λi h=>(∃old,IsEnum h e it i old)/\h.IsListIter it a i) where
 mem:=by simp
 obj:=λi h st b hb=>by
  obtain⟨⟨old,he⟩,⟨o,ho,hc,hd⟩⟩:=st
  simp only[Ap,Af,Uk]at hb
  rcases hb with rfl|rfl
  ·exact⟨_,he,λv z=>by cases z⟩
  ·exact⟨o,ho,λv z=>by rw[hd]at z;cases z⟩
 keep:=λi h h' st k=>⟨let⟨old,he⟩:=st.1;⟨old,k e (by simp) _ he⟩,let⟨o,ho,r⟩:=st.2;⟨o,k it (by simp) o ho,r⟩⟩
 item:=by
  intro X hP hw hK hc i pins s σ H E I hf st hg
  subst hP hw hK
  obtain⟨xs,x,hq,hx⟩:=hg
  obtain⟨its,rv,p,_⟩:=I.list (SqL.of hq)
  obtain⟨u,hu,ru⟩:=rv.get hx
  have fr:∀b∈[e,it],b≠a:=λb hb z=>by rw[z]at hb;rw[(hf a hb).1]at hq;cases hq
  have W:=Wt (Yw (prog:=X.prog) (w:=X.w) (A:=X.A.in1) (show X.A.in1.handled=none from I.ok.hd hc) it a (fr it (by simp)).symm its.toArray) e ne (by simp[ne,fr e (by simp)]) (by simp)
  have hlt:i<its.toArray.size:=by rw[Aq];exact(Ad.mp hu).1
  refine W.item i s _ _ hlt ⟨st.1,st.2,p.isList⟩ λT vs h' tk hp hT htup mid kk'=>⟨_,rfl,?_⟩
  have nT:=W.apart _ _ _ mid
  refine W.go _ _ _ i T {s with heap:=h',toks:=tk} _ _ mid λh'' st'' k''=>?_
  have tup':IsTup h'' T vs:=let⟨o,eo,r⟩:=htup;⟨o,k'' T o nT eo,r⟩
  have hv:Vals [V.int (i:Int),x] vs.toList:=by
   obtain⟨t',u',hu',rfl⟩:=hp
   rw[show its.toArray[i]?=some u from by simpa using hu]at hu'
   cases hu'
   exact .cons ⟨t',rfl⟩ (.cons ru .nil)
  have live:∀b∈[e,it],∃o,h''.get? b=some o:=λb hb=>by
   obtain⟨⟨old,he⟩,⟨⟨o,ho,_⟩,_⟩⟩:=st''
   simp only[Ap,Af,Uk]at hb
   rcases hb with rfl|rfl
   ·exact⟨_,he⟩
   ·exact⟨o,ho⟩
  refine⟨.ref T,upd H T (.tup [.int (i:Int),x]),?_,rfl,⟨T,x,I.hok.fresh hT,rfl,λys hy=>by rw[hq]at hy;cases hy;exact hx,rfl⟩,⟨st''.1,st''.2.1⟩,λb hb=>?_⟩
  ·exact I.turnedNew (fp:=[e,it]) (wr:=[e,it]) hf (λb o hb eo=>k'' b o hb (kk' b o hb eo)) hT (by simpa using tup') hv (by show 2<=sizeLine;decide) live
  ·have hlt:b<s.heap.objs.size:=by
    obtain⟨⟨old,he⟩,⟨o,ho,_⟩⟩:=st
    simp only[Ap,Af,Uk]at hb
    rcases hb with rfl|rfl
    ·exact Ar he
    ·exact Ar ho
   rw[jd (A0 (A2 hlt hT))]
   exact(hf b hb).1
 done:=by
  intro X hP hw hK hc i pins s σ H E I hf st hg
  subst hP hw hK
  obtain⟨xs,hq,hi⟩:=hg
  obtain⟨its,rv,p,_⟩:=I.list (SqL.of hq)
  have fr:∀b∈[e,it],b≠a:=λb hb z=>by rw[z]at hb;rw[(hf a hb).1]at hq;cases hq
  have W:=Wt (Yw (prog:=X.prog) (w:=X.w) (A:=X.A.in1) (show X.A.in1.handled=none from I.ok.hd hc) it a (fr it (by simp)).symm its.toArray) e ne (by simp[ne,fr e (by simp)]) (by simp)
  have hn:its.toArray.size=i:=by rw[Aq,<-rv.length];exact hi
  exact W.done s _ _ (by rw[hn];exact⟨st.1,st.2,p.isList⟩) λh' tk kk'=>⟨rfl,I.walked hf kk'⟩
 self:=λA i s Q E st q=>let⟨_,he⟩:=st.1;U7 he q
theorem jq3{a:Addr}{xs:List V}{g:TG}{tb:TS}{D:Ends}{σ:L2.St}{H:Hp}(Pv:Nat->L2.St->Hp->Prop)(h0:Pv 0 σ H)(hl:∀i σ H,i<=xs.length->Pv i σ H->H a=some (.lst xs))
  (hs:∀i x σ H T,xs[i]?=some x->Pv i σ H->H T=none->g (.ref T) σ (upd H T (.tup [.int (i:Int),x])) λσ2 H2=>tb {D with nx:=Pv (i+1),ct:=Pv (i+1),bk:=D.nx} σ2 H2) (hd:∀σ H,Pv xs.length σ H->D.nx σ H):jcr (ItF a) g tb D σ H:=by
 refine⟨λi m σ H=>m+i=xs.length/\Pv i σ H,⟨xs.length,rfl,h0⟩,?_⟩
 rintro i m σ H ⟨hm,p⟩
 have q:=hl i σ H (by omega) p
 by_cases hi:i<xs.length
 ·refine .inr ⟨⟨xs,xs[i],q,by simp[hi]⟩,Pv (i+1),λσ' H' p'=>⟨m-1,by omega,by omega,p'⟩,λv H' y=>?_⟩
  obtain⟨T,x,hT,rfl,hx,rfl⟩:=y
  exact hs i x σ H T (hx xs q) p hT
 ·have e:i=xs.length:=by omega
  subst e
  exact .inl ⟨⟨xs,q,rfl⟩,hd σ H p⟩
def jj9(ta:TA):TI:=λσ H R=>ta σ H λvs H1=>∃a xs,vs=[.ref a]/\H1 a=some (.lst xs)/\R (ItF a) H1
theorem qpi_enumF{a:Expr}{ta:TA}{p pos tpos:Pos}{elts:List Expr}{kk:Nat}(hg:Gl X "enumerate")(hm:X.mg "enumerate"=none)(ha:QA X [a] ta)(hs:starEach [a] X.env=[(false,eval a X.env)]:=by rfl) :
  QI X (.Tuple elts kk tpos) (.Call (.Name "enumerate" p) [a] [] pos) (jj9 ta):=by
 refine⟨λpins s σ H R I h=>?_⟩
 refine Call_ (jdd I hg hm jal (Oj (thn (ha.h pos pins s σ H _ I h) λus s1 ⟨vs,H1,I1,r1,q1⟩=>?_) hs rfl))
 obtain⟨ad,xs,rfl,hx,q⟩:=q1
 obtain⟨u,rfl,ru⟩:=jc1 r1
 cases ru
 obtain⟨its,rv,pt,_⟩:=I1.list (SqL.of hx)
 refine call_enumerate_list (items:=its.toArray) pt.isList λh' he hi _ hk=>?_
 have I2:Inv X pins σ H1 {s1 with heap:=h'}:=I1.kept (t':=s1.toks) hk
 refine U7 he ⟨s1.heap.objs.size+1,[s1.heap.objs.size+1,s1.heap.objs.size],_,_,H1,rfl,I2,jng ad (s1.heap.objs.size+1) s1.heap.objs.size (Nat.succ_ne_self _),⟨⟨.none,he⟩,hi⟩,λb hb=>?_,q⟩
 have hb':s1.heap.objs.size<=b:=by
  simp only[Ap,Af,Uk]at hb
  rcases hb with rfl|rfl
  ·exact Nat.le_add_right _ _
  ·exact Ak _
 exact I1.fpOk (H':=H1) hb' (I1.hok.fresh hb')
end
def jfp(ks:Nat->Key)(vs:Nat->Value):Nat->List (Key×Value)
 |0=>[]
 |i+1=>stored (jfp ks vs i) (ks i) (vs i)
theorem je9(ks:Nat->Key)(vs:Nat->Value):∀i,(jfp ks vs i).length<=i
 |0=>Ak 0
 |i+1=>by
  have ih:=je9 ks vs i
  show(stored _ _ _).length<=_
  unfold stored
  split
  ·rw[Ac];omega
  ·rw[A1];simp;omega
section
variable{P:Program}{w:World}{A:Around}{R:Result->Shared->Prop}{I:Addr}{fp wr:List Addr}{n:Nat}{Pv:Nat->Value->Prop}{St:Nat->Heap->Prop}
theorem jj3{h h':Heap}{D:Addr}{kvs:List (Key×Value)}(x:h.DictOf (jcg P w) D kvs)(e:∀o,h.get? D=some o->h'.get? D=some o):h'.DictOf (jcg P w) D kvs :=
 let⟨o,es,ep,h1,r⟩:=x
 ⟨o,es,ep,e _ h1,r⟩
theorem jpa(W:Walks P w A.in1 I fp wr n Pv St)(D:Addr)(hDf:D∉fp)(hu:A.in1.units<cLine)(h0:Heap)(hw0:∀b∈wr,h0.get? b=none)(hD0:h0.get? D=none)(ks:Nat->Key)(bs:Nat->Value)(vs:Nat->Value)
  (hit:∀i v,i<n->Pv i v->∃t o c,v=.ref t/\h0.get? t=some o/\o.cls=.type "tuple"/\o.data=.seq #[bs i,vs i] c) (hkey:∀i,i<n->(jcg P w).is (ks i) (bs i)=true) (hn:n<=sizeLine) :
  ∀(k i:Nat)(s:Shared),n-i=k->i<=n->St i s.heap->s.heap.DictOf (jcg P w) D (jfp ks vs i)->(∀b o,h0.get? b=some o->s.heap.get? b=some o) ->
   (∀h' tk',h'.DictOf (jcg P w) D (jfp ks vs n)->(∀b o,h0.get? b=some o->h'.get? b=some o)->R (.ok (.ret .none)) {s with heap:=h',toks:=tk'}) ->
   codeAny (model P w) A (.builtin "dict.update.loop" ⟨[.ref D,.ref I,rawInt (i:Int),.none],[]⟩) R s:=by
 have hDw:D∉wr:=λh=>hDf (W.sub _ h)
 have base:∀(h h':Heap),(∀b o,h0.get? b=some o->h.get? b=some o)->(∀b o,b∉wr->h.get? b=some o->h'.get? b=some o)->∀b o,h0.get? b=some o->h'.get? b=some o :=
  λh h' k1 k2 b o e=>k2 b o (λz=>by rw[hw0 b z]at e;cases e) (k1 b o e)
 intro k
 induction k with
 |zero =>
  intro i s hk hi hst hd kb hR
  have hin:i=n:=by omega
  subst hin
  refine Ur jj5 ?_
  rw[Ue jez _]
  show wpAny _ A.in1 (pyNext (.ref I) >>= _) _ _ s
  refine Ab (W.done s _ _ hst λh' tk' hm=>?_)
  show wpAny _ A.in1 (Builtin.Dict.addKeywords D [] >>= λ_=>ret Value.none) _ _ _
  refine Ab (Ah (Ah ?_))
  have kb':=base _ _ kb hm
  exact hR h' tk' (jj3 hd (λo e=>hm D o hDw e)) kb'
 |succ k ih =>
  intro i s hk hi hst hd kb hR
  have hin:i<n:=by omega
  refine Ur jj5 ?_
  rw[Ue jez _]
  show wpAny _ A.in1 (pyNext (.ref I) >>= _) _ _ s
  refine Ab (W.item i s _ _ hin hst λv h' tk' hv hst' hm=>?_)
  have kb':=base _ _ kb hm
  obtain⟨t,o,c,rfl,ho,hoc,hod⟩:=hit i v hin hv
  have ho':=kb' _ _ ho
  have hd':=jj3 hd (λo e=>hm D o hDw e)
  refine Ab (Ou ?_)
  refine Ab (wpAny_tryCatch ?_)
  unfold Builtin.Dict.pairItems
  refine Ab (W7 (T:="tuple") ⟨o,ho',hoc⟩ ?_)
  rw[Ao (by decide)]
  refine Ab (Ul ho' hod (Ah ?_))
  show wpAny _ A.in1 (holding [bs i,vs i] (dictSet D (bs i) (vs i))) _ _ _
  have hlen:=je9 ks vs i
  refine Ou (wpAny_dictSet_pairs (hsz:=by omega) (knd:=jcg P w) (hkey i hin) hd' λh2 hd2 hs=>?_)
  refine Ah ⟨Wm jez _,?_⟩
  have kD:∀b o,h0.get? b=some o->b≠D:=λb o e z=>by rw[z,hD0]at e;cases e
  have kb2:∀b o,h0.get? b=some o->h2.get? b=some o:=λb o e=>(hs.2 b (kD b o e)).trans (kb' b o e)
  have e1:rawInt ((i:Int)+1)=rawInt ((i+1:Nat):Int):=by simp
  rw[e1]
  refine ih (i+1) _ (by omega) (by omega) (W.frame _ _ _ hst' λb hb o e=>(hs.2 b (λz=>hDf (z▸hb))).trans e) hd2 kb2 λh3 tk3 hd3 kb3=>?_
  exact hR h3 tk3 hd3 kb3
theorem jo9{E:Value->Shared->Prop}{s:Shared}{Q:Value->Shared->Prop}{l:Addr}{items:Array Value}(hh:A.handled=none)(hu:A.in1.in1.units<cLine)(hl:s.heap.IsList l items)(hnd:∀o,s.heap.get? l=some o->o.dict=none)(ks:Nat->Key)(bs:Nat->Value)(vs:Nat->Value)
  (hit:∀i v,items[i]?=some v->∃t o c,v=.ref t/\s.heap.get? t=some o/\o.cls=.type "tuple"/\o.data=.seq #[bs i,vs i] c) (hkey:∀i,i<items.size->(jcg P w).is (ks i) (bs i)=true) (hn:items.size<=sizeLine)
  (hQ:∀h' tk',h'.DictOf (jcg P w) s.heap.objs.size (jfp ks vs items.size)->(∀b o,s.heap.get? b=some o->h'.get? b=some o)->Q (.ref s.heap.objs.size) {s with heap:=h',toks:=tk'}) :
  wpAny (model P w) A (call (.type "dict") [.ref l]) Q E s:=by
 refine callType_codes (Q₁:=λobj s1=>obj=.ref s.heap.objs.size/\s1={s with heap:=s.heap.push {cls:=.type "dict",data:=.dict #[]}}) F.kt_called_dict (F.kt_typeCall_dict_1 _) F.entry_dict_init (kt_code_dict_new _ ⟨rfl,rfl⟩) λobj s1 hs1=>?_
 obtain⟨rfl,rfl⟩:=hs1
 have hnew:(s.heap.push {cls:=.type "dict",data:=.dict #[]}).DictOf (jcg P w) s.heap.objs.size []:=Heap.DictOf.new s.heap
 have hl1:=hl.push {cls:=.type "dict",data:=.dict #[]}
 refine⟨hnew.typeIs,F.args_dict_init_2 _ _,?_⟩
 unfold Builtin.«dict.__init__»
 refine Ab ?_
 unfold Builtin.Dict.selfAndRest
 refine Ab (wpAny_notOrdered_dict hnew.typeIs ?_)
 refine(show wpAny _ _ (pure (s.heap.objs.size,[Value.ref l])) _ _ _ from Ah ?_)
 show wpAny _ _ (Builtin.Dict.updateFrom "dict.__init__" s.heap.objs.size (.ref l) [] .none) _ _ _
 unfold Builtin.Dict.updateFrom
 refine Ab (W7 hl1.typeIs ?_)
 rw[Ao (by decide)]
 refine Ab ?_
 unfold getAttr?
 refine Ab (wpAny_mkText ?_)
 unfold getAttrBy?
 obtain⟨ol,hol0,hoc,n0,hod⟩:=id hl
 have hol:=Ai {cls:=.type "dict",data:=.dict #[]} hol0
 refine Ab (W3 (jql hol hoc hod (hnd _ hol0) hh λh' tk1 e hx=>?_))
 obtain⟨ob,fs,he,hec,_⟩:=hx.there
 refine Ab (W2 (T:="AttributeError") (b:=true) ⟨ob,he,hec⟩ sub_AttributeError ?_)
 rw[Ao rfl]
 refine Ah ?_
 rw[Ao (show(Option.isNone (none:Option Value))=true from rfl)]
 refine Ab (wpAny_rule ?_)
 have keep1:∀b o,s.heap.get? b=some o->h'.get? b=some o:=λb o e=>hx.keeps _ _ (Ai _ e)
 have hl2:h'.IsList l items:=⟨ol,keep1 _ _ hol0,hoc,n0,hod⟩
 have nov:∀a,s.heap.objs.size<=a->s.heap.get? a=none:=λa ha=>by
  cases q:s.heap.get? a with
  |none=>rfl
  |some o=>exact absurd (Ar q) (Nat.not_lt.mpr ha)
 have hD':h'.DictOf (jcg P w) s.heap.objs.size []:=by
  obtain⟨o,es,ep,q1,q2⟩:=hnew
  exact⟨o,es,ep,hx.keeps _ _ q1,q2⟩
 have hDlt:s.heap.objs.size<h'.objs.size:=by obtain⟨o,_,_,q1,_⟩:=hD';exact Ar q1
 have hllt:l<s.heap.objs.size:=Ar hol0
 refine Ab (U6 hl2 ?_)
 refine Ah ⟨Wm jez _,?_⟩
 have nlI:l≠h'.objs.size:=A0 (W8 hllt hDlt)
 have W:=Walks.list (prog:=P) (w:=w) (A:=A.in1.in1) hh h'.objs.size l nlI items
 refine jpa W s.heap.objs.size (λhm=>?_) hu s.heap (λb hb=>?_) (nov _ (Ak _)) ks bs vs (λi v hi hv=>hit i v hv) hkey hn items.size 0 _ (by omega) (Oc _) ⟨⟨_,Aw _ rfl,rfl,rfl⟩,hl2.push _⟩ ?_ (λb o e=>Ai _ (keep1 b o e)) (λh3 tk3 hd3 kb3=>?_)
 ·rcases Ap.mp hm with q|q
  ·exact A0 hDlt q
  ·exact Uo hllt (Aj.mp q)
 ·rw[Aj.mp hb]
  exact nov _ (W5 hDlt)
 ·obtain⟨o,es,ep,q1,q2⟩:=hD'
  exact⟨o,es,ep,Ai _ q1,q2⟩
 ·exact⟨rfl,hQ h3 tk3 hd3 kb3⟩
end
section
variable{X:Cx}
def PairsK(H:Hp)(ys:List V)(kvs:List (Key×V)):Prop:=Paired (λy (kv:Key×V)=>∃t,y=.ref t/\H t=some (.tup [kV kv.1,kv.2])) ys kvs
def jdh(kvs:List (Key×V)):List (Key×V):=kvs.foldl (λd kv=>putK d kv.1 kv.2) []
theorem PairsK.get:∀{H:Hp}{ys:List V}{kvs:List (Key×V)}{i:Nat}{y:V},PairsK H ys kvs->ys[i]?=some y->∃kv t,kvs[i]?=some kv/\y=.ref t/\H t=some (.tup [kV kv.1,kv.2])
 |_,_,_,i,y,.nil,e=>by simp at e
 |_,_,_,0,y,.cons (b:=kv) ⟨t,q⟩ _,e=>by simp at e;subst e;exact⟨kv,t,rfl,q⟩
 |_,_,_,i+1,y,.cons _ r,e=>by simp at e;obtain⟨kv,t,h⟩:=PairsK.get (kvs:=_) r e;exact⟨kv,t,by simpa using h.1,h.2⟩
def rDictK:List V->Hp->VK->Prop:=λxs H Q=>match xs with
 |[.ref l]=>(∃ys kvs,H l=some (.lst ys)/\PairsK H ys kvs/\∀p,H p=none->Q (.ref p) (upd H p (.dK (jdh kvs))))\/(∃kvs,H l=some (.dK kvs)/\∀p,H p=none->Q (.ref p) (upd H p (.dK kvs)))
 |_=>False
theorem rDictK.of{l:Addr}{H:Hp}{Q:VK}{ys:List V}{kvs:List (Key×V)}(e:H l=some (.lst ys))(h:PairsK H ys kvs)(q:∀p,H p=none->Q (.ref p) (upd H p (.dK (jdh kvs)))):rDictK [.ref l] H Q:=.inl ⟨ys,kvs,e,h,q⟩
theorem jau(hc:X.calm=true)(hu:X.A.units+64<cLine):jcq X (.type "dict") rDictK:=by
 intro pins s σ H xs us Q I r h
 unfold rDictK at h
 split at h
 ·rename_i l
  obtain⟨u,rfl,ru⟩:=jc1 r
  cases ru
  rcases h with⟨ys,kvs,e,hp,q⟩|⟨kvs,e,q⟩
  ·obtain⟨its,rr,pl,hz⟩:=I.list (SqL.of e)
   have hl:ys.length=its.length:=rr.length
   have hlk:ys.length=kvs.length:=Il hp
   have fn:∀i,∃p:Key×Value×Value,i<its.length->∃kv t o c,kvs[i]?=some kv/\p.1=kv.1/\its[i]?=some (.ref t)/\s.heap.get? t=some o/\o.cls=.type "tuple"/\o.data=.seq #[p.2.1,p.2.2] c /\
     RelV (kV kv.1) p.2.1/\RelV kv.2 p.2.2:=by
    intro i
    by_cases hi:i<its.length
    ·have hy:ys[i]?=some (ys[i]'(by omega)):=by simp
     obtain⟨kv,t,h1,h2,h3⟩:=hp.get hy
     obtain⟨u,hu1,hu2⟩:=rr.get hy
     rw[h2]at hu2
     cases hu2
     obtain⟨_,its2,r2,o,q1,q2,n,q3⟩:=(show ObjOk X.prog X.w H s.heap t (.tup [kV kv.1,kv.2])from I.hok t _ h3)
     obtain⟨u1,u2,rfl,ru1,ru2⟩:=r2.two
     exact⟨(kv.1,u1,u2),λ_=>⟨kv,t,o,n,h1,rfl,hu1,q1,q2,q3,ru1,ru2⟩⟩
    ·exact⟨(.inl 0,.none,.none),λz=>absurd z hi⟩
   obtain⟨f,hf⟩:=Classical.skolem.mp fn
   have kt:∀i,i<=its.length->KV (jdh (kvs.take i)) (jfp (λi=>(f i).1) (λi=>(f i).2.2) i):=by
    intro i
    induction i with
    |zero=>intro _;exact .nil
    |succ i ih =>
     intro hi
     obtain⟨kv,t,o,c,h1,h2,h3,h4,h5,h6,h7,h8⟩:=hf i (by omega)
     have e1:jdh (kvs.take (i+1))=putK (jdh (kvs.take i)) kv.1 kv.2:=by
      rw[Yc,h1]
      simp[jdh,Uf]
     rw[e1]
     show KV _ (stored _ _ _)
     rw[<-h2]
     exact(ih (by omega)).put _ h8
   have hs:sizeLine=16777216:=O5
   obtain⟨ol,nl,w1,w2,w3,w4⟩:=id pl
   refine jo9 (P:=X.prog) (w:=X.w) (I.ok.hd hc) (by show X.A.units+1+1<cLine;omega) pl.isList (λo e=>by rw[w1]at e;cases e;exact w3) (λi=>(f i).1) (λi=>(f i).2.1) (λi=>(f i).2.2) (λi v hv=>?_) (λi hi=>?_) (by simpa using(by omega:its.length<=sizeLine)) λh' tk' hd kb=>?_
   ·have hv':its[i]?=some v:=by simpa using hv
    have hi:i<its.length:=(Ad.mp hv').1
    obtain⟨kv,t,o,c,h1,h2,h3,h4,h5,h6,h7,h8⟩:=hf i hi
    rw[h3]at hv'
    cases hv'
    exact⟨t,o,c,rfl,h4,h5,h6⟩
   ·obtain⟨kv,t,o,c,h1,h2,h3,h4,h5,h6,h7,h8⟩:=hf i (by simpa using hi)
    show(jcg X.prog X.w).is (f i).1 (f i).2.1=true
    rw[h2]
    exact jel h7
   ·have kt1:=kt its.length (Ak _)
    rw[O7 (by omega)]at kt1
    have hfl:=je9 (λi=>(f i).1) (λi=>(f i).2.2) its.length
    have hpl:(jdh kvs).length<=sizeLine:=by have:=Il kt1;omega
    have hfr:H s.heap.objs.size=none:=I.hok.fresh (Ak _)
    rw[Aq]at hd
    refine⟨.ref s.heap.objs.size,upd H s.heap.objs.size (.dK (jdh kvs)),I.laid (t':=tk') kb (Ak _) (jet hpl ?_ kt1 hd),rfl,q _ hfr⟩
    have:=I.big
    exact O9.mpr (Uo this)
  ·exact jo8 I (.inl e) λp s' hp I'=>⟨.ref p,_,I',rfl,q p hp⟩
 ·exact h.elim
end
section
abbrev zlO(a:Addr):Obj:={cls:=.type "list_iterator",data:=.fields #[.ref a,.int 0 0]}
structure ZML(h h':Heap)(a b:Addr):Prop where
 z:IsZip h' (h.objs.size+4) (h.objs.size+2) (h.objs.size+3) .none
 ti:IsPair h' (h.objs.size+2) (.ref h.objs.size) (.ref (h.objs.size+1))
 to:IsPair h' (h.objs.size+3) .none .none
 i1:h'.IsListIter h.objs.size a 0
 i2:h'.IsListIter (h.objs.size+1) b 0
 old:∀c o,h.get? c=some o->h'.get? c=some o
def zlH(h:Heap)(a b:Addr):Heap:=((((h.push (zlO a)).push (zlO b)).push {cls:=.type "tuple",data:=.seq #[.ref h.objs.size,.ref (h.objs.size+1)]}).push {cls:=.type "tuple",data:=.seq #[.none,.none]}).push {cls:=.type "zip",data:=.fields #[.none,.bool false,.bool false,.ref (h.objs.size+2),.ref (h.objs.size+3)]}
theorem jsa(h:Heap)(a b:Addr):ZML h (zlH h a b) a b:=by
 have P:∀(k:Heap)(o:Obj){c:Addr}{u:Obj},k.get? c=some u->(k.push o).get? c=some u:=λk o {c u} e=>Ai o e
 have t1:(h.push (zlO a)).objs.size=h.objs.size+1:=by rw[Ov]
 have t2:((h.push (zlO a)).push (zlO b)).objs.size=h.objs.size+2:=by rw[Ov,t1]
 have t3:(((h.push (zlO a)).push (zlO b)).push {cls:=.type "tuple",data:=.seq #[.ref h.objs.size,.ref (h.objs.size+1)]}).objs.size=h.objs.size+3:=by rw[Ov,t2]
 have t4:((((h.push (zlO a)).push (zlO b)).push {cls:=.type "tuple",data:=.seq #[.ref h.objs.size,.ref (h.objs.size+1)]}).push {cls:=.type "tuple",data:=.seq #[.none,.none]}).objs.size=h.objs.size+4:=by rw[Ov,t3]
 unfold zlH
 refine⟨?_,?_,?_,⟨_,P _ _ (P _ _ (P _ _ (P _ _ (Aw _ rfl)))),rfl,rfl⟩,⟨zlO b,?_,rfl,rfl⟩,λc o e=>P _ _ (P _ _ (P _ _ (P _ _ (P _ _ e))))⟩
 ·rw[<-t4];exact Aw _ rfl
 ·rw[<-t2];exact P _ _ (P _ _ (Aw _ rfl))
 ·rw[<-t3];exact P _ _ (Aw _ rfl)
 ·rw[<-t1];exact P _ _ (P _ _ (P _ _ (Aw _ rfl)))
theorem jlf(a b:Addr)(va vb:Array Value) :
  Meets (Builtin.«zip.__new__» ⟨[.type "zip",.ref a,.ref b],[]⟩) (λ_ R s=>s.heap.IsList a va/\s.heap.IsList b vb/\R (.ok (.ret (.ref (s.heap.objs.size+4)))) {s with heap:=zlH s.heap a b}) :=
 .of_wp λprog w A R s h=>by
  obtain⟨hp,g,d,tk,os⟩:=s
  obtain⟨ha,hb,h⟩:=h
  have hsub:=sub_zip
  have hb':(Heap.push hp (zlO a)).IsList b vb:=hb.push _
  have t1:(hp.push (zlO a)).objs.size=hp.objs.size+1:=by rw[Ov]
  have t2:((hp.push (zlO a)).push (zlO b)).objs.size=hp.objs.size+2:=by rw[Ov,t1]
  wp_walk using U6 ha,U6 hb'
  refine⟨_,rfl,?_⟩
  simp only[Ov]
  exact h
theorem call_zipLL{prog:Program}{w:World}{A:Around}{E:Value->Shared->Prop}{s:Shared}{a b:Addr}{va vb:Array Value}{Q:Value->Shared->Prop}(ha:s.heap.IsList a va)(hb:s.heap.IsList b vb)
  (q:∀h',ZML s.heap h' a b->Q (.ref (s.heap.objs.size+4)) {s with heap:=h'}):wpAny (model prog w) A (call (.type "zip") [.ref a,.ref b]) Q E s:=by
 refine callType_new PySem.F.called_zip (by decide) (PySem.F.typeCall_zip_2 _ _) (PySem.F.newCall_zip_2 _ _) (λobj=>PySem.F.args_object_init_3 obj _ _) PySem.F.entry_zip_new (jlf a b va vb) ⟨ha,hb,?_⟩
 have m:=jsa s.heap a b
 exact⟨⟨_,m.z,rfl⟩,q _ m⟩
end
def ItZL(a b:Addr):It:=⟨λi H=>∃xs ys x y,H a=some (.lst xs)/\H b=some (.lst ys)/\xs[i]?=some x/\ys[i]?=some y,
 λi H v H'=>∃T x y,H T=none/\v=.ref T/\(∀xs,H a=some (.lst xs)->xs[i]?=some x)/\(∀ys,H b=some (.lst ys)->ys[i]?=some y)/\H'=upd H T (.tup [x,y]),λi H=>∃xs ys,H a=some (.lst xs)/\H b=some (.lst ys)/\i=min xs.length ys.length⟩
section
variable{P:Program}{w:World}{K:PySem.W.Frag}
def ZTL(a b z TI TO i1 i2:Addr)(i:Nat)(h:Heap):Prop:=IsZip h z TI TO .none/\IsPair h TI (.ref i1) (.ref i2)/\(∃x y,IsPair h TO x y)/\h.IsListIter i1 a i/\h.IsListIter i2 b i
theorem ZTL.tys{a b z TI TO i1 i2:Addr}{i:Nat}{h:Heap}(t:ZTL a b z TI TO i1 i2 i h):∀c∈[z,TI,TO,i1,i2],∃o,h.get? c=some o/\(∀v,o.data≠.cell v):=by
 obtain⟨e0,e1,⟨x,y,e2⟩,⟨o3,e3,_,d3⟩,⟨o4,e4,_,d4⟩⟩:=t
 intro c hc
 simp only[Ap,Af,Uk]at hc
 rcases hc with rfl|rfl|rfl|rfl|rfl
 ·exact⟨_,e0,λv q=>by cases q⟩
 ·exact⟨_,e1,λv q=>by cases q⟩
 ·exact⟨_,e2,λv q=>by cases q⟩
 ·exact⟨_,e3,λv q=>by rw[d3]at q;cases q⟩
 ·exact⟨_,e4,λv q=>by rw[d4]at q;cases q⟩
theorem jmq{z TI TO i1 i2 a b:Addr}(D:ZA z TI TO i1 i2 [i1] [i2])(na:∀d∈[z,TI,TO,i1,i2],d≠a)(nb:∀d∈[z,TI,TO,i1,i2],d≠b):ZA z TI TO i1 i2 [i1,a] [i2,b] :=
 ⟨D.TIz,D.TOz,D.i1z,D.i2z,D.TITO,D.TIi1,D.TIi2,D.TOi1,D.TOi2,D.i12,by simpa using⟨D.i1z.symm,na z (by simp)⟩,by simpa using⟨D.i2z.symm,nb z (by simp)⟩,
  by simpa using⟨D.TOi1,na TO (by simp)⟩,by simpa using⟨D.TOi2,nb TO (by simp)⟩,by simpa using⟨D.i12,nb i1 (by simp)⟩,by simpa using⟨D.i12.symm,na i2 (by simp)⟩⟩
theorem jnl{elts:List Expr}{kk:Nat}{pos:Pos}(a b z TI TO i1 i2:Addr)(D:ZA z TI TO i1 i2 [i1] [i2]):Turn P w K (.Tuple elts kk pos) (ItZL a b) [z,TI,TO,i1,i2] z (ZTL a b z TI TO i1 i2) where
 mem:=by simp
 obj:=λi h st c hc=>st.tys c hc
 keep:=λi h h' st k=>by
  obtain⟨e0,e1,⟨x,y,e2⟩,⟨o3,e3,r3⟩,⟨o4,e4,r4⟩⟩:=st
  exact⟨k z (by simp) _ e0,k TI (by simp) _ e1,⟨x,y,k TO (by simp) _ e2⟩,⟨o3,k i1 (by simp) _ e3,r3⟩,⟨o4,k i2 (by simp) _ e4,r4⟩⟩
 item:=by
  intro X hP hw hK hc i pins s σ H E I hf st hg
  subst hP hw hK
  obtain⟨xs,ys,x',y',hx,hy,gx,gy⟩:=hg
  obtain⟨va,ra,pa,_⟩:=I.list (SqL.of hx)
  obtain⟨vb,rb,pb,_⟩:=I.list (SqL.of hy)
  obtain⟨u,hu,ru⟩:=ra.get gx
  obtain⟨v,hv,rv⟩:=rb.get gy
  have nin:∀c ys,H c=some (.lst ys)->∀d∈[z,TI,TO,i1,i2],d≠c:=λc ys q d hd e=>by
   rw[<-e,(hf d hd).1]at q;cases q
  have h0:X.A.in1.handled=none:=I.ok.hd hc
  have W:=jhq (A:=X.A) (Yw (prog:=X.prog) (w:=X.w) h0 i1 a (nin a xs hx i1 (by simp)).symm va.toArray) (Yw (prog:=X.prog) (w:=X.w) h0 i2 b (nin b ys hy i2 (by simp)).symm vb.toArray) (jmq D (nin a xs hx) (nin b ys hy))
  have la:i<va.toArray.size:=by rw[Aq];exact(Ad.mp hu).1
  have lb:i<vb.toArray.size:=by rw[Aq];exact(Ad.mp hv).1
  refine W.item i s _ _ (by omega) ⟨st.1,st.2.1,st.2.2.1,⟨st.2.2.2.1,pa.isList⟩,⟨st.2.2.2.2,pb.isList⟩⟩ λT vs h' tk hp hT htup mid kk'=>⟨_,rfl,?_⟩
  have nT:=W.apart _ _ _ mid
  refine W.go _ _ _ i T {s with heap:=h',toks:=tk} _ _ mid λh'' st'' k''=>?_
  have tup':IsTup h'' T vs:=let⟨o,eo,r⟩:=htup;⟨o,k'' T o nT eo,r⟩
  have hv':Vals [x',y'] vs.toList:=by
   obtain⟨x1,y1,p1,p2,rfl⟩:=hp
   rw[show va.toArray[i]?=some u from by simpa using hu]at p1
   rw[show vb.toArray[i]?=some v from by simpa using hv]at p2
   cases p1
   cases p2
   exact .cons ru (.cons rv .nil)
  have Z':ZTL a b z TI TO i1 i2 (i+1) h'':=⟨st''.1,st''.2.1,st''.2.2.1,st''.2.2.2.1.1,st''.2.2.2.2.1⟩
  refine⟨.ref T,upd H T (.tup [x',y']),?_,rfl,⟨T,x',y',I.hok.fresh hT,rfl,λzs q=>by rw[hx]at q;cases q;exact gx,λzs q=>by rw[hy]at q;cases q;exact gy,rfl⟩,Z',λc hb=>?_⟩
  ·refine I.turnedNew (fp:=[z,TI,TO,i1,i2]) (wr:=[z,TO,i1,i2]) (λc hb=>hf c (by simp at hb⊢;rcases hb with r|r|r|r <;> simp[r])) (λc o hb eo=>k'' c o hb (kk' c o hb eo)) hT (by simpa using tup') hv' (by show 2<=sizeLine;decide) λc hb=>?_
   obtain⟨o,eo,_⟩:=Z'.tys c (by simp at hb⊢;rcases hb with r|r|r|r <;> simp[r])
   exact⟨o,eo⟩
  ·obtain⟨o,eo,_⟩:=st.tys c hb
   rw[jd (A0 (A2 (Ar eo) hT))]
   exact(hf c hb).1
 done:=by
  intro X hP hw hK hc i pins s σ H E I hf st hg
  subst hP hw hK
  obtain⟨xs,ys,hx,hy,hi⟩:=hg
  obtain⟨va,ra,pa,_⟩:=I.list (SqL.of hx)
  obtain⟨vb,rb,pb,_⟩:=I.list (SqL.of hy)
  have nin:∀c ys,H c=some (.lst ys)->∀d∈[z,TI,TO,i1,i2],d≠c:=λc ys q d hd e=>by
   rw[<-e,(hf d hd).1]at q;cases q
  have h0:X.A.in1.handled=none:=I.ok.hd hc
  have W:=jhq (A:=X.A) (Yw (prog:=X.prog) (w:=X.w) h0 i1 a (nin a xs hx i1 (by simp)).symm va.toArray) (Yw (prog:=X.prog) (w:=X.w) h0 i2 b (nin b ys hy i2 (by simp)).symm vb.toArray) (jmq D (nin a xs hx) (nin b ys hy))
  have hn:min va.toArray.size vb.toArray.size=i:=by rw[Aq,Aq,<-ra.length,<-rb.length];exact hi.symm
  refine W.done s _ _ (by rw[hn];exact⟨st.1,st.2.1,st.2.2.1,⟨st.2.2.2.1,pa.isList⟩,⟨st.2.2.2.2,pb.isList⟩⟩) λh' tk kk'=>⟨rfl,?_⟩
  have hf':∀c∈[z,TO,i1,i2],FpOk X pins H c:=λc hb=>hf c (by simp at hb⊢;rcases hb with r|r|r|r <;> simp[r])
  exact I.walked hf' kk'
 self:=λA i s Q E st q=>wpAny_pyIter_zip st.1 q
end
theorem jq5{a b:Addr}{xs ys:List V}{g:TG}{tb:TS}{D:Ends}{σ:L2.St}{H:Hp}(Pv:Nat->L2.St->Hp->Prop)(h0:Pv 0 σ H)(hl:ys.length=xs.length)(ha:∀i σ H,i<=xs.length->Pv i σ H->H a=some (.lst xs)/\H b=some (.lst ys))
  (hs:∀i x y σ H T,xs[i]?=some x->ys[i]?=some y->Pv i σ H->H T=none->g (.ref T) σ (upd H T (.tup [x,y])) λσ2 H2=>tb {D with nx:=Pv (i+1),ct:=Pv (i+1),bk:=D.nx} σ2 H2) (hd:∀σ H,Pv xs.length σ H->D.nx σ H):jcr (ItZL a b) g tb D σ H:=by
 refine⟨λi m σ H=>m+i=xs.length/\Pv i σ H,⟨xs.length,rfl,h0⟩,?_⟩
 rintro i m σ H ⟨hm,p⟩
 obtain⟨e1,e2⟩:=ha i σ H (by omega) p
 by_cases hi:i<xs.length
 ·refine .inr ⟨⟨xs,ys,xs[i],ys[i],e1,e2,by simp[hi],by simp[hl,hi]⟩,Pv (i+1),λσ' H' p'=>⟨m-1,by omega,by omega,p'⟩,λv H' q=>?_⟩
  obtain⟨T,x,y,hT,rfl,q1,q2,rfl⟩:=q
  exact hs i x y σ H T (q1 xs e1) (q2 ys e2) p hT
 ·have e:i=xs.length:=by omega
  subst e
  exact .inl ⟨⟨xs,ys,e1,e2,by omega⟩,hd σ H p⟩
section
variable{X:Cx}
def jp1(ta:TA):TI:=λσ H R=>ta σ H λvs H1=>∃a b xs ys,vs=[.ref a,.ref b]/\H1 a=some (.lst xs)/\H1 b=some (.lst ys)/\R (ItZL a b) H1
theorem qpi_zipL{a b:Expr}{ta:TA}{p pos tpos:Pos}{elts:List Expr}{kk:Nat}(hg:Gl X "zip")(hm:X.mg "zip"=none)(ha:QA X [a,b] ta)(hs:starEach [a,b] X.env=[(false,eval a X.env),(false,eval b X.env)]:=by rfl)(hs2:starEach [b] X.env=[(false,eval b X.env)]:=by rfl) :
  QI X (.Tuple elts kk tpos) (.Call (.Name "zip" p) [a,b] [] pos) (jp1 ta):=by
 refine⟨λpins s σ H R I h=>?_⟩
 refine Call_ (jdd I hg hm bt_zip (Oj (thn (ha.h pos pins s σ H _ I h) λus s1 ⟨vs,H1,I1,r1,q1⟩=>?_) (by rw[hs,hs2]) (by rw[hs2];rfl)))
 obtain⟨c,d,xs,ys,rfl,ec,ed,q⟩:=q1
 obtain⟨u1,u2,rfl,ru,rv⟩:=jho r1
 cases ru
 cases rv
 obtain⟨va,ra,pa,_⟩:=I1.list (SqL.of ec)
 obtain⟨vb,rb,pb,_⟩:=I1.list (SqL.of ed)
 refine call_zipLL pa.isList pb.isList λh' M=>?_
 have I2:Inv X pins σ H1 {s1 with heap:=h'}:=I1.kept (t':=s1.toks) M.old
 have D:ZA (s1.heap.objs.size+4) (s1.heap.objs.size+2) (s1.heap.objs.size+3) s1.heap.objs.size (s1.heap.objs.size+1) [s1.heap.objs.size] [s1.heap.objs.size+1]:=by
  constructor <;> simp <;> omega
 refine wpAny_pyIter_zip M.z ⟨s1.heap.objs.size+4,_,_,_,H1,rfl,I2,jnl c d _ _ _ _ _ D,⟨M.z,M.ti,⟨_,_,M.to⟩,M.i1,M.i2⟩,λb hb=>?_,q⟩
 have hb':s1.heap.objs.size<=b:=by
  simp only[Ap,Af,Uk]at hb
  rcases hb with rfl|rfl|rfl|rfl|rfl <;> first|exact Ak _|exact Nat.le_add_right _ _
 exact I1.fpOk (H':=H1) hb' (I1.hok.fresh hb')
def jew:V->List V->Hp->VK->Prop:=λx vs H Q=>match x,vs with
 |.ref l,[y]=>∃(xs:List V)(ds:List PyData)(d:PyData)(j:Nat),H l=some (.lst xs)/\Reps H xs ds/\Rep H y d/\PyData.canLayAll0 ds=true/\d.canLay0=true/\PyData.depthAll ds<=40/\(∃e,ds[j]?=some e/\PyData.eqv e d=true) /\
   (∀m e,m<j->ds[m]?=some e->PyData.eqv e d=false)/\Q (.int (j:Int)) H
 |_,_=>False
theorem jao(hu:X.A.units+64<cLine):MtM X "list.index" jew:=by
 intro pins s σ H x vs v us Q I rx rv h
 unfold jew at h
 split at h
 ·rename_i l y
  obtain⟨xs,ds,d,j,e,hr,hy,hcs,hcd,hdp,⟨ej,hj,hit⟩,hno,q⟩:=h
  cases rx
  obtain⟨u,rfl,ru⟩:=rv.one
  obtain⟨z,its,n,r,hl,eo⟩:=I.lstM e
  obtain⟨as,ra⟩:=hr.reads I r
  obtain⟨bs,rb⟩:=hy.reads I ru
  have hm:=SeqAt.readsAll_map ds its as hcs ra
  have hlen:its.length=ds.length:=by rw[<-hm,Ac]
  have hjl:j<ds.length:=(Ad.mp hj).1
  have at':∀m (hm':m<its.toArray.size),ds[m]?=some (SeqAt.readOf s.heap its.toArray[m]):=λm hm'=>by
   rw[<-hm,Ag]
   have:its[m]?=some its.toArray[m]:=by simp
   rw[this]
   rfl
  have hs:sizeLine=16777216:=O5
  have hjs:j<its.toArray.size:=by rw[Aq];omega
  have hxl:xs.length=its.length:=r.length
  have hz:xs.length<=sizeLine:=z
  refine W0 F.slot_list_index ⟨_,eo,rfl⟩ F.entry_list_index (F.args_list_index_2 _ _) (SeqAt.list_indexAt l its.toArray n none #[] u (λy=>PyData.eqv (SeqAt.readOf s.heap y) d) j hjs (by omega) ?_ ?_) ⟨eo,?_,?_⟩
  ·have:=at' j hjs
   rw[hj]at this
   rw[<-Av this]
   exact hit
  ·intro m hm' hlt
   exact hno m _ hlt (at' m hm')
  ·refine SeqAt.items_eqAt (by simpa using ra) rb hcs hcd ?_
   omega
  ·exact⟨.int (j:Int),H,I.tok _,⟨_,rfl⟩,q⟩
 ·exact h.elim
theorem ja7{o i:Expr}{td ty:TE}{pos:Pos}(hu:X.A.units+1<cLine)(ho:QE X o td)(hi:QE X i ty)(hs:NoSl i):QE X (.Subscript o i pos) (jjn td ty):=⟨pe_dget hu ho.h hi.h hs⟩
end
section
variable{X:Cx}{scope:Scope}{Nc:List Str}{js:List (Option Nat)}{elt tg iter:Expr}{pos:Pos}{wi:TI}{g:TG}{te:TE}
def jkw(scope sc:Scope):Scope:={scope with names:=scope.names.map fun(n,k)=>if(k == .free && sc.kind == .function && sc.names.lookup n == some .cell)then(n,.cell)else(n,k)}
end
def setO(L:Bool):Obj:={cls:=.type "set",dict:=none,data:=.set #[] 0 (.fresh 0 0 L)}
section
variable{prog:Program}{w:World}{A:Around}{E:Value->Shared->Prop}{s:Shared}
theorem jpp(a:Value){Q₁:Value->Shared->Prop}(h:Q₁ (.ref s.heap.objs.size) {s with heap:=s.heap.push (setO (!w.params.followText "set-order"))}) :
  codeAny (model prog w) A (.call (.builtin "set.__new__") ⟨[.type "set",a],[]⟩) (wants Q₁ E) s:=by
 have hsub:=sub_set_self
 refine codeAny_of_tree (show wpAny _ A.in1 (do checkBuiltinCall "set.__new__" ⟨[.type "set",a],[]⟩;again (.builtin "set.__new__" ⟨[.type "set",a],[]⟩)) _ _ s from ?_)
 refine Ab (wpAny_of_eq (PySem.F.newCall_set_1 a) (Ah ⟨Wm PySem.F.plain_set_new _,Ur PySem.F.entry_set_new ?_⟩))
 rw[Ue PySem.F.plain_set_new _,Builtin.«set.__new__»,Builtin.Frozenset.newClass]
 obtain⟨hp,g,d,tk,os⟩:=s
 dsimp only
 wp_walk
 refine Wf (Ah ?_)
 show wpAny _ _ (newObj (.type "set") (.set #[] 0 (.fresh 0 0 (!w.params.followText "set-order")))) _ _ _
 unfold newObj
 exact Ab (wpAny_alloc (Ah (Ah h)))
end
theorem sit_next:Slot "set_iterator" "__next__" "set_iterator.__next__":=.of (owner:="set_iterator") (n:="__next__") (by rw[typeLookup_type,Yp];kernel_rfl) (by decide +kernel) (by decide +kernel) (by decide +kernel) (.inl (by decide +kernel)) (by rw[isSubtype_type];kernel_rfl)
theorem jk2:Slot "set_iterator" "__iter__" "set_iterator.__iter__":=.of (owner:="set_iterator") (n:="__iter__") (by rw[typeLookup_type,Yp];kernel_rfl) (by decide +kernel) (by decide +kernel) (by decide +kernel) (.inl (by decide +kernel)) (by rw[isSubtype_type];kernel_rfl)
theorem jot:entryFor table "set_iterator.__next__"=some Builtin.«set_iterator.__next__»:=entryFor_of_tree (by kernel_rfl)
theorem jpr(a:Value):argsOk "set_iterator.__next__" ⟨[a],[]⟩:=by unfold argsOk;kernel_rfl
theorem jos(a:Value):argsOk "set_iterator.__iter__" ⟨[a],[]⟩:=by unfold argsOk;kernel_rfl
theorem jh4:entryFor table "set.__iter__"=some Builtin.«frozenset.__iter__»:=entryFor_alias (id':="frozenset.__iter__") (by kernel_rfl) rfl (by decide +kernel) (by kernel_rfl)
theorem jne:entryFor table "set_iterator.__iter__"=some Builtin.«dict_keyiterator.__iter__»:=entryFor_alias (id':="dict_keyiterator.__iter__") (by kernel_rfl) rfl (by decide +kernel) (by kernel_rfl)
def SIt(h:Heap)(I:Addr)(f:Value)(i:Nat)(a:Addr)(n ep:Nat):Prop:=∃o,h.get? I=some o/\o.cls=.type "set_iterator"/\o.data=.fields #[f,.int i 0,.ref a,.int n 0,.int ep 0]
theorem SIt.ty{s:Shared}{I:Addr}{f:Value}{i:Nat}{a:Addr}{n ep:Nat}(x:SIt s.heap I f i a n ep):s.TypeIs (.ref I) "set_iterator":=let⟨o,h,c,_⟩:=x;⟨o,h,c⟩
section
variable{prog:Program}{w:World}{A:Around}{E:Value->Shared->Prop}{s:Shared}
theorem jk3{I:Addr}{f:Value}{i:Nat}{a:Addr}{n ep:Nat}{Q:Value->Shared->Prop}(x:SIt s.heap I f i a n ep)(h:Q (.ref I) s):wpAny (model prog w) A (pyIter (.ref I)) Q E s:=by
 refine wpAny_pyIter_slot x.ty jk2 (On jk2 x.ty jne ?_ (jos _))
 exact Ah ⟨_,rfl,"set_iterator",_,x.ty,sit_next.lookup,h⟩
theorem SIt.upd{h:Heap}{I:Addr}{f:Value}{i:Nat}{a:Addr}{n ep:Nat}{o:Obj}(g:h.get? I=some o)(c:o.cls=.type "set_iterator")(d:o.data=.fields #[f,.int i 0,.ref a,.int n 0,.int ep 0])(k:Nat)(v:Value) :
  ∃o',(h.update I (Obj.mapFields (·.setIfInBounds k v))).get? I=some o'/\o'.cls=.type "set_iterator"/\o'.data=.fields ((#[f,.int i 0,.ref a,.int n 0,.int ep 0]:Array Value).setIfInBounds k v) :=
 ⟨_,O1 _ g (Yr (Uz d _)),(Obj.cls_mapFields ..).trans c,by rw[Uz d]⟩
theorem jps{B:Around}(hh:B.handled=none){Q:Option Value->Shared->Prop}{R:Fin->Shared->Prop}(h:∀h',(∀b o,s.heap.get? b=some o->h'.get? b=some o)->Q none {s with heap:=h'}) :
  wpAny (model prog w) B.in1 (newExc (.type "StopIteration") [] >>= λe=>(raiseNew e:Sem Fin)) R
   (λe s'=>wpAny (model prog w) B (do if(<-isInstance e (.type "StopIteration"))=true then pure none else throw e) Q E s') s:=by
 refine Ab ?_
 simp only[newExc,newTuple]
 refine Ab (Og ?_ (by size_fits))
 refine Ab (m:=firstArgMember _ _) (wpAny_of_eq (a:=Value.none) (by first|rfl|(simp only[firstArgMember];rfl)) (Og ?_ (by size_fits)))
 simp only[raiseNew]
 refine Ab (wpAny_handled ?_)
 rw[show B.in1.handled=none from hh]
 refine Ab (Ah (wpAny_throw ?_))
 refine Ab (W2 (T:="StopIteration") (b:=true) ⟨_,Aw _ rfl,rfl⟩ isSubtype_stop (Ah ?_))
 exact(h _ λb o e=>Ai _ (Ai _ e))
end
theorem jkh{α:Type}:∀(l:List α)(i:Nat)(x:α),l[i]?=some x->(x::l.eraseIdx i).Perm l
 |[],i,x,h=>by simp at h
 |a::l,0,x,h=>by simp at h;subst h;exact Ye _
 |a::l,i+1,x,h=>by
  rw[List.eraseIdx_cons_succ]
  exact(List.Perm.swap a x _).trans ((jkh l i x (by simpa using h)).cons a)
theorem jb2{α:Type}(f:Nat->Nat):∀(fuel k:Nat)(left:List α)(out:Array α),left.length=fuel->(pickOrder.go f fuel k left out).toList.Perm (out.toList++left)
 |0,k,left,out,h=>by
  rw[Ux.mp h,Ug]
  exact Ye _
 |fuel+1,k,left,out,h=>by
  have hlt:f k%left.length<left.length:=Yx _ (by omega)
  unfold pickOrder.go
  rw[Aa hlt]
  dsimp only
  refine(jb2 f fuel (k+1) _ _ (by rw[List.length_eraseIdx_of_lt hlt];omega)).trans ?_
  rw[Array.toList_push,U5]
  exact List.Perm.append_left _ (jkh left _ _ (Aa hlt))
theorem pick_perm{α:Type}(f:Nat->Nat)(es:Array α):(pickOrder f es).toList.Perm es.toList:=by
 have:=jb2 f es.size 0 es.toList #[] (by simp)
 simpa[pickOrder]using this
section
variable{prog:Program}{w:World}{A:Around}{E:Value->Shared->Prop}{s:Shared}
theorem SIt.keep{h h':Heap}{I:Addr}{f:Value}{i:Nat}{a:Addr}{n ep:Nat}(x:SIt h I f i a n ep)(k:∀o,h.get? I=some o->h'.get? I=some o):SIt h' I f i a n ep:=let⟨o,g,c,d⟩:=x;⟨o,k _ g,c,d⟩
end
section
variable{prog:Program}{w:World}{A:Around}{E:Value->Shared->Prop}{s:Shared}
theorem jpg{r:Addr}{Q:Bool->Shared->Prop}(hT:s.TypeIs (.ref r) "set")(h:Q false s):wpAny (model prog w) A (Builtin.List.listLengthHint (.ref r)) Q E s:=by
 unfold Builtin.List.listLengthHint
 refine Ab (wpAny_specialOf hT PySem.F.slot_set_len.lookup ?_)
 generalize hid:("set.__len__":String)=id0
 wp_delta
 rw[show splitId id0=some ("set","__len__")from by subst hid;decide +kernel]
 subst hid
 refine Ab (W2 (T:="set") (b:=true) hT (by rw[isSubtype_type];kernel_rfl) (I0 (λq=>absurd q (by decide)) (λ_=>?_)))
 refine I0 (λ_=>Ab (W7 hT ?_)) (λq=>absurd (by decide +kernel) q)
 exact Ah h
end
abbrev FZ(o:Obj):HO:=.frz o (.ext λ_=>True)
section
variable{P:Program}{w:World}{H H':Hp}{h h':Heap}{a:Addr}{o:Obj}{cs:List Addr}
theorem FZ.get(x:HOk P w H h)(e:H a=some (FZ o)):h.get? a=some o:=(x a _ e).1
theorem FZ.mk(e:h.get? a=some o):ObjOk P w H h a (FZ o):=⟨e,trivial,⟨o,e⟩,λ_ _ _ _=>trivial⟩
def hideC(H:Hp)(cs:List Addr):Hp:=λb=>if b∈cs then none else H b
def backC(H H':Hp)(cs:List Addr):Hp:=λb=>if b∈cs then H b else H' b
theorem jdw(m:a∈cs):hideC H cs a=none:=Ao m
theorem jcl(m:a∉cs):hideC H cs a=H a:=An m
theorem jm1{u:HO}(e:hideC H cs a=some u):a∉cs/\H a=some u:=by
 by_cases m:a∈cs
 ·rw[jdw m]at e;cases e
 ·exact⟨m,by rwa[jcl m]at e⟩
theorem jda(e:H a=none):hideC H cs a=none:=by unfold hideC;split <;> first|rfl|exact e
theorem jd6(m:a∈cs):backC H H' cs a=H a:=Ao m
theorem jcw(m:a∉cs):backC H H' cs a=H' a:=An m
theorem HOk.hideC(x:HOk P w H h)(fz:∀c∈cs,∃o,H c=some (FZ o)):HOk P w (hideC H cs) h:=λb u q=>by
 obtain⟨_,q'⟩:=jm1 q
 refine(x b u q').stay (λ_ _ _ z=>z) (λc z=>?_) λc xs z=>?_
 ·rw[jcl λm=>by obtain⟨o,e⟩:=fz c m;rw[z]at e;cases e];exact z
 ·rw[jcl λm=>by obtain⟨o,e⟩:=fz c m;rw[z]at e;cases e];exact z
theorem Un.backC{fs:List Addr}(u:Un fs [] (hideC H cs) H' h h')(fz:∀c∈cs,∃o,H c=some (FZ o)):Un fs [] H (backC H H' cs) h h' where
 keep:=λb o e n hb hx=>u.keep b o e (jda n) hb hx
 slot:=λb o e n hb hx=>u.slot b o e (jda n) hb hx
 free:=λb o e n hx=>by
  rw[jcw λm=>by obtain⟨o,z⟩:=fz b m;rw[n]at z;cases z]
  exact u.free b o e (jda n) hx
 there:=u.there
 tups:=λb xs e=>by
  have m:b∉cs:=λm=>by obtain⟨o,z⟩:=fz b m;rw[e]at z;cases z
  rw[jcw m];exact u.tups b xs (by rw[jcl m];exact e)
 frzs:=λb o u' e=>by
  by_cases m:b∈cs
  ·rw[jd6 m];exact e
  ·rw[jcw m];exact u.frzs b o u' (by rw[jcl m];exact e)
 tbls:=λb ps e=>by
  have m:b∉cs:=λm=>by obtain⟨o,z⟩:=fz b m;rw[e]at z;cases z
  obtain⟨more,q⟩:=u.tbls b ps (by rw[jcl m];exact e)
  exact⟨more,by rw[jcw m];exact q⟩
theorem HOk.backC{fs:List Addr}(x:HOk P w H h)(x':HOk P w H' h')(u:Un fs [] (L2.hideC H cs) H' h h')(fz:∀c∈cs,∃o,H c=some (FZ o))(nf:∀c∈cs,c∉fs):HOk P w (backC H H' cs) h':=λb v q=>by
 by_cases m:b∈cs
 ·rw[jd6 m]at q
  obtain⟨o,e⟩:=fz b m
  rw[e]at q
  cases Av q
  exact FZ.mk (u.keep b o (FZ.get x e) (jdw m) (nf b m) (by simp))
 ·rw[jcw m]at q
  have no:∀c∈cs,H' c=none:=λc hc=>by
   obtain⟨o,e⟩:=fz c hc
   exact u.free c o (FZ.get x e) (jdw hc) (by simp)
  refine(x' b v q).stay (λ_ _ _ z=>z) (λc z=>?_) λc xs z=>?_
  ·rw[jcw λhc=>by rw[no c hc]at z;cases z];exact z
  ·rw[jcw λhc=>by rw[no c hc]at z;cases z];exact z
theorem Kp.backC{S:List Addr}(k:Kp S (L2.hideC H cs) H'):Kp S H (backC H H' cs):=by
 refine⟨λb o e n=>?_,λb xs e=>?_,λb o e=>?_⟩
 ·by_cases m:b∈cs
  ·rw[jd6 m];exact e
  ·rw[jcw m];exact k.old b o (by rw[jcl m];exact e) n
 ·by_cases m:b∈cs
  ·rw[jd6 m];exact e
  ·rw[jcw m];exact k.tup b xs (by rw[jcl m];exact e)
 ·by_cases m:b∈cs
  ·exact⟨o,by rw[jd6 m];exact e⟩
  ·rw[jcw m];exact k.dom b o (by rw[jcl m];exact e)
end
structure LamScope(ps fs:List Str)(sc:Scope):Prop where
 kind:sc.kind=.function
 co:sc.isCoroutine=false
 gen:sc.isGenerator=false
 nd:(ps++fs).Nodup
 par:∀x∈ps,sc.names.lookup x=some .local
 nocell:∀y∈sc.names,y.2≠.cell
 fr:∀x∈fs,sc.names.lookup x=some .free
 only:∀x,sc.names.lookup x=some .free->x∈fs
def jmv(P:Program)(w:World)(K:PySem.W.Frag)(mg:Str->Option Value)(base:Heap)(N:List Str)(qual:Str)(scope:Scope)(f:Addr)(cd:Value)(cl:List (Str×Addr))(A:Around)(outer:List Env)(s:Shared)(H:Hp):Cx where
 prog:=P
 w:=w
 K:=K
 mg:=mg
 base:=base
 A:=A.deeper (PySem.W.envX qual scope s.heap.objs.size f cd cl)
 N:=N
 s₀:=s
 H₀:=H
 env:=PySem.W.envX qual scope s.heap.objs.size f cd cl
 outer:=outer
 stack:=PySem.W.envX qual scope s.heap.objs.size f cd cl::outer
 ex:=[]
 calm:=true
 fn:=λ_=>false
 pn:=[]
 xe:=λ_ _=>False
structure Caps(H:Hp)(cl:List (Str×Addr))(fs:List Str)(ws:List V):Prop where
 len:ws.length=fs.length
 at_:∀(i:Nat)(x:Str)(v:V),fs[i]?=some x->ws[i]?=some v->∃c o u,cl.lookup x=some c/\H c=some (FZ o)/\o.data=.cell (some u)/\RelV v u
 has:∀x∈fs,∃c,cl.lookup x=some c
 fz:∀p∈cl,∃o u,H p.2=some (FZ o)/\o.data=.cell u
 inj:∀x y c,cl.lookup x=some c->cl.lookup y=some c->x=y
def CodeZ(H:Hp)(c:Addr)(qual:Str):Prop:=∃oc vs t,H c=some (FZ oc)/\oc.data=.fields vs/\vs[1]?=some (.str qual t)
theorem jmr{α β:Type}:∀{l:List α}{m:List β}{i:Nat}{x:α}{y:β},l[i]?=some x->m[i]?=some y->(l.zip m)[i]?=some (x,y)
 |[],_,_,_,_,h,_=>by simp at h
 |_::_,[],_,_,_,_,h=>by simp at h
 |_::_,_::_,0,_,_,h,h'=>by simp at h h';subst h;subst h';rfl
 |_::l,_::m,i+1,_,_,h,h'=>by
  simp at h h'
  simpa using jmr (l:=l) (m:=m) h h'
theorem jm6{ps:List Str}{us:List Value}(nd:ps.Nodup){i:Nat}{x:Str}{u:Value}(h:ps[i]?=some x)(h':us[i]?=some u):(ps.zip us).reverse.lookup x=some u:=by
 have key:∀(l:List (Str×Value)),(l.map Prod.fst).Nodup->(x,u)∈l->l.lookup x=some u:=by
  intro l
  induction l with
  |nil=>intro _ m;cases m
  |cons q l ih =>
   intro nd m
   obtain⟨y,v⟩:=q
   rw[Ay,Ol]at nd
   rcases Ap.mp m with e|m
   ·cases e;simp[List.lookup]
   ·have:x≠y:=λe=>nd.1 (by rw[<-e];exact Am.mpr ⟨(x,u),m,rfl⟩)
    rw[List.lookup_cons]
    have b:(x == y)=false:=by simpa using this
    rw[b]
    exact ih nd.2 m
 refine key _ ?_ (List.mem_reverse.mpr (Al (jmr h h')))
 rw[List.map_reverse]
 refine(List.reverse_perm _).nodup_iff.mpr ?_
 have:∀(l:List Str)(m:List Value),((l.zip m).map Prod.fst).Sublist l:=by
  intro l
  induction l with
  |nil=>intro m;simp
  |cons y l ih =>
   intro m
   cases m with
   |nil=>simp
   |cons v m=>exact(ih m).cons₂ y
 exact nd.sublist (this ps us)
section
variable{P:Program}{w:World}{K:PySem.W.Frag}{mg:Str->Option Value}{base:Heap}{k:Nat}{f c':Addr}{name qual:Str}{params:Arguments}{body:Expr}{scope:Scope}{pm ct:Value}{ps fs:List Str}{cl:List (Str×Addr)}{sp:Sp}
theorem jqv{A:Around}{outer:List Env}{s:Shared}{h1:Heap}{tk:Tok}{H:Hp}{us:List Value}{vs ws:List V}(S:LamScope ps fs scope)(hd:A.handled=none)(e0:Env0 P w K mg base A outer s H)(hl:vs.length=ps.length)(r:Vals vs us)(cap:Caps H cl fs ws)
  (hns:h1.Ns s.heap.objs.size λy=>(ps.zip us).reverse.lookup y) (hk:∀b o,s.heap.get? b=some o->h1.get? b=some o) :
  Inv (jmv P w K mg base (ps++fs) qual scope f (.ref c') cl A outer s (hideC H (cl.map Prod.snd))) [] (vs.map some++ws.map some) (hideC H (cl.map Prod.snd)) {s with heap:=h1,toks:=tk}:=by
 have fz:∀c∈cl.map Prod.snd,∃o,H c=some (FZ o):=λc hc=>by
  obtain⟨p,hp,rfl⟩:=Am.mp hc
  obtain⟨o,u,e,_⟩:=cap.fz p hp
  exact⟨o,e⟩
 have hok:=HOk.hideC e0.hok fz
 have inC:∀x c,cl.lookup x=some c->c∈cl.map Prod.snd:=λx c e=>Am.mpr ⟨(x,c),O0 e,rfl⟩
 have noA:∀b:Addr,b∉(jmv P w K mg base (ps++fs) qual scope f (.ref c') cl A outer s (hideC H (cl.map Prod.snd))).ex:=λb z=>absurd (show b∈([]:List Addr)from z) (by simp)
 refine⟨⟨e0.mod,S.kind,rfl,rfl,Ak _,cap.inj,λy hy=>?_,λy c z=>(by cases z),λ_=>hd,Around.frames_deeper e0.frames,.inr ⟨rfl,rfl⟩,λb z=>absurd z (noA b),λb o e=>⟨(e0.bs b o e).1,jda (e0.bs b o e).2⟩,e0.bsz,λb _ _=>noA b,λb z=>absurd z (noA b),e0.funs,λb z=>jda (e0.frf b z)⟩,
  rfl,e0.bare,Un.kept hk,⟨_,hns,λi y v q1 q2 q3=>?_⟩,λy c h=>?_,jda (e0.hok.fresh (Ak _)),λy c h=>jdw (inC y c h),λp hp=>absurd (show p∈([]:List (Addr×Obj))from hp) (by simp),hok.kept hk,?_⟩
 ·have hy:scope.names.lookup y=some .cell\/scope.names.lookup y=some .free:=hy
  rcases hy with hy|hy
  ·exact absurd rfl (S.nocell _ (O0 hy))
  ·exact cap.has y (S.only y hy)
 ·have q1:(ps++fs)[i]?=some y:=q1
  by_cases hi:i<ps.length
  ·rw[Ig hi]at q1
   rw[Ig (by rw[Ac];omega),Ag]at q2
   have ha:vs[i]?=some v:=by
    cases e:vs[i]? with
    |none=>rw[e]at q2;cases q2
    |some a=>rw[e]at q2;cases q2;rfl
   obtain⟨u,hu,rv⟩:=r.get ha
   exact⟨u,rv,.inl ⟨S.par y (Al q1),jm6 (S.nd.sublist (List.sublist_append_left _ _)) q1 hu⟩⟩
  ·rw[Ir (by omega)]at q1
   rw[Ir (by rw[Ac];omega),Ac,hl,Ag]at q2
   have ha:ws[i-ps.length]?=some v:=by
    cases e:ws[i-ps.length]? with
    |none=>rw[e]at q2;cases q2
    |some a=>rw[e]at q2;cases q2;rfl
   obtain⟨c,o,u,e1,e2,e3,rv⟩:=cap.at_ _ y v q1 ha
   exact⟨u,rv,.inr ⟨.inr (S.fr y (Al q1)),c,e1,o,hk _ _ (FZ.get e0.hok e2),e3⟩⟩
 ·obtain⟨o,u,e,d⟩:=cap.fz (y,c) (O0 h)
  exact⟨u,o,hk _ _ (FZ.get e0.hok e),d⟩
 ·show(vs.map some++ws.map some).length=(ps++fs).length
  rw[A1,A1,Ac,Ac,hl,cap.len]
theorem jro(S:LamScope ps fs scope)(len:∀vs H Q E,sp vs H Q E->vs.length=ps.length)
  (hbody:∀(vs:List V)(H:Hp)(Q:VK)(E:XK),sp vs H Q E->H f=some (FZ (PySem.W.kla_obj name qual params body scope cl pm c' ct))/\CodeZ H c' qual/\∃ws,Caps H cl fs ws /\
   ∀(A:Around)(outer:List Env)(s:Shared),Room k (A.deeper (PySem.W.envX qual scope s.heap.objs.size f (.ref c') cl)) ->
    ∃t,PE (jmv P w K mg base (ps++fs) qual scope f (.ref c') cl A outer s (hideC H (cl.map Prod.snd))) body t/\t (vs.map some++ws.map some) (hideC H (cl.map Prod.snd)) λv H'=>(∀c∈cl.map Prod.snd,H' c=none)->Q v (backC H H' (cl.map Prod.snd))) :
  FnOk P w K mg base CX0 (k+1) f (PySem.W.kla_fn name qual params body scope cl pm (.ref c') ct) ps sp:=by
 refine⟨len,λA outer s H args us vs Q E hr e0 hb r hsp=>?_⟩
 have hl:=len _ _ _ _ hsp
 obtain⟨hf,⟨oc,vc,tc,hc,hoc,hv1⟩,ws,cap,hb0⟩:=hbody vs H Q E hsp
 have lim:s.heap.NoLimit:=e0.mod.nolimit.keeps λb o e=>(e0.bs b o e).1
 have fz:∀c∈cl.map Prod.snd,∃o,H c=some (FZ o):=λc hc=>by
  obtain⟨p,hp,rfl⟩:=Am.mp hc
  obtain⟨o,u,e,_⟩:=cap.fz p hp
  exact⟨o,e⟩
 refine PySem.W.kla_callFunE hr.depth (FZ.get e0.hok hf) rfl S.co S.gen rfl ⟨c',oc,vc,tc,rfl,FZ.get e0.hok hc,hoc,hv1⟩ (hb _ _ _ _ ?_)
 refine Yu S.nocell (λy hy=>S.par _ (Wp hy).1) (λh1 hns hsb=>⟨lim.fresh _ hsb,?_⟩) S.kind
 show codeAny _ _ (.expr body (PySem.W.envX qual scope s.heap.objs.size f (.ref c') cl)) _ _
 have hk:∀b o,s.heap.get? b=some o->h1.get? b=some o:=λb o e=>hsb.extBut b o (A0 (Ar e)) (Ai _ e)
 obtain⟨t,ht,hq⟩:=hb0 A outer s (hr.deeper _)
 have I:=jqv (f:=f) (c':=c') (qual:=qual) (tk:=s.toks+(ps.zip us).length) S hr.hd e0 hl r cap hns hk
 refine PySem.W.kla_codeExpr (Uj (ht [] _ _ _ _ I hq) (λu s' hs=>?_) λe s' hs=>False.elim hs)
 obtain⟨v,H',J,rv,q⟩:=hs
 have nf:∀c∈cl.map Prod.snd,c∉frs outer:=λc hc z=>by
  obtain⟨o,e⟩:=fz c hc
  rw[e0.frf c z]at e;cases e
 exact⟨v,_,J.os,J.bare,Un.backC J.base fz,HOk.backC e0.hok J.hok J.base fz nf,rv,q λc hc=>by
  obtain⟨o,e⟩:=fz c hc
  exact J.base.free c o (FZ.get e0.hok e) (jdw hc) (by intro z;exact absurd (show c∈([]:List Addr)from z) (by simp))⟩
end
section
variable{X:Cx}
def jhj(P:Program)(w:World)(K:PySem.W.Frag)(mg:Str->Option Value)(base:Heap)(k i:Nat)(t:TA):TE:=λσ H Q=>∃(f:Addr)(o:Obj)(fd:FuncData)(ps:List Str)(sp:Sp),σ[i]?=some (some (.ref f))/\o.data=.func fd /\
 FnOk P w K mg base CX0 k f fd ps sp/\Binds K fd ps []/\t σ H λvs H1=>H1 f=some (FZ o)/\sp vs H1 Q E0
theorem pe_callD{P:Program}{w:World}{K:PySem.W.Frag}{mg:Str->Option Value}{base:Heap}(hP:X.prog=P)(hw:X.w=w)(hK:X.K=K)(hM:X.mg=mg)(hB:X.base=base){k:Nat}{x:Str}{p pos:Pos}{e:Expr}{es:List Expr}{t:TA}(i:Nat)(hr:Room k X.A)(ha:PA X (e::es) t)
  (hN:X.N[i]?=some x:=by rfl) (hv:Vis X.env.scope x:=by first|exact Or.inl rfl|exact Or.inr (Or.inl rfl)|exact Or.inr (Or.inr rfl))
  (hdb:(x == ("__debug__":Str))=false:=by decide) (hcd:(x == ("__classdict__":Str))=false:=by decide) (he:starEach (e::es) X.env=(false,eval e X.env)::starEach es X.env:=by rfl) :
  PE X (.Call (.Name x p) (e::es) [] pos) (jhj P w K mg base k i t):=by
 subst hP;subst hw;subst hK;subst hM;subst hB
 intro pins s σ H Q I h
 obtain⟨f,o,fd,ps,sp,e0,hd,F,hb,h⟩:=h
 refine O3 (thn (jb9 hN hv hdb hcd pins s σ H (λv H'=>v=.ref f/\t σ H' λvs H1=>H1 f=some (FZ o)/\sp vs H1 Q E0) I ⟨_,e0,rfl,h⟩) λu s1 ⟨v,H1,I1,r,hv1,h1⟩=>?_)
 subst hv1
 cases r
 refine callWith_def (o:=o) (fd:=fd) hd (thn (ha pos pins s1 σ H1 _ I1 h1) λus s2 ⟨vs,H2,I2,r2,q1,q2⟩=>⟨FZ.get I2.hok q1,?_⟩) he
 exact jop F hr hb .nil jy I2 r2 (by rw[Ug];exact q2)
def jdb(H:Hp)(cs:List (Addr×Obj)):Hp:=λb=>match cs.lookup b with
 |some o=>some (FZ o)
 |none=>H b
theorem jef{H:Hp}{cs:List (Addr×Obj)}{b:Addr}{o:Obj}(e:cs.lookup b=some o):jdb H cs b=some (FZ o):=by unfold jdb;rw[e]
theorem jcv{H:Hp}{cs:List (Addr×Obj)}{b:Addr}(e:cs.lookup b=none):jdb H cs b=H b:=by unfold jdb;rw[e]
theorem jg4{cs:List (Addr×Obj)}{b:Addr}(h:b∈cs.map Prod.fst):∃o,cs.lookup b=some o:=by
 cases e:cs.lookup b with
 |some o=>exact⟨o,rfl⟩
 |none =>
  obtain⟨p,hp,rfl⟩:=Am.mp h
  have:=List.lookup_eq_none_iff.mp e p hp
  simp at this
theorem jkd{cs:List (Addr×Obj)}{b:Addr}(h:b∉cs.map Prod.fst):cs.lookup b=none:=by
 refine List.lookup_eq_none_iff.mpr λp hp=>?_
 simp only[bne_iff_ne,ne_eq]
 rintro rfl
 exact h (Am.mpr ⟨p,hp,rfl⟩)
theorem Inv.env0C{pins:List (Addr×Obj)}{σ:St}{H:Hp}{s:Shared}{cs:List (Addr×Obj)}(I:Inv X pins σ H s)(hc:∀b o,cs.lookup b=some o->s.heap.get? b=some o/\H b=none/\X.base.get? b=none/\b∉frs X.stack) :
  Env0 X.prog X.w X.K X.mg X.base X.A X.stack s (jdb H cs):=by
 have e:=I.env0
 refine⟨e.frames,e.mod,λb o q=>⟨(e.bs b o q).1,?_⟩,e.bsz,e.funs,λb hb=>?_,λb u q=>?_,e.bare⟩
 ·cases z:cs.lookup b with
  |some o'=>rw[(hc b o' z).2.2.1]at q;cases q
  |none=>rw[jcv z];exact(e.bs b o q).2
 ·cases z:cs.lookup b with
  |some o'=>exact absurd hb (hc b o' z).2.2.2
  |none=>rw[jcv z];exact e.frf b hb
 ·cases z:cs.lookup b with
  |some o' =>
   rw[jef z]at q
   cases Av q
   exact FZ.mk (hc b o' z).1
  |none =>
   rw[jcv z]at q
   have no:∀c,(∃v,H c=some v)->jdb H cs c=H c:=λc ⟨v,hv⟩=>jcv (by
    cases y:cs.lookup c with
    |none=>rfl
    |some o=>rw[(hc c o y).2.1]at hv;cases hv)
   exact(e.hok b u q).stay (λ_ _ _ y=>y) (λc y=>by rw[no c ⟨_,y⟩];exact y) λc xs y=>by rw[no c ⟨_,y⟩];exact y
theorem Un.hideS{fs:List Addr}{P:Program}{w:World}{H H':Hp}{h h':Heap}{cs:List (Addr×Obj)}(u:Un fs [] (jdb H cs) H' h h')(x':HOk P w H' h')(hc:∀b o,cs.lookup b=some o->h.get? b=some o/\H b=none):Un fs [] H (hideC H' (cs.map Prod.fst)) h h':=by
 have out:∀b v,H b=some v->cs.lookup b=none:=λb v e=>by
  cases y:cs.lookup b with
  |none=>rfl
  |some o=>rw[(hc b o y).2]at e;cases e
 have nin:∀b v,H b=some v->b∉cs.map Prod.fst:=λb v e m=>by
  obtain⟨o,y⟩:=jg4 m
  rw[out b v e]at y;cases y
 have kept:∀b o,cs.lookup b=some o->h'.get? b=some o:=λb o z=>FZ.get x' (u.frzs b o _ (jef z))
 refine⟨λb o e n hb hx=>?_,λb o e n hb hx=>?_,λb o e n hx=>?_,u.there,λb xs e=>?_,λb o v e=>?_,λb ps e=>?_⟩
 ·cases z:cs.lookup b with
  |some o' =>
   have:=(hc b o' z).1
   rw[e]at this;cases this
   exact kept b o z
  |none=>exact u.keep b o e (by rw[jcv z];exact n) hb hx
 ·cases z:cs.lookup b with
  |some o' =>
   have:=(hc b o' z).1
   rw[e]at this;cases this
   exact⟨o.slots,kept b o z⟩
  |none=>exact u.slot b o e (by rw[jcv z];exact n) hb hx
 ·cases z:cs.lookup b with
  |some o' =>
   refine jdw (A9 λm=>?_)
   rw[jkd m]at z;cases z
  |none=>exact jda (u.free b o e (by rw[jcv z];exact n) hx)
 ·rw[jcl (nin b _ e)];exact u.tups b xs (by rw[jcv (out b _ e)];exact e)
 ·rw[jcl (nin b _ e)];exact u.frzs b o v (by rw[jcv (out b _ e)];exact e)
 ·obtain⟨more,q⟩:=u.tbls b ps (by rw[jcv (out b _ e)];exact e)
  exact⟨more,by rw[jcl (nin b _ e)];exact q⟩
variable{pins:List (Addr×Obj)}{σ:St}{H:Hp}{s:Shared}
def jlk(σ:St)(H:Hp)(js:List (Nat×Addr))(cs:List (Addr×Obj)):Prop :=
 Paired (fun(j:Nat×Addr) (p:Addr×Obj)=>p.1=j.2/\H j.2=none/\∃v u,σ[j.1]?=some (some v)/\p.2.data=.cell (some u)/\RelV v u) js cs
theorem Inv.cellAt(I:Inv X pins σ H s){i:Nat}{c:Addr}{x:Str}{v:V}(hN:X.N[i]?=some x)(hk:X.env.kindOf x=some .cell)(hf:X.fn x=true)(hl:X.env.cells.lookup x=some c)(e:σ[i]?=some (some v)) :
  ∃o u,s.heap.get? c=some o/\o.data=.cell (some u)/\RelV v u/\H c=none/\X.base.get? c=none/\c∉frs X.stack:=by
 obtain⟨m,hns,loc⟩:=I.loc
 obtain⟨u,rv,lk⟩:=loc i x v hN e (.inr (.inl hk))
 rcases lk with⟨k,_⟩|⟨_,c',e',o,ho,hd⟩
 ·rw[hk]at k;cases k
 ·rw[hl]at e'
  cases Av e'
  have ge:=I.ok.cab x c hf hl
  refine⟨o,u,ho,hd,rv,I.freeC x c hl,Heap.get?_none_of_le (Iv I.ok.bsz ge),λhb=>?_⟩
  rcases Ap.mp (I.stkSub c hb)with z|z
  ·obtain⟨ol,es,ep,e1,e2,_⟩:=hns
   rw[<-z,ho]at e1
   cases Av e1
   rw[hd]at e2;cases e2
  ·obtain⟨_,ob,hob,_⟩:=I.ok.funs.mem z
   exact absurd (Ar hob) (Nat.not_lt.mpr ge)
theorem jjy(I:Inv X pins σ H s):∀{js:List (Nat×Addr)},(∀j∈js,∃x,X.N[j.1]?=some x/\X.env.kindOf x=some .cell/\X.fn x=true/\X.env.cells.lookup x=some j.2)->(∀j∈js,∃v,σ[j.1]?=some (some v)) ->
  ∃cs,jlk σ H js cs/\∀b o,cs.lookup b=some o->s.heap.get? b=some o/\H b=none/\X.base.get? b=none/\b∉frs X.stack
 |[],_,_=>⟨[],.nil,λb o z=>by cases z⟩
 |j::js,h1,h2=>by
  obtain⟨cs,pr,hc⟩:=jjy I (js:=js) (λi hi=>h1 i (.tail _ hi)) λi hi=>h2 i (.tail _ hi)
  obtain⟨x,e1,e2,e3,e4⟩:=h1 j (.head _)
  obtain⟨v,e5⟩:=h2 j (.head _)
  obtain⟨o,u,q1,q2,q3,q4,q5,q6⟩:=I.cellAt e1 e2 e3 e4 e5
  refine⟨(j.2,o)::cs,.cons ⟨rfl,q4,v,u,e5,q2,q3⟩ pr,λb o' z=>?_⟩
  rw[List.lookup_cons]at z
  split at z
  ·rename_i hb
   cases Av z
   have:b=j.2:=by simpa using hb
   subst this
   exact⟨q1,q4,q5,q6⟩
  ·exact hc b o' z
end
theorem jmt{pos pos':Pos}{c:Value}(l:List Value)(h:TriplesOk l){v:Value}(e:codeAmong pos' (l++[rawInt pos.line,rawInt pos.col,c])=some v):codeAmong pos' l=some v\/v=c:=by
 fun_induction TriplesOk l with
 |case1 =>
  simp only[List.nil_append,codeAmong,rawInt]at e
  split at e
  ·exact .inr (Av e).symm
  ·cases e
 |case2 a t b u x rest ih =>
  simp only[List.cons_append,codeAmong]at e⊢
  split at e
  ·rename_i hc;rw[Ao hc];exact .inl e
  ·rename_i hc;rw[An hc];exact ih h e
 |case3 l h1 h2=>exact h.elim
def TabOk(H:Hp)(Pt:Addr)(qual:Str):Prop:=∃ps,H Pt=some (.tbl ps)/\TriplesOk ps.toList/\∀pos cv,codeAmong pos ps.toList=some cv->∃c,cv=.ref c/\CodeZ H c qual
theorem CodeZ.kp{S:List Addr}{H H':Hp}{c:Addr}{qual:Str}(k:Kp S H H')(n:c∉S)(x:CodeZ H c qual):CodeZ H' c qual:=let⟨oc,vs,t,e,r⟩:=x;⟨oc,vs,t,k.old _ _ e n,r⟩
def tLam(Pt:Addr)(qual:Str)(params:Arguments)(body:Expr)(scope:Scope)(cl:List (Str×Addr))(pm:Value):TE:=λσ H Q=>TabOk H Pt qual/\∀f c ct H',H f=none->Kp [Pt] H H'->H' f=some (FZ (PySem.W.kla_obj "<lambda>" qual params body scope cl pm c ct))->CodeZ H' c qual->TabOk H' Pt qual->Q (.ref f) H'
section
variable{X:Cx}
theorem pe_lambda{params:Arguments}{body:Expr}{scope:Scope}{pos:Pos}{c Pt:Addr}{cl:List (Str×Addr)}(hdef:defaultsOf params X.env=([],[]))(hcl:closureFor scope X.env=pure cl)(hcode:X.env.code=.ref c)(hC:PySem.W.CodeHd X.base c Pt)(hbt:X.base.BuiltinsAt X.mg Pt) :
  PE X (.Lambda params body scope pos) (tLam Pt (X.env.qual++"<lambda>") params body scope cl ((X.mg "__name__").getD .none)):=by
 intro pins s σ H Q I h
 obtain⟨⟨ps,hP,ht,hin⟩,h⟩:=h
 have oP:s.heap.get? Pt=some (PySem.W.tabObj ps):=I.hok Pt _ hP
 have hgs:s.heap.Ns mainGlobals X.mg:=I.mod.glob.keeps I.bk
 have hgP:mainGlobals≠Pt:=λq=>by
  obtain⟨o,es,ep,e,hd,_⟩:=hgs
  rw[q,oP]at e;cases e;cases hd
 have hb:s.heap.BuiltinsAt X.mg Pt:=let⟨bm,o,b1,b2,b3,b4,b5,r⟩:=hbt;⟨bm,o,b1,b2,b3,b4,I.bk _ _ b5,r⟩
 have C:=hC.keeps I.bk
 refine PySem.W.kla_eval hdef ?_
 cases hf:codeAmong pos ps.toList with
 |some cv =>
  obtain⟨c',rfl,cz⟩:=hin pos cv hf
  refine PySem.W.kla_makeFunctionHit (mg:=X.mg) hcl I.ok.glob hgs hcode C oP ht hf hb λctv h' tk hk hsz=>?_
  have hf:H h'.objs.size=none:=I.hok.fresh hsz
  have kp:Kp [Pt] H (upd H h'.objs.size (FZ (PySem.W.kla_obj "<lambda>" (X.env.qual++"<lambda>") params body scope cl ((X.mg "__name__").getD .none) c' ctv))):=(Kp.refl [Pt] H).new hf
  have kp0:Kp [] H (upd H h'.objs.size (FZ (PySem.W.kla_obj "<lambda>" (X.env.qual++"<lambda>") params body scope cl ((X.mg "__name__").getD .none) c' ctv))):=(Kp.refl [] H).new hf
  refine⟨.ref h'.objs.size,_,I.laid (t':=tk) (λb u e=>Ai _ (hk b u e)) hsz (FZ.mk (Aw _ rfl)),rfl,h _ c' ctv _ hf kp jb (cz.kp kp0 (by simp)) ⟨ps,kp0.old _ _ hP Af,ht,λp v e=>?_⟩⟩
  obtain⟨c2,e2,z⟩:=hin p v e
  exact⟨c2,e2,z.kp kp0 (by simp)⟩
 |none =>
  refine PySem.W.kla_makeFunction (mg:=X.mg) hcl I.ok.glob hgs hcode C oP ht hf hgP hb λc' ctv h' tk hx hge hlt hrec htb=>?_
  obtain⟨c₂,oc,vs,t,e2,hoc,hd,hv⟩:=hrec
  cases e2
  have lP:Pt<s.heap.objs.size:=Ar oP
  have lt:∀b u,H b=some u->b<s.heap.objs.size:=λb u e=>(I.hok b u e).lt
  have nPc:Pt≠c':=A0 (A2 lP hge)
  have nPf:Pt≠h'.objs.size:=A0 (W8 (A2 lP hge) hlt)
  have ncf:c'≠h'.objs.size:=A0 hlt
  have fC:H c'=none:=I.hok.fresh hge
  have fF:H h'.objs.size=none:=I.hok.fresh (Iv hge (W5 hlt))
  let o1:Obj:=PySem.W.kla_obj "<lambda>" (X.env.qual++"<lambda>") params body scope cl ((X.mg "__name__").getD .none) c' ctv
  let ps':Array Value:=ps++#[rawInt pos.line,rawInt pos.col,.ref c']
  let H':Hp:=upd (upd (upd H Pt (.tbl ps')) c' (FZ oc)) h'.objs.size (FZ o1)
  have eF:H' h'.objs.size=some (FZ o1):=jb
  have eC:H' c'=some (FZ oc):=by show upd _ _ _ c'=_;rw[jd ncf,jb]
  have eP:H' Pt=some (.tbl ps'):=by show upd _ _ _ Pt=_;rw[jd nPf,jd nPc,jb]
  have eO:∀b,b≠Pt->b≠c'->b≠h'.objs.size->H' b=H b:=λb n1 n2 n3=>by show upd _ _ _ b=_;rw[jd n3,jd n2,jd n1]
  have eS:∀b,b<s.heap.objs.size->b≠Pt->H' b=H b:=λb l n=>eO b n (A0 (A2 l hge)) (A0 (W8 (A2 l hge) hlt))
  have kp:Kp [Pt] H H':=by
   refine⟨λb o e n=>?_,λb xs e=>?_,λb o e=>?_⟩
   ·rw[eS b (lt b _ e) (by simpa using n)];exact e
   ·rw[eS b (lt b _ e) (λz=>by rw[z,hP]at e;cases e)];exact e
   ·by_cases z:b=Pt
    ·exact⟨_,by rw[z];exact eP⟩
    ·exact⟨o,by rw[eS b (lt b _ e) z];exact e⟩
  have kept:∀b o,b≠Pt->s.heap.get? b=some o->(h'.push o1).get? b=some o:=λb o n e=>Ai _ (hx b o n e)
  have un:Un (frs X.stack) [] H H' s.heap (h'.push o1):=by
   refine⟨λb o e n _ _=>kept b o (λz=>by rw[z,hP]at n;cases n) e,λb o e n _ _=>⟨o.slots,kept b o (λz=>by rw[z,hP]at n;cases n) e⟩,λb o e n _=>?_,λb o e _=>?_,λb xs e=>kp.tup b xs e,λb o u e=>?_,λb qs e=>?_⟩
   ·rw[eS b (Ar e) (λz=>by rw[z,hP]at n;cases n)];exact n
   ·by_cases z:b=Pt
    ·exact⟨_,by rw[z];exact Ai _ htb⟩
    ·exact⟨o,kept b o z e⟩
   ·exact kp.old b _ e (by simp;intro z;rw[z,hP]at e;cases e)
   ·by_cases z:b=Pt
    ·subst z
     rw[hP]at e
     cases Av e
     exact⟨_,eP⟩
    ·exact⟨#[],by rw[eS b (lt b _ e) z,e];simp⟩
  have hok:HOk X.prog X.w H' (h'.push o1):=λb u q=>by
   by_cases z1:b=h'.objs.size
   ·subst z1
    rw[eF]at q
    cases Av q
    exact FZ.mk (Aw _ rfl)
   ·by_cases z2:b=c'
    ·subst z2
     rw[eC]at q
     cases Av q
     exact FZ.mk (Ai _ hoc)
    ·by_cases z3:b=Pt
     ·subst z3
      rw[eP]at q
      cases Av q
      exact Ai _ htb
     ·rw[eO b z3 z2 z1]at q
      refine(I.hok b u q).stay (λd v hd' e=>kept d v ?_ e) (λd e=>?_) λd xs e=>kp.tup d xs e
      ·rcases hd' with rfl|hd'
       ·exact z3
       ·intro z;rw[z,hP]at hd';cases hd'
      ·exact kp.old d _ e (by simp;intro z;rw[z,hP]at e;cases e)
  have nC:∀c2,(∃o,H c2=some (FZ o))->c2∉[Pt]:=λc2 ⟨o,e⟩ m=>by
   rw[Aj.mp m,hP]at e;cases e
  refine⟨.ref h'.objs.size,H',I.call (g':=s.gens) (d':=s.drawn) (t':=tk) (ch:=[]) un hok I.bare (λb z=>absurd z (by simp)),rfl,h _ c' ctv H' fF kp eF ⟨oc,vs,t,eC,hd,hv⟩ ⟨ps',eP,?_,λp v e=>?_⟩⟩
  ·have hl:ps'.toList=ps.toList++[rawInt pos.line,rawInt pos.col,.ref c']:=by simp[ps']
   rw[hl];exact TriplesOk_snoc _ _ _ _ ht
  ·have hl:ps'.toList=ps.toList++[rawInt pos.line,rawInt pos.col,.ref c']:=by simp[ps']
   rw[hl]at e
   rcases jmt _ ht e with e|rfl
   ·obtain⟨c2,e2,z⟩:=hin p v e
    exact⟨c2,e2,z.kp kp (nC c2 (let⟨oc,_,_,q,_⟩:=z;⟨oc,q⟩))⟩
   ·exact⟨c',rfl,oc,vs,t,eC,hd,hv⟩
end
theorem jqh{h:Heap}{c P:Addr}{ps:Array Value}(C:PySem.W.CodeHd h c P)(e:h.get? P=some (PySem.W.tabObj ps)):isCodeTable h P:=(C.tab e).isCodeTable
theorem jof{P:Program}{w:World}{K:PySem.W.Frag}{mg mb:Str->Option Value}{CX:CXT}{k:Nat}{fa a:Addr}{fd:FuncData}{x:Str}{sp:Sp}{s₁:Shared}{vs:List Value}{ns:List Int}{ts:List Addr}
  (KX:K.In s₁.heap) (hns:s₁.heap.Ns mainGlobals mg) (hb:s₁.heap.Ns builtinsNs mb) (hbb:∀x:Str,x≠"__name__"->mb x=bootBuiltins x) (hlim:s₁.heap.NoLimit) (hg:s₁.gens=#[])
  (ha:s₁.heap.get? a=some {cls:=.type "list",data:=.seq vs.toArray}) (hi:IntsAre vs ns) (hl:ns.length<=sizeLine) (hr:Room k callerA)
  (hts:∀t∈ts,s₁.heap.get? t=some (PySem.W.tabObj #[])) (hcd:∀t∈ts,∃c,PySem.W.CodeHd s₁.heap c t) (hKt:∀t∈ts,K.lookup t=none) (hbm:∀t∈ts,s₁.heap.BuiltinsAt mg t)
  (F:∀base:Heap,K.In base->base.Ns mainGlobals mg->(∀t∈ts,base.BuiltinsAt mg t)->FnOk P w K mg base CX k fa fd [x] sp) (hbind:∀(s:Shared)(u:Value),BindsTo s fd ⟨[u],[]⟩ [(x,u)])
  (hsp:∀H:Hp,SqL K H a (ns.map V.int)->(∀t∈ts,H t=some (.tbl #[]))->sp [.ref a] H (λv _=>v=.bl true) λ_ _ _=>False)
  (hCX:∀H e s',CX [] H s₁ (λ_ _ _=>False) e s'->False) :
  codeAny (model P w) callerA (.call (.ref fa) ⟨[.ref a],[]⟩) (λr s'=>r=.ok (.ret (.bool true))/\OldK s₁.heap s'.heap/\s'.os=s₁.os/\AllBare s'.gens) s₁:=by
 have rv:=jjb hi
 have lenV:=hi.length
 have naT:a∉ts:=λm=>by
  have:=hts a m
  rw[ha]at this
  cases this
 have core:∀H:Hp,(∀b,H b=none\/(∃o xs,H b=some (.frz o (.lst xs)))\/b∈ts)->(∀t∈ts,H t=some (.tbl #[]))->SqL K H a (ns.map V.int)->HOk P w H s₁.heap->(∀b,H b≠none->b=a\/b∈ts)->(H a≠none->K.lookup a=none) ->
   codeAny (model P w) callerA (.call (.ref fa) ⟨[.ref a],[]⟩) (λr s'=>r=.ok (.ret (.bool true))/\OldK s₁.heap s'.heap/\s'.os=s₁.os/\AllBare s'.gens) s₁:=by
  intro H hO hT hS hok hA hK
  have base_of:∀{b:Addr}{o:Obj},s₁.heap.get? b=some o->H b=none->(hidT s₁.heap H).get? b=some o:=λe n=>jpf e n
  have noB:∀{b:Addr}{o:Obj},s₁.heap.get? b=some o->(∀vs n,o.data≠.seq vs n)->(∀vs,o.data≠.fields vs)->H b=none:=fun{b o} e d1 d2=>by
   cases q:H b with
   |none=>rfl
   |some u =>
    rcases hA b (by rw[q];simp)with e'|e'
    ·subst e'
     rw[ha]at e;cases e
     exact absurd rfl (d1 _ _)
    ·rw[hts b e']at e;cases e
     exact absurd rfl (d2 _)
  have nsK:∀{b:Addr}{m:Str->Option Value},s₁.heap.Ns b m->(hidT s₁.heap H).Ns b m:=fun{b m} ⟨o,es,ep,e,d,r⟩=>⟨o,es,ep,base_of e (noB e (by rw[d];nofun) (by rw[d];nofun)),d,r⟩
  have hKb:K.In (hidT s₁.heap H):=λb o e=>base_of (KX b o e) (by
   cases q:H b with
   |none=>rfl
   |some u =>
    rcases hA b (by rw[q];simp)with e'|e'
    ·subst e'
     rw[hK (by rw[q];simp)]at e;cases e
    ·rw[hKt b e']at e;cases e)
  have hBb:∀t∈ts,(hidT s₁.heap H).BuiltinsAt mg t:=λt ht=>let⟨bm,o,b1,b2,b3,b4,b5,b6,b7,b8⟩:=hbm t ht
   ⟨bm,o,b1,b2,b3,b4,base_of b5 (noB b5 (by rw[b8];nofun) (by rw[b8];nofun)),b6,b7,b8⟩
  have hM:Mod K mg (hidT s₁.heap H):=⟨hKb,nsK hns,⟨mb,nsK hb,hbb⟩,let⟨mc,h1,h2⟩:=hlim;⟨mc,nsK h1,h2⟩⟩
  have e0:Env0 P w K mg (hidT s₁.heap H) callerA [] s₁ H:=⟨rfl,hM,λb o e=>jq8 e,Nat.le_of_eq (jn8 _ _),trivial,λb hb=>absurd (show b∈([]:List Addr)from hb) (by simp),hok,.of_eq hg⟩
  refine Wx ((F _ hKb (nsK hns) hBb).run callerA [] s₁ H ⟨[.ref a],[]⟩ [.ref a] [.ref a] _ _ hr e0 (hbind s₁ (.ref a)) (.cons rfl .nil) (hsp H hS hT)) λr s' h=>?_
  cases r with
  |error e=>exact(hCX H e s' h).elim
  |ok fl =>
   cases fl with
   |next=>exact False.elim h
   |brk=>exact False.elim h
   |cont=>exact False.elim h
   |ret u =>
    obtain⟨v,H',os,bare,un,hok',r',q⟩:=h
    have q':v=.bl true:=q
    subst q'
    obtain rfl:u=Value.bool true:=r'
    have grown:∀b∈ts,∃ps,s'.heap.get? b=some (PySem.W.tabObj ps):=λb m=>by
     obtain⟨more,e⟩:=un.tbls b #[] (hT b m)
     exact⟨_,hok' b _ e⟩
    have keep:∀b o,b∉ts->s₁.heap.get? b=some o->s'.heap.get? b=some o:=λb o m e=>by
     cases q:H b with
     |none=>exact un.keep b o e q (by intro z;exact absurd (show b∈([]:List Addr)from z) (by simp)) (by simp)
     |some u =>
      rcases hO b with z|⟨ob,xs,z⟩|z
      ·rw[q]at z;cases z
      ·have z2:=un.frzs b ob _ z
       obtain⟨e1,_⟩:=hok b _ z
       obtain⟨e2,_⟩:=hok' b _ z2
       rw[e]at e1;cases e1
       exact e2
      ·exact absurd z m
    refine⟨rfl,⟨λb o e=>?_,λb o e=>?_⟩,os,bare⟩
    ·by_cases m:b∈ts
     ·obtain⟨c,hc⟩:=hcd b m
      obtain⟨ps,hP⟩:=grown b m
      have e2:=hts b m
      rw[e]at e2
      cases Av e2
      exact .inr (.inl ⟨jqh hc (hts b m),rfl,#[],ps,rfl,by rw[Array.empty_append];exact hP⟩)
     ·exact .inl (keep b o m e)
    ·by_cases m:b∈ts
     ·obtain⟨ps,hP⟩:=grown b m
      exact⟨_,hP⟩
     ·exact⟨o,keep b o m e⟩
 cases hk:K.lookup a with
 |some o =>
  have e:=KX a o hk
  rw[ha]at e
  cases e
  refine core (λb=>if b∈ts then some (.tbl #[])else none) (λb=>?_) (λt m=>Ao m) (.inr ⟨_,vs.toArray,_,hk,rfl,rfl,rfl,by rw[Aq,lenV];exact hl,by simpa using rv⟩) (λb u z=>?_) (λb z=>?_) λz=>absurd (An naT) z
  ·by_cases m:b∈ts
   ·exact .inr (.inr m)
   ·exact .inl (An m)
  ·by_cases m:b∈ts
   ·have z':=(Ao m).symm.trans z
    cases z'
    exact hts b m
   ·have z':=(An m).symm.trans z
    cases z'
  ·by_cases m:b∈ts
   ·exact .inr m
   ·exact absurd (An m) z
 |none =>
  refine core (λb=>if b∈ts then some (.tbl #[])else if b=a then some (.frz {cls:=.type "list",data:=.seq vs.toArray} (.lst (ns.map V.int)))else none) (λb=>?_) (λt m=>Ao m) (.inl (.inr ⟨{cls:=.type "list",data:=.seq vs.toArray},(An naT).trans (Ao rfl)⟩)) (λb u z=>?_) (λb z=>?_) λ_=>hk
  ·by_cases m:b∈ts
   ·exact .inr (.inr m)
   ·by_cases hb:b=a
    ·exact .inr (.inl ⟨_,_,(An m).trans (Ao hb)⟩)
    ·exact .inl ((An m).trans (An hb))
  ·by_cases m:b∈ts
   ·have z':=(Ao m).symm.trans z
    cases z'
    exact hts b m
   ·by_cases hb:b=a
    ·have z':=((An m).trans (Ao hb)).symm.trans z
     cases z'
     subst hb
     exact⟨ha,by rw[Ac];exact hl,vs,_,rv,ha⟩
    ·have z':=((An m).trans (An hb)).symm.trans z
     cases z'
  ·by_cases m:b∈ts
   ·exact .inr m
   ·by_cases hb:b=a
    ·exact .inl hb
    ·exact absurd ((An m).trans (An hb)) z
theorem walk_ofT{l:PySem.W.OpenLaw}{n k:Nat}{q:Program}{loose:List Str}{XP:(Str->Option Value)->Heap->Prop}{YP:World->Heap->Prop}{d:DefRec}{K:Params->PySem.W.Frag}{CX:World->CXT}{sp:World->Sp}{x:Str}{ts:List Addr}
  (hn:l.most=some n) (hn2:n<=sizeLine) (hdf:d.params.defaults=[]) (hr:Room k callerA)
  (hY:∀(w:World)(h:Heap),YP w h->(K w.params).In h) (hT:∀(w:World)(h:Heap),YP w h->∀t∈ts,h.get? t=some (PySem.W.tabObj #[]))
  (hC:∀(w:World)(h:Heap),(K w.params).In h->∀t∈ts,∃c,PySem.W.CodeHd h c t) (hN:∀w:World,∀t∈ts,(K w.params).lookup t=none)
  (F:∀(w:World)(mg:Str->Option Value)(fa:Addr)(h:Heap),(K w.params).In h->h.Ns mainGlobals mg->mg d.name=some (.ref fa) ->
   ∃fd:FuncData,(∀(s:Shared)(u:Value),BindsTo s fd ⟨[u],[]⟩ [(x,u)]) /\
    ∀base:Heap,(K w.params).In base->base.Ns mainGlobals mg->(∀t∈ts,base.BuiltinsAt mg t)->FnOk l.prog w (K w.params) mg base (CX w) k fa fd [x] (sp w))
  (hsp:∀(w:World)(H:Hp)(a:Addr)(ns:List Int),ns.length<=n->SqL (K w.params) H a (ns.map V.int)->(∀t∈ts,H t=some (.tbl #[]))->sp w [.ref a] H (λv _=>v=.bl true) λ_ _ _=>False)
  (hCX:∀(w:World)(H:Hp)(s:Shared)(e:Value)(s':Shared),CX w [] H s (λ_ _ _=>False) e s'->False) :
  PySem.W.WalkO q loose XP YP l.row.toRowW d [] (λf vs=>PySem.call f vs):=by
 refine Att.attach_call hn hdf λw s₀ s₁ mg mb fa o pm cd doc a vs ns G Y ho hd hcd hmg hobj hints hlen hg=>?_
 have KX:=hY w _ Y
 have TX:=hT w _ Y
 obtain⟨fd,hb,hF⟩:=F w mg fa _ KX G.T.g hmg
 refine jof (ts:=ts) KX G.T.g G.T.b G.T.builtins G.T.nolimit hg hobj hints (Iv hlen hn2) hr TX (hC w _ KX) (hN w) (λt ht=>?_) hF hb (λH hS hT=>hsp w H a ns hlen hS hT) λH e s'=>hCX w H s₁ e s'
 obtain⟨bm,ob,b1,b2,b3,b4,b5,b6⟩:=G.T.bmain
 refine⟨bm,ob,b1,b2,λq=>?_,λq=>?_,b3,b4,b5,b6⟩
 ·obtain⟨o,es,ep,e,hd,_⟩:=G.T.g
  rw[q,e]at b3;cases b3;rw[hd]at b6;cases b6
 ·rw[q,TX t ht]at b3;cases b3;cases b4
section
variable{X:Cx}{o i:Expr}{td ty:TE}{pos:Pos}
theorem qpe_callD{P:Program}{w:World}{K:PySem.W.Frag}{mg:Str->Option Value}{base:Heap}(hP:X.prog=P)(hw:X.w=w)(hK:X.K=K)(hM:X.mg=mg)(hB:X.base=base){k:Nat}{x:Str}{p pos:Pos}{e:Expr}{es:List Expr}{t:TA}(i:Nat)(hr:Room k X.A)(ha:QA X (e::es) t)
  (hN:X.N[i]?=some x:=by rfl) (hv:Vis X.env.scope x:=by first|exact Or.inl rfl|exact Or.inr (Or.inl rfl)|exact Or.inr (Or.inr rfl))
  (hdb:(x == ("__debug__":Str))=false:=by decide) (hcd:(x == ("__classdict__":Str))=false:=by decide) (he:starEach (e::es) X.env=(false,eval e X.env)::starEach es X.env:=by rfl) :
  QE X (.Call (.Name x p) (e::es) [] pos) (jhj P w K mg base k i t):=⟨pe_callD hP hw hK hM hB i hr ha.h hN hv hdb hcd he⟩
theorem qpe_lambda{params:Arguments}{body:Expr}{scope:Scope}{pos:Pos}{c Pt:Addr}{cl:List (Str×Addr)}{qual:Str}{pm:Value}(hq:X.env.qual++"<lambda>"=qual)(hpm:(X.mg "__name__").getD .none=pm)(hcode:X.env.code=.ref c)(hC:PySem.W.CodeHd X.base c Pt)(hbt:X.base.BuiltinsAt X.mg Pt)
  (hdef:defaultsOf params X.env=([],[]):=by rfl) (hcl:closureFor scope X.env=pure cl:=by rfl):QE X (.Lambda params body scope pos) (tLam Pt qual params body scope cl pm):=by
 subst hq;subst hpm
 exact⟨pe_lambda hdef hcl hcode hC hbt⟩
structure QPP(X:Cx)(pos:Pos)(keys:List (Option Expr))(values:List Expr)(trs:List (TE×TE)):Prop where
 h:PPs X pos keys values trs
theorem qpps_nil{pos:Pos}:QPP X pos [] [] []:=⟨pps_nil⟩
theorem qpps_cons{pos:Pos}{k v:Expr}{ks:List (Option Expr)}{vs:List Expr}{tk tv:TE}{trs:List (TE×TE)}(hk:QE X k tk)(hv:QE X v tv)(hr:QPP X pos ks vs trs):QPP X pos (some k::ks) (v::vs) ((tk,tv)::trs):=⟨pps_cons hk.h hv.h hr.h⟩
theorem qpe_disp{pos:Pos}{keys:List (Option Expr)}{values:List Expr}{trs:List (TE×TE)}(h:QPP X pos keys values trs)(hall:keys.all (·.isSome)=true:=by rfl)(hl:keys.length=values.length:=by rfl)(h0:keys≠[]:=by nofun)(h15:keys.length<=15:=by decide):QE X (.Dict keys values pos) (jfu trs):=⟨pe_disp h.h hall hl h0 h15⟩
end
theorem Fun.okC{P:Program}{w:World}{K:PySem.W.Frag}{mg:Str->Option Value}{base:Heap}{x qual:Str}{st:Stmt}{f:Addr}{fd:FuncData}{N ps:List Str}{k:Nat}{sp:Sp}(F:Fun K x qual st f fd)(S:FnScope N ps (jf st))(len:∀vs H Q E,sp vs H Q E->vs.length=ps.length)
  (hbody:∀(A:Around)(outer:List Env)(s:Shared)(H:Hp)(vs:List V)(Q:VK)(E:XK),Room k (A.deeper (envOfC qual (jf st) s.heap.objs.size f fd.code))->sp vs H Q E ->
   ∃t,PSs (cxOf CX0 P w K mg base N qual (jf st) f fd.code A outer s H E).nox (jz st) t/\t {nx:=λ_ H'=>Q .non H',rt:=Q} (start N vs) H):FnOk P w K mg base CX0 (k+1) f fd ps sp:=by
 obtain⟨oc,od,kV,doc,pm,an,cdv,ct,osl,rfl,lk,hcd⟩:=F.ex
 refine jmz lk hcd S len λA outer s H vs Q E hr hsp=>?_
 obtain⟨t,h,q⟩:=hbody A outer s H vs Q E hr hsp
 exact⟨t,h.nox,q⟩
theorem Caps.kp{S:List Addr}{H H':Hp}{cl:List (Str×Addr)}{fs:List Str}{ws:List V}(k:Kp S H H')(n:∀p∈cl,p.2∉S)(c:Caps H cl fs ws):Caps H' cl fs ws :=
 ⟨c.len,λi x v e1 e2=>let⟨a,o,u,h1,h2,h3,h4⟩:=c.at_ i x v e1 e2;⟨a,o,u,h1,k.old _ _ h2 (n (x,a) (O0 h1)),h3,h4⟩,c.has,λp hp=>let⟨o,u,e,d⟩:=c.fz p hp;⟨o,u,k.old _ _ e (n p hp),d⟩,c.inj⟩
theorem TabOk.kp{S:List Addr}{H H':Hp}{Pt:Addr}{qual:Str}(k:Kp S H H')(n:Pt∉S)(hc:∀c o,H c=some (FZ o)->c∉S)(x:TabOk H Pt qual):TabOk H' Pt qual :=
 let⟨ps,e,t,h⟩:=x
 ⟨ps,k.old _ _ e n,t,λp v q=>let⟨c,e2,z⟩:=h p v q;⟨c,e2,z.kp k (let⟨oc,_,_,q,_⟩:=z;hc c oc q)⟩⟩
section
variable{X:Cx}{o e f:Expr}{apos cpos:Pos}{td ty tx:TE}
def jhl:TE:=λ_ H Q=>∀p,H p=none->Q (.ref p) (upd H p (.dK []))
theorem pe_disp0{pos:Pos}:PE X (.Dict [] [] pos) jhl:=by
 intro pins s σ H Q I q
 have hn:=I.hok.fresh (Ak s.heap.objs.size)
 have I1:=I.laid (a:=s.heap.objs.size) (o:=.dK []) (h':=s.heap.push {cls:=.type "dict",data:=.dict #[]}) (t':=s.toks) (λ_ _ q=>Ai _ q) (Ak _) (jj4 s.heap I.big)
 exact wpAny_Dict_empty ⟨.ref s.heap.objs.size,_,I1,rfl,q _ hn⟩
theorem jbl{pos:Pos}:QE X (.Dict [] [] pos) jhl:=⟨pe_disp0⟩
def jhk(td ty tx:TE):TE:=λσ H Q=>td σ H λx H1=>∃a,x=.ref a/\IsD H1 a/\ty σ H1 λy H2=>tx σ H2 λz H3=>∃kvs k,H3 a=some (.dK kvs)/\y=kV k/\kvs.length<sizeLine /\
 (∀v,valV kvs k=some v->Q v H3)/\(valV kvs k=none->Q z (upd H3 a (.dK (putK kvs k z))))
theorem pe_dset(ho:PE X o td)(he:PE X e ty)(hf:PE X f tx)(m:M2 X o "setdefault" apos e f cpos):PE X (.Call (.Attribute o "setdefault" apos) [e,f] [] cpos) (jhk td ty tx):=by
 intro pins s σ H Q I h
 refine wpAny_Call_method m.base m.few m.line PySem.F.plainAttrs_dict PySem.F.slot_dict_setdefault PySem.F.type_dict_setdefault (thn (ho pins s σ H _ I h) λu s1 ⟨x,H1,I1,rx,a,ex,d,q1⟩=>?_)
 subst ex
 obtain rfl:u=Value.ref a:=rx
 obtain⟨t1,t2,_⟩:=jrr I1 d
 refine⟨t1,t2,?_⟩
 rw[m.trees]
 refine Yj rfl (Calls.evalArgs_plain (Wo (thn (he pins s1 σ H1 _ I1 q1) λiv s2 ⟨y,H2,I2,ry,q2⟩ =>
  Wo (thn (hf pins s2 σ H2 _ I2 q2) λfv s3 ⟨z,H3,I3,rz,kvs,k,ea,ey,hl,q3,q4⟩=>Yf ?_))))
 subst ey
 obtain⟨zz,hd,vs,rel,dd⟩:=jjf I3.hok ea
 have hz:vs.length<=sizeLine:=by rw[<-rel.length];exact zz
 refine call_meetsIn PySem.F.slot_dict_setdefault dd.typeIs PySem.F.entry_dict_setdefault (PySem.F.args_dict_setdefault_3 _ _ _) (kt_meets_setdefault (jcg X.prog X.w) a (jel ry) hd fv) ⟨vs,dd,hz,λv hv=>?_,λhn h' dd' hs=>?_⟩
 ·cases l:valV kvs k with
  |none =>
   have:=rel.val k
   rw[l,hv]at this
   cases this
  |some v' =>
   obtain⟨w',hw,rw'⟩:=RelO.some_of (v:=v') (o:=valueAt vs k) (by rw[<-l];exact rel.val k)
   rw[hv]at hw
   cases hw
   exact⟨v',H3,I3.tok _,rw',q3 v' l⟩
 ·have ln:valV kvs k=none:=by
   cases l:valV kvs k with
   |none=>rfl
   |some v' =>
    obtain⟨w',hw,_⟩:=RelO.some_of (v:=v') (o:=valueAt vs k) (by rw[<-l];exact rel.val k)
    rw[hn]at hw;cases hw
  have hlp:(putK kvs k z).length<=sizeLine:=by have:=jdf kvs k z;omega
  have he':∃q,h'.get? a=some q:=let⟨q,_,_,hq,_⟩:=dd';⟨q,hq⟩
  exact⟨z,_,jer I3 (by rw[ea];exact True.intro) hs he' (jet hlp hd (rel.put k rz) dd'),rz,q4 ln⟩
theorem qpe_dset(ho:QE X o td)(he:QE X e ty)(hf:QE X f tx)(m:M2 X o "setdefault" apos e f cpos):QE X (.Call (.Attribute o "setdefault" apos) [e,f] [] cpos) (jhk td ty tx):=⟨pe_dset ho.h he.h hf.h m⟩
end
structure FunD(K:PySem.W.Frag)(x qual:Str)(st:Stmt)(f:Addr)(fd:FuncData)(td:Addr):Prop where
 ex:∃(oc:Value)(od:Option Addr)(kV doc pm:Value)(an:Option Addr)(cdv ct:Value)(osl:Array (Option Value)),
  fd=PySem.W.fnOf x qual (j3 st) (jz st) (jf st) (.ref td) kV doc pm an cdv ct/\K.lookup f=some ⟨oc,od,.func fd,osl⟩/\PySem.W.codeIn K cdv qual=true
 kp:PySem.W.keepIn K (.ref f)=true
section
variable{P:Program}{w:World}{K:PySem.W.Frag}{mg:Str->Option Value}{base:Heap}{x qual:Str}{st:Stmt}{f td:Addr}{fd:FuncData}{N ps:List Str}{k:Nat}{sp:Sp}
theorem FunD.ok(F:FunD K x qual st f fd td)(S:FnScope N ps (jf st))(len:∀vs H Q E,sp vs H Q E->vs.length=ps.length)
  (hbody:∀(cdv:Value)(A:Around)(outer:List Env)(s:Shared)(H:Hp)(vs:List V)(Q:VK)(E:XK),Room k (A.deeper (envOfC qual (jf st) s.heap.objs.size f cdv))->sp vs H Q E ->
   ∃t,PSs (cxOf CX0 P w K mg base N qual (jf st) f cdv A outer s H E).nox (jz st) t/\t {nx:=λ_ H'=>Q .non H',rt:=Q} (start N vs) H):FnOk P w K mg base CX0 (k+1) f fd ps sp:=by
 obtain⟨oc,od,kV,doc,pm,an,cdv,ct,osl,rfl,lk,hcd⟩:=F.ex
 refine jmz lk hcd S len λA outer s H vs Q E hr hsp=>?_
 obtain⟨t,h,q⟩:=hbody cdv A outer s H vs Q E hr hsp
 exact⟨t,h.nox,q⟩
theorem FunD.binds{ds:List Value}{o:Obj}{items:Array Value}{n:Nat}(F:FunD K x qual st f fd td)(lk:K.lookup td=some o)(hs:o.data=.seq items n)
  (h:∀(kV doc pm:Value)(an:Option Addr)(cdv ct:Value)(us:List Value),(us++ds).length=ps.length->∃g,bindArgs (PySem.W.fnOf x qual (j3 st) (jz st) (jf st) (.ref td) kV doc pm an cdv ct) ⟨us,[]⟩=(seqItems? (.ref td) >>= g)/\g (some items)=pure (ps.zip (us++ds))):Binds K fd ps ds:=by
 obtain⟨oc,od,kV,doc,pm,an,cdv,ct,osl,rfl,_,_⟩:=F.ex
 intro s us hK hl
 obtain⟨g,h1,h2⟩:=h kV doc pm an cdv ct us hl
 exact BindsTo.of_defaults (T:=td) rfl (hK _ _ lk) hs h1 h2
theorem jqs{oc:Value}{od an:Option Addr}{osl:Array (Option Value)}{kV doc pm cdv ct:Value}(l:K.lookup f=some ⟨oc,od,.func (PySem.W.fnOf x qual (j3 st) (jz st) (jf st) (.ref td) kV doc pm an cdv ct),osl⟩)
  (c:PySem.W.codeIn K cdv qual=true) (k:PySem.W.keepIn K (.ref f)=true):FunD K x qual st f (PySem.W.fnOf x qual (j3 st) (jz st) (jf st) (.ref td) kV doc pm an cdv ct) td:=⟨⟨oc,od,kV,doc,pm,an,cdv,ct,osl,rfl,l,c⟩,k⟩
end
section
variable{X:Cx}{pins:List (Addr×Obj)}{σ:St}{H:Hp}{s:Shared}
theorem Inv.thaw{d:Addr}{o:Obj}{u:HO}(I:Inv X pins σ H s)(e:H d=some (.frz o u))(n0:∀o u,X.H₀ d≠some (.frz o u)):Inv X pins σ (upd H d u) s:=by
 have ne:∀b v,H b=v->(∀o u,v≠some (.frz o u))->b≠d:=λb v q n z=>n o u (by rw[<-q,z,e])
 have stay:∀{b:Addr}{v:HO},ObjOk X.prog X.w H s.heap b v->ObjOk X.prog X.w (upd H d u) s.heap b v:=λx=>x.stay (λ_ _ _ q=>q) (λc q=>by rw[jd (ne c _ q (λ_ _ z=>nomatch z))];exact q) λc xs q=>by rw[jd (ne c _ q (λ_ _ z=>nomatch z))];exact q
 refine⟨I.ok,I.os,I.bare,⟨I.base.keep,I.base.slot,λb ob q n hx=>?_,I.base.there,λb xs q=>?_,λb ob v q=>?_,λb ps q=>?_⟩,I.loc,I.cell,?_,λx c q=>?_,λp hp=>?_,λb v q=>?_,I.len⟩
 ·have:=I.base.free b ob q n hx
  rw[jd (ne b _ this (λ_ _ z=>nomatch z))];exact this
 ·have:=I.base.tups b xs q
  rw[jd (ne b _ this (λ_ _ z=>nomatch z))];exact this
 ·rw[jd (λz=>n0 ob v (by rw[<-z];exact q))];exact I.base.frzs b ob v q
 ·obtain⟨more,this⟩:=I.base.tbls b ps q
  exact⟨more,by rw[jd (ne b _ this (λ_ _ z=>nomatch z))];exact this⟩
 ·rw[jd (ne _ _ I.free (λ_ _ z=>nomatch z))];exact I.free
 ·have:=I.freeC x c q
  rw[jd (ne _ _ this (λ_ _ z=>nomatch z))];exact this
 ·obtain⟨h1,h2,h3⟩:=I.pin p hp
  exact⟨h1,by rw[jd (ne _ _ h2 (λ_ _ z=>nomatch z))];exact h2,h3⟩
 ·by_cases hb:b=d
  ·subst hb
   rw[jb]at q
   cases q
   exact stay (show ObjOk X.prog X.w H s.heap b (.frz o u)from I.hok b _ e).2
  ·rw[jd hb]at q
   exact stay (I.hok b v q)
def jjt(H0:Hp)(t:TS):TS:=λD σ H=>∃d,(∀o u,H0 d≠some (.frz o u))/\t {D with nx:=λσ' H'=>∃o u,H' d=some (.frz o u)/\D.nx σ' (upd H' d u)} σ H
theorem ps_thaw{st:Stmt}{t:TS}(h:PS X st t):PS X st (jjt X.H₀ t):=by
 intro pins s σ H D I ⟨d,n0,q⟩
 refine thn (h pins s σ H _ I q) λfl s' hs=>?_
 cases fl with
 |next=>obtain⟨σ',H',I',o,u,e,q'⟩:=hs;exact⟨σ',upd H' d u,I'.thaw e n0,q'⟩
 |_=>exact hs
theorem jbx{st:Stmt}{t:TS}(h:QS X st t):QS X st (jjt X.H₀ t):=⟨ps_thaw h.h⟩
end
def ItK(d:Addr)(kvs:List (Key×V))(o:Obj):It:=⟨λi H=>i<kvs.length/\H d=some (.frz o (.dK kvs)),λi H x H'=>H'=H/\∃kv,kvs[i]?=some kv/\x=kV kv.1,λi H=>kvs.length<=i/\H d=some (.frz o (.dK kvs))⟩
theorem jmw{P:Program}{w:World}{H:Hp}{h:Heap}{d:Addr}{o:Obj}{kvs:List (Key×V)}(ok:HOk P w H h)(e:H d=some (.frz o (.dK kvs))) :
  h.get? d=some o/\(d == sysModules)=false/\o.ExactDict/\∃es ep,o.data=.dict es ep/\es.size=kvs.length/\∀(i:Nat)(kv:Key×V),kvs[i]?=some kv->∃en,es[i]?=some en/\RelV (kV kv.1) en.key:=by
 obtain⟨g,z,y,vs,r,o',es,ep,q1,q2,q3,q4,q5,q6⟩:=(show ObjOk P w H h d (.frz o (.dK kvs))from ok d _ e)
 rw[g]at q1
 cases q1
 have two:∀{kvs:List (Key×V)}{vs:List (Key×Value)}{l:List DictEntry},KV kvs vs->Pairs (jcg P w) l vs->l.length=kvs.length/\∀(i:Nat)(kv:Key×V),kvs[i]?=some kv->∃en,l[i]?=some en/\RelV (kV kv.1) en.key:=by
  intro kvs vs l r
  induction r generalizing l with
  |nil=>intro p;cases p;exact⟨rfl,λi kv e=>by simp at e⟩
  |cons h _ ih =>
   intro p
   cases p with
   |cons h1 _ t =>
    obtain⟨i1,i2⟩:=ih t
    refine⟨by simp[i1],λi kv e=>?_⟩
    cases i with
    |zero =>
     simp at e
     subst e
     refine⟨_,rfl,?_⟩
     rw[h.1]
     rcases jcp h1 with⟨j,t,e1,e2⟩|⟨x,t,e1,e2⟩
     ·rw[e1,e2];exact⟨t,rfl⟩
     ·rw[e1,e2];exact⟨t,rfl⟩
    |succ i=>simp at e;obtain⟨en,a,b⟩:=i2 i kv e;exact⟨en,by simpa using a,b⟩
 obtain⟨h1,h2⟩:=two r q5
 exact⟨g,y,q2,es,ep,q3,by simpa using h1,λi kv e=>by obtain⟨en,a,b⟩:=h2 i kv e;exact⟨en,by simpa using a,b⟩⟩
theorem jrg{P:Program}{w:World}{K:PySem.W.Frag}{tg:Expr}(d it:Addr)(kvs:List (Key×V))(o:Obj)(es:Array DictEntry)(ep:Nat)(hdo:o.data=.dict es ep)(hes:es.size=kvs.length):Turn P w K tg (ItK d kvs o) [it] it (λi h=>h.IsKeyIter it d i es.size ep) where
 mem:=by simp
 obj:=λi h st b hb=>by
  cases Aj.mp hb
  obtain⟨oi,e,c,q⟩:=st
  exact⟨oi,e,λv z=>by rw[q]at z;cases z⟩
 keep:=λi h h' st k=>st.at λo e=>k it (by simp) o e
 item:=by
  intro X hP hw hK hc i pins s σ H E I hf st hg
  subst hP hw hK
  obtain⟨g,_,_,es',ep',q3,_,all⟩:=jmw I.hok hg.2
  rw[hdo]at q3
  cases q3
  obtain⟨kv,hkv⟩:∃kv,kvs[i]?=some kv:=⟨kvs[i]'hg.1,by simp⟩
  obtain⟨en,h1,h2⟩:=all i kv hkv
  obtain⟨f0,f1,f2,f3,f4,f5⟩:=hf it (by simp)
  refine jqw st g hdo h1 λh' st' sb=>?_
  have I1:Inv X pins σ H {s with heap:=h'}:=I.turned (t':=s.toks) (λb o hb e=>(sb.2 b hb).trans e) f0 f1 f3 f4 f5
  obtain⟨oi,ei,c,q⟩:=id st'
  exact⟨en.key,rfl,jfq (s:={s with heap:=h'}) ei c q (by decide) ⟨kV kv.1,H,I1,h2,⟨rfl,kv,hkv,rfl⟩,st',λb hb=>(hf b hb).1⟩⟩
 done:=by
  intro X hP hw hK hc i pins s σ H E I hf st hg
  subst hP hw hK
  obtain⟨g,_⟩:=jmw I.hok hg.2
  obtain⟨f0,f1,f2,f3,f4,f5⟩:=hf it (by simp)
  have hi:=hg.1
  exact jrs (I.ok.hd hc) st g hdo (by omega) λh' eb=>⟨rfl,I.turned (t':=s.toks) (λb o hb e=>eb b o hb e) f0 f1 f3 f4 f5⟩
 self:=λ_ _ _ _ _ st h=>wpAny_pyIter_keyiter st h
section
variable{X:Cx}{tg:Expr}
def rDK(x:V)(H1:Hp)(R:It->Hp->Prop):Prop:=∃d kvs,x=.ref d/\((H1 d=some (.dK kvs)/\∀o,R (ItK d kvs o) (upd H1 d (.frz o (.dK kvs))))\/∃o,H1 d=some (.frz o (.dK kvs))/\R (ItK d kvs o) H1)
def iDK(ta:TE):TI:=λσ H R=>ta σ H λx H1=>rDK x H1 R
theorem pi_dK{l:Expr}{tl:TE}(hl:PE X l tl):PI X tg l (iDK tl):=by
 intro pins s σ H R I h
 refine thn (hl pins s σ H _ I h) λv s1 ⟨x,H1,I1,r1,d,kvs,ex,q1⟩=>?_
 subst ex
 cases r1
 have fin:∀(H2:Hp)(o:Obj),Inv X pins σ H2 s1->H2 d=some (.frz o (.dK kvs))->R (ItK d kvs o) H2->wpAny (model X.prog X.w) X.A (pyIter (.ref d)) (PIE X pins σ tg R) X.xe s1:=by
  intro H2 o I2 e q
  obtain⟨g,hS,q2,es,ep,q3,hes,_⟩:=jmw I2.hok e
  refine jqx hS g q2 q3 ⟨s1.heap.objs.size,[s1.heap.objs.size],_,_,H2,rfl,I2.kept (t':=s1.toks) λb o e=>Ai _ e,jrg d _ kvs o es ep q3 hes,⟨_,Aw _ rfl,rfl,rfl⟩,λb hb=>?_,q⟩
  cases Aj.mp hb
  exact I2.fpOk (Ak _) (I2.hok.fresh (Ak _))
 rcases q1 with⟨e,q1⟩|⟨o,e,q1⟩
 ·obtain⟨z,hS,vs,r,o,es,ep,w1,w2⟩:=(show ObjOk X.prog X.w H1 s1.heap d (.dK kvs)from I1.hok d _ e)
  exact fin (upd H1 d (.frz o (.dK kvs))) o (I1.write (t':=s1.toks) (x:=d) (e:=d) (by rw[e];exact True.intro) (.inl rfl) (λb u _ q=>q) ⟨o,w1⟩ ⟨w1,z,hS,vs,r,o,es,ep,w1,w2⟩) jb (q1 o)
 ·exact fin H1 o I1 e q1
theorem jbu{l:Expr}{tl:TE}(hl:QE X l tl):QI X tg l (iDK tl):=⟨pi_dK hl.h⟩
end
theorem jhx{d:Addr}{kvs:List (Key×V)}{o:Obj}{g:TG}{tb:TS}{D:Ends}{σ:L2.St}{H:Hp}(Pv:Nat->L2.St->Hp->Prop)(h0:Pv 0 σ H)(hl:∀i σ H,i<=kvs.length->Pv i σ H->H d=some (.frz o (.dK kvs)))
  (hs:∀i kv σ H,kvs[i]?=some kv->Pv i σ H->g (kV kv.1) σ H λσ2 H2=>tb {D with nx:=Pv (i+1),ct:=Pv (i+1),bk:=D.nx} σ2 H2) (hd:∀σ H,Pv kvs.length σ H->D.nx σ H):jcr (ItK d kvs o) g tb D σ H:=by
 refine⟨λi m σ H=>m+i=kvs.length/\Pv i σ H,⟨kvs.length,rfl,h0⟩,?_⟩
 rintro i m σ H ⟨hm,p⟩
 have fz:=hl i σ H (by omega) p
 rcases Nat.lt_or_ge i kvs.length with hi|hi
 ·refine .inr ⟨⟨hi,fz⟩,Pv (i+1),λσ' H' p'=>⟨m-1,by omega,by omega,p'⟩,?_⟩
  rintro x H' ⟨rfl,kv,hkv,rfl⟩
  exact hs i kv σ H' hkv p
 ·obtain rfl:i=kvs.length:=by omega
  exact .inl ⟨⟨hi,fz⟩,hd σ H p⟩
section
variable{H:Hp}{D:Addr}{r:L2.St}{tt:TT}{te:TE}{E:Ends}
theorem jnq{d:Addr}{kvs:List (Key×V)}{o:Obj}(p:V->Bool)(f:V->V)(hd:H d=some (.frz o (.dK kvs)))(hD:H D=none)(hz:kvs.length<=sizeLine)
  (ht:∀x∈kvs.map (λkv=>kV kv.1),∀l Q,Q (p x) (upd H D (.lst l))->tt (some x::r) (upd H D (.lst l)) Q) (he:∀x∈kvs.map (λkv=>kV kv.1),p x=true->∀l Q,Q (f x) (upd H D (.lst l))->te (some x::r) (upd H D (.lst l)) Q)
  (hn:∀v,E.nx (v::r) (upd H D (.lst (((kvs.map λkv=>kV kv.1).filter p).map f)))):jcr (ItK d kvs o) (jcz 0) (jfv D tt te) E (none::r) (upd H D (.lst [])):=by
 have ne:d≠D:=je hd hD
 refine jhx (λi σ H'=>∃v:Option V,σ=v::r/\H'=upd H D (.lst ((((kvs.map λkv=>kV kv.1).take i).filter p).map f))) ⟨none,rfl,rfl⟩ ?_ ?_ ?_
 ·rintro i σ H' _ ⟨v,_,rfl⟩
  rw[jd ne];exact hd
 ·rintro i kv σ H' hx0 ⟨v,rfl,rfl⟩
  have hx:(kvs.map λkv=>kV kv.1)[i]?=some (kV kv.1):=by rw[Ag,hx0];rfl
  have hl:i<kvs.length:=(Ad.mp hx0).1
  have hm:=Al hx
  have hf:((((kvs.map λkv=>kV kv.1).take i).filter p).map f).length<=i:=by
   rw[Ac]
   exact Iv (Ub _ _) (by rw[Oe];omega)
  refine ht _ hm _ _ ?_
  by_cases q:p (kV kv.1)=true
  ·rw[q,Ao rfl]
   refine he _ hm q _ _ ⟨_,by rw[jb];rfl,by omega,some (kV kv.1),rfl,?_⟩
   rw[jhm,jig p f _ i _ hx,Ao q]
  ·rw[An q]
   refine⟨some (kV kv.1),rfl,?_⟩
   rw[jig p f _ i _ hx,An q,Ug]
 ·rintro σ H' ⟨v,rfl,rfl⟩
  have:=hn v
  rw[O7 (by simp)]
  exact this
end
section
variable{X:Cx}
def jsk:List V->Hp->VK->Prop:=λxs H Q=>∃a kvs,xs=[.ref a]/\Rd H a (.dK kvs)/\Q (.int (kvs.length:Int)) H
theorem jbj:jcq X (.builtin "len") jsk:=by
 intro pins s σ H xs us Q I r h
 obtain⟨a,kvs,rfl,e,q⟩:=h
 obtain⟨u,rfl,rx⟩:=jc1 r
 cases rx
 exact jsc I e λt s' I'=>⟨.int _,H,I',⟨t,rfl⟩,q⟩
def jsl:V->List V->Hp->VK->Prop:=λx vs H Q=>∃a kvs k v,x=.ref a/\vs=[kV k]/\H a=some (.dK kvs)/\valV kvs k=some v/\Q v (upd H a (.dK (je0 kvs k)))
theorem mt_popD:MtM X "dict.pop" jsl:=by
 intro pins s σ H x vs v us Q I rx rv h
 obtain⟨a,kvs,k,y,rfl,rfl,e,l,q⟩:=h
 cases rx
 obtain⟨u,rfl,ru⟩:=rv.one
 exact jsd I e ru l (.inl rfl) λw' s' I' rw'=>⟨y,_,I',rw',q⟩
def isDk(x:V)(H:Hp):Prop:=∃p kvs,x=.ref p/\H p=some (.dK kvs)
def tBMD(r:V->List V->Hp->VK->Prop)(to:TE)(t:TA):TE:=λσ H Q=>to σ H λx H1=>isDk x H1/\t σ H1 λxs H2=>r x xs H2 Q
theorem qpe_bmD{o e:Expr}{es:List Expr}{to:TE}{t:TA}{name:Str}{apos cpos:Pos}{id:String}{r:V->List V->Hp->VK->Prop}(slot:Slot "dict" name id)(hty:typeOf (.builtin id)=pure (.type "method_descriptor"))(hm:MtM X id r)(ho:QE X o to)(ha:QA X (e::es) t)(mono:∀σ H Q Q',(∀v H',Q v H'->Q' v H')->to σ H Q->to σ H Q')
  (hbase:attributeBase o name X.env (eval o X.env)=eval o X.env:=by rfl)
  (hfew:((backTo cpos (starEach (e::es) X.env)).all (λx=>!x.1) && (backToKw cpos (keywordEach [] X.env)).all (λx=>x.1.isSome)
   && decide ((e::es).length+([]:List Keyword).length+(if([]:List Keyword).isEmpty then 0 else 1)<30))=true:=by rfl)
  (hline:(apos.endLine == cpos.line)=true:=by rfl) (hs:starEach (e::es) X.env=(false,eval e X.env)::starEach es X.env:=by rfl) (hplain:(backTo cpos (starEach es X.env)).any (·.1)=false:=by rfl) :
  QE X (.Call (.Attribute o name apos) (e::es) [] cpos) (tBMD r to t) :=
 ⟨(jbp PySem.F.plainAttrs_dict slot hty hm ho.h ha.h hbase hfew hline hs hplain).imp λσ H Q h=>mono σ H _ _ (λv H' q=>⟨by
  obtain⟨⟨p,kvs,rfl,e⟩,_⟩:=q
  exact .inr (.inr (.inl ⟨rfl,.inl ⟨kvs,e⟩⟩)),q.2⟩) h⟩
def Mono(t:TE):Prop:=∀σ H (Q Q':VK),(∀v H',Q v H'->Q' v H')->t σ H Q->t σ H Q'
theorem jev(i:Nat):Mono (tVar i):=jcj
theorem jhy{a b:TE}(ha:Mono a)(hb:Mono b):Mono (tOp rIxU a b):=λσ H Q Q' h q=>ha σ H _ _ (λx H1 q1=>hb σ H1 _ _ (λy H2 q2=>by
 unfold rIxU at q2⊢
 split at q2
 ·exact⟨q2.1,let⟨c,e,q3⟩:=q2.2;⟨c,e,h _ _ q3⟩⟩
 ·exact let⟨xs,e,v,e2,q3⟩:=q2;⟨xs,e,v,e2,h _ _ q3⟩
 ·exact q2.elim) q1) q
theorem jpj:Mono (tLst tNil):=λσ H Q Q' h q=>⟨q.1,λp hp=>h _ _ (q.2 p hp)⟩
theorem jok{a b c:TE}(ha:Mono a)(hb:Mono b)(hc:Mono c):Mono (jhk a b c):=λσ H Q Q' h q=>ha σ H _ _ (λx H1 ⟨d,e,i,q1⟩=>⟨d,e,i,hb σ H1 _ _ (λy H2 q2=>hc σ H2 _ _ (λz H3 ⟨kvs,k,e1,e2,e3,q3,q4⟩=>⟨kvs,k,e1,e2,e3,λv hv=>h _ _ (q3 v hv),λhn=>h _ _ (q4 hn)⟩) q2) q1⟩) q
end
section
variable{X:Cx}{pins:List (Addr×Obj)}{σ:St}{H:Hp}{s:Shared}
theorem jpn{k:Nat}{f:Addr}{fd:FuncData}{ps:List Str}{sp:Sp}{Q:VK}{us ds:List Value}{vs dvs:List V}{cs:List (Addr×Obj)}(F:FnOk X.prog X.w X.K X.mg X.base CX0 k f fd ps sp)(hr:Room k X.A)(hb:Binds X.K fd ps ds)(hd:Vals dvs ds)
  (I:Inv X pins σ H s) (r:Vals vs us) (hc:∀b o,cs.lookup b=some o->s.heap.get? b=some o/\H b=none/\X.base.get? b=none/\b∉frs X.stack)
  (h:sp (vs++dvs) (jdb H cs) (λv H2=>Q v (hideC H2 (cs.map Prod.fst))) E0):wpAny (model X.prog X.w) X.A (call (.ref f) us) (EP X pins σ Q) X.xe s:=by
 have r2:Vals (vs++dvs) (us++ds):=r.append hd
 have hl:(us++ds).length=ps.length:=by rw[<-r2.length];exact F.len _ _ _ _ h
 refine wpAny_call (Wx (F.run X.A X.stack s (jdb H cs) ⟨us,[]⟩ (us++ds) (vs++dvs) _ E0 hr (I.env0C hc) (hb s us I.kIn hl) r2 h) λr s' hq=>?_)
 cases r with
 |error e=>exact False.elim hq
 |ok fl =>
  cases fl with
  |ret u =>
   obtain⟨v,H',os,bare,un,hok,rv,q⟩:=hq
   refine I.after ⟨v,_,os,bare,Un.hideS un hok λb o z=>⟨(hc b o z).1,(hc b o z).2.1⟩,HOk.hideC hok λc m=>?_,rv,q⟩
   obtain⟨o,z⟩:=jg4 m
   exact⟨o,un.frzs c o _ (jef z)⟩
  |next=>exact False.elim hq
  |brk=>exact False.elim hq
  |cont=>exact False.elim hq
def jh5(js:List (Nat×Addr))(sp:Sp)(dvs:List V)(t:TA):TE:=λσ H Q=>t σ H λvs H1=>(∀j∈js,∃v,σ[j.1]?=some (some v))/\∀cs,jlk σ H1 js cs->sp (vs++dvs) (jdb H1 cs) (λv H2=>Q v (hideC H2 (cs.map Prod.fst))) E0
theorem qpe_callCD{k:Nat}{f:Addr}{fd:FuncData}{ps:List Str}{sp:Sp}{x:Str}{p pos:Pos}{e:Expr}{es:List Expr}{t:TA}{ds:List Value}{dvs:List V}(js:List (Nat×Addr))(hjs:∀j∈js,∃x,X.N[j.1]?=some x/\X.env.kindOf x=some .cell/\X.fn x=true/\X.env.cells.lookup x=some j.2)
  (F:FnOk X.prog X.w X.K X.mg X.base CX0 k f fd ps sp) (hr:Room k X.A) (hg:Gl X x) (hm:X.mg x=some (.ref f)) (hk:PySem.W.keepIn X.K (.ref f)=true) (hb:Binds X.K fd ps ds) (hd:Vals dvs ds) (ha:QA X (e::es) t)
  (hdb:(x == ("__debug__":Str))=false:=by decide) (he:starEach (e::es) X.env=(false,eval e X.env)::starEach es X.env:=by rfl) (hpl:(backTo pos (starEach es X.env)).any (·.1)=false:=by rfl) :
  QE X (.Call (.Name x p) (e::es) [] pos) (jh5 js sp dvs t):=by
 refine⟨λpins s σ H Q I h=>?_⟩
 refine O3 (jl9 I hg hm ?_ hdb)
 refine PySem.W.callWith_K (h₀:=X.base) I.ok.mod.kin hk (thn (ha.h pos pins s σ H _ I h) λus s1 ⟨vs,H1,I1,r,hb1,q⟩=>⟨I1.kIn,?_⟩) he hpl
 obtain⟨cs,pr,hc⟩:=jjy I1 hjs hb1
 exact jpn F hr hb hd I1 r hc (q cs pr)
end
theorem jf7(xs:Array Nat)(j:Nat)(hr:xs.toList.Pairwise (·<·)):∀(fuel lo hi:Nat),hi-lo<=fuel->lo<=hi->hi<=xs.size->(∀k,k<lo->∀v,xs.toList[k]?=some v->v<j)->(∀k,hi<=k->∀v,xs.toList[k]?=some v->j<=v) ->
  (∀k,k<SetTable.below.go xs j fuel lo hi->∀v,xs.toList[k]?=some v->v<j)/\(∀k,SetTable.below.go xs j fuel lo hi<=k->∀v,xs.toList[k]?=some v->j<=v)/\SetTable.below.go xs j fuel lo hi<=xs.size
 |0,lo,hi,hf,hl,hs,h1,h2=>by
  rw[SetTable.below.go]
  exact⟨h1,λk hk=>h2 k (by omega),by omega⟩
 |fuel+1,lo,hi,hf,hl,hs,h1,h2=>by
  rw[SetTable.below.go]
  have mono:∀{a b:Nat}{x y:Nat},xs.toList[a]?=some x->xs.toList[b]?=some y->a<=b->x<=y:=fun{a b x y} ha hb hab=>by
   obtain⟨la,ea⟩:=Ad.mp ha
   obtain⟨lb,eb⟩:=Ad.mp hb
   by_cases c:a=b
   ·subst c;rw[<-ea,<-eb];exact Ak _
   ·have:=(Ua.mp hr) a b la lb (by omega)
    omega
  by_cases c:lo<hi
  ·rw[Ao c]
   have hm:(lo+hi) / 2<xs.size:=by omega
   have em:xs.toList[(lo+hi) / 2]?=some (xs.getD ((lo+hi) / 2) j):=by
    rw[Ie,Oq,Iu hm];rfl
   dsimp only
   by_cases d:xs.getD ((lo+hi) / 2) j<j
   ·rw[Ao d]
    exact jf7 xs j hr fuel _ hi (by omega) (by omega) hs (λk hk v hv=>by have:=mono hv em (by omega);omega) h2
   ·rw[An d]
    exact jf7 xs j hr fuel lo _ (by omega) (by omega) (by omega) h1 (λk hk v hv=>by have:=mono em hv hk;omega)
  ·rw[An c]
   exact⟨h1,λk hk=>h2 k (by omega),by omega⟩
theorem jf8{xs:Array Nat}(hr:xs.toList.Pairwise (·<·))(j:Nat):(∀k,k<SetTable.below xs j->∀v,xs.toList[k]?=some v->v<j)/\(∀k,SetTable.below xs j<=k->∀v,xs.toList[k]?=some v->j<=v)/\SetTable.below xs j<=xs.size:=by
 unfold SetTable.below
 refine jf7 xs j hr xs.size 0 xs.size (by omega) (Oc _) (Ak _) (λk hk=>by omega) λk hk v hv=>?_
 have:=(Ad.mp hv).1
 rw[Array.length_toList]at this
 omega
theorem jo4{xs:Array Nat}(hr:xs.toList.Pairwise (·<·)){i j:Nat}(h:xs.toList[i]?=some j):SetTable.below xs j=i:=by
 obtain⟨h1,h2,h3⟩:=jf8 hr j
 have hi:=(Ad.mp h).1
 rw[Array.length_toList]at hi
 by_cases c:i<SetTable.below xs j
 ·have:=h1 i c j h;omega
 ·by_cases d:SetTable.below xs j=i
  ·exact d
  ·have hb:SetTable.below xs j<xs.toList.length:=by rw[Array.length_toList];omega
   have q1:=h2 _ (Ak _) _ (Aa hb)
   obtain⟨li,ei⟩:=Ad.mp h
   have q2:=(Ua.mp hr) _ i hb li (by omega)
   omega
structure LY(t:SetTable)(es:Array (Int×Value))(L:List (Nat×(Int×Value))):Prop where
 pl:t.place.toList=L.map Prod.fst
 el:es.toList=L.map Prod.snd
 ris:(L.map Prod.fst).Pairwise (·<·)
 dm:t.dummies=#[]
 mx:∀x∈L,x.1<=t.mask
theorem jl2(j:Nat):SetTable.has #[] j=false:=by
 unfold SetTable.has;simp
theorem LY.rp{t:SetTable}{es:Array (Int×Value)}{L:List (Nat×(Int×Value))}(h:LY t es L):t.place.toList.Pairwise (·<·):=by rw[h.pl];exact h.ris
theorem LY.live{t:SetTable}{es:Array (Int×Value)}{L:List (Nat×(Int×Value))}(h:LY t es L){j:Nat}{e:Int×Value}(m:(j,e)∈L):∃i,t.slot j=.live i/\es[i]?=some e:=by
 obtain⟨i,hi⟩:=Is m
 have h1:t.place.toList[i]?=some j:=by rw[h.pl,Ag,hi];rfl
 have h2:es[i]?=some e:=by rw[<-Ie,h.el,Ag,hi];rfl
 refine⟨i,?_,h2⟩
 unfold SetTable.slot
 rw[jo4 h.rp h1]
 have:(t.place[i]? == some j)=true:=by rw[<-Ie,h1];simp
 simp only[this,Oz]
theorem LY.empty{t:SetTable}{es:Array (Int×Value)}{L:List (Nat×(Int×Value))}(h:LY t es L){j:Nat}(m:j∉L.map Prod.fst):t.slot j=.empty:=by
 unfold SetTable.slot
 have:(t.place[SetTable.below t.place j]? == some j)=false:=by
  rw[<-Ie,h.pl]
  cases c:(L.map Prod.fst)[SetTable.below t.place j]? with
  |none=>rfl
  |some v =>
   have:v≠j:=λe=>m (e▸Al c)
   simpa using this
 simp only[this,h.dm,jl2,A8,Of]
theorem je5{α:Type}(xs:Array α)(p:Nat)(x:α)(hp:p<=xs.size):(SetTable.insertAt xs p x).toList=xs.toList.take p++x::xs.toList.drop p:=by
 unfold SetTable.insertAt
 simp only[Array.toList_append,Array.toList_push,Array.toList_extract,List.extract_eq_take_drop,Nat.sub_zero,List.drop_zero]
 rw[U5,List.singleton_append]
 congr 2
 rw[O7]
 simp
theorem LY.put{t:SetTable}{es:Array (Int×Value)}{L:List (Nat×(Int×Value))}(h:LY t es L){j:Nat}(e:Int×Value)(nj:j∉L.map Prod.fst)(jm:j<=t.mask) :
  ∃L',LY (t.put j).1 (SetTable.insertAt es (t.put j).2 e) L'/\(∀x,x∈L'↔x=(j,e)\/x∈L)/\L'.length=L.length+1/\(L'.map Prod.snd).Perm (e::L.map Prod.snd):=by
 obtain⟨b1,b2,b3⟩:=jf8 h.rp j
 have sz:t.place.size=L.length:=by rw[<-Array.length_toList,h.pl,Ac]
 have sz2:es.size=L.length:=by rw[<-Array.length_toList,h.el,Ac]
 have e2:(t.put j).2=SetTable.below t.place j:=rfl
 have e1:(t.put j).1.place=SetTable.insertAt t.place (SetTable.below t.place j) j:=rfl
 have e3:(t.put j).1.dummies=#[]:=by
  show(if SetTable.has t.dummies j=true then _ else t.dummies)=#[]
  rw[h.dm,jl2];rfl
 have e4:(t.put j).1.mask=t.mask:=rfl
 generalize SetTable.below t.place j=p at b1 b2 b3 e2 e1
 have tp:(L.take p).map Prod.fst=(L.map Prod.fst).take p:=List.map_take ..
 have dp:(L.drop p).map Prod.fst=(L.map Prod.fst).drop p:=List.map_drop ..
 have mem:∀x,x∈L.take p++(j,e)::L.drop p↔x=(j,e)\/x∈L:=λx=>by
  rw[Au,Ap]
  constructor
  ·rintro(q|q|q)
   ·exact .inr (Yy q)
   ·exact .inl q
   ·exact .inr (List.mem_of_mem_drop q)
  ·rintro(q|q)
   ·exact .inr (.inl q)
   ·rw[<-U3 p L,Au]at q
    exact q.elim .inl λq=>.inr (.inr q)
 refine⟨L.take p++(j,e)::L.drop p,⟨?_,?_,?_,e3,λx hx=>?_⟩,mem,?_,?_⟩
 ·rw[e1,je5 _ _ _ b3,h.pl,A5,Ay,tp,dp]
 ·rw[e2,je5 _ _ _ (by omega),h.el,A5,Ay,List.map_take,List.map_drop]
 ·rw[A5,Ay,tp,dp]
  have r:=h.ris
  rw[<-U3 p (L.map Prod.fst),Yz]at r
  have lt:∀a∈(L.map Prod.fst).take p,a<j:=λa ha=>by
   obtain⟨k,hk⟩:=Is ha
   have kp:k<p:=by have:=(Ad.mp hk).1;rw[Oe]at this;omega
   rw[Wc kp,<-h.pl]at hk
   exact b1 k kp a hk
  have gt:∀a∈(L.map Prod.fst).drop p,j<a:=λa ha=>by
   obtain⟨k,hk⟩:=Is ha
   rw[List.getElem?_drop,<-h.pl]at hk
   have q:=b2 (p+k) (by omega) a hk
   have:a≠j:=λz=>nj (z▸List.mem_of_mem_drop ha)
   omega
  rw[Yz]
  refine⟨r.1,Y6.mpr ⟨gt,r.2.1⟩,λa ha b hb=>?_⟩
  rcases Ap.mp hb with q|q
  ·rw[q];exact lt a ha
  ·exact W8 (lt a ha) (gt b q)
 ·rw[e4]
  rcases(mem x).mp hx with q|q
  ·rw[q];exact jm
  ·exact h.mx x q
 ·rw[A1,List.length_cons,Oe,List.length_drop];omega
 ·rw[A5,Ay,List.map_take,List.map_drop]
  refine List.perm_middle.trans ?_
  rw[U3]
def adv(m:Nat)(p:SetTable.Probe):SetTable.Probe :=
 if p.more>0 then{p with j:=p.j+1,more:=p.more-1}else
 {p with j:=(p.i*5+1+p.perturb / 32)%(m+1),more:=SetTable.runEnd m ((p.i*5+1+p.perturb / 32)%(m+1))-(p.i*5+1+p.perturb / 32)%(m+1),i:=(p.i*5+1+p.perturb / 32)%(m+1),perturb:=p.perturb / 32}
def pst(m:Nat)(h:Int):SetTable.Probe:={j:=SetTable.bits h%(m+1),more:=SetTable.runEnd m (SetTable.bits h%(m+1))-SetTable.bits h%(m+1),i:=SetTable.bits h%(m+1),perturb:=SetTable.bits h,dummy:=none}
def advN(m:Nat)(p:SetTable.Probe):Nat->SetTable.Probe
 |0=>p
 |n+1=>adv m (advN m p n)
theorem jd5(m:Nat)(p:SetTable.Probe)(a:Nat):∀b,advN m (advN m p a) b=advN m p (a+b)
 |0=>rfl
 |b+1=>by show adv m (advN m (advN m p a) b)=adv m (advN m p (a+b));rw[jd5 m p a b]
structure PV(m:Nat)(p:SetTable.Probe):Prop where
 i:p.i<=m
 pe:p.perturb<2^64
 mo:p.more<=9
 jm:p.j+p.more<=m
 dm:p.dummy=none
theorem jfi{m i:Nat}(h:i<=m):SetTable.runEnd m i<=m/\i<=SetTable.runEnd m i/\SetTable.runEnd m i-i<=9:=by
 unfold SetTable.runEnd
 split <;> omega
theorem PV.start(m:Nat)(h:Int):PV m (pst m h):=by
 have hi:SetTable.bits h%(m+1)<=m:=by have:=Yx (SetTable.bits h) (show 0<m+1 by omega);omega
 obtain⟨r1,r2,r3⟩:=jfi hi
 refine⟨hi,?_,r3,?_,rfl⟩
 ·show SetTable.bits h<2^64
  unfold SetTable.bits
  have:=Ya h (show(0:Int)<2^64 by decide)
  have:=Y0 h (show(2^64:Int)≠0 by decide)
  omega
 ·show SetTable.bits h%(m+1)+(SetTable.runEnd m (SetTable.bits h%(m+1))-SetTable.bits h%(m+1))<=m
  omega
theorem PV.adv{m:Nat}{p:SetTable.Probe}(h:PV m p):PV m (adv m p):=by
 unfold L2.adv
 by_cases c:p.more>0
 ·rw[Ao c]
  refine⟨h.i,h.pe,?_,?_,h.dm⟩
  ·show p.more-1<=9
   have:=h.mo;omega
  ·show p.j+1+(p.more-1)<=m
   have:=h.jm;omega
 ·rw[An c]
  have hi:(p.i*5+1+p.perturb / 32)%(m+1)<=m:=by have:=Yx (p.i*5+1+p.perturb / 32) (show 0<m+1 by omega);omega
  obtain⟨r1,r2,r3⟩:=jfi hi
  refine⟨hi,?_,r3,?_,h.dm⟩
  ·show p.perturb / 32<2^64
   have:=h.pe
   exact Nat.lt_of_le_of_lt (Nat.div_le_self _ _) this
  ·generalize(p.i*5+1+p.perturb / 32)%(m+1)=x at *
   show x+(SetTable.runEnd m x-x)<=m
   omega
theorem PV.advN{m:Nat}{p:SetTable.Probe}(h:PV m p):∀n,PV m (advN m p n)
 |0=>h
 |n+1=>(PV.advN h n).adv
theorem PV.j{m:Nat}{p:SetTable.Probe}(h:PV m p):p.j<=m:=by have:=h.jm;omega
def lpI(m:Nat)(i pe:Nat):Nat->Nat×Nat
 |0=>(i,pe)
 |k+1=>(((lpI m i pe k).1*5+1+(lpI m i pe k).2 / 32)%(m+1),(lpI m i pe k).2 / 32)
theorem jdx{m:Nat}:∀(k:Nat){p:SetTable.Probe},k<=p.more->(advN m p k).more=p.more-k/\(advN m p k).j=p.j+k/\(advN m p k).i=p.i/\(advN m p k).perturb=p.perturb
 |0,p,_=>⟨rfl,rfl,rfl,rfl⟩
 |k+1,p,h=>by
  obtain⟨h1,h2,h3,h4⟩:=jdx (m:=m) k (p:=p) (by omega)
  show(adv m (advN m p k)).more=_/\(adv m (advN m p k)).j=_/\(adv m (advN m p k)).i=_/\(adv m (advN m p k)).perturb=_
  unfold adv
  rw[Ao (by omega)]
  exact⟨by show _-1=_;omega,by show _+1=_;omega,h3,h4⟩
theorem jph{m:Nat}{p:SetTable.Probe}(h:PV m p):∃d,d<=10/\1<=d/\(advN m p d).i=(p.i*5+1+p.perturb / 32)%(m+1)/\(advN m p d).perturb=p.perturb / 32/\(advN m p d).j=(p.i*5+1+p.perturb / 32)%(m+1)/\d=p.more+1:=by
 obtain⟨h1,h2,h3,h4⟩:=jdx (m:=m) p.more (p:=p) (Ak _)
 have:=h.mo
 refine⟨p.more+1,by omega,by omega,?_⟩
 show(adv m (advN m p p.more)).i=_/\(adv m (advN m p p.more)).perturb=_/\(adv m (advN m p p.more)).j=_/\_
 unfold adv
 rw[An (by omega)]
 dsimp only
 rw[h3,h4]
 exact⟨rfl,rfl,rfl,rfl⟩
theorem jim{m:Nat}{p:SetTable.Probe}(h:PV m p):∀k,∃d,d<=10*k/\(advN m p d).i=(lpI m p.i p.perturb k).1/\(advN m p d).perturb=(lpI m p.i p.perturb k).2/\(1<=k->(advN m p d).j=(lpI m p.i p.perturb k).1)
 |0=>⟨0,by omega,rfl,rfl,λh=>by omega⟩
 |k+1=>by
  obtain⟨d,h1,h2,h3,_⟩:=jim h k
  obtain⟨d',q1,_,q2,q3,q4,_⟩:=jph (h.advN d)
  rw[jd5]at q2 q3 q4
  rw[h2,h3]at q2 q4
  rw[h3]at q3
  exact⟨d+d',by omega,q2,q3,λ_=>q4⟩
theorem joj(m i pe:Nat):∀k,(lpI m i pe k).2=pe / 32^k
 |0=>by simp[lpI]
 |k+1=>by
  show(lpI m i pe k).2 / 32=_
  rw[joj m i pe k,Nat.div_div_eq_div_mul,Nat.pow_succ]
def orb(m:Nat)(i:Nat):Nat->Nat
 |0=>i
 |k+1=>(orb m i k*5+1)%(m+1)
theorem jmb{m i pe:Nat}{k0:Nat}(h:(lpI m i pe k0).2=0):∀k,(lpI m i pe (k0+k)).1=orb m (lpI m i pe k0).1 k/\(lpI m i pe (k0+k)).2=0
 |0=>⟨rfl,h⟩
 |k+1=>by
  obtain⟨h1,h2⟩:=jmb h k
  show((lpI m i pe (k0+k)).1*5+1+(lpI m i pe (k0+k)).2 / 32)%(m+1)=_/\(lpI m i pe (k0+k)).2 / 32=0
  rw[h1,h2]
  exact⟨rfl,rfl⟩
def orbL(m:Nat):Nat->Nat->List Nat
 |i,0=>[i]
 |i,k+1=>i::orbL m ((i*5+1)%(m+1)) k
theorem jis(m i:Nat):∀k,orb m ((i*5+1)%(m+1)) k=orb m i (k+1)
 |0=>rfl
 |k+1=>by show(orb m _ k*5+1)%(m+1)=_;rw[jis m i k];rfl
theorem jkg(m:Nat):∀(n i j:Nat),j∈orbL m i n->∃k,k<=n/\orb m i k=j
 |0,i,j,h=>⟨0,Ak _,(Aj.mp h).symm⟩
 |n+1,i,j,h=>by
  rcases Ap.mp h with q|q
  ·exact⟨0,Oc _,q.symm⟩
  ·obtain⟨k,h1,h2⟩:=jkg m n _ j q
   exact⟨k+1,by omega,by rw[<-jis];exact h2⟩
theorem jfr(m i:Nat)(a:Nat):∀b,orb m (orb m i a) b=orb m i (a+b)
 |0=>rfl
 |b+1=>by show(orb m (orb m i a) b*5+1)%(m+1)=(orb m i (a+b)*5+1)%(m+1);rw[jfr m i a b]
def jdc(m:Nat):Prop:=m=7\/m=31\/m=127
theorem jq9{m:Nat}(hm:jdc m){i j:Nat}(hi:i<=m)(hj:j<=m):∃k,k<=m/\orb m i k=j:=by
 have key:(List.range (m+1)).all (λj=>(orbL m 0 m).contains j)=true:=by
  rcases hm with rfl|rfl|rfl <;> decide +kernel
 have per:orb m 0 (m+1)=0:=by
  rcases hm with rfl|rfl|rfl <;> decide +kernel
 have at_:∀j,j<=m->∃k,k<=m/\orb m 0 k=j:=λj hj=>jkg m m 0 j (by simpa using List.all_eq_true.mp key j (At.mpr (by omega)))
 obtain⟨a,a1,a2⟩:=at_ i hi
 obtain⟨b,b1,b2⟩:=at_ j hj
 by_cases c:a<=b
 ·exact⟨b-a,by omega,by rw[<-a2,jfr,show a+(b-a)=b by omega];exact b2⟩
 ·refine⟨m+1-a+b,by omega,?_⟩
  rw[<-a2,jfr,show a+(m+1-a+b)=m+1+b by omega,<-jfr,per]
  exact b2
theorem jpy{m:Nat}(hm:jdc m){p:SetTable.Probe}(h:PV m p){j:Nat}(hj:j<=m):∃k d,k<=13+m/\1<=k/\d<=10*k/\(lpI m p.i p.perturb k).1=j/\(advN m p d).j=j:=by
 have z:(lpI m p.i p.perturb 13).2=0:=by
  rw[joj]
  exact Nat.div_eq_of_lt (W8 h.pe (by decide))
 have hi:(lpI m p.i p.perturb 13).1<=m:=by
  show(_%(m+1))<=m
  exact Nat.le_of_lt_succ (Yx ((lpI m p.i p.perturb 12).1*5+1+(lpI m p.i p.perturb 12).2 / 32) (show 0<m+1 by omega))
 obtain⟨k,h1,h2⟩:=jq9 hm hi hj
 obtain⟨d,q1,_,_,q2⟩:=jim h (13+k)
 have q3:=q2 (by omega)
 have q4:=(jmb z k).1
 exact⟨13+k,d,by omega,by omega,q1,by rw[q4,h2],by rw[q3,q4,h2]⟩
def pth(m:Nat)(h:Int)(n:Nat):SetTable.Probe:=advN m (pst m h) n
theorem jbt(m:Nat)(h:Int)(n:Nat):PV m (pth m h n):=(PV.start m h).advN n
def WayI(m:Nat)(L:List (Nat×(Int×Value))):Prop:=∀x∈L,∃n,(pth m x.2.1 n).j=x.1/\∀k,k<n->(pth m x.2.1 k).j∈L.map Prod.fst
theorem LY.uniq{t:SetTable}{es:Array (Int×Value)}{L:List (Nat×(Int×Value))}(h:LY t es L){j:Nat}{e e':Int×Value}(m:(j,e)∈L)(m':(j,e')∈L):e=e':=by
 obtain⟨i,h1,h2⟩:=h.live m
 obtain⟨i',h3,h4⟩:=h.live m'
 rw[h1]at h3
 cases h3
 rw[h2]at h4
 exact Av h4
theorem mem_fst{L:List (Nat×(Int×Value))}{j:Nat}:j∈L.map Prod.fst↔∃e,(j,e)∈L:=by
 rw[Am]
 exact⟨fun⟨x,h1,h2⟩=>⟨x.2,by rw[<-h2];exact h1⟩,fun⟨e,h⟩=>⟨_,h,rfl⟩⟩
theorem jbs{t:SetTable}{es:Array (Int×Value)}{L:List (Nat×(Int×Value))}(hy:LY t es L){ha:Nat->Int}(hh:∀i e,es[i]?=some e->ha i=e.1)(h:Int):∀(fuel n:Nat),(∃d,d<fuel/\(pth t.mask h (n+d)).j∉L.map Prod.fst) ->
  ∃d,d<fuel/\(∀k,k<d->∃e,((pth t.mask h (n+k)).j,e)∈L/\e.1≠h) /\
   ((SetTable.probe.go t ha h fuel (pth t.mask h n)=some (.empty (pth t.mask h (n+d)).j none)/\(pth t.mask h (n+d)).j∉L.map Prod.fst) \/
    ∃e i,((pth t.mask h (n+d)).j,e)∈L/\e.1=h/\es[i]?=some e/\SetTable.probe.go t ha h fuel (pth t.mask h n)=some (.candidate (pth t.mask h (n+d)).j i (pth t.mask h (n+d+1))))
 |0,n,⟨d,hd,_⟩=>by omega
 |fuel+1,n,⟨d,hd,he⟩=>by
  by_cases c:(pth t.mask h n).j∈L.map Prod.fst
  ·obtain⟨e,hm⟩:=mem_fst.mp c
   obtain⟨i,h1,h2⟩:=hy.live hm
   by_cases q:e.1=h
   ·refine⟨0,by omega,λk hk=>by omega,.inr ⟨e,i,hm,q,h2,?_⟩⟩
    rw[SetTable.probe.go,h1]
    dsimp only
    rw[hh i e h2,Ao (by simpa using q)]
    rfl
   ·have d0:d≠0:=λz=>he (by rw[z];exact c)
    obtain⟨d',q1,q2,q3⟩:=jbs hy hh h fuel (n+1) ⟨d-1,by omega,by rw[show n+1+(d-1)=n+d by omega];exact he⟩
    have st:SetTable.probe.go t ha h (fuel+1) (pth t.mask h n)=SetTable.probe.go t ha h fuel (pth t.mask h (n+1)):=by
     rw[SetTable.probe.go,h1]
     dsimp only
     rw[hh i e h2,An (by simpa using q)]
     rfl
    refine⟨d'+1,by omega,λk hk=>?_,?_⟩
    ·by_cases z:k=0
     ·subst z;exact⟨e,hm,q⟩
     ·have:=q2 (k-1) (by omega)
      rw[show n+1+(k-1)=n+k by omega]at this
      exact this
    ·rw[st,show n+(d'+1)=n+1+d' by omega]
     exact q3
  ·refine⟨0,by omega,λk hk=>by omega,.inl ⟨?_,c⟩⟩
   rw[SetTable.probe.go,hy.empty c]
   dsimp only
   rw[(jbt t.mask h n).dm]
   rfl
theorem jqq{m:Nat}{L:List (Nat×(Int×Value))}(ris:(L.map Prod.fst).Pairwise (·<·))(hl:L.length<=m):∃j,j<=m/\j∉L.map Prod.fst:=A9 λno=>by
 have all:∀j,j<=m->j∈L.map Prod.fst:=λj hj=>A9 λc=>no ⟨j,hj,c⟩
 have nd:(List.range (m+1)).Nodup:=Im
 have sub:∀x∈List.range (m+1),x∈L.map Prod.fst:=λx hx=>all x (by have:=At.mp hx;omega)
 have len:∀(a b:List Nat),a.Nodup->(∀x∈a,x∈b)->a.length<=b.length:=λa=>by
  induction a with
  |nil=>intro b _ _;simp
  |cons x a ih =>
   intro b nd sub
   obtain⟨nx,nd'⟩:=Ol.mp nd
   have:=ih (b.erase x) nd' λy hy=>(U9 (λe:y=x=>nx (e▸hy))).mpr (sub y (.tail _ hy))
   have hb:=sub x (.head _)
   rw[Wg hb]at this
   have:=Uy hb
   rw[List.length_cons];omega
 have:=len _ _ nd sub
 rw[Az,Ac]at this
 omega
theorem jqr{m:Nat}(hm:jdc m){L:List (Nat×(Int×Value))}(ris:(L.map Prod.fst).Pairwise (·<·))(hl:L.length<=m)(h:Int)(n:Nat):∃d,d<10*SetTable.turns m/\(pth m h (n+d)).j∉L.map Prod.fst:=by
 obtain⟨j,j1,j2⟩:=jqq ris hl
 obtain⟨k,d,k1,_,d1,_,e⟩:=jpy hm (jbt m h n) j1
 refine⟨d,by unfold SetTable.turns;omega,?_⟩
 have:pth m h (n+d)=advN m (pth m h n) d:=(jd5 m (pst m h) n d).symm
 rw[this,e];exact j2
theorem jgy{m:Nat}(hm:jdc m){L:List (Nat×(Int×Value))}(ris:(L.map Prod.fst).Pairwise (·<·))(hl:L.length<=m)(h:Int):∃N,N<10*SetTable.turns m/\(pth m h N).j∉L.map Prod.fst/\∀k,k<N->(pth m h k).j∈L.map Prod.fst:=by
 obtain⟨d,d1,d2⟩:=jqr hm ris hl h 0
 rw[Nat.zero_add]at d2
 have key:∀d,(pth m h d).j∉L.map Prod.fst->∃N,N<=d/\(pth m h N).j∉L.map Prod.fst/\∀k,k<N->(pth m h k).j∈L.map Prod.fst:=λd=>by
  induction d using Nat.strongRecOn with
  |ind d ih =>
   intro hd
   by_cases c:∀k,k<d->(pth m h k).j∈L.map Prod.fst
   ·exact⟨d,Ak _,hd,c⟩
   ·obtain⟨k,k1,k2⟩:∃k,k<d/\(pth m h k).j∉L.map Prod.fst:=A9 λno=>c λk hk=>A9 λz=>no ⟨k,hk,z⟩
    obtain⟨N,q1,q2⟩:=ih k k1 k2
    exact⟨N,by omega,q2⟩
 obtain⟨N,q1,q2⟩:=key d d2
 exact⟨N,by omega,q2⟩
theorem WayI.put{m:Nat}{L L':List (Nat×(Int×Value))}(h:WayI m L){e:Int×Value}{N:Nat}(hN:∀k,k<N->(pth m e.1 k).j∈L.map Prod.fst)(mem:∀x,x∈L'↔x=((pth m e.1 N).j,e)\/x∈L):WayI m L':=by
 have sub:∀j,j∈L.map Prod.fst->j∈L'.map Prod.fst:=λj hj=>by
  obtain⟨e',he⟩:=mem_fst.mp hj
  exact mem_fst.mpr ⟨e',(mem _).mpr (.inr he)⟩
 intro x hx
 rcases(mem x).mp hx with q|q
 ·subst q
  exact⟨N,rfl,λk hk=>sub _ (hN k hk)⟩
 ·obtain⟨n,h1,h2⟩:=h x q
  exact⟨n,h1,λk hk=>sub _ (h2 k hk)⟩
theorem WayI.found{t:SetTable}{es:Array (Int×Value)}{L:List (Nat×(Int×Value))}(hy:LY t es L)(h:WayI t.mask L){j:Nat}{e:Int×Value}(m:(j,e)∈L){N:Nat}(hN:(pth t.mask e.1 N).j∉L.map Prod.fst):∃k,k<N/\(pth t.mask e.1 k).j=j:=by
 obtain⟨n,h1,h2⟩:=h _ m
 refine⟨n,?_,h1⟩
 by_cases c:n<N
 ·exact c
 ·by_cases d:N=n
  ·subst d
   exact absurd (mem_fst.mpr ⟨e,by rw[h1];exact m⟩) hN
  ·exact absurd (h2 N (by omega)) hN
def Occ(ow:Array (Option Nat))(j:Nat):Prop:=∃k,ow.toList[j]?=some (some k)
structure LpS(m:Nat)(p:SetTable.Probe):Prop where
 v:PV m p
 ji:p.j=p.i
 mo:p.more=SetTable.runEnd m p.i-p.i
theorem jip(m i pe:Nat):∀k,lpI m ((i*5+1+pe / 32)%(m+1)) (pe / 32) k=lpI m i pe (k+1)
 |0=>rfl
 |k+1=>by
  show(((lpI m ((i*5+1+pe / 32)%(m+1)) (pe / 32) k).1*5+1+(lpI m ((i*5+1+pe / 32)%(m+1)) (pe / 32) k).2 / 32)%(m+1),(lpI m ((i*5+1+pe / 32)%(m+1)) (pe / 32) k).2 / 32)=_
  rw[jip m i pe k];rfl
theorem LpS.next{m:Nat}{p:SetTable.Probe}(h:LpS m p):LpS m (advN m p (p.more+1))/\(advN m p (p.more+1)).i=(p.i*5+1+p.perturb / 32)%(m+1)/\(advN m p (p.more+1)).perturb=p.perturb / 32:=by
 obtain⟨h1,h2,h3,h4⟩:=jdx (m:=m) p.more (p:=p) (Ak _)
 have e:advN m p (p.more+1)=adv m (advN m p p.more):=rfl
 have pv:=h.v.advN (p.more+1)
 rw[e]at pv⊢
 unfold adv at pv⊢
 rw[An (by omega)]at pv⊢
 refine⟨⟨pv,rfl,rfl⟩,?_,?_⟩
 ·show((advN m p p.more).i*5+1+(advN m p p.more).perturb / 32)%(m+1)=_
  rw[h3,h4]
 ·show(advN m p p.more).perturb / 32=_
  rw[h4]
theorem jij{m:Nat}{ow:Array (Option Nat)}(sz:ow.size=m+1):∀(fuel:Nat){p:SetTable.Probe},LpS m p->(∃k,k<fuel/\¬Occ ow (lpI m p.i p.perturb k).1) ->
  ∃n,SetTable.layClean.free m ow fuel p.i p.perturb=some (advN m p n).j/\¬Occ ow (advN m p n).j/\∀k,k<n->Occ ow (advN m p k).j
 |0,p,_,⟨k,hk,_⟩=>by omega
 |fuel+1,p,hp,⟨k,hk,hf⟩=>by
  have pi:=hp.v.i
  obtain⟨r1,r2,r3⟩:=jfi pi
  have mo:=hp.mo
  have ji:=hp.ji
  have nn:∀a,a<=m->((ow.getD a (some 0)).isNone=true↔¬Occ ow a):=λa ha=>by
   have hl:a<ow.size:=by omega
   rw[Oq,Iu hl]
   show(ow[a]).isNone=true↔_
   unfold Occ
   rw[Ie,Iu hl]
   cases ow[a]with
   |none=>simp
   |some k=>simp
  rw[SetTable.layClean.free]
  cases hq:(List.range (SetTable.runEnd m p.i+1-p.i)).find? λk=>(ow.getD (p.i+k) (some 0)).isNone with
  |some k0 =>
   obtain⟨q1,q2,q3⟩:=List.find?_range_eq_some.mp hq
   have kl:=At.mp q2
   obtain⟨_,w2,_,_⟩:=jdx (m:=m) k0 (p:=p) (by omega)
   refine⟨k0,by rw[w2,ji],by rw[w2,ji];exact(nn _ (by omega)).mp q1,λk hk=>?_⟩
   obtain⟨_,w2,_,_⟩:=jdx (m:=m) k (p:=p) (by omega)
   rw[w2,ji]
   have:=q3 k hk
   exact A9 λc=>by rw[(nn _ (by omega)).mpr c]at this;cases this
  |none =>
   have all:∀a,a<=p.more->Occ ow (p.i+a):=λa ha=>A9 λc=>by
    have:=List.find?_eq_none.mp hq a (At.mpr (by omega))
    exact this ((nn _ (by omega)).mpr c)
   obtain⟨nx,ni,npe⟩:=hp.next
   have k0:k≠0:=λz=>hf (by rw[z];exact all 0 (Oc _))
   obtain⟨n,g1,g2,g3⟩:=jij sz fuel nx ⟨k-1,by omega,by rw[ni,npe,jip,show k-1+1=k by omega];exact hf⟩
   rw[jd5]at g1 g2
   refine⟨p.more+1+n,?_,g2,λk hk=>?_⟩
   ·rw[<-g1,ni,npe];rfl
   ·by_cases c:k<=p.more
    ·obtain⟨_,w2,_,_⟩:=jdx (m:=m) k (p:=p) c
     rw[w2,ji];exact all k c
    ·have:=g3 (k-(p.more+1)) (by omega)
     rw[jd5,show p.more+1+(k-(p.more+1))=k by omega]at this
     exact this
structure OW(m:Nat)(hs:List Int)(ow:Array (Option Nat)):Prop where
 sz:ow.size=m+1
 ex:∀k,k<hs.length->∃j:Nat,ow.toList[j]?=some (some k)
 lt:∀(j k:Nat),ow.toList[j]?=some (some k)->k<hs.length
 un:∀(j j' k:Nat),ow.toList[j]?=some (some k)->ow.toList[j']?=some (some k)->j=j'
 way:∀(j k:Nat)(h:Int),ow.toList[j]?=some (some k)->hs[k]?=some h->∃n,(pth m h n).j=j/\∀i,i<n->Occ ow (pth m h i).j
theorem OW.nil(m:Nat):OW m [] (Array.replicate (m+1) none):=by
 have no:∀j k,(Array.replicate (m+1) (none:Option Nat)).toList[j]?≠some (some k):=λj k e=>by
  rw[Array.toList_replicate,Uw]at e
  split at e <;> cases e
 exact⟨by simp,λk hk=>by simp at hk,λj k e=>absurd e (no j k),λj j' k e=>absurd e (no j k),λj k h e=>absurd e (no j k)⟩
theorem nodup_len:∀(a b:List Nat),a.Nodup->(∀x∈a,x∈b)->a.length<=b.length:=λa=>by
 induction a with
 |nil=>intro b _ _;simp
 |cons x a ih =>
  intro b nd sub
  obtain⟨nx,nd'⟩:=Ol.mp nd
  have:=ih (b.erase x) nd' λy hy=>(U9 (λe:y=x=>nx (e▸hy))).mpr (sub y (.tail _ hy))
  have hb:=sub x (.head _)
  rw[Wg hb]at this
  have:=Uy hb
  rw[List.length_cons];omega
theorem OW.free{m:Nat}{hs:List Int}{ow:Array (Option Nat)}(h:OW m hs ow)(hl:hs.length<=m):∃j,j<=m/\¬Occ ow j:=A9 λno=>by
 have all:∀j,j<=m->Occ ow j:=λj hj=>A9 λc=>no ⟨j,hj,c⟩
 let f:Nat->Nat:=λj=>((ow.toList[j]?).getD none).getD 0
 have fe:∀j,j<=m->ow.toList[j]?=some (some (f j)):=λj hj=>by
  obtain⟨k,hk⟩:=all j hj
  show _=some (some (((ow.toList[j]?).getD none).getD 0))
  rw[hk];rfl
 have nd:((List.range (m+1)).map f).Nodup:=by
  refine Wv.mpr (List.Pairwise.imp_of_mem (fun{i j} hi hj hij e=>?_) Im)
  have hi:=At.mp hi
  have hj:=At.mp hj
  have q:=fe i (by omega)
  rw[e]at q
  exact hij (h.un i j _ q (fe j (by omega)))
 have:=nodup_len _ (List.range hs.length) nd λx hx=>by
  obtain⟨j,hj,rfl⟩:=Am.mp hx
  have hj:=At.mp hj
  exact At.mpr (h.lt j _ (fe j (by omega)))
 rw[Ac,Az,Az]at this
 omega
theorem OW.step{m:Nat}(hm:jdc m){hs:List Int}{ow:Array (Option Nat)}(h:OW m hs ow)(hl:hs.length<=m)(x:Int) :
  ∃j,SetTable.layClean.free m ow (SetTable.turns m) (SetTable.bits x%(m+1)) (SetTable.bits x)=some j/\OW m (hs++[x]) (ow.setIfInBounds j (some hs.length)):=by
 obtain⟨j0,j1,j2⟩:=h.free hl
 have ps:LpS m (pst m x):=⟨PV.start m x,rfl,rfl⟩
 obtain⟨k,_,k1,_,_,k2,_⟩:=jpy hm ps.v j1
 obtain⟨n,n1,n2,n3⟩:=jij h.sz (SetTable.turns m) ps ⟨k,by unfold SetTable.turns;omega,by rw[k2];exact j2⟩
 have jm:(advN m (pst m x) n).j<=m:=(ps.v.advN n).j
 refine⟨_,n1,?_⟩
 have pe:∀i,pth m x i=advN m (pst m x) i:=λ_=>rfl
 generalize hj:(advN m (pst m x) n).j=j at n2 jm
 have lj:j<ow.toList.length:=by rw[Array.length_toList,h.sz];omega
 have e1:∀i,(ow.setIfInBounds j (some hs.length)).toList[i]?=if j=i then some (some hs.length)else ow.toList[i]?:=λi=>by
  rw[Array.toList_setIfInBounds,List.getElem?_set]
  by_cases c:j=i
  ·subst c;rw[Ao rfl,Ao rfl,Ao lj]
  ·rw[An c,An c]
 have old:∀i,Occ ow i->Occ (ow.setIfInBounds j (some hs.length)) i:=λi ⟨k,hk⟩=>by
  unfold Occ
  rw[e1]
  by_cases c:j=i
  ·exact⟨_,by rw[Ao c]⟩
  ·exact⟨k,by rw[An c];exact hk⟩
 refine⟨by rw[Array.size_setIfInBounds];exact h.sz,λk hk=>?_,λi k e=>?_,λi i' k e e'=>?_,λi k y e ey=>?_⟩
 ·rw[A1,List.length_singleton]at hk
  by_cases c:k=hs.length
  ·exact⟨j,by rw[e1,Ao rfl,c]⟩
  ·obtain⟨i,hi⟩:=h.ex k (by omega)
   refine⟨i,?_⟩
   rw[e1,An λz=>n2 ⟨k,by rw[z];exact hi⟩];exact hi
 ·rw[e1]at e
  rw[A1,List.length_singleton]
  split at e
  ·cases e;omega
  ·have:=h.lt i k e;omega
 ·rw[e1]at e e'
  split at e <;> split at e'
  ·rename_i a b;exact a.symm.trans b
  ·cases e;have:=h.lt _ _ e';omega
  ·cases e';have:=h.lt _ _ e;omega
  ·exact h.un i i' k e e'
 ·rw[e1]at e
  split at e
  ·rename_i c
   cases e
   rw[Ir (Ak _),Nat.sub_self]at ey
   cases ey
   exact⟨n,by rw[pe,hj];exact c,λi hi=>old _ (n3 i hi)⟩
  ·have kl:=h.lt i k e
   rw[Ig kl]at ey
   obtain⟨n',q1,q2⟩:=h.way i k y e ey
   exact⟨n',q1,λi hi=>old _ (q2 i hi)⟩
theorem jf0{m:Nat}(hm:jdc m):∀(l:List Int)(hs:List Int)(ow:Array (Option Nat)),OW m hs ow->hs.length+l.length<=m+1 ->
  ∃ow',l.foldl (λacc h=>do
   let(owner,k) <-acc
   let j <-SetTable.layClean.free m owner (SetTable.turns m) (SetTable.bits h%(m+1)) (SetTable.bits h)
   pure (owner.setIfInBounds j (some k),k+1)) (some (ow,hs.length))=some (ow',(hs++l).length)/\OW m (hs++l) ow'
 |[],hs,ow,h,_=>⟨ow,by simp,by simpa using h⟩
 |x::l,hs,ow,h,hl=>by
  rw[List.length_cons]at hl
  obtain⟨j,j1,j2⟩:=h.step hm (by omega) x
  obtain⟨ow',q1,q2⟩:=jf0 hm l (hs++[x]) _ j2 (by rw[A1,List.length_singleton];omega)
  refine⟨ow',?_,by simpa using q2⟩
  rw[List.foldl_cons]
  have:(do
   let(owner,k) <-(some (ow,hs.length):Option (Array (Option Nat)×Nat))
   let j <-SetTable.layClean.free m owner (SetTable.turns m) (SetTable.bits x%(m+1)) (SetTable.bits x)
   pure (owner.setIfInBounds j (some k),k+1))=some (ow.setIfInBounds j (some hs.length),(hs++[x]).length):=by
   show(SetTable.layClean.free m ow (SetTable.turns m) (SetTable.bits x%(m+1)) (SetTable.bits x)).bind _=_
   rw[j1]
   simp
  rw[this,q1]
  simp
theorem jkb{m:Nat}(hm:jdc m)(hs:Array Int)(hl:hs.size<=m+1):∃ow,SetTable.layClean m hs=some ow/\OW m hs.toList ow:=by
 obtain⟨ow,h1,h2⟩:=jf0 hm hs.toList [] _ (OW.nil m) (by simpa using hl)
 refine⟨ow,?_,by simpa using h2⟩
 unfold SetTable.layClean
 rw[<-Array.foldl_toList]
 have e:=h1
 rw[List.length_nil]at e
 rw[e]
 rfl
def jc7(m:Nat)(ow:Array (Option Nat)):List (Nat×Nat):=(List.range (m+1)).filterMap λj=>(ow.getD j none).map (j,·)
theorem jog{m:Nat}{ow:Array (Option Nat)}(sz:ow.size=m+1){j k:Nat}:(j,k)∈jc7 m ow↔ow.toList[j]?=some (some k):=by
 unfold jc7
 rw[W6]
 constructor
 ·rintro⟨a,ha,e⟩
  have al:a<ow.size:=by have:=At.mp ha;omega
  rw[Oq,Iu al]at e
  have e:(ow[a]).map (a,·)=some (j,k):=e
  obtain⟨b,q1,q2⟩:=A3.mp e
  cases q2
  rw[Ie,Iu al,q1]
 ·intro e
  have jl:=(Ad.mp e).1
  rw[Array.length_toList,sz]at jl
  refine⟨j,At.mpr jl,?_⟩
  rw[Ie]at e
  rw[Oq,e];rfl
theorem jn4{f:Nat->Option (Nat×Nat)}(hf:∀j x,f j=some x->x.1=j):∀{l:List Nat},l.Pairwise (·<·)->((l.filterMap f).map Prod.fst).Pairwise (·<·)
 |[],_=>by simp
 |a::l,h=>by
  obtain⟨h1,h2⟩:=Y6.mp h
  have i:=jn4 hf h2
  rw[List.filterMap_cons]
  cases e:f a with
  |none=>exact i
  |some x =>
   dsimp only
   rw[Ay,Y6]
   refine⟨λb hb=>?_,i⟩
   obtain⟨y,hy,rfl⟩:=Am.mp hb
   obtain⟨c,hc,ec⟩:=W6.mp hy
   rw[hf a x e,hf c y ec]
   exact h1 c hc
theorem jio(m:Nat)(ow:Array (Option Nat)):((jc7 m ow).map Prod.fst).Pairwise (·<·):=by
 unfold jc7
 refine jn4 (λj x e=>?_) List.pairwise_lt_range
 obtain⟨b,q1,q2⟩:=A3.mp e
 rw[<-q2]
theorem perm_of_mem:∀{a b:List Nat},a.Nodup->b.Nodup->(∀x,x∈a↔x∈b)->a.Perm b
 |a,b,ha,hb,h=>(U4 ha hb).mpr h
theorem jeu{α β:Type}{f:α->Option β}{g:α->β}:∀{l:List α},(∀x∈l,f x=some (g x))->l.filterMap f=l.map g
 |[],_=>rfl
 |x::l,h=>by
  rw[List.filterMap_cons,h x (.head _),Ay,jeu λy hy=>h y (.tail _ hy)]
theorem jq0{m f mvs:Nat}{led pl:Bool}(hm:jdc m)(es:Array (Int×Value))(hl:es.size<=m) :
  ∃t order L,SetTable.laid m f mvs led pl (es.map (·.1))=some (t,order)/\t.mask=m/\t.led=led/\t.plain=pl/\LY t (order.filterMap (es[·]?)) L/\WayI m L/\(L.map Prod.snd).Perm es.toList/\L.length=es.size/\(order.filterMap (es[·]?)).size=es.size:=by
 obtain⟨ow,h1,h2⟩:=jkb hm (es.map (·.1)) (by rw[Array.size_map];omega)
 have hlen:(es.map (·.1)).toList.length=es.size:=by simp
 have hsk:∀(k:Nat)(e:Int×Value),es.toList[k]?=some e->(es.map (·.1)).toList[k]?=some e.1:=λk e q=>by rw[Array.toList_map,Ag,q];rfl
 have mem:=fun{j k:Nat}=>jog (j:=j) (k:=k) h2.sz
 let g:Nat×Nat->Int×Value:=λx=>es.toList.getD x.2 (0,.none)
 have gx:∀x∈jc7 m ow,es.toList[x.2]?=some (g x):=λx hx=>by
  have:=h2.lt x.1 x.2 (mem.mp hx)
  rw[hlen]at this
  show _=some (es.toList.getD x.2 (0,.none))
  rw[Ae,Aa (by rw[Array.length_toList];exact this)];rfl
 have nd2:((jc7 m ow).map Prod.snd).Nodup:=by
  have r:=Wv.mp (jio m ow)
  refine Wv.mpr (List.Pairwise.imp_of_mem (fun{x y} hx hy hxy e=>?_) r)
  have q1:=mem.mp hx
  have q2:=mem.mp hy
  rw[e]at q1
  have:=h2.un _ _ _ q1 q2
  omega
 have p2:((jc7 m ow).map Prod.snd).Perm (List.range es.size):=by
  refine perm_of_mem nd2 Im λk=>?_
  rw[At,<-hlen]
  constructor
  ·intro q
   obtain⟨x,hx,rfl⟩:=Am.mp q
   exact h2.lt x.1 x.2 (mem.mp hx)
  ·intro q
   obtain⟨j,hj⟩:=h2.ex k q
   exact Am.mpr ⟨(j,k),mem.mpr hj,rfl⟩
 have ll:(jc7 m ow).length=es.size:=by
  have:=p2.length_eq
  rw[Ac,Az]at this;exact this
 have ef:(((jc7 m ow).map Prod.snd).toArray.filterMap (es[·]?)).toList=(jc7 m ow).map g:=by
  rw[Array.toList_filterMap]
  rw[List.filterMap_map]
  refine jeu λx hx=>?_
  show es[x.2]?=_
  rw[<-Ie];exact gx x hx
 refine⟨{mask:=m,place:=((jc7 m ow).map Prod.fst).toArray,dummies:=#[],finger:=f,led:=led,moves:=mvs,plain:=pl},((jc7 m ow).map Prod.snd).toArray,(jc7 m ow).map λx=>(x.1,g x),?_,rfl,rfl,rfl,⟨?_,?_,?_,rfl,?_⟩,?_,?_,by rw[Ac];exact ll,?_⟩
 ·unfold SetTable.laid
  rw[h1];rfl
 ·show((jc7 m ow).map Prod.fst).toArray.toList=_
  rw[Ax];rfl
 ·rw[ef,Ax];rfl
 ·rw[Ax]
  exact jio m ow
 ·intro x hx
  obtain⟨y,hy,rfl⟩:=Am.mp hx
  have:=(Ad.mp (mem.mp hy)).1
  rw[Array.length_toList,h2.sz]at this
  show y.1<=m
  omega
 ·intro x hx
  obtain⟨y,hy,rfl⟩:=Am.mp hx
  obtain⟨n,q1,q2⟩:=h2.way y.1 y.2 (g y).1 (mem.mp hy) (hsk _ _ (gx y hy))
  refine⟨n,q1,λk hk=>?_⟩
  obtain⟨k',hk'⟩:=q2 k hk
  rw[Ax]
  exact Am.mpr ⟨(_,k'),mem.mpr hk',rfl⟩
 ·rw[Ax]
  have e1:(jc7 m ow).map (Prod.snd∘λx=>(x.1,g x))=((jc7 m ow).map Prod.snd).map λk=>es.toList.getD k (0,.none):=by rw[Ax];rfl
  have e2:(List.range es.size).map (λk=>es.toList.getD k (0,.none))=es.toList:=by
   refine Om (by simp) λi q1 q2=>?_
   rw[Oo,Ob,Ae,Aa q2];rfl
  rw[e1]
  exact(p2.map _).trans (by rw[e2])
 ·rw[<-Array.length_toList,ef,Ac];exact ll
def inK(k:List Int):List Key:=k.map Sum.inl
section
variable{prog:Program}{w:World}{A:Around}{E:Value->Shared->Prop}{s:Shared}
abbrev IsTK(prog:Program)(w:World)(h:Heap)(k:List Int)(b:Addr):Prop:=IsTupleKey (jcg prog w) h (inK k) b
abbrev hTK(prog:Program)(w:World)(k:List Int):Int:=tupleKeyHash (jcg prog w) (inK k)
theorem jdk:∀{k:List Int}{us:List Value},ItemsAre (jcg prog w) (inK k) us->∀v∈us,∃i t,v=.int i t
 |[],_,h,v,hv=>by cases h;cases hv
 |i::k,_,h,v,hv=>by
  cases h with
  |cons h1 h2 =>
   rcases Ap.mp hv with rfl|hv
   ·have h1:je2 (.inl i) v=true:=h1
    obtain⟨t,e⟩:=Value.isInt_shape (k:=i) (v:=v) h1
    exact⟨_,t,e⟩
   ·exact jdk h2 v hv
theorem jfb{k:List Int}{b:Addr}{Q:Bool->Shared->Prop}(hk:IsTK prog w s.heap k b)(h:Q false s):wpAny (model prog w) A (ofAClassStatement 8 (.ref b)) Q E s:=by
 have hT:=hk.typeIs
 obtain⟨o,items,n,ho,_,hd,hi⟩:=hk
 unfold ofAClassStatement
 refine Ab (W7 hT ?_)
 dsimp only
 refine Ab (Ah ?_)
 refine I0 (λq=>absurd q (by decide)) (λ_=>?_)
 refine Ab (Ul ho hd ?_)
 refine Ab ?_
 show wpAny _ _ (forIn items _ _) _ _ s
 rw[<-Array.forIn_toList]
 refine wpAny_forIn_list _ (λrest r s'=>r.1=none/\s'=s/\∀v∈rest,∃i t,v=.int i t) _ ?_ ?_ _ _ ⟨rfl,rfl,jdk hi⟩
 ·rintro v rest r s' ⟨hr,rfl,hall⟩
  obtain⟨i,t,rfl⟩:=hall v Ox
  refine Ab (show wpAny _ _ (ofAClassStatement 7 (.int i t)) _ _ _ from Ah ?_)
  simp only[A8,Of]
  exact Ah ⟨rfl,rfl,λu hu'=>hall u (Oh _ hu')⟩
 ·rintro⟨r1,r2⟩ s' ⟨hr,rfl,_⟩
  simp only at hr
  subst hr
  exact Ah h
theorem jo5{k:List Int}{b:Addr}{Q:Bool->Shared->Prop}(hk:IsTK prog w s.heap k b)(h:Q true s):wpAny (model prog w) A (hashByValue 8 (.ref b)) Q E s:=by
 have hT:=hk.typeIs
 obtain⟨o,items,n,ho,_,hd,hi⟩:=hk
 unfold hashByValue
 refine Ab (wpAny_specialOf hT F.slot_tuple_hash.lookup ?_)
 dsimp only
 refine Ab (Ul ho hd ?_)
 refine Ab ?_
 show wpAny _ _ (forIn items _ _) _ _ s
 rw[<-Array.forIn_toList]
 refine wpAny_forIn_list _ (λrest r s'=>r.1=none/\s'=s/\∀v∈rest,∃i t,v=.int i t) _ ?_ ?_ _ _ ⟨rfl,rfl,jdk hi⟩
 ·rintro v rest r s' ⟨hr,rfl,hall⟩
  obtain⟨i,t,rfl⟩:=hall v Ox
  refine Ab (show wpAny _ _ (hashByValue 7 (.int i t)) _ _ _ from wpAny_of_eq (a:=true) (by simp[hashByValue]) ?_)
  simp only[Wn,A8,Of]
  exact Ah ⟨rfl,rfl,λu hu'=>hall u (Oh _ hu')⟩
 ·rintro⟨r1,r2⟩ s' ⟨hr,rfl,_⟩
  simp only at hr
  subst hr
  exact Ah h
theorem jpl{k:List Int}{b:Addr}{ys:List Value}{Q:Bool->Shared->Prop}(hk:IsTK prog w s.heap k b)(hys:∀v∈ys,∃b' k',v=.ref b'/\IsTK prog w s.heap k' b')(h:Q false s):wpAny (model prog w) A (searchCouldBeSeen (.ref b) ys) Q E s:=by
 unfold searchCouldBeSeen
 refine Ab ?_
 refine wpAny_forIn_list _ (λrest r s'=>r.1=none/\s'=s/\∀v∈rest,∃b' k',v=.ref b'/\IsTK prog w s.heap k' b') _ ?_ ?_ _ _ ⟨rfl,rfl,hys⟩
 ·rintro v rest r s' ⟨hr,rfl,hall⟩
  obtain⟨b',k',rfl,hk'⟩:=hall v Ox
  have nx:∀u∈rest,∃b' k',u=.ref b'/\IsTK prog w s'.heap k' b':=λu hu'=>hall u (Oh _ hu')
  dsimp only
  refine I0 (λ_=>Ah ⟨rfl,rfl,nx⟩) (λ_=>?_)
  refine Ab (wpAny_eqIsQuiet_tuple hk ?_)
  simp only[Wn,A8,Of]
  refine Ab (wpAny_eqIsQuiet_tuple hk' ?_)
  simp only[Wn,A8,Of]
  refine Ab (jfb hk ?_)
  simp only[A8,Of]
  refine Ab (jfb hk' ?_)
  simp only[A8,Of]
  exact Ah ⟨rfl,rfl,nx⟩
 ·rintro⟨r1,r2⟩ s' ⟨hr,rfl,_⟩
  simp only at hr
  subst hr
  exact Ah h
end
def keyT(kf:Addr->List Int)(e:Int×Value):List Int:=match e.2 with
 |.ref b=>kf b
 |_=>[]
section
variable{prog:Program}{w:World}{A:Around}{E:Value->Shared->Prop}{s:Shared}
structure TX(prog:Program)(w:World)(kf:Addr->List Int)(bd:Nat)(h:Heap)(a:Addr)(led:Bool)(ks:List (List Int))(o:Obj)(es:Array (Int×Value))(ep:Nat)(t:SetTable)(L:List (Nat×(Int×Value))):Prop where
 at_:h.get? a=some o
 ex:o.ExactSet
 dt:o.data=.set es ep t
 ly:LY t es L
 wy:WayI t.mask L
 mk_:jdc t.mask
 cn:L.length*5<t.mask*3
 en:∀e∈L.map Prod.snd,∃b,e=(hTK prog w (kf b),.ref b)/\IsTK prog w h (kf b) b/\b<bd
 ky:((L.map Prod.snd).map (keyT kf)).Perm ks
 nd:ks.Nodup
 ld:t.led=led
 pl:t.plain=true
variable{kf:Addr->List Int}{bd:Nat}{a:Addr}{led:Bool}{ks:List (List Int)}{o:Obj}{es:Array (Int×Value)}{ep:Nat}{t:SetTable}{L:List (Nat×(Int×Value))}
theorem TX.len{h:Heap}(x:TX prog w kf bd h a led ks o es ep t L):es.size=L.length/\L.length=ks.length:=by
 refine⟨by rw[<-Array.length_toList,x.ly.el,Ac],?_⟩
 have:=x.ky.length_eq
 rw[Ac,Ac]at this;exact this
theorem TX.fits{h:Heap}(x:TX prog w kf bd h a led ks o es ep t L):t.fits es.size=true:=by
 have h1:t.place.size=L.length:=by rw[<-Array.length_toList,x.ly.pl,Ac]
 have h2:=x.len.1
 have h3:=x.cn
 have h4:t.dummies.size=0:=by rw[x.ly.dm];rfl
 unfold SetTable.fits SetTable.fill
 rw[Oy,beq_iff_eq,Ww]
 exact⟨by omega,by omega⟩
theorem TX.mem{h:Heap}(x:TX prog w kf bd h a led ks o es ep t L)(k:List Int):k∈ks↔∃j e,(j,e)∈L/\keyT kf e=k:=by
 rw[<-x.ky.mem_iff,Am]
 constructor
 ·rintro⟨e,he,rfl⟩
  obtain⟨y,hy,rfl⟩:=Am.mp he
  exact⟨y.1,y.2,hy,rfl⟩
 ·rintro⟨j,e,hm,rfl⟩
  exact⟨e,Am.mpr ⟨_,hm,rfl⟩,rfl⟩
theorem TX.ent{h:Heap}(x:TX prog w kf bd h a led ks o es ep t L){j:Nat}{e:Int×Value}(m:(j,e)∈L):∃b,e=(hTK prog w (kf b),.ref b)/\IsTK prog w h (kf b) b/\keyT kf e=kf b:=by
 obtain⟨b,h1,h2,_⟩:=x.en e (Am.mpr ⟨_,m,rfl⟩)
 exact⟨b,h1,h2,by rw[h1];rfl⟩
theorem jl3:∀{a b:List Int},inK a=inK b->a=b
 |[],[],_=>rfl
 |[],_::_,h=>by cases h
 |_::_,[],h=>by cases h
 |x::a,y::b,h=>by
  have h:(Sum.inl x:Key)::inK a=Sum.inl y::inK b:=h
  injection h with h1 h2
  injection h1 with h1
  rw[h1,jl3 h2]
theorem jpi{m:Nat}(h:jdc m):(m%2 == 0)=false:=by rcases h with rfl|rfl|rfl <;> rfl
theorem jhd(x:TX prog w kf bd s.heap a led ks o es ep t L){b:Addr}{k:List Int}(hk:IsTK prog w s.heap k b)(hu:A.units<cLine){N:Nat}(n1:(pth t.mask (hTK prog w k) N).j∉L.map Prod.fst)(n2:∀i,i<N->(pth t.mask (hTK prog w k) i).j∈L.map Prod.fst)
  {Q:SetFound->Shared->Prop} (q1:k∈ks->Q (.there none) s) (q2:k∉ks->Q (.free (pth t.mask (hTK prog w k) N).j false) s) :
  ∀(fuel n:Nat)(st:Option SetTable.Probe),st.getD (t.probeStart (hTK prog w k))=pth t.mask (hTK prog w k) n->n<=N->N<n+fuel->(∀i,i<n->∃e,((pth t.mask (hTK prog w k) i).j,e)∈L/\keyT kf e≠k) ->
   wpAny (model prog w) A (setSearchFrom a (.ref b) (hTK prog w k) true fuel st) Q E s
 |0,n,st,_,nN,hf,_=>by omega
 |fuel+1,n,st,hst,nN,hf,no=>by
  have fit:=x.fits
  unfold setSearchFrom
  refine Ab (O8 x.at_ x.dt fit ?_)
  dsimp only
  refine I0 (λq=>absurd q (by unfold SetTable.gaveWay;rw[jpi x.mk_];decide)) (λ_=>?_)
  rw[hst]
  obtain⟨d,d1,d2,d3⟩:=jbs x.ly (ha:=λi=>(es[i]?.map (·.1)).getD 0) (λi e he=>by rw[he];rfl) (hTK prog w k) (10*SetTable.turns t.mask) n ⟨N-n,by
   obtain⟨N',q1,q2,q3⟩:=jgy x.mk_ x.ly.ris (by have:=x.cn;omega) (hTK prog w k)
   have:N'=N:=by
    by_cases c:N'<N
    ·exact absurd (n2 N' c) q2
    ·by_cases c':N<N'
     ·exact absurd (q3 N c') n1
     ·omega
   omega,by rw[show n+(N-n)=N by omega];exact n1⟩
  rcases d3 with⟨g,ge⟩|⟨e,i,hm,eh,ei,g⟩
  ·have nd:n+d=N:=by
    by_cases c:n+d<N
    ·exact absurd (n2 _ c) ge
    ·by_cases c':N<n+d
     ·obtain⟨e,h1,_⟩:=d2 (N-n) (by omega)
      rw[show n+(N-n)=N by omega]at h1
      exact absurd (mem_fst.mpr ⟨e,h1⟩) n1
     ·omega
   generalize hp:t.probe _ (hTK prog w k) (pth t.mask (hTK prog w k) n)=met
   have hp:met=some (.empty (pth t.mask (hTK prog w k) (n+d)).j none):=hp.symm.trans g
   subst hp
   dsimp only
   rw[nd]
   refine Ah (q2 λhin=>?_)
   obtain⟨j,e,hm,ek⟩:=(x.mem k).mp hin
   obtain⟨b',e1,e2,e3⟩:=x.ent hm
   have eh:e.1=hTK prog w k:=by rw[e1,<-ek,e3]
   obtain⟨i,i1,i2⟩:=WayI.found x.ly x.wy hm (N:=N) (by rw[eh];exact n1)
   rw[eh]at i2
   by_cases c:i<n
   ·obtain⟨e',g1,g2⟩:=no i c
    rw[i2]at g1
    exact g2 (by rw[x.ly.uniq g1 hm];exact ek)
   ·obtain⟨e',g1,g2⟩:=d2 (i-n) (by omega)
    rw[show n+(i-n)=i by omega,i2]at g1
    exact g2 (by rw[x.ly.uniq g1 hm];exact eh)
  ·generalize hp:t.probe _ (hTK prog w k) (pth t.mask (hTK prog w k) n)=met
   have hp:met=some (.candidate (pth t.mask (hTK prog w k) (n+d)).j i (pth t.mask (hTK prog w k) (n+d+1))):=hp.symm.trans g
   subst hp
   dsimp only
   obtain⟨b',e1,e2,e3⟩:=x.ent hm
   have ndN:n+d<N:=by
    by_cases c:n+d<N
    ·exact c
    ·by_cases c':N<n+d
     ·obtain⟨e',h1,_⟩:=d2 (N-n) (by omega)
      rw[show n+(N-n)=N by omega]at h1
      exact absurd (mem_fst.mpr ⟨e',h1⟩) n1
     ·rw[show n+d=N by omega]at hm
      exact absurd (mem_fst.mpr ⟨e,hm⟩) n1
   have ys:∀v∈(es.filter (·.1 == hTK prog w k)).toList.map (·.2),∃b' k',v=.ref b'/\IsTK prog w s.heap k' b':=λv hv=>by
    obtain⟨y,hy,rfl⟩:=Am.mp hv
    rw[Array.toList_filter]at hy
    have hy:=(Iz.mp hy).1
    rw[x.ly.el]at hy
    obtain⟨b2,f1,f2,_⟩:=x.en y hy
    exact⟨b2,kf b2,by rw[f1],f2⟩
   obtain⟨i',hsl,ei'⟩:=x.ly.live hm
   have smm:t.sameMemory t.moves t.mask=some true:=by unfold SetTable.sameMemory;rw[Ao (by simp)]
   have again:=jhd x hk hu n1 n2 q1 q2 fuel (n+d+1) (some (pth t.mask (hTK prog w k) (n+d+1))) rfl (by omega) (by omega)
   refine I0 (λ_=>Ab (jpl hk ys ?_)) (λ_=>?_)
   rotate_left
   all_goals
    try simp only[A8,Of]
    rw[ei,e1]
    dsimp only
    refine Ab (Ou (wpAny_eqBool_tuple hu e2 hk ?_))
    refine Ab (O8 x.at_ x.dt fit ?_)
    dsimp only
    by_cases c:kf b'=k
    ·rw[Ao (by rw[c];simp)]
     exact Ah (q1 ((x.mem k).mpr ⟨_,e,hm,by rw[e3,c]⟩))
    ·have cd:decide (inK (kf b')=inK k)=false:=Ow λz=>c (jl3 z)
     rw[cd,An (by simp),smm]
     dsimp only
     rw[Ao rfl,hsl]
     dsimp only
     rw[ei',e1]
     dsimp only
     refine Ab (wpAny_isSame_ref_self ?_)
     refine Ab (Ah ?_)
     rw[Ao rfl]
     dsimp only
     rw[An (by simp)]
     refine again λi hi=>?_
     by_cases c1:i<n
     ·exact no i c1
     ·by_cases c2:i=n+d
      ·subst c2;exact⟨e,hm,by rw[e3];exact c⟩
      ·obtain⟨e',g1,g2⟩:=d2 (i-n) (by omega)
       rw[show n+(i-n)=i by omega]at g1
       refine⟨e',g1,λz=>g2 ?_⟩
       obtain⟨b2,f1,_,f3⟩:=x.ent g1
       rw[f1,<-z,f3]
end
def stpT(ks:List (List Int))(k:List Int):List (List Int):=if k∈ks then ks else ks++[k]
section
variable{prog:Program}{w:World}{A:Around}{E:Value->Shared->Prop}{s:Shared}
variable{kf:Addr->List Int}{bd:Nat}{a:Addr}{led:Bool}{ks:List (List Int)}{o:Obj}{es:Array (Int×Value)}{ep:Nat}{t:SetTable}{L:List (Nat×(Int×Value))}
def TXO(prog:Program)(w:World)(kf:Addr->List Int)(bd:Nat)(h:Heap)(a:Addr)(led:Bool)(ks:List (List Int)):Prop:=∃o es ep t L,TX prog w kf bd h a led ks o es ep t L
theorem jd4{h h':Heap}{k:List Int}{b:Addr}(x:IsTK prog w h k b)(e:∀o,h.get? b=some o->h'.get? b=some o):IsTK prog w h' k b:=by
 obtain⟨ob,items,n,ho,r⟩:=x
 exact⟨ob,items,n,e _ ho,r⟩
theorem jso{h:Heap}{k:List Int}{b:Addr}(x:IsTK prog w h k b)(ho:h.get? a=some o)(hd:o.data=.set es ep t):b≠a:=λz=>by
 obtain⟨ob,items,n,h1,_,h2,_⟩:=x
 rw[z,ho]at h1
 cases h1
 rw[hd]at h2;cases h2
theorem jh6{h h':Heap}{k:List Int}{b:Addr}(x:IsTK prog w h k b)(ho:h.get? a=some o)(hd:o.data=.set es ep t)(hs:Heap.SameBut a h h'):IsTK prog w h' k b :=
 jd4 x λob e=>(hs.2 b (jso x ho hd)).trans e
theorem jk5{h:Heap}(es':Array (Int×Value))(t':SetTable)(ho:h.get? a=some o)(hd:o.data=.set es ep t):(h.update a (Obj.putSet es' t')).get? a=some {o with data:=.set es' (ep+1) t'}:=by
 have e:=O1 (Obj.putSet es' t') ho (by rw[putSet_of es' t' hd];rfl)
 rwa[putSet_of es' t' hd]at e
theorem TX.to{h h':Heap}(x:TX prog w kf bd h a led ks o es ep t L)(ea:h'.get? a=some o)(e:∀b o,b<bd->h.get? b=some o->h'.get? b=some o):TX prog w kf bd h' a led ks o es ep t L :=
 ⟨ea,x.ex,x.dt,x.ly,x.wy,x.mk_,x.cn,λy hy=>let⟨b,q1,q2,q3⟩:=x.en y hy;⟨b,q1,jd4 q2 λo=>e b o q3,q3⟩,x.ky,x.nd,x.ld,x.pl⟩
theorem jm0{m n:Nat}(hm:jdc m)(h1:n*5<m*3)(h2:¬(n+1)*5<m*3)(h3:n+1<=76):∃m',SetTable.sizeAbove (SetTable.grown (n+1))-1=m'/\jdc m'/\(n+1)*5<m'*3/\SetTable.sizeAbove (SetTable.grown (n+1))<=sizeLine:=by
 have hs:=O5
 rcases hm with rfl|rfl|rfl
 ·have:n=4:=by omega
  subst this
  exact⟨31,by decide,.inr (.inl rfl),by decide,by rw[hs];decide⟩
 ·have:n=18:=by omega
  subst this
  exact⟨127,by decide,.inr (.inr rfl),by decide,by rw[hs];decide⟩
 ·omega
theorem jqf(hS:TXO prog w kf bd s.heap a led ks){b:Addr}{k:List Int}(hk:IsTK prog w s.heap k b)(hkf:kf b=k)(hbd:b<bd)(hu:A.units<cLine)(hr:ks.length+1<=76){Q:Bool->Shared->Prop}
  (h:∀h',Heap.SameBut a s.heap h'->TXO prog w kf bd h' a led (stpT ks k)->∀bb,Q bb {s with heap:=h'}) :
  wpAny (model prog w) A (setAddHashed a (.ref b) (hTK prog w k)) Q E s:=by
 obtain⟨o,es,ep,t,L,x⟩:=hS
 have fit:=x.fits
 obtain⟨l1,l2⟩:=x.len
 obtain⟨N,N0,N1,N2⟩:=jgy x.mk_ x.ly.ris (by have:=x.cn;omega) (hTK prog w k)
 have hsz:=O5
 have NT:N<2000:=by
  have:=x.mk_
  unfold SetTable.turns at N0
  rcases this with e|e|e <;> omega
 unfold setAddHashed
 refine Ou ?_
 rw[show(100000:Nat)=99999+1 from rfl,setAddHashedIn]
 refine Ab (O8 x.at_ x.dt fit ?_)
 dsimp only
 refine I0 (λq=>absurd q (by unfold byScan;simp[Value.scannable])) (λ_=>?_)
 unfold setSearch
 refine Ab (jhd x hk hu N1 N2 (λhin=>?_) (λhout=>?_) 100000 0 none rfl (Oc _) (by omega) λi hi=>by omega)
 ·dsimp only
  have q:=h s.heap (Heap.SameBut.refl a s.heap) (by unfold stpT;rw[Ao hin];exact⟨o,es,ep,t,L,x⟩)
  exact Ah (q _)
 ·dsimp only
  refine Ab (O8 x.at_ x.dt fit ?_)
  dsimp only
  obtain⟨L',ly,mem,ll,pm⟩:=x.ly.put (j:=(pth t.mask (hTK prog w k) N).j) (hTK prog w k,.ref b) N1 (jbt t.mask _ N).j
  have wy':WayI t.mask L':=WayI.put x.wy (e:=(hTK prog w k,.ref b)) N2 mem
  have pl':(t.put (pth t.mask (hTK prog w k) N).j).1.plain=true:=x.pl
  have ld':(t.put (pth t.mask (hTK prog w k) N).j).1.led=led:=x.ld
  have mk':(t.put (pth t.mask (hTK prog w k) N).j).1.mask=t.mask:=rfl
  generalize t.put (pth t.mask (hTK prog w k) N).j=W at ly pl' ld' mk'
  obtain⟨t1,p⟩:=W
  dsimp only at ly pl' ld' mk'⊢
  rw[Ao pl']
  refine Ab (jo5 hk ?_)
  rw[Ao rfl]
  have hout':(ks++[k]).Nodup:=by
   rw[Os]
   exact⟨x.nd,by simp,λu hu v hv e=>hout (by rw[<-Aj.mp hv,<-e];exact hu)⟩
  have ky':((L'.map Prod.snd).map (keyT kf)).Perm (ks++[k]):=by
   refine(pm.map _).trans ?_
   rw[Ay]
   refine List.Perm.trans (List.Perm.cons _ x.ky) ?_
   have:keyT kf (hTK prog w k,.ref b)=k:=hkf
   rw[this]
   exact(List.perm_append_singleton k ks).symm
  have en':∀e∈L'.map Prod.snd,∃b,e=(hTK prog w (kf b),.ref b)/\IsTK prog w s.heap (kf b) b/\b<bd:=λe he=>by
   rcases Ap.mp (pm.mem_iff.mp he)with q|q
   ·exact⟨b,by rw[hkf];exact q,by rw[hkf];exact hk,hbd⟩
   ·exact x.en e q
  have sz1:(SetTable.insertAt es p (hTK prog w k,.ref b)).size=L.length+1:=by rw[<-Array.length_toList,ly.el,Ac,ll]
  have fin:stpT ks k=ks++[k]:=An hout
  refine Ab (wpAny_storeSet_of x.at_ x.dt ?_ (by rw[sz1];omega))
  have at1:=jk5 (SetTable.insertAt es p (hTK prog w k,.ref b)) t1 x.at_ x.dt
  have sb1:=Ui s.heap a (Obj.putSet (SetTable.insertAt es p (hTK prog w k,.ref b)) t1)
  generalize s.heap.update a (Obj.putSet (SetTable.insertAt es p (hTK prog w k,.ref b)) t1)=h1 at at1 sb1⊢
  generalize SetTable.insertAt es p (hTK prog w k,.ref b)=es1 at ly at1 sz1⊢
  have en1:∀e∈L'.map Prod.snd,∃b,e=(hTK prog w (kf b),.ref b)/\IsTK prog w h1 (kf b) b/\b<bd:=λe he=>by
   obtain⟨b2,q1,q2,q3⟩:=en' e he
   exact⟨b2,q1,jh6 q2 x.at_ x.dt sb1,q3⟩
  have fl:t1.fill=L.length+1:=by
   unfold SetTable.fill
   rw[ly.dm,<-Array.length_toList,ly.pl,Ac,ll];rfl
  by_cases c:(L.length+1)*5<t.mask*3
  ·rw[An (by unfold SetTable.tooFull;rw[fl,mk'];simp;omega)]
   exact Ah (h h1 sb1 ⟨_,es1,ep+1,t1,L',at1,x.ex,rfl,ly,by rw[mk'];exact wy',by rw[mk'];exact x.mk_,by rw[mk',ll];exact c,en1,by rw[fin];exact ky',by rw[fin];exact hout',ld',pl'⟩ _)
  ·rw[Ao (by unfold SetTable.tooFull;rw[fl,mk'];simp;omega)]
   obtain⟨m',g1,g2,g3,g4⟩:=jm0 x.mk_ x.cn c (by omega)
   rw[l1]
   unfold setRelay
   have fit1:t1.fits es1.size=true:=by
    unfold SetTable.fits
    rw[Oy,beq_iff_eq,Ww,fl,mk',sz1]
    exact⟨by rw[<-Array.length_toList,ly.pl,Ac,ll],by have:=x.cn;rcases x.mk_ with e|e|e <;> omega⟩
   refine Ab (Ab (O8 at1 rfl fit1 ?_))
   dsimp only
   refine I0 (λq=>absurd q (by omega)) (λ_=>?_)
   obtain⟨t2,order,L2,r1,r2,r3,r4,r5,r6,r7,r8,r9⟩:=jq0 (f:=t1.finger) (mvs:=t1.movedTo m') (led:=t1.led) (pl:=t1.plain) g2 es1 (by rw[sz1];rcases g2 with e|e|e <;> omega)
   have rl:t1.relaid (es1.map (·.1)) (SetTable.grown (L.length+1))=some (t2,order):=by
    unfold SetTable.relaid
    rw[g1];exact r1
   rw[rl]
   refine Ab (show wpAny _ _ (if((order.filterMap (es1[·]?)).size != es1.size)=true then unsupported "internal:set-table-lost-an-element"else pure (order.filterMap (es1[·]?),t2)) _ _ _ from ?_)
   rw[An (by rw[r9];simp)]
   refine Ah ?_
   dsimp only
   refine wpAny_storeSet_of at1 rfl ?_ (by rw[r9,sz1];omega)
   have at2:=jk5 (order.filterMap (es1[·]?)) t2 at1 rfl
   have sb2:=Ui h1 a (Obj.putSet (order.filterMap (es1[·]?)) t2)
   generalize h1.update a (Obj.putSet (order.filterMap (es1[·]?)) t2)=h2 at at2 sb2⊢
   have pm2:(L2.map Prod.snd).Perm (L'.map Prod.snd):=by rw[<-ly.el];exact r7
   refine Ah (h h2 (sb1.trans sb2) ⟨_,_,_,t2,L2,at2,x.ex,rfl,r5,by rw[r2];exact r6,by rw[r2];exact g2,by rw[r2,r8,sz1];exact g3,λe he=>?_,by rw[fin];exact(pm2.map _).trans ky',by rw[fin];exact hout',by rw[r3];exact ld',by rw[r4];exact pl'⟩ _)
   obtain⟨b2,q1,q2,q3⟩:=en1 e (pm2.mem_iff.mp he)
   exact⟨b2,q1,jh6 q2 at1 rfl sb2,q3⟩
end
def Leafs{α:Type}(N:Nat)(P:α->Prop):PySem.W.KasT α->Prop
 |.ret a=>P a
 |.ask i j k=>i<N/\j<N/\∀b,Leafs N P (k b)
theorem Leafs.bind{α β:Type}{N:Nat}{P:β->Prop}{f:α->PySem.W.KasT β}:∀{t:PySem.W.KasT α},Leafs N (λa=>Leafs N P (f a)) t->Leafs N P (t.bind f)
 |.ret _,h=>h
 |.ask _ _ k,h=>⟨h.1,h.2.1,λb=>Leafs.bind (h.2.2 b)⟩
theorem Leafs.mono{α:Type}{N:Nat}{P P':α->Prop}(hp:∀a,P a->P' a):∀{t:PySem.W.KasT α},Leafs N P t->Leafs N P' t
 |.ret a,h=>hp a h
 |.ask _ _ k,h=>⟨h.1,h.2.1,λb=>Leafs.mono hp (h.2.2 b)⟩
theorem Leafs.wp{α:Type}{N:Nat}{P:α->Prop}{cmp:Nat->Nat->(Bool->Shared->Prop)->Shared->Prop}{Q:α->Shared->Prop}{s:Shared}(hc:∀i j C,i<N->j<N->(∀b,C b s)->cmp i j C s)(hq:∀a,P a->Q a s):∀{t:PySem.W.KasT α},Leafs N P t->t.kasWp cmp Q s
 |.ret a,h=>hq a h
 |.ask i j k,h=>hc i j _ h.1 h.2.1 λb=>Leafs.wp hc hq (h.2.2 b)
section
variable{N:Nat}{r:Array Nat}(hN:0<N)(hr:∀x∈r.toList,x<N)
theorem jdm{p:Array Nat}(hN:0<N)(hr:∀x∈r.toList,x<N)(h:p.Perm r)(k:Nat):p.getD k 0<N:=by
 rw[Oq]
 cases e:p[k]? with
 |none=>exact hN
 |some v =>
  rw[<-Ie]at e
  exact hr v (h.toList.mem_iff.mp (Al e))
include hN hr
theorem jf6{p:Array Nat}(h:p.Perm r){P:Nat->Prop}(hp:∀n,P n):∀(f n:Nat),Leafs N P (PySem.W.kas_asc p f n)
 |0,n=>hp n
 |f+1,n=>⟨jdm hN hr h _,jdm hN hr h _,λc=>by
  cases c with
  |true=>exact hp n
  |false=>exact jf6 h hp f (n+1)⟩
theorem jav{p:Array Nat}(h:p.Perm r){P:Nat->Prop}(hp:∀n,P n)(k:Nat):∀(f l m:Nat),Leafs N P (PySem.W.kas_place p k f l m)
 |0,l,m=>hp l
 |f+1,l,m=>by
  show Leafs N P (if l ≥ m then _ else _)
  split
  ·exact hp l
  ·refine⟨jdm hN hr h _,jdm hN hr h _,λc=>?_⟩
   cases c with
   |true=>exact jav h hp k f _ _
   |false=>exact jav h hp k f _ _
omit hN hr in
theorem jee{p:Array Nat}(h:p.Perm r)(i j:Nat):(PySem.W.kas_rev p i j).Perm r:=(mirror_perm p i j _).trans h
theorem jej:∀(f:Nat){p:Array Nat}(n q:Nat),p.Perm r->Leafs N (λx:Array Nat×Nat×Nat=>x.1.Perm r) (PySem.W.kas_desc f p n q)
 |0,p,n,q,h=>h
 |f+1,p,n,q,h=>⟨jdm hN hr h _,jdm hN hr h _,λc=>by
  cases c with
  |true =>
   show Leafs N _ (if q>0 then _ else _)
   split
   ·exact jej f _ _ (jee h _ _)
   ·exact jej f _ _ h
  |false =>
   refine⟨jdm hN hr h _,jdm hN hr h _,λd=>?_⟩
   cases d with
   |true=>exact h
   |false=>exact jej f _ _ h⟩
theorem ji8{p:Array Nat}(h:p.Perm r)(n m:Nat):Leafs N (λx:Nat×Array Nat=>x.2.Perm r) (PySem.W.kas_tail3 n m p):=Leafs.bind (jf6 hN hr (jee h _ _) (λ_=>jee h _ _) _ _)
theorem jbk{p:Array Nat}(h:p.Perm r)(n m:Nat):Leafs N (λx:Nat×Array Nat=>x.2.Perm r) (PySem.W.kas_descPart n m p):=by
 refine Leafs.bind (Leafs.mono (λa ha=>?_) (jej hN hr _ _ _ h))
 split
 ·exact ji8 hN hr (jee ha _ _) _ _
 ·exact ji8 hN hr ha _ _
theorem jmu{p:Array Nat}(h:p.Perm r)(m:Nat):Leafs N (λx:Nat×Array Nat=>x.2.Perm r) (PySem.W.kas_count m p):=by
 refine Leafs.bind (jf6 hN hr h (λn=>?_) _ _)
 split
 ·exact h
 ·split
  ·refine⟨jdm hN hr h _,jdm hN hr h _,λc=>?_⟩
   cases c with
   |true=>exact h
   |false=>exact jbk hN hr (jee h _ _) _ _
  ·exact jbk hN hr h _ _
theorem jju:∀(f:Nat){p:Array Nat}(k:Nat),p.Perm r->Leafs N (λx:Array Nat=>x.Perm r) (PySem.W.kas_bin f p k)
 |0,p,k,h=>h
 |f+1,p,k,h=>Leafs.bind (jav hN hr h (λl=>jju f _ ((bubble_perm p _ _).trans h)) _ _ _ _)
end
theorem jou{n:Nat}(hn:0<n):Leafs n (λx:Array Nat=>x.Perm (List.toArray (List.range n))) (PySem.W.kas_sort n):=by
 have hr:∀x∈(List.toArray (List.range n)).toList,x<n:=λx hx=>At.mp (by simpa using hx)
 refine Leafs.bind (Leafs.mono (λa ha=>?_) (jmu hn hr (Array.Perm.refl _) n))
 split
 ·exact jju hn hr _ _ ha
 ·exact ha
section
variable{prog:Program}{w:World}{A:Around}{E:Value->Shared->Prop}{s:Shared}
theorem jma{fin:Bool}{Q:Bool->Shared->Prop}(h:∀b,Q b s):∀(l:List (Value×Value))(i:Nat),(∀x∈l,(∃a t,x.1=.int a t)/\∃a t,x.2=.int a t)->PySem.W.KatLex prog w A true fin Q l i s
 |[],i,_=>h _
 |(p,q)::l,i,hl=>by
  obtain⟨⟨a,t,e1⟩,b,u,e2⟩:=hl (p,q) (.head _)
  dsimp only at e1 e2
  subst e1 e2
  refine PySem.W.kat_cons (wpAny_eqBool_int (PySem.W.kat_go (λ_=>PySem.W.kat_yes (jma h l (i+1) λx hx=>hl x (.tail _ hx))) λ_=>PySem.W.kat_no ?_))
  cases hb:(true && i == 0)with
  |true=>exact oneLt_int (h _)
  |false=>exact PySem.W.kat_one _ _ (PyProof.Rows.lt_int (h _))
theorem jpw{xs ys:List Value}(h1:∀v∈xs,∃i t,v=.int i t)(h2:∀v∈ys,∃i t,v=.int i t):∀x∈xs.zip ys,(∃a t,x.1=.int a t)/\∃a t,x.2=.int a t:=λx hx=>⟨h1 _ (Wp hx).1,h2 _ (Wp hx).2⟩
def jgp(prog:Program)(w:World)(h:Heap)(bs:List Addr)(kf:Addr->List Int):Prop:=∀b∈bs,IsTK prog w h (kf b) b/\kf b≠[]
theorem jrz{kf:Addr->List Int}{x y:Addr}{Q:Bool->Shared->Prop}(hx:IsTK prog w s.heap (kf x) x)(hy:IsTK prog w s.heap (kf y) y)(q:∀b,Q b s):wpAny (model prog w) A (keyLt' (tuples' true) (.ref x) (.ref y)) Q E s:=by
 obtain⟨ox,xs,n,h1,_,d1,i1⟩:=hx
 obtain⟨oy,ys,m,h2,_,d2,i2⟩:=hy
 exact PySem.W.kat_lt h1 d1 h2 d2 (jma q _ 0 (jpw (jdk i1) (jdk i2)))
theorem jih{h:Heap}{kf:Addr->List Int}:∀{bs:List Addr},jgp prog w h bs kf->∃fs,PySem.W.KatTups h (bs.map Value.ref) fs/\fs.length=bs.length/\∀v∈fs,∃i t,v=.int i t
 |[],_=>⟨[],trivial,rfl,by simp⟩
 |b::bs,ht=>by
  obtain⟨fs,h1,h2,h3⟩:=jih (bs:=bs) λc hc=>ht c (.tail _ hc)
  obtain⟨⟨o,items,n,ho,hc,hd,hi⟩,ne⟩:=ht b (.head _)
  obtain⟨i0,k,ek⟩:=List.exists_cons_of_ne_nil ne
  have il:=hi.length
  obtain⟨f,hf⟩:∃f,items[0]?=some f:=by
   have:0<items.size:=by rw[<-Array.length_toList,<-il,ek];simp[inK]
   exact⟨_,Iu this⟩
  have fi:=jdk hi f (by rw[<-Ie]at hf;exact Al hf)
  refine⟨f::fs,PySem.W.KatTups.cons ho hc hd hf h1,by simp[h2],λv hv=>?_⟩
  rcases Ap.mp hv with q|q
  ·rw[q];exact fi
  ·exact h3 v q
theorem joi{h:Heap}{i:Int}{t:Tok}:PySem.W.Looks (model prog w) h (typeOf (.int i t)) (.type "int"):=PySem.W.Looks.of_pure rfl
end
section
variable{prog:Program}{w:World}{A:Around}{E:Value->Shared->Prop}{s:Shared}
theorem joe{kf:Addr->List Int}{bs:List Addr}{Q:SortKind->Shared->Prop}(ht:jgp prog w s.heap bs kf)(h2:2<=bs.length)(h:Q (tuples' true) s):wpAny (model prog w) A (keyKind' (bs.map Value.ref).toArray) Q E s:=by
 obtain⟨fs,f1,f2,f3⟩:=jih ht
 refine PySem.W.kat_kind (T:=.type "int") f1 (by omega) (λv hv=>?_) (by decide) ?_
 ·obtain⟨i,t,rfl⟩:=f3 v hv
  exact joi
 ·exact h
theorem joq{kf:Addr->List Int}{bs:List Addr}{Q:SortSt->Shared->Prop}(ht:jgp prog w s.heap bs kf)(h2:2<=bs.length)(h64:bs.length<64)
  (h:∀(st:SortSt)(bs':List Addr),bs'.Perm bs->(arrOf st).map (·.2)=(bs'.map Value.ref).toArray->failedOf st=none->Q st s) :
  wpAny (model prog w) A ((sortRuns').run (SortSt.mk' (tuples' true) ((bs.map Value.ref).toArray.zip (bs.map Value.ref).toArray) #[] 7 none)) (λr s'=>Q r.2 s') E s:=by
 have lv:(bs.map Value.ref).length=bs.length:=Ac ..
 refine PySem.W.kat_run (vs:=bs.map Value.ref) (ks:=bs.map Value.ref) (G:=λp s'=>s'=s/\p.Perm (List.toArray (List.range bs.length))) rfl (by omega) (by omega) (λp st s' hp ha hf hg=>?_) ?_
 ·obtain⟨rfl,pp⟩:=hg
  have sn:=PySem.W.kat_snds (vs:=bs.map Value.ref) rfl ha
  have pl:p.toList.Perm (List.range bs.length):=by simpa using pp.toList
  refine h st (p.toList.map λi=>bs.getD i 0) ?_ ?_ hf
  ·have e2:(List.range bs.length).map (λk=>bs.getD k 0)=bs:=by
    refine Om (by simp) λi q1 q2=>?_
    rw[Oo,Ob,Ae,Aa q2];rfl
   exact(pl.map _).trans (by rw[e2])
  ·rw[sn,Ax]
   congr 1
   refine Ih λi hi=>?_
   have il:=At.mp (pl.mem_iff.mp hi)
   show(bs.map Value.ref).getD i .none=.ref (bs.getD i 0)
   rw[Ae,Ag,Ae,Aa il];rfl
 ·rw[lv]
  refine Leafs.wp (λi j C hi hj hC=>?_) (λp hp=>⟨rfl,hp⟩) (jou (by omega))
  have ix:∀i,i<bs.length->∃b,(bs.map Value.ref).getD i .none=.ref b/\b∈bs:=λi hi=>by
   rw[Ae,Ag,Aa hi]
   exact⟨_,rfl,A7 hi⟩
  obtain⟨x,ex,mx⟩:=ix i hi
  obtain⟨y,ey,my⟩:=ix j hj
  show wpAny _ _ (keyLt' (tuples' true) ((bs.map Value.ref).getD i .none) ((bs.map Value.ref).getD j .none)) C _ s
  rw[ex,ey]
  exact jrz (ht x mx).1 (ht y my).1 hC
theorem jov{D:Addr}{kf:Addr->List Int}{bs:List Addr}{n:Nat}{P:PySem.Fin->Shared->Prop}(ho:s.heap.get? D=some (seqObj "list" (bs.map Value.ref).toArray n))(ht:jgp prog w s.heap bs kf)(h64:bs.length<64)
  (h:∀(h':Heap)(bs':List Addr)(c:Nat),bs'.Perm bs->h'.get? D=some (seqObj "list" (bs'.map Value.ref).toArray c)->(∀b o,b≠D->s.heap.get? b=some o->h'.get? b=some o)->P (.done (.ret .none)) {s with heap:=h'}) :
  wpAny (model prog w) A (Builtin.«list.sort» ⟨[.ref D],[]⟩) P E s:=by
 have hsz:=O5
 have lv:(bs.map Value.ref).toArray.size=bs.length:=by simp
 have nD:∀b∈bs,b≠D:=λb hb e=>by
  obtain⟨⟨o,items,n,h1,h2,_⟩,_⟩:=ht b hb
  rw[e,ho]at h1
  cases h1
  exact absurd h2 (by simp[seqObj])
 obtain⟨c1,g1⟩:∃c1,(s.heap.update D (Obj.mapSeq λ_=>(#[]:Array Value))).get? D=some (seqObj "list" #[] c1):=⟨_,get?_update_seq ho λ_=>#[]⟩
 have k1:∀b o,b≠D->s.heap.get? b=some o->(s.heap.update D (Obj.mapSeq λ_=>(#[]:Array Value))).get? b=some o:=λb o hb e=>(O6 _ _ (Wl hb)).trans e
 rw[list_sort_plain]
 refine Ab (listItems_at ho rfl (Ab (listUpdate_at ho rfl ?_ (by rw[lv,hsz];omega) (Oc _))))
 generalize s.heap.update D (Obj.mapSeq λ_=>(#[]:Array Value))=h1 at g1 k1⊢
 refine Ab (seqEpoch_at g1 rfl (Ab (wpAny_newTuple (Ab (wpAny_newList (Ou ?_) (Oc _))) (by rw[Array.length_toList,lv,hsz];omega))))
 have k2:∀b o,h1.get? b=some o->((h1.push (seqObj "tuple" (bs.map Value.ref).toArray.toList.toArray 0)).push (seqObj "list" [].toArray 0)).get? b=some o:=λb o e=>Ai _ (Ai _ e)
 have g2:=k2 _ _ g1
 generalize hh2:((h1.push (seqObj "tuple" (bs.map Value.ref).toArray.toList.toArray 0)).push (seqObj "list" [].toArray 0))=h2 at k2 g2
 have ht2:jgp prog w h2 bs kf:=λb hb=>⟨jd4 (ht b hb).1 λo e=>k2 _ _ (k1 _ _ (nD b hb) e),(ht b hb).2⟩
 show wpAny _ A _ P E {s with heap:=h2}
 dsimp only
 have fin:∀(st:SortSt)(bs':List Addr),bs'.Perm bs->(arrOf st).map (·.2)=(bs'.map Value.ref).toArray->failedOf st=none->wpAny (model prog w) A (do
   let __do_lift <-seqEpoch D
   have touched:Bool:=__do_lift != c1
   Builtin.List.listUpdate (.ref D) λx=>(arrOf st).map (·.2)
   have __do_jp:Unit->Sem PySem.Fin:=λ__r =>
    have __do_jp:=fun(__r:Unit)=>ret Value.none;
    if touched=true then do
     rule "list.sort.modified"
     let __r <-raiseErrorWords "ValueError" "list modified during sort"
     __do_jp __r
    else __do_jp ()
   match failedOf st with
    |some e=>do
     rule "list.sort.comparison-raised"
     let __r <-throw e
     __do_jp __r
    |x=>__do_jp ()) P E {s with heap:=h2}:=λst bs' hp ea hf=>by
  rw[ea,hf]
  refine Ab (seqEpoch_at g2 rfl (Ab (listUpdate_at g2 rfl ?_ (Oc _) (by rw[Aq,Ac,hp.length_eq,hsz];omega))))
  dsimp only
  rw[An (by simp)]
  refine Ah (h _ bs' _ hp (get?_update_seq g2 λ_=>(bs'.map Value.ref).toArray) λb o hb e=>(O6 _ _ (Wl hb)).trans (k2 _ _ (k1 _ _ hb e)))
 by_cases c:(bs.map Value.ref).toArray.size<2
 ·rw[Ao c,Ao c]
  refine Ab (Ah ?_)
  rw[StateT.run_pure]
  refine Ab (Ah ?_)
  refine fin _ bs (Ye _) ?_ rfl
  show Array.map (·.2) ((bs.map Value.ref).toArray.zip (bs.map Value.ref).toArray)=_
  apply Array.toList_inj.mp
  rw[Array.toList_map,Array.toList_zip]
  refine Om (by simp) λi q1 q2=>?_
  simp
 ·rw[An c,An c]
  rw[lv]at c
  refine Ab (joe (s:={s with heap:=h2}) ht2 (by omega) ?_)
  refine Ab (Uj (joq (s:={s with heap:=h2}) (Q:=λst s'=>s'={s with heap:=h2}/\∃bs':List Addr,bs'.Perm bs/\(arrOf st).map (·.2)=(bs'.map Value.ref).toArray/\failedOf st=none) ht2 (by omega) h64 λst bs' hp ea hf=>⟨rfl,bs',hp,ea,hf⟩) ?_ λ_ _ e=>e)
  rintro⟨⟨⟩,st⟩ s' ⟨rfl,bs',hp,ea,hf⟩
  exact fin st bs' hp ea hf
end
section
variable{prog:Program}{w:World}{A:Around}{R:Result->Shared->Prop}{I S:Addr}{fp wr:List Addr}{n:Nat}{P:Nat->Value->Prop}{St:Nat->Heap->Prop}
structure SetSteps(prog:Program)(w:World)(S I:Addr)(n:Nat)(P:Nat->Value->Prop)(SP:Nat->Heap->Prop):Prop where
 keep:∀i h h',SP i h->(∀b o,b≠I->h.get? b=some o->h'.get? b=some o)->SP i h'
 add:∀(A:Around)(E:Value->Shared->Prop)(i:Nat)(v:Value)(s:Shared)(Q:Bool->Shared->Prop),A.units<cLine->i<n->P i v->SP i s.heap->(∀h' tk,Heap.SameBut S s.heap h'->SP (i+1) h'->∀b,Q b {s with heap:=h',toks:=tk})->wpAny (model prog w) A (setAdd S v) Q E s
theorem ji5{SP:Nat->Heap->Prop}(W:Walks prog w A.in1 I fp [I] n P St)(T:SetSteps prog w S I n P SP)(hu:A.in1.units<cLine)(hSf:S∉fp)(hIS:S≠I)(hfp:I∈fp) :
  ∀(k i:Nat)(s:Shared),n-i=k->i<=n->St i s.heap->SP i s.heap ->
   (∀h' tk,(∀b o,b≠S->b≠I->s.heap.get? b=some o->h'.get? b=some o)->SP n h'->R (.ok (.ret .none)) {s with heap:=h',toks:=tk}) ->
   codeAny (model prog w) A (.builtin "set.update.loop" ⟨[.ref S,.ref I],[]⟩) R s
 |0,i,s,hk,hi,st,sp,hR=>by
  have hin:i=n:=by omega
  subst hin
  refine Ur Yb ?_
  rw[Ue U1 _]
  refine show wpAny _ A.in1 (pyNext (.ref I) >>= _) _ _ s from Ab (W.done s _ _ st λh' tk kk=>?_)
  refine show wpAny _ A.in1 (ret Value.none) _ _ _ from Ah (hR h' tk (λb o _ hb e=>kk b o (by simpa using hb) e) (T.keep _ _ _ sp λb o hb e=>kk b o (by simpa using hb) e))
 |k+1,i,s,hk,hi,st,sp,hR=>by
  have hlt:i<n:=by omega
  refine Ur Yb ?_
  rw[Ue U1 _]
  refine show wpAny _ A.in1 (pyNext (.ref I) >>= _) _ _ s from Ab (W.item i s _ _ hlt st λv h1 tk hP st1 kk=>?_)
  have sp1:=T.keep _ _ _ sp λb o hb e=>kk b o (by simpa using hb) e
  refine show wpAny _ A.in1 (holding [v] (setAdd S v) >>= _) _ _ _ from Ab (Ou (T.add _ _ i v {s with heap:=h1,toks:=tk} _ hu hlt hP sp1 λh2 tk2 sb sp2 _=>?_))
  refine Ah ⟨Wm U1 _,ji5 W T hu hSf hIS hfp k (i+1) _ (by omega) hlt (W.frame _ _ _ st1 λb hb o e=>?_) sp2 λh3 tk3 k3 sp3=>?_⟩
  ·exact(sb.2 b λz=>hSf (z▸hb)).trans e
  ·exact hR h3 tk3 (λb o h1 h2 e=>k3 b o h1 h2 ((sb.2 b h1).trans (kk b o (by simpa using h2) e))) sp3
end
section
variable{prog:Program}{w:World}{A:Around}{E:Value->Shared->Prop}{s:Shared}
theorem call_setG{l:Addr}{items:Array Value}{SP:Nat->Heap->Prop}{Q:Value->Shared->Prop}(hh:A.handled=none)(hu:A.units+8<cLine)(hl:s.heap.IsList l items)
  (T:SetSteps prog w s.heap.objs.size (s.heap.objs.size+1) items.size (λi v=>items[i]?=some v) SP)
  (h0:∀h:Heap,h.get? s.heap.objs.size=some (setO (!w.params.followText "set-order"))->(∀b o,s.heap.get? b=some o->h.get? b=some o)->SP 0 h)
  (h:∀(h':Heap)(tk:Nat),SP items.size h'->(∀b o,b<s.heap.objs.size->s.heap.get? b=some o->h'.get? b=some o)->Q (.ref s.heap.objs.size) {s with heap:=h',toks:=tk}) :
  wpAny (model prog w) A (call (.type "set") [.ref l]) Q E s:=by
 obtain⟨ol,hol,hcl,nl,hdl⟩:=hl
 obtain⟨c,tl,hmro⟩:=Uc.mro
 have hmade:=Uc.made
 have hsub:=Uc.sub
 have h1:=Uc.notType
 have h2:=Uc.canCreate
 have hct:=PySem.F.typeCall_set_1 (.ref l)
 refine wpAny_call (codeAny_of_tree (show wpAny _ _ (callAny (.type "set") _) _ _ _ from Ah ⟨Code.quiet_builtin _ (by decide +kernel),Ur PySem.F.entry_type_call ?_⟩))
 rw[Around.under_plain (weight_type_call_type "set" [.ref l] []) rfl]
 repeat (any_goals (first|assumption|wp_step))
 refine Wx (jpp (.ref l) (E:=E) (Q₁:=λobj s₁=>obj=.ref s.heap.objs.size/\s₁={s with heap:=s.heap.push (setO (!w.params.followText "set-order"))}) ⟨rfl,rfl⟩) λr s₁ hr=>?_
 cases r with
 |error e=>exact hr
 |ok fl =>
  cases fl with
  |ret obj =>
   obtain⟨rfl,rfl⟩:=hr
   have hS:(s.heap.push (setO (!w.params.followText "set-order"))).get? s.heap.objs.size=some (setO (!w.params.followText "set-order")):=Aw _ rfl
   have hT:Shared.TypeIs {s with heap:=s.heap.push (setO (!w.params.followText "set-order"))} (.ref s.heap.objs.size) "set":=⟨_,hS,rfl⟩
   have hli:=Uc.init.lookup
   have hbi:=Uc.init.bind (.ref s.heap.objs.size)
   repeat (any_goals (first|assumption|wp_step))
   refine Wx (codeAny_call_builtin (R:=wants (λr s₂=>r=.none/\∃h' tk,s₂={s with heap:=h',toks:=tk}/\SP items.size h'/\(∀b o,b<s.heap.objs.size->s.heap.get? b=some o->h'.get? b=some o)) E) Uc.init.plain PySem.F.entry_set_init (check_set_init_1 hT ?_)) λr₂ s₂ hr₂=>?_
   ·have hol':(s.heap.push (setO (!w.params.followText "set-order"))).get? l=some ol:=Ai _ hol
    have hTl:Shared.TypeIs {s with heap:=s.heap.push (setO (!w.params.followText "set-order"))} (.ref l) "list":=⟨_,hol',hcl⟩
    have hsls:=PySem.F.sub_list_set
    have hslf:=PySem.F.sub_list_frozenset
    have hne:(Value.type "list" == Value.type "dict")=false:=by decide
    have hsp:(s.heap.push (setO (!w.params.followText "set-order"))).objs.size=s.heap.objs.size+1:=Ov ..
    have hlS:l<s.heap.objs.size:=Ar hol
    unfold Builtin.«set.__init__» noKeywords Builtin.Frozenset.updateFrom
    generalize hPI:pyIter=PI
    wp_walk
    subst hPI
    refine U6 ⟨ol,hol',hcl,nl,hdl⟩ ?_
    rw[hsp]
    refine Ab (wpAny_runValue ?_)
    have hSf:s.heap.objs.size∉[s.heap.objs.size+1,l]:=by
     simp only[Ap,Af,Uk,not_or]
     exact⟨A0 (Yo _),Uo hlS⟩
    have kp:∀b o,s.heap.get? b=some o->((s.heap.push (setO (!w.params.followText "set-order"))).push {cls:=.type "list_iterator",data:=.fields #[.ref l,.int 0 0]}).get? b=some o:=λb o e=>Ai _ (Ai _ e)
    refine ji5 (Walks.list (by simp[hh]) (s.heap.objs.size+1) l (A0 (Ut hlS)) items) T (by show _<_;simp;omega) hSf (A0 (Yo _)) (by simp) (items.size-0) 0 _ rfl (Oc _) ⟨⟨_,by rw[<-hsp];exact Aw _ rfl,rfl,rfl⟩,ol,kp _ _ hol,hcl,nl,hdl⟩ (h0 _ (Ai _ hS) kp) λh' tk kk sp=>?_
    refine show wpAny _ _ _ _ _ _ from Ah (show wpAny _ _ (ret Value.none) _ _ _ from Ah ⟨rfl,h',tk,rfl,sp,λb o hb e=>kk b o (A0 hb) (A0 (Ut hb)) (kp b o e)⟩)
   ·cases r₂ with
    |error e=>exact hr₂
    |ok fl₂ =>
     cases fl₂ with
     |ret r =>
      obtain⟨rfl,h',tk,rfl,hS',hk'⟩:=hr₂
      repeat (any_goals (first|assumption|wp_step))
      exact h _ _ hS' hk'
     |_=>exact hr₂.elim
  |_=>exact hr.elim
end
def fmT(ks:List (List Int)):List (List Int):=ks.foldl stpT []
theorem jpc(ks:List (List Int))(k:List Int):fmT (ks++[k])=stpT (fmT ks) k:=by unfold fmT;rw[Uf];rfl
theorem jly:∀ks:List (List Int),(fmT ks).length<=ks.length:=by
 have:∀(ks a:List (List Int)),(ks.foldl stpT a).length<=a.length+ks.length:=λks=>by
  induction ks with
  |nil=>intro a;simp
  |cons k ks ih =>
   intro a
   rw[List.foldl_cons,List.length_cons]
   have h1:=ih (stpT a k)
   have h2:(stpT a k).length<=a.length+1:=by unfold stpT;split <;> simp
   omega
 intro ks
 have h:=this ks []
 rw[List.length_nil,Nat.zero_add]at h
 exact h
theorem jlz(x:List Int):∀ks:List (List Int),x∈fmT ks↔x∈ks:=by
 have:∀(ks a:List (List Int)),x∈ks.foldl stpT a↔x∈a\/x∈ks:=λks=>by
  induction ks with
  |nil=>intro a;simp
  |cons k ks ih =>
   intro a
   rw[List.foldl_cons,ih,Ap]
   unfold stpT
   split
   ·rename_i h
    constructor
    ·rintro(q|q)
     ·exact .inl q
     ·exact .inr (.inr q)
    ·rintro(q|q|q)
     ·exact .inl q
     ·exact .inl (q▸h)
     ·exact .inr q
   ·rw[Au,Aj]
    constructor
    ·rintro((q|q)|q)
     ·exact .inl q
     ·exact .inr (.inl q)
     ·exact .inr (.inr q)
    ·rintro(q|q|q)
     ·exact .inl (.inl q)
     ·exact .inl (.inr q)
     ·exact .inr q
 intro ks
 have h:=this ks []
 simpa[fmT]using h
section
variable{prog:Program}{w:World}{A:Around}{E:Value->Shared->Prop}{s:Shared}
theorem jr8{kf:Addr->List Int}{bd:Nat}{h:Heap}{a:Addr}{led:Bool}(e:h.get? a=some (setO led)):TX prog w kf bd h a led [] (setO led) #[] 0 (.fresh 0 0 led) [] :=
 ⟨e,⟨rfl,rfl,rfl⟩,rfl,⟨rfl,rfl,by simp,rfl,by simp⟩,λx hx=>by simp at hx,.inl rfl,by show(0:Nat)*5<7*3;decide,by simp,.nil,.nil,rfl,rfl⟩
theorem jpq{l:Addr}{bs:List Addr}{kf:Addr->List Int}{Q:Value->Shared->Prop}(hh:A.handled=none)(hu:A.units+8<cLine)(hl:s.heap.IsList l (bs.map Value.ref).toArray)(hb:∀b∈bs,IsTK prog w s.heap (kf b) b)(h75:bs.length<=75)
  (h:∀(h':Heap)(tk:Nat),TXO prog w kf s.heap.objs.size h' s.heap.objs.size (!w.params.followText "set-order") (fmT (bs.map kf))->(∀b o,b<s.heap.objs.size->s.heap.get? b=some o->h'.get? b=some o)->Q (.ref s.heap.objs.size) {s with heap:=h',toks:=tk}) :
  wpAny (model prog w) A (call (.type "set") [.ref l]) Q E s:=by
 have lb:∀b∈bs,b<s.heap.objs.size:=λb q=>by
  obtain⟨o,_,_,e,_⟩:=hb b q
  exact Ar e
 have sz:(bs.map Value.ref).toArray.size=bs.length:=by simp
 refine call_setG (SP:=λi h=>TXO prog w kf s.heap.objs.size h s.heap.objs.size (!w.params.followText "set-order") (fmT ((bs.take i).map kf))/\∀b∈bs,IsTK prog w h (kf b) b) hh hu hl ⟨?_,?_⟩ ?_ ?_
 ·rintro i h1 h2 ⟨⟨o,es,ep,t,L,x⟩,hk⟩ kk
  refine⟨⟨o,es,ep,t,L,x.to (kk _ _ (A0 (Yo _)) x.at_) λb o hb' e=>kk b o (A0 (Ut hb')) e⟩,λb hb'=>jd4 (hk b hb') λo e=>kk b o (A0 (Ut (lb b hb'))) e⟩
 ·rintro A' E' i v s' Q' hu' hi hv ⟨sp,hk⟩ q
  have hi':i<bs.length:=by rw[sz]at hi;exact hi
  have hv:v=.ref bs[i]:=by
   rw[List.getElem?_toArray,Ag,Aa hi']at hv
   exact(Av hv).symm
  subst hv
  have bm:=A7 hi'
  unfold setAdd
  refine Ou (Ab (wpAny_pyHash_tuple hu' (hk _ bm) ?_))
  have tk:bs.take (i+1)=bs.take i++[bs[i]]:=by rw[Oa,Aa hi'];rfl
  have st:fmT ((bs.take (i+1)).map kf)=stpT (fmT ((bs.take i).map kf)) (kf bs[i]):=by rw[tk,A5,List.map_singleton,jpc]
  have ll:(fmT ((bs.take i).map kf)).length+1<=76:=by
   have:=jly ((bs.take i).map kf)
   rw[Ac,Oe]at this
   omega
  refine jqf (s:={s' with toks:=s'.toks+((inK (kf bs[i])).length+1)}) sp (hk _ bm) rfl (lb _ bm) hu' ll λh2 sb tx b=>q h2 _ sb ⟨by rw[st];exact tx,λb' hb'=>?_⟩ b
  obtain⟨o,es,ep,t,L,x⟩:=sp
  exact jh6 (hk b' hb') x.at_ x.dt sb
 ·intro h1 e1 kk
  refine⟨⟨_,_,_,_,[],by simpa[fmT]using jr8 e1⟩,λb hb'=>jd4 (hb b hb') λo e=>kk b o e⟩
 ·intro h1 tk ⟨sp,_⟩ kk
  refine h h1 tk ?_ kk
  rw[sz,Ii]at sp
  exact sp
end
structure SR(h:Heap)(a:Addr)(o:Obj)(es:Array (Int×Value))(ep:Nat)(t:SetTable):Prop where
 at_:h.get? a=some o
 ct:o.cls=.type "set"
 dt:o.data=.set es ep t
 fits:t.fits es.size=true
 ris:t.place.toList.Pairwise (·<·)
 pl:t.plain=true
 sz:es.size<1000
theorem SR.keep{h h':Heap}{a:Addr}{o:Obj}{es:Array (Int×Value)}{ep:Nat}{t:SetTable}(x:SR h a o es ep t)(k:h'.get? a=some o):SR h' a o es ep t:=⟨k,x.ct,x.dt,x.fits,x.ris,x.pl,x.sz⟩
theorem jgq{xs:Array Nat}(hr:xs.toList.Pairwise (·<·)){i j:Nat}(h1:∀k,k<i->∀v,xs.toList[k]?=some v->v<j)(h2:∀k,i<=k->∀v,xs.toList[k]?=some v->j<=v)(hi:i<=xs.size):SetTable.below xs j=i:=by
 obtain⟨q1,q2,q3⟩:=jf8 hr j
 by_cases c:SetTable.below xs j<i
 ·have hl:SetTable.below xs j<xs.toList.length:=by rw[Array.length_toList];omega
  have a1:=h1 _ c _ (Aa hl)
  have a2:=q2 _ (Ak _) _ (Aa hl)
  omega
 ·by_cases d:i<SetTable.below xs j
  ·have hl:i<xs.toList.length:=by rw[Array.length_toList];omega
   have a1:=q1 _ d _ (Aa hl)
   have a2:=h2 _ (Ak _) _ (Aa hl)
   omega
  ·omega
def jnf(t:SetTable):Nat->Nat
 |0=>0
 |i+1=>t.place.getD i 0+1
theorem jf5{t:SetTable}(hr:t.place.toList.Pairwise (·<·)):∀{i:Nat},i<=t.place.size->SetTable.below t.place (jnf t i)=i
 |0,_=>jgq hr (λk hk=>by omega) (λk _ v _=>Oc _) (Oc _)
 |i+1,h=>by
  have hl:i<t.place.toList.length:=by rw[Array.length_toList];omega
  have e:t.place.toList[i]?=some (t.place.getD i 0):=by
   rw[Ie,Oq,Iu (by omega)];rfl
  have pw:=Ua.mp hr
  refine jgq hr (λk hk v hv=>?_) (λk hk v hv=>?_) h
  ·show v<t.place.getD i 0+1
   obtain⟨lk,ek⟩:=Ad.mp hv
   obtain⟨li,ei⟩:=Ad.mp e
   by_cases c:k=i
   ·subst c;rw[hv]at e;cases e;omega
   ·have:=pw k i lk li (by omega)
    omega
  ·show t.place.getD i 0+1<=v
   obtain⟨lk,ek⟩:=Ad.mp hv
   obtain⟨li,ei⟩:=Ad.mp e
   have:=pw i k li lk (by omega)
   omega
section
variable{prog:Program}{w:World}{A:Around}{E:Value->Shared->Prop}{s:Shared}
variable{I a:Addr}{o:Obj}{es:Array (Int×Value)}{ep:Nat}{t:SetTable}
theorem ji6{f:Value}{i:Nat}{Q:Option Value->Shared->Prop}(x:SIt s.heap I f i a es.size ep)(y:SR s.heap a o es ep t){sl:Nat}(ef:f=.int sl 0)
  (h:wpAny (model prog w) A.in1 (do
     match <-setNext a sl i ep with
     |some (x,next) =>
      setField (.ref I) 0 (rawInt next)
      setField (.ref I) 1 (rawInt (i+1))
      ret x
     |none=>setField (.ref I) 2 .none;raiseNew (<-newExc (.type "StopIteration") []))
   (λfin s'=>∃v,fin=Fin.done (Flow.ret v)/\Q (some v) s') (λe s'=>wpAny (model prog w) A (do if(<-isInstance e (.type "StopIteration"))=true then pure none else throw e) Q E s') s) :
  wpAny (model prog w) A (pyNext (.ref I)) Q E s:=by
 subst ef
 obtain⟨oi,hi,ci,di⟩:=id x
 unfold pyNext
 refine Ab (W3 (Ot (name:=Str.ofString "__next__") x.ty sit_next (On sit_next x.ty jot ?_ (jpr _))))
 unfold Builtin.«set_iterator.__next__»
 refine Ab (Ah (Ab (Yd hi di ?_)))
 dsimp only
 refine Ab (wpAny_setEntries_of y.at_ y.dt y.fits ?_)
 rw[An (by simp)]
 refine Uj ?_ (Q:=λfin s'=>∃v,fin=Fin.done (Flow.ret v)/\Q (some v) s') (λfin s' ⟨v,e,q⟩=>⟨v,e,Ah q⟩) λ_ _ q=>q
 simp only[Int.toNat_natCast]
 exact h
theorem jk1{sl i nx:Nat}{v:Value}{Q:Option Value->Shared->Prop}(x:SIt s.heap I (.int sl 0) i a es.size ep)(y:SR s.heap a o es ep t)
  (hx:∀(A':Around)(E':Value->Shared->Prop)(Q':Option (Value×Nat)->Shared->Prop),Q' (some (v,nx)) s->wpAny (model prog w) A' (setNext a sl i ep) Q' E' s)
  (hQ:∀h',SIt h' I (.int nx 0) (i+1) a es.size ep->Heap.SameBut I s.heap h'->Q (some v) {s with heap:=h'}):wpAny (model prog w) A (pyNext (.ref I)) Q E s:=by
 refine ji6 x y rfl (Ab (hx _ _ _ ?_))
 obtain⟨oi,hi,ci,di⟩:=id x
 obtain⟨o1,g1,c1,d1⟩:=SIt.upd hi ci di 0 (rawInt nx)
 dsimp only
 refine Ab (Wb hi di (by simp) (Ab (Wb g1 d1 (by simp) (Ah ⟨v,rfl,hQ _ ?_ ((Ui ..).trans (Ui ..))⟩))))
 exact⟨_,O1 _ g1 (Yr (Uz d1 _)),(Obj.cls_mapFields ..).trans c1,by rw[Uz d1];simp[rawInt]⟩
theorem jk0{sl i:Nat}{Q:Option Value->Shared->Prop}(hh:A.handled=none)(x:SIt s.heap I (.int sl 0) i a es.size ep)(y:SR s.heap a o es ep t)
  (hx:∀(A':Around)(E':Value->Shared->Prop)(Q':Option (Value×Nat)->Shared->Prop),Q' none s->wpAny (model prog w) A' (setNext a sl i ep) Q' E' s)
  (hQ:∀h',(∀b o,b≠I->s.heap.get? b=some o->h'.get? b=some o)->Q none {s with heap:=h'}):wpAny (model prog w) A (pyNext (.ref I)) Q E s:=by
 refine ji6 x y rfl (Ab (hx _ _ _ ?_))
 obtain⟨oi,hi,ci,di⟩:=id x
 dsimp only
 refine Ab (Wb hi di (by simp) ?_)
 exact jps hh λh' k=>hQ h' λb o hb e=>k b o ((O6 _ _ (Wl hb)).trans e)
theorem jg7{sl i:Nat}{Q:Option (Value×Nat)->Shared->Prop}(hB:w.params.followText "set-order"=true)(y:SR s.heap a o es ep t)
  (h:Q (((pickOrder (w.params.setOrder a ep) es)[i]?).map λe=>(e.2,sl)) s):wpAny (model prog w) A (setNext a sl i ep) Q E s:=by
 unfold setNext setsByText
 refine Ab (O8 y.at_ y.dt y.fits ?_)
 dsimp only
 refine Ab (Ab (Wf (Ah (I0 (λ_=>I0 (λq=>absurd q (by simp)) (λ_=>?_)) (λq=>absurd hB q)))))
 unfold setWalk setsByText
 refine Ab (Ab (O8 y.at_ y.dt y.fits ?_))
 dsimp only
 exact Ab (Ab (Wf (Ah (I0 (λ_=>Ab (Wf (Ah (Ah h)))) (λq=>absurd hB q)))))
theorem jg6{i:Nat}{Q:Option (Value×Nat)->Shared->Prop}(hB:w.params.followText "set-order"=false)(y:SR s.heap a o es ep t)(ld:t.led=true){sl g:Nat}
  (h:Q (match es[SetTable.below t.place sl]?,t.place[SetTable.below t.place sl]? with|some (_,x),some j=>some (x,j+1)|_,_=>none) s):wpAny (model prog w) A (setNext a sl g ep) Q E s:=by
 unfold setNext setsByText
 refine Ab (O8 y.at_ y.dt y.fits ?_)
 dsimp only
 refine Ab (Ab (Wf (Ah (I0 (λq=>absurd q (show ¬w.params.followText "set-order"=true by rw[hB];decide)) (λ_=>?_)))))
 refine I0 (λq=>?_) (λ_=>?_)
 ·have q':(!t.plain && decide (es.size>1))=true:=q
  rw[y.pl]at q';cases q'
 refine Ab (show wpAny _ _ (if(!t.led && !es.isEmpty)=true then unsupported _ else pure ()) _ _ _ from ?_)
 exact I0 (λq=>absurd q (by rw[ld];simp)) (λ_=>Ah (Ah h))
theorem jnn(hne:a≠I)(hB:w.params.followText "set-order"=true)(hh:A.handled=none) :
  Walks prog w A I [I,a] [I] ((pickOrder (w.params.setOrder a ep) es).toList.map (·.2)).length (λi v=>((pickOrder (w.params.setOrder a ep) es).toList.map (·.2))[i]?=some v)
   (λi h=>SIt h I (.int (0:Nat) 0) i a es.size ep/\SR h a o es ep t) where
 sub:=λb hb=>by simp at hb;simp[hb]
 frame:=λ_ _ _ st hk=>⟨st.1.keep λo e=>hk I (by simp) o e,st.2.keep (hk a (by simp) _ st.2.at_)⟩
 item:=λi s Q E hi st hQ=>by
  rw[Ac]at hi
  have hg:=Aa hi
  generalize(pickOrder (w.params.setOrder a ep) es).toList[i]=e at hg
  refine jk1 (v:=e.2) (nx:=0) st.1 st.2 (λA' E' Q' q=>jg7 hB st.2 ?_) λh' x' k=>hQ e.2 h' s.toks (by rw[Ag,hg];rfl) ⟨x',st.2.keep ((k.2 a hne).trans st.2.at_)⟩ λb o hb g=>(k.2 b (by simpa using hb)).trans g
  rw[<-Ie,hg];exact q
 done:=λs Q E st hQ=>by
  refine jk0 hh st.1 st.2 (λA' E' Q' q=>jg7 hB st.2 ?_) λh' k=>hQ h' s.toks λb o hb g=>k b o (by simpa using hb) g
  rw[<-Ie,Ac,Ix (Ak _)];exact q
 self:=λ_ _ _ _ st hQ=>jk3 st.1 hQ
theorem jnm(hne:a≠I)(hB:w.params.followText "set-order"=false)(ld:t.led=true)(hp:t.place.size=es.size)(hh:A.handled=none) :
  Walks prog w A I [I,a] [I] (es.toList.map (·.2)).length (λi v=>(es.toList.map (·.2))[i]?=some v)
   (λi h=>SIt h I (.int (jnf t i:Nat) 0) i a es.size ep/\SR h a o es ep t) where
 sub:=λb hb=>by simp at hb;simp[hb]
 frame:=λ_ _ _ st hk=>⟨st.1.keep λo e=>hk I (by simp) o e,st.2.keep (hk a (by simp) _ st.2.at_)⟩
 item:=λi s Q E hi st hQ=>by
  rw[Ac,Array.length_toList]at hi
  have hb:=jf5 st.2.ris (i:=i) (by omega)
  have he:es[i]?=some es[i]:=Iu hi
  have hj:t.place[i]?=some (t.place.getD i 0):=by rw[Oq,Iu (by omega)];rfl
  generalize es[i]=e at he
  refine jk1 (v:=e.2) (nx:=jnf t (i+1)) st.1 st.2 (λA' E' Q' q=>jg6 (i:=i) hB st.2 ld ?_) λh' x' k=>hQ e.2 h' s.toks (by rw[Ag,Ie,he];rfl) ⟨x',st.2.keep ((k.2 a hne).trans st.2.at_)⟩ λb o hb g=>(k.2 b (by simpa using hb)).trans g
  rw[hb,he,hj];exact q
 done:=λs Q E st hQ=>by
  rw[Ac,Array.length_toList]at st
  refine jk0 hh st.1 st.2 (λA' E' Q' q=>jg6 (i:=0) hB st.2 ld ?_) λh' k=>hQ h' s.toks λb o hb g=>k b o (by simpa using hb) g
  rw[jf5 st.2.ris (i:=es.size) (by omega),Array.getElem?_eq_none (Ak _)]
  exact q
 self:=λ_ _ _ _ st hQ=>jk3 st.1 hQ
end
section
variable{prog:Program}{w:World}{A:Around}{E:Value->Shared->Prop}{s:Shared}
variable{a:Addr}{o:Obj}{es:Array (Int×Value)}{ep:Nat}{t:SetTable}
theorem jsf{Q:Value->Shared->Prop}(y:SR s.heap a o es ep t)(ld:t.led=!w.params.followText "set-order")(hp:t.place.size=es.size)
  (hQ:∀(h':Heap)(vs:List Value)(St:Nat->Heap->Prop),(∀b o,s.heap.get? b=some o->h'.get? b=some o)->h'.objs.size=s.heap.objs.size+1->vs.Perm (es.toList.map (·.2)) ->
   (∀A':Around,A'.handled=none->Walks prog w A' s.heap.objs.size [s.heap.objs.size,a] [s.heap.objs.size] vs.length (λi v=>vs[i]?=some v) St)->St 0 h'->Q (.ref s.heap.objs.size) {s with heap:=h'}) :
  wpAny (model prog w) A (pyIter (.ref a)) Q E s:=by
 have hlt:a<s.heap.objs.size:=Ar y.at_
 have hT:s.TypeIs (.ref a) "set":=⟨o,y.at_,y.ct⟩
 refine wpAny_pyIter_slot hT PySem.F.slot_set_iter (On PySem.F.slot_set_iter hT jh4 ?_ (PySem.F.args_set_iter_1 _))
 unfold Builtin.«frozenset.__iter__» Builtin.Frozenset.slot0 Builtin.Frozenset.sizeOf
 refine Ab (Ab (Ah (Ah (Ab (Ab (wpAny_setEntries_of y.at_ y.dt y.fits (Ah ?_)))))))
 unfold setDrawn setsByText
 refine Ab (Ab (O8 y.at_ y.dt y.fits ?_))
 dsimp only
 refine Ab (Ab (Wf (Ah (Ah ?_))))
 refine I0 (λq=>?_) (λ_=>?_)
 ·have q':(!w.params.followText "set-order" && (!t.plain && decide (es.size>1)))=true:=q
  rw[y.pl]at q'
  simp at q'
 refine Ab (Ah (Ab (wpAny_setEpoch_of y.at_ y.dt y.fits ?_)))
 unfold newFields
 refine Ab (Og (Ah ?_) (by size_fits))
 have hI:(s.heap.push {cls:=.type "set_iterator",data:=.fields #[rawInt 0,rawInt 0,.ref a,rawInt es.size,rawInt ep]}).get? s.heap.objs.size=some {cls:=.type "set_iterator",data:=.fields #[rawInt 0,rawInt 0,.ref a,rawInt es.size,rawInt ep]}:=Aw _ rfl
 have kp:∀b o,s.heap.get? b=some o->(s.heap.push {cls:=.type "set_iterator",data:=.fields #[rawInt 0,rawInt 0,.ref a,rawInt es.size,rawInt ep]}).get? b=some o:=λb o e=>Ai _ e
 refine⟨_,rfl,"set_iterator",_,⟨_,hI,rfl⟩,sit_next.lookup,?_⟩
 by_cases hB:w.params.followText "set-order"=true
 ·exact hQ _ _ _ kp (Ov ..) ((pick_perm (w.params.setOrder a ep) es).map _) (λA' hh=>jnn (o:=o) (t:=t) (A0 hlt) hB hh) ⟨⟨_,hI,rfl,rfl⟩,y.keep (kp _ _ y.at_)⟩
 ·have hB':w.params.followText "set-order"=false:=by simpa using hB
  exact hQ _ _ _ kp (Ov ..) (Ye _) (λA' hh=>jnm (o:=o) (ep:=ep) (A0 hlt) hB' (by rw[ld,hB'];rfl) hp hh) ⟨⟨_,hI,rfl,rfl⟩,y.keep (kp _ _ y.at_)⟩
theorem jo6{R:List Value->Shared->Prop}(y:SR s.heap a o es ep t)(ld:t.led=!w.params.followText "set-order")(hp:t.place.size=es.size)(hh:A.handled=none)
  (h:∀(h':Heap)(tk:Nat)(vs:List Value),(∀b o,s.heap.get? b=some o->h'.get? b=some o)->s.heap.objs.size<=h'.objs.size->vs.Perm (es.toList.map (·.2))->R vs {s with heap:=h',toks:=tk}) :
  wpAny (model prog w) A (collect (.ref a)) R E s:=by
 have hlt:a<s.heap.objs.size:=Ar y.at_
 have hsz:=O5
 unfold collect
 refine Ab (wpAny_runValue (Ur entry_proto_collect' ?_))
 rw[Ue PySem.F.plain_proto_collect _]
 refine show wpAny _ A.in1 (newList [] >>= λl=>again (.builtin "list.__iadd__" ⟨[l,.ref a],[]⟩)) _ _ s from ?_
 refine Ab (Og (Ah ⟨Wm PySem.F.plain_list_iadd _,Ur entry_list_iadd' ?_⟩))
 rw[Ue PySem.F.plain_list_iadd _]
 have hS:(s.heap.push {cls:=.type "list",data:=.seq ([]:List Value).toArray}).get? s.heap.objs.size=some {cls:=.type "list",data:=.seq #[]}:=Aw _ rfl
 have k0:∀b o,s.heap.get? b=some o->(s.heap.push {cls:=.type "list",data:=.seq ([]:List Value).toArray}).get? b=some o:=λb o e=>Ai _ e
 have s0:(s.heap.push {cls:=.type "list",data:=.seq ([]:List Value).toArray}).objs.size=s.heap.objs.size+1:=Ov ..
 refine show wpAny _ A.in1 (Builtin.List.listExtendWith (.ref s.heap.objs.size) (.ref a) (.ref s.heap.objs.size)) _ _ {s with heap:=s.heap.push {cls:=.type "list",data:=.seq ([]:List Value).toArray}}from ?_
 generalize s.heap.push {cls:=.type "list",data:=.seq ([]:List Value).toArray}=h0 at hS k0 s0
 have y0:=y.keep (k0 _ _ y.at_)
 have hT:({s with heap:=h0}:Shared).TypeIs (.ref a) "set":=⟨o,y0.at_,y.ct⟩
 have hSa:s.heap.objs.size≠a:=Uo hlt
 unfold Builtin.List.listExtendWith
 refine Ab (W7 (T:="set") hT ?_)
 simp only[show Builtin.List.listSameRef (.ref s.heap.objs.size) (.ref a)=false by simp[Builtin.List.listSameRef,hSa],show(Value.type "set" == Value.type "list")=false by decide,show(Value.type "set" == Value.type "tuple")=false by decide,Bool.or_false,A8,Of]
 refine Ab (jsf (s:={s with heap:=h0}) y0 ld hp λh1 vs St k1 z1 hvp W st=>?_)
 have vl:vs.length=es.size:=by rw[hvp.length_eq,Ac,Array.length_toList]
 have hT1:({s with heap:=h1}:Shared).TypeIs (.ref a) "set":=⟨o,k1 _ _ y0.at_,y.ct⟩
 have hS1:=k1 _ _ hS
 have hSf:s.heap.objs.size∉[h0.objs.size,a]:=by
  rw[s0,Ap,Aj,not_or]
  exact⟨A0 (Yo _),hSa⟩
 have key:∀(h:Heap)(c1:Nat),St 0 h->(∀b o,b≠s.heap.objs.size->h1.get? b=some o->h.get? b=some o)->h.get? s.heap.objs.size=some {cls:=.type "list",data:=.seq #[] c1} ->
   codeAny (model prog w) A (.builtin "list.extend.loop" ⟨[.ref s.heap.objs.size,.ref h0.objs.size,.ref s.heap.objs.size],[]⟩) (λq s'=>∃h' tk acc c,q=.ok (.ret (.ref s.heap.objs.size))/\s'={s with heap:=h',toks:=tk}/\(∀b o,s.heap.get? b=some o->h'.get? b=some o)/\h'.get? s.heap.objs.size=some {cls:=.type "list",dict:=none,data:=.seq acc c,slots:=#[]}/\acc.toList=vs) {s with heap:=h}:=by
  intro h c1 st' kk hS'
  refine codeAny_extend_loopS (W A.in1 hh).toS (by rw[vl,hsz];have:=y.sz;omega) s.heap.objs.size hSf (.ref s.heap.objs.size) vs.length 0 _ #[] c1 rfl (Oc _) st' hS' (ItemsOf.nil _) λs' acc c' hm hS2 hacc=>?_
  refine⟨s'.heap,s'.toks,acc,c',rfl,(by have q:=Moved.eq_with hm;exact q),λb o e=>?_,hS2,?_⟩
  ·have hb:=Ar e
   refine hm.heap b o (λq=>?_) (kk b o (A0 hb) (k1 b o (k0 b o e)))
   rcases Ap.mp q with q|q
   ·exact A0 hb q
   ·have q:=Aj.mp q
    rw[show({s with heap:=h0}:Shared).heap.objs.size=s.heap.objs.size+1 from s0]at q
    exact A0 (Ut hb) q
  ·refine Wu λj=>?_
   by_cases c:j<vs.length
   ·have hj:j<acc.size:=by rw[hacc.1];exact c
    have:=hacc.2 j acc[j] (Iu hj)
    rw[this,Ie,Iu hj]
   ·rw[Ix (by rw[Array.length_toList,hacc.1];omega),Ix (by omega)]
 have fin:∀(q:Result)(s':Shared),(∃h' tk acc c,q=.ok (.ret (.ref s.heap.objs.size))/\s'={s with heap:=h',toks:=tk}/\(∀b o,s.heap.get? b=some o->h'.get? b=some o)/\h'.get? s.heap.objs.size=some {cls:=.type "list",dict:=none,data:=.seq acc c,slots:=#[]}/\acc.toList=vs)->∃(h':Heap)(tk:Nat)(c:Nat)(acc:Array Value),q=.ok (.ret (.ref s.heap.objs.size))/\s'={s with heap:=h',toks:=tk}/\h'.get? s.heap.objs.size=some {cls:=.type "list",dict:=none,data:=.seq acc c,slots:=#[]}/\R acc.toList {s with heap:=h',toks:=tk}:=by
  rintro q s' ⟨h',tk,acc,c,e1,e2,e3,e4,e5⟩
  exact⟨h',tk,c,acc,e1,e2,e4,by rw[e5];exact h h' tk vs e3 (W5 (Ar e4)) hvp⟩
 refine Ab (Ou (jpg (s:={s with heap:=h1}) hT1 ?_))
 have go:∀(h:Heap)(c1:Nat),St 0 h->(∀b o,b≠s.heap.objs.size->h1.get? b=some o->h.get? b=some o)->h.get? s.heap.objs.size=some {cls:=.type "list",data:=.seq #[] c1} ->
   ∀(R':Result->Shared->Prop),(∀q s',(∃(h':Heap)(tk:Nat)(c:Nat)(acc:Array Value),q=.ok (.ret (.ref s.heap.objs.size))/\s'={s with heap:=h',toks:=tk}/\h'.get? s.heap.objs.size=some {cls:=.type "list",dict:=none,data:=.seq acc c,slots:=#[]}/\R acc.toList {s with heap:=h',toks:=tk})->R' q s')->codeAny (model prog w) A (.builtin "list.extend.loop" ⟨[.ref s.heap.objs.size,.ref h0.objs.size,.ref s.heap.objs.size],[]⟩) R' {s with heap:=h} :=
  λh c1 a1 a2 a3 R' hR'=>Wx (key h c1 a1 a2 a3) λq s' z=>hR' q s' (fin q s' z)
 refine I0 (λ_=>?_) (λ_=>Ah ⟨Wm PySem.F.plain_extend_loop _,go _ 0 st (λb o _ e=>e) hS1 _ λq s' ⟨h',tk,c,acc,e1,e2,e3,e4⟩=>?_⟩)
 ·refine Ab (wpAny_rule (Ab (show wpAny _ _ (updateSeq s.heap.objs.size (·.push .none) >>= λ_=>updateSeq s.heap.objs.size (·.pop)) _ _ _ from ?_)))
  refine Ab (wpAny_updateSeq hS1 rfl ?_)
  have hS2:=O1 (Obj.mapSeq (·.push Value.none)) hS1 rfl
  refine wpAny_updateSeq (hz:=by seq_fits) hS2 rfl ?_
  have hS3:=O1 (Obj.mapSeq (·.pop)) hS2 rfl
  have oth:∀b o,b≠s.heap.objs.size->h1.get? b=some o->((h1.update s.heap.objs.size (Obj.mapSeq (·.push Value.none))).update s.heap.objs.size (Obj.mapSeq (·.pop))).get? b=some o:=λb o hb e=>(O6 _ _ (Wl hb)).trans ((O6 _ _ (Wl hb)).trans e)
  refine Ah ⟨Wm PySem.F.plain_extend_loop _,go _ _ ((W A.in1 hh).frame 0 _ _ st λb hb o e=>oth b o (λq=>hSf (q▸hb)) e) oth hS3 _ λq s' ⟨h',tk,c,acc,e1,e2,e3,e4⟩=>?_⟩
  subst e1 e2
  exact Ab (wpAny_load e3 (Ah e4))
 ·subst e1 e2
  exact Ab (wpAny_load e3 (Ah e4))
theorem jli{kf:Addr->List Int}{bd:Nat}{ks:List (List Int)}{L:List (Nat×(Int×Value))}{Q:Value->Shared->Prop}(x:TX prog w kf bd s.heap a (!w.params.followText "set-order") ks o es ep t L)(hh:A.handled=none)(h64:ks.length<64)(ne:∀k∈ks,k≠[])
  (h:∀(D:Addr)(h':Heap)(tk:Nat)(bs:List Addr)(c:Nat),(∀b o,s.heap.get? b=some o->h'.get? b=some o)->s.heap.objs.size<=D->h'.get? D=some (seqObj "list" (bs.map Value.ref).toArray c)->(bs.map kf).Perm ks->(∀b∈bs,IsTK prog w s.heap (kf b) b/\b<bd)->Q (.ref D) {s with heap:=h',toks:=tk}) :
  wpAny (model prog w) A (call (.builtin "sorted") [.ref a]) Q E s:=by
 have hsz:=O5
 obtain⟨l1,l2⟩:=x.len
 have y:SR s.heap a o es ep t:=⟨x.at_,x.ex.1,x.dt,x.fits,x.ly.rp,x.pl,by omega⟩
 have pz:t.place.size=es.size:=by rw[<-Array.length_toList,x.ly.pl,Ac,l1]
 refine Calls.call_function_entry kind_sorted plain_sorted entry_sorted (args_sorted1 _) ?_
 unfold Builtin.«sorted»
 refine Ab (m:=checkCount "sorted" 1 1 _) (Ah (Ab (jo6 (A:=A.in1) y x.ld pz hh λh1 tk vs k1 z1 hvp=>?_)))
 have ev:∀v∈vs,∃b,v=.ref b/\IsTK prog w s.heap (kf b) b/\b<bd:=λv hv=>by
  obtain⟨e,he,rfl⟩:=Am.mp (hvp.mem_iff.mp hv)
  rw[x.ly.el]at he
  obtain⟨b,q1,q2,q3⟩:=x.en e he
  exact⟨b,by rw[q1],q2,q3⟩
 have toB:∀vs:List Value,(∀v∈vs,∃b,v=.ref b/\IsTK prog w s.heap (kf b) b/\b<bd)->∃bs:List Addr,vs=bs.map Value.ref/\∀b∈bs,IsTK prog w s.heap (kf b) b/\b<bd:=λvs=>by
  induction vs with
  |nil=>intro _;exact⟨[],rfl,by simp⟩
  |cons v vs ih =>
   intro hv
   obtain⟨b,e,q⟩:=hv v (.head _)
   obtain⟨bs,e2,q2⟩:=ih λu hu=>hv u (.tail _ hu)
   exact⟨b::bs,by rw[e,e2];rfl,λc hc=>(Ap.mp hc).elim (λz=>z▸q) (q2 c)⟩
 obtain⟨bs,rfl,hbs⟩:=toB vs ev
 have pk:(bs.map kf).Perm ks:=by
  refine List.Perm.trans ?_ x.ky
  have e1:bs.map kf=(bs.map Value.ref).map λv=>keyT kf (0,v):=by rw[Ax];rfl
  have e2:(L.map Prod.snd).map (keyT kf)=(es.toList.map (·.2)).map λv=>keyT kf (0,v):=by rw[x.ly.el,Ax,Ax,Ax];rfl
  rw[e1,e2]
  exact hvp.map _
 have bl:bs.length=ks.length:=by rw[<-pk.length_eq,Ac]
 refine Ab (wpAny_newList ?_ (by rw[Ac,bl,hsz];omega))
 have hD:(h1.push (seqObj "list" (bs.map Value.ref).toArray 0)).get? h1.objs.size=some (seqObj "list" (bs.map Value.ref).toArray 0):=Aw _ rfl
 have k2:∀b o,s.heap.get? b=some o->(h1.push (seqObj "list" (bs.map Value.ref).toArray 0)).get? b=some o:=λb o e=>Ai _ (k1 b o e)
 refine Ab (Ou (On slot_list_sort ⟨_,hD,rfl⟩ entry_list_sort (jov (s:={s with heap:=h1.push (seqObj "list" (bs.map Value.ref).toArray 0),toks:=tk}) (kf:=kf) hD (λb hb=>⟨jd4 (hbs b hb).1 λo e=>k2 b o e,ne _ (pk.mem_iff.mp (Am.mpr ⟨b,hb,rfl⟩))⟩) (by omega) λh2 bs' c hp e2 kk=>⟨_,rfl,?_⟩) (args_list_sort _)))
 refine Ah ⟨_,rfl,h h1.objs.size h2 tk bs' c (λb o e=>kk b o (A0 (A2 (Ar e) z1)) (k2 b o e)) z1 e2 ((hp.map kf).trans pk) λb hb=>hbs b (hp.mem_iff.mp hb)⟩
end
section
variable{X:Cx}{pins:List (Addr×Obj)}{σ:L2.St}{H:Hp}{s:Shared}
def jdo:List V->Hp->VK->Prop:=λvs H Q=>match vs with
 |[.ref l]=>∃(bs:List Addr)(kf:Addr->List Int),H l=some (.lst (bs.map V.ref))/\(∀b∈bs,H b=some (.tup ((kf b).map V.int))/\kf b≠[])/\bs.length<64 /\
   ∀(p:Addr)(bs':List Addr),H p=none->(∀b∈bs',b∈bs)->(bs'.map kf).Nodup->(∀k,k∈bs'.map kf↔k∈bs.map kf)->Q (.ref p) (upd H p (.lst (bs'.map V.ref)))
 |_=>False
def jeq(ta:TE):TE:=tCB jdo (jeo ta tNil)
theorem jen(l:Addr)(H:Hp)(Q:VK):jdo [.ref l] H Q=(∃(bs:List Addr)(kf:Addr->List Int),H l=some (.lst (bs.map V.ref))/\(∀b∈bs,H b=some (.tup ((kf b).map V.int))/\kf b≠[])/\bs.length<64 /\
   ∀(p:Addr)(bs':List Addr),H p=none->(∀b∈bs',b∈bs)->(bs'.map kf).Nodup->(∀k,k∈bs'.map kf↔k∈bs.map kf)->Q (.ref p) (upd H p (.lst (bs'.map V.ref)))):=rfl
theorem jsp{P:Program}{w:World}{h:Heap}{k:List Int}{b:Addr}(ok:HOk P w H h)(e:H b=some (.tup (k.map V.int))):IsTK P w h k b:=by
 refine jfa ok ?_
 rw[e]
 unfold inK
 rw[Ax];rfl
theorem jmp:∀(bs:List Addr),Vals (bs.map V.ref) (bs.map Value.ref)
 |[]=>.nil
 |b::bs=>.cons rfl (jmp bs)
theorem ji1:∀{bs:List Addr}{us:List Value},Vals (bs.map V.ref) us->us=bs.map Value.ref
 |[],_,.nil=>rfl
 |b::bs,_,.cons r rr=>by cases r;rw[ji1 rr];rfl
theorem qpe_sortedSetT{a:Expr}{ta:TE}{p1 p2 q1 q2:Pos}(hc:X.calm=true)(hu:X.A.units+64<cLine)(hg:Gl X "sorted")(hm:X.mg "sorted"=none)(hg2:Gl X "set")(hm2:X.mg "set"=none)(ha:QE X a ta)
  (hs:starEach [(.Call (.Name "set" p2) [a] [] q2)] X.env=[(false,eval (.Call (.Name "set" p2) [a] [] q2) X.env)]:=by rfl) (hs2:starEach [a] X.env=[(false,eval a X.env)]:=by rfl) :
  QE X (.Call (.Name "sorted" p1) [.Call (.Name "set" p2) [a] [] q2] [] q1) (jeq ta):=⟨by
 intro pins s σ H Q I h
 refine O3 (jdd I hg hm bt_sorted (Wq ?_ hs rfl))
 rw[hs]
 refine show wpAny _ _ (spliced ((false,eval (.Call (.Name "set" p2) [a] [] q2) X.env)::[])) _ _ s from Wo ?_
 have hA:PA X [a] (jeo ta tNil):=jbd ha.h jbr hs2
 refine O3 (jdd I hg2 hm2 jb8 (Oj (thn (hA q2 pins s σ H (λvs H1=>jdo vs H1 Q) I h) λus s1 ⟨vs,H1,I1,r1,q1⟩=>?_) hs2 rfl))
 replace q1:jdo vs H1 Q:=q1
 unfold jdo at q1
 split at q1
 ·rename_i l
  obtain⟨bs,kf,e,hb,h64,q⟩:=q1
  obtain⟨u,rfl,ru⟩:=jc1 r1
  cases ru
  have hh:=I1.ok.hd hc
  obtain⟨its,rr,pl,hz⟩:=I1.list (SqL.of e)
  have ei:=ji1 rr
  subst ei
  let kf':Addr->List Int:=λb=>if b∈bs then kf b else[]
  have kin:∀b∈bs,kf' b=kf b:=λb hb=>Ao hb
  have mk:bs.map kf'=bs.map kf:=Ih kin
  refine jpq (s:=s1) (kf:=kf') hh (by omega) pl.isList (λb hb'=>by rw[kin b hb'];exact jsp I1.hok (hb b hb').1) (by omega) λh' tk hS hk=>Yf ?_
  obtain⟨o,es,ep,t,L,x⟩:=hS
  have fl:=jly (bs.map kf')
  rw[Ac]at fl
  have ne:∀k∈fmT (bs.map kf'),k≠[]:=λk hk=>by
   rw[jlz,mk]at hk
   obtain⟨b,hb',rfl⟩:=Am.mp hk
   exact(hb b hb').2
  have I2:Inv X pins σ H1 {s1 with heap:=h',toks:=tk}:=I1.kept λb o e=>hk b o (Ar e) e
  refine jli (s:={s1 with heap:=h',toks:=tk}) x hh (by omega) ne λD h2 tk2 bs' c k2 hD e2 pm hbs=>?_
  have inb:∀b∈bs',b∈bs:=λb hb'=>A9 λn=>ne (kf' b) (pm.mem_iff.mp (Am.mpr ⟨b,hb',rfl⟩)) (An n)
  have mk':bs'.map kf'=bs'.map kf:=Ih λb hb'=>kin b (inb b hb')
  have bl:bs'.length<64:=by have:=pm.length_eq;rw[Ac]at this;omega
  have hln:sizeLine=16777216:=O5
  have I3:Inv X pins σ (upd H1 D (.lst (bs'.map V.ref))) { ({s1 with heap:=h',toks:=tk}:Shared)with heap:=h2,toks:=tk2} :=
   I2.laid (λb o e=>k2 b o e) hD ⟨by rw[Ac];omega,bs'.map Value.ref,c,jmp bs',e2⟩
  refine⟨.ref D,_,I3,rfl,q D bs' (I2.hok.fresh hD) inb ?_ λk=>?_⟩
  ·rw[<-mk']
   exact pm.nodup_iff.mpr x.nd
  ·rw[<-mk',pm.mem_iff,jlz,mk]
 ·exact q1.elim⟩
def jec:List V->Hp->VK->Prop:=λvs H Q=>match vs with
 |[.ref l]=>∃ns:List Int,H l=some (.lst (ns.map V.int))/\ns.length<1000/\∀c:List Int,c.Nodup->(∀x,x∈c↔x∈ns)->Q (.int c.length) H
 |_=>False
def jgn(ta:TE):TE:=tCB jec (jeo ta tNil)
theorem jff(l:Addr)(H:Hp)(Q:VK):jec [.ref l] H Q=(∃ns:List Int,H l=some (.lst (ns.map V.int))/\ns.length<1000/\∀c:List Int,c.Nodup->(∀x,x∈c↔x∈ns)->Q (.int c.length) H):=rfl
theorem jfz(val:Nat->Int):∀i,(firstMet val i).Nodup
 |0=>by rw[firstMet_zero];exact .nil
 |i+1=>by
  rw[firstMet_succ]
  unfold step_dedup
  have ih:=jfz val i
  split
  ·exact ih
  ·rename_i h
   rw[Os]
   refine⟨ih,by simp,λa ha b hb e=>h ?_⟩
   rw[List.any_eq_true]
   exact⟨a,ha,by rw[e,Aj.mp hb];simp⟩
theorem jj6(ns:List Int)(x:Int):x∈firstMet (λi=>ns.getD i 0) ns.length↔x∈ns:=by
 have h:=firstMet_any (λi=>ns.getD i 0) ns.length x
 have e:(List.range ns.length).map (λi=>ns.getD i 0)=ns:=by
  refine Om (by simp) λi q1 q2=>?_
  rw[Oo,Ob,Ae,Aa q2];rfl
 rw[e]at h
 have m:∀l:List Int,x∈l↔(l.any (· == x))=true:=λl=>by rw[List.any_eq_true];exact⟨λh=>⟨x,h,by simp⟩,fun⟨y,h1,h2⟩=>by rw[<-show y=x by simpa using h2];exact h1⟩
 rw[m,m,h]
theorem ja4{a:Expr}{ta:TE}{p1 p2 q1 q2:Pos}(hc:X.calm=true)(hg:Gl X "len")(hm:X.mg "len"=none)(hg2:Gl X "set")(hm2:X.mg "set"=none)(ha:QE X a ta)
  (hs:starEach [(.Call (.Name "set" p2) [a] [] q2)] X.env=[(false,eval (.Call (.Name "set" p2) [a] [] q2) X.env)]:=by rfl) (hs2:starEach [a] X.env=[(false,eval a X.env)]:=by rfl) :
  QE X (.Call (.Name "len" p1) [.Call (.Name "set" p2) [a] [] q2] [] q1) (jgn ta):=⟨by
 intro pins s σ H Q I h
 refine O3 (jdd I hg hm kj (Wq ?_ hs rfl))
 rw[hs]
 refine show wpAny _ _ (spliced ((false,eval (.Call (.Name "set" p2) [a] [] q2) X.env)::[])) _ _ s from Wo ?_
 have hA:PA X [a] (jeo ta tNil):=jbd ha.h jbr hs2
 refine O3 (jdd I hg2 hm2 jb8 (Oj (thn (hA q2 pins s σ H (λvs H1=>jec vs H1 Q) I h) λus s1 ⟨vs,H1,I1,r1,q1⟩=>?_) hs2 rfl))
 replace q1:jec vs H1 Q:=q1
 unfold jec at q1
 split at q1
 ·rename_i l
  obtain⟨ns,e,hn,q⟩:=q1
  obtain⟨u,rfl,ru⟩:=jc1 r1
  cases ru
  obtain⟨its,rr,pl,hz⟩:=I1.list (SqL.of e)
  have il:its.toArray.size=ns.length:=by have:=rr.length;rw[Ac]at this;simp[this]
  refine call_set_list (I1.ok.hd hc) pl.isList (by simpa using jm4 rr) (by rw[il];unfold scanBound;omega) λh' tk hS hk=>Yf ?_
  rw[il]at hS
  have fl:=firstMet_length_le (λi=>ns.getD i 0) ns.length
  obtain⟨o,es,ep,tb,ho,hex,hd,hel,hmem,hbb,hf,hnn⟩:=hS
  refine call_len_set ho hex hd hf (by omega) ?_
  have I2:Inv X pins σ H1 {s1 with heap:=h',toks:=tk+1+1}:=I1.kept (t':=tk+1+1) λb o e=>hk b o (Ar e) e
  rw[hnn]
  exact⟨.int _,H1,I2,⟨_,rfl⟩,q _ (jfz _ _) (jj6 ns)⟩
 ·exact q1.elim⟩
end
def tupD(k:List Int):PyData:=.tuple (k.map PyData.int)
theorem jhv(a b:Int):PyData.eqv (.int a) (.int b)=decide (a=b):=by
 rw[PyData.eqv]
 by_cases h:a=b <;> simp[h]
theorem jie:∀(a b:List Int),PyData.eqvAll (a.map PyData.int) (b.map PyData.int)=decide (a=b)
 |[],[]=>by simp[PyData.eqvAll]
 |[],_::_=>by simp[PyData.eqvAll]
 |_::_,[]=>by simp[PyData.eqvAll]
 |x::a,y::b=>by
  rw[Ay,Ay,PyData.eqvAll,jhv,jie a b]
  by_cases h:x=y <;> by_cases h2:a=b <;> simp[h,h2]
theorem jlx(a b:List Int):PyData.eqv (tupD a) (tupD b)=decide (a=b):=by
 unfold tupD;rw[PyData.eqv];exact jie a b
theorem jjw:∀l:List Int,PyData.canLayAll0 (l.map PyData.int)=true
 |[]=>rfl
 |_::l=>by rw[Ay,PyData.canLayAll0,jjw l];rfl
theorem jnp(k:List Int):(tupD k).canLay0=true:=by unfold tupD;rw[PyData.canLay0];exact jjw k
theorem jlm:∀l:List (List Int),PyData.canLayAll0 (l.map tupD)=true
 |[]=>rfl
 |k::l=>by rw[Ay,PyData.canLayAll0,jnp,jlm l];rfl
theorem jj2:∀l:List Int,PyData.depthAll (l.map PyData.int)<=1
 |[]=>by simp[PyData.depthAll]
 |x::l=>by
  have:=jj2 l
  rw[Ay,PyData.depthAll]
  have:(PyData.int x).depth<=1:=by simp[PyData.depth]
  omega
theorem jlw:∀l:List (List Int),PyData.depthAll (l.map tupD)<=3
 |[]=>by simp[PyData.depthAll]
 |k::l=>by
  have:=jlw l
  rw[Ay,PyData.depthAll]
  have:(tupD k).depth<=3:=by unfold tupD;rw[PyData.depth];have:=jj2 k;omega
  omega
theorem jik{α:Type}[BEq α][LawfulBEq α]{l:List α}{x:α}(h:x∈l):l[l.idxOf x]?=some x/\∀m e,m<l.idxOf x->l[m]?=some e->e≠x:=by
 have hl:=A6.mpr h
 refine⟨by rw[Aa hl,Iw hl],λm e hm he z=>?_⟩
 subst z
 have:=List.not_of_lt_findIdx (p:=(· == e)) (xs:=l) (i:=m) (by simpa[List.idxOf]using hm)
 obtain⟨ml,q⟩:=Ad.mp he
 rw[q]at this
 simp at this
theorem jm2{H:Hp}{l:Addr}{ns:List Int}{y:Int}{Q:VK}(e:H l=some (.lst (ns.map V.int)))(hy:y∈ns)(q:Q (.int (ns.idxOf y:Nat)) H):jew (.ref l) [.int y] H Q:=by
 obtain⟨h1,h2⟩:=jik hy
 refine⟨ns.map V.int,ns.map PyData.int,.int y,ns.idxOf y,e,Reps.ints _ ns,by simp[Rep],jjw ns,rfl,Iv (jj2 ns) (by decide),⟨.int y,by rw[Ag,h1];rfl,by rw[jhv];simp⟩,λm d hm hd=>?_,q⟩
 rw[Ag]at hd
 obtain⟨x,hx,rfl⟩:=A3.mp hd
 rw[jhv]
 exact Ow (h2 m x hm hx)
theorem jky{H:Hp}{b:Addr}{k:List Int}(e:H b=some (.tup (k.map V.int))):Rep H (.ref b) (tupD k):=by
 unfold tupD
 simp only[Rep]
 exact⟨b,_,rfl,e,Reps.ints _ k⟩
theorem ji2{H:Hp}{kf:Addr->List Int}:∀{bs:List Addr},(∀b∈bs,H b=some (.tup ((kf b).map V.int)))->Reps H (bs.map V.ref) ((bs.map kf).map tupD)
 |[],_=>by simp[Reps]
 |b::bs,h=>by
  rw[Ay,Ay,Ay]
  simp only[Reps]
  exact⟨jky (h b (.head _)),ji2 λc hc=>h c (.tail _ hc)⟩
theorem jm3{H:Hp}{l b:Addr}{bs:List Addr}{kf:Addr->List Int}{k:List Int}{Q:VK}(e:H l=some (.lst (bs.map V.ref)))(hb:∀b∈bs,H b=some (.tup ((kf b).map V.int)))(eb:H b=some (.tup (k.map V.int)))(hk:k∈bs.map kf)(q:Q (.int ((bs.map kf).idxOf k:Nat)) H):jew (.ref l) [.ref b] H Q:=by
 obtain⟨h1,h2⟩:=jik hk
 refine⟨bs.map V.ref,(bs.map kf).map tupD,tupD k,(bs.map kf).idxOf k,e,ji2 hb,jky eb,jlm _,jnp k,Iv (jlw _) (by decide),⟨tupD k,by rw[Ag,h1];rfl,by rw[jlx];simp⟩,λm d hm hd=>?_,q⟩
 rw[Ag]at hd
 obtain⟨x,hx,rfl⟩:=A3.mp hd
 rw[jlx]
 exact Ow (h2 m x hm hx)
end L2
namespace My
open PySem
def toS(l:List Nat):Str:=⟨l.toArray⟩
theorem jre(l:List Nat)(c:Nat):toS l++(⟨#[c]⟩:Str)=toS (l++[c]):=by
 show(⟨l.toArray++#[c]⟩:Str)=⟨(l++[c]).toArray⟩
 simp
theorem jfw(l:List Nat):(toS l).length=l.length:=by simp[toS,Str.length]
end My
namespace My
open PySem L2 PyProof.Rows
def sg(z:Str):List Nat:=z.cps.toList
theorem jr6(x y:Str):sg (x++y)=sg x++sg y:=by simp[sg,Str.cps_append]
theorem jp2:∀l:List Str,sg (Str.join ⟨#[]⟩ l)=(l.map sg).flatten
 |[]=>rfl
 |x::l=>by rw[join_nil_cons,jr6,jp2 l];rfl
theorem jsg(l:List Str):sg (Txt.join (Str.ofString "") l)=(l.map sg).flatten:=by
 have e0:(Str.ofString "")=(⟨#[]⟩:Str):=by decide +kernel
 have e:=eq_of_beq (join_plain_closes ⟨#[]⟩ l)
 rw[e0,e,jp2]
end My
namespace My
structure Mc where
 n:Nat
 m:Nat
 d:Nat->Nat->Nat
 y:Nat->Bool
structure Mc.ok(M:Mc):Prop where
 lt:∀r a,r<M.n->a<M.m->M.d r a<M.n
def Mc.led(M:Mc)(r:Nat)(w:List Nat):Nat:=w.foldl M.d r
def Mc.ws(M:Mc)(w:List Nat):Prop:=∀a∈w,a<M.m
def Mc.eq(M:Mc)(r s:Nat):Prop:=∀w,M.ws w->M.y (M.led r w)=M.y (M.led s w)
theorem Mc.led_lt{M:Mc}(h:M.ok):∀{w:List Nat}{r:Nat},r<M.n->M.ws w->M.led r w<M.n
 |[],r,hr,_=>hr
 |a::w,r,hr,hw=>Mc.led_lt h (w:=w) (h.lt r a hr (hw a (.head _))) λb hb=>hw b (.tail _ hb)
theorem Mc.eq_step{M:Mc}{r s a:Nat}(h:M.eq r s)(ha:a<M.m):M.eq (M.d r a) (M.d s a):=λw hw=>h (a::w) λb hb=>by
 rcases Ap.mp hb with rfl|hb
 ·exact ha
 ·exact hw b hb
theorem Mc.eq_y{M:Mc}{r s:Nat}(h:M.eq r s):M.y r=M.y s:=h [] (by simp[Mc.ws])
def jrj(M:Mc)(G:Nat->Nat)(due:List (Nat×Nat)):Prop :=
 ∀E:Nat->Nat->Prop,(∀r s,E r s->r<M.n/\s<M.n/\G r=G s)->(∀i a,(i,a)∈due->∀r s,E r s->(G (M.d r a)=i↔G (M.d s a)=i))->∀a,a<M.m->∀r s,E r s->G (M.d r a)=G (M.d s a)
structure Pt(M:Mc)(G:Nat->Nat)(p:Nat)(due:List (Nat×Nat)):Prop where
 lt:∀r,r<M.n->G r<p
 co:∀r s,r<M.n->s<M.n->M.eq r s->G r=G s
 ye:∀r s,r<M.n->s<M.n->G r=G s->M.y r=M.y s
 du:∀i a,(i,a)∈due->i<p/\a<M.m
 en:jrj M G due
theorem Pt.step{M:Mc}(ok:M.ok){G G':Nat->Nat}{p p':Nat}{due due':List (Nat×Nat)}{i a:Nat}{par:Nat->Nat}(h:Pt M G p (due++[(i,a)]))(pp:p<=p')(lt':∀r,r<M.n->G' r<p')(pr:∀r,r<M.n->par (G' r)=G r)(po:∀k,k<p->par k=k)
  (sp:∀r s,r<M.n->s<M.n->G' r=G' s->(G (M.d r a)=i↔G (M.d s a)=i)) (sm:∀r s,r<M.n->s<M.n->G r=G s->(G (M.d r a)=i↔G (M.d s a)=i)->G' r=G' s)
  (d1:∀q∈due,q∈due') (d2:∀k b,p<=k->k<p'->b<M.m->(k,b)∈due') (d3:∀k b,(k,b)∈due'->k<p'/\b<M.m):Pt M G' p' due':=by
 have ha:a<M.m:=(h.du i a (by simp)).2
 refine⟨lt',λr s hr hs e=>?_,λr s hr hs e=>h.ye r s hr hs (by rw[<-pr r hr,<-pr s hs,e]),d3,?_⟩
 ·refine sm r s hr hs (h.co r s hr hs e) ?_
  rw[h.co _ _ (ok.lt r a hr ha) (ok.lt s a hs ha) (Mc.eq_step e ha)]
 ·intro E hE hS b hb r s ers
  have key:=h.en E (λr s e=>by
   obtain⟨h1,h2,h3⟩:=hE r s e
   exact⟨h1,h2,by rw[<-pr r h1,<-pr s h2,h3]⟩) (λj c hj r s e=>by
   obtain⟨h1,h2,h3⟩:=hE r s e
   rcases Au.mp hj with hj'|hj'
   ·have hc:=(h.du j c hj).2
    have jp:=(h.du j c hj).1
    have l1:=ok.lt r c h1 hc
    have l2:=ok.lt s c h2 hc
    have old:=hS j c (d1 _ hj') r s e
    have new:∀k,p<=k->k<p'->(G' (M.d r c)=k↔G' (M.d s c)=k):=λk k1 k2=>hS k c (d2 k c k1 k2 hc) r s e
    have one:∀r s,r<M.n->s<M.n->M.d r c<M.n->M.d s c<M.n->(G' (M.d r c)=j↔G' (M.d s c)=j)->(∀k,p<=k->k<p'->(G' (M.d r c)=k↔G' (M.d s c)=k))->G (M.d r c)=j->G (M.d s c)=j:=λr s _ _ q1 q2 o n g=>by
     by_cases c1:G' (M.d r c)<p
     ·have:G' (M.d r c)=j:=by rw[<-po _ c1,pr _ q1,g]
      rw[<-pr _ q2,o.mp this,po j jp]
     ·have:=(n (G' (M.d r c)) (by omega) (lt' _ q1)).mp rfl
      rw[<-pr _ q2,this,pr _ q1,g]
    exact⟨one r s h1 h2 l1 l2 old new,one s r h2 h1 l2 l1 old.symm λk k1 k2=>(new k k1 k2).symm⟩
   ·simp at hj'
    obtain⟨rfl,rfl⟩:=hj'
    exact sp r s h1 h2 h3) b hb r s ers
  obtain⟨h1,h2,h3⟩:=hE r s ers
  have l1:=ok.lt r b h1 hb
  have l2:=ok.lt s b h2 hb
  by_cases c1:G' (M.d r b)<p
  ·by_cases c2:G' (M.d s b)<p
   ·rw[<-po _ c1,<-po _ c2,pr _ l1,pr _ l2,key]
   ·have:=(hS _ b (d2 (G' (M.d s b)) b (by omega) (lt' _ l2) hb) r s ers).mpr rfl
    exact this
  ·exact((hS _ b (d2 (G' (M.d r b)) b (by omega) (lt' _ l1) hb) r s ers).mp rfl).symm
theorem Pt.done{M:Mc}(ok:M.ok){G:Nat->Nat}{p:Nat}(h:Pt M G p []){r s:Nat}(hr:r<M.n)(hs:s<M.n):G r=G s↔M.eq r s:=by
 refine⟨λe w hw=>?_,h.co r s hr hs⟩
 have st:=h.en (λr s=>r<M.n/\s<M.n/\G r=G s) (λr s h=>h) (by simp)
 induction w generalizing r s with
 |nil=>exact h.ye r s hr hs e
 |cons a w ih =>
  have ha:=hw a (.head _)
  exact ih (ok.lt r a hr ha) (ok.lt s a hs ha) (st a ha r s ⟨hr,hs,e⟩) λb hb=>hw b (.tail _ hb)
theorem Pt.first{M:Mc}{G:Nat->Nat}{p:Nat}{due:List (Nat×Nat)}(lt:∀r,r<M.n->G r<p)(ye:∀r s,r<M.n->s<M.n->(G r=G s↔M.y r=M.y s))(all:∀i a,i<p->a<M.m->(i,a)∈due)(du:∀i a,(i,a)∈due->i<p/\a<M.m)(ok:M.ok):Pt M G p due:=by
 refine⟨lt,λr s hr hs e=>(ye r s hr hs).mpr (Mc.eq_y e),λr s hr hs e=>(ye r s hr hs).mp e,du,λE hE hS a ha r s e=>?_⟩
 obtain⟨h1,h2,_⟩:=hE r s e
 exact((hS _ a (all _ a (lt _ (ok.lt r a h1 ha)) ha) r s e).mp rfl).symm
end My
namespace My
structure CI(M:Mc)(G0:Nat->Nat)(p0 i a:Nat)(rest:List Nat)(G:Nat->Nat)(p:Nat):Prop where
 pp:p0<=p
 lt:∀r,r<M.n->G r<p
 par:∃par:Nat->Nat,(∀r,r<M.n->par (G r)=G0 r)/\∀k,k<p0->par k=k
 un:∀r,r<M.n->G0 r∈rest->G r=G0 r
 sp:∀r s,r<M.n->s<M.n->G0 r=G0 s->G0 r∉rest->(G r=G s↔(G0 (M.d r a)=i↔G0 (M.d s a)=i))
theorem CI.init{M:Mc}{G0:Nat->Nat}{p0 i a:Nat}{gk:List Nat}(lt:∀r,r<M.n->G0 r<p0)(no:∀r,r<M.n->G0 r∉gk->G0 (M.d r a)≠i):CI M G0 p0 i a gk G0 p0 :=
 ⟨Ak _,lt,⟨id,λ_ _=>rfl,λ_ _=>rfl⟩,λ_ _ _=>rfl,λr s hr hs e n=>⟨λ_=>⟨λh=>absurd h (no r hr n),λh=>absurd h (no s hs (e▸n))⟩,λ_=>e⟩⟩
theorem CI.same{M:Mc}{G0 G:Nat->Nat}{p0 i a g p:Nat}{rest:List Nat}(h:CI M G0 p0 i a (g::rest) G p)(all:∀r,r<M.n->G0 r=g->G0 (M.d r a)=i):CI M G0 p0 i a rest G p:=by
 refine⟨h.pp,h.lt,h.par,λr hr m=>h.un r hr (.tail _ m),λr s hr hs e n=>?_⟩
 by_cases c:G0 r=g
 ·have u1:=h.un r hr (c▸.head _)
  have u2:=h.un s hs (by rw[<-e,c];exact .head _)
  exact⟨λ_=>⟨λ_=>all s hs (by rw[<-e];exact c),λ_=>all r hr c⟩,λ_=>by rw[u1,u2,e]⟩
 ·exact h.sp r s hr hs e (λz=>(Ap.mp z).elim c n)
theorem CI.cut{M:Mc}{G0 G G':Nat->Nat}{p0 i a g p:Nat}{rest sh:List Nat}(h:CI M G0 p0 i a (g::rest) G p)(ng:g∉rest)(gp:g<p0)(sub:∀r∈sh,r<M.n/\G0 r=g)(how:(∀r,r<M.n->G0 r=g->(r∈sh↔G0 (M.d r a)=i))\/∀r,r<M.n->G0 r=g->(r∈sh↔¬G0 (M.d r a)=i))
  (hG:∀r,r<M.n->G' r=if r∈sh then p else G r):CI M G0 p0 i a rest G' (p+1):=by
 have pp:=h.pp
 refine⟨by omega,λr hr=>?_,?_,λr hr m=>?_,λr s hr hs e n=>?_⟩
 ·rw[hG r hr];have:=h.lt r hr;split <;> omega
 ·obtain⟨par,h1,h2⟩:=h.par
  refine⟨λk=>if k=p then g else par k,λr hr=>?_,λk hk=>by show(if k=p then g else par k)=k;rw[An (by omega)];exact h2 k hk⟩
  show(if G' r=p then g else par (G' r))=G0 r
  have:=h.lt r hr
  rw[hG r hr]
  by_cases c:r∈sh
  ·rw[Ao c,Ao rfl];exact(sub r c).2.symm
  ·rw[An c,An (by omega)];exact h1 r hr
 ·have c:r∉sh:=λc=>ng ((sub r c).2▸m)
  rw[hG r hr,An c];exact h.un r hr (.tail _ m)
 ·rw[hG r hr,hG s hs]
  have l1:=h.lt r hr
  have l2:=h.lt s hs
  by_cases c:G0 r=g
  ·have c':G0 s=g:=by rw[<-e];exact c
   have u1:=h.un r hr (c▸.head _)
   have u2:=h.un s hs (c'▸.head _)
   have key:((if r∈sh then p else G r)=if s∈sh then p else G s)↔(r∈sh↔s∈sh):=by
    by_cases m1:r∈sh <;> by_cases m2:s∈sh
    ·simp[m1,m2]
    ·rw[Ao m1,An m2];exact⟨λz=>by omega,λz=>absurd (z.mp m1) m2⟩
    ·rw[An m1,Ao m2];exact⟨λz=>by omega,λz=>absurd (z.mpr m2) m1⟩
    ·rw[An m1,An m2,u1,u2];exact⟨λ_=>⟨λz=>absurd z m1,λz=>absurd z m2⟩,λ_=>e⟩
   rw[key]
   rcases how with w|w
   ·rw[w r hr c,w s hs c']
   ·rw[w r hr c,w s hs c']
    exact⟨λz=>⟨λx=>A9 λy=>(z.mpr y) x,λx=>A9 λy=>(z.mp y) x⟩,λz=>⟨λx y=>x (z.mpr y),λx y=>x (z.mp y)⟩⟩
  ·have m1:r∉sh:=λm=>c (sub r m).2
   have m2:s∉sh:=λm=>c (by rw[e];exact(sub s m).2)
   rw[An m1,An m2]
   exact h.sp r s hr hs e (λz=>(Ap.mp z).elim c n)
theorem Pt.task{M:Mc}(ok:M.ok){G0 G:Nat->Nat}{p0 p i a:Nat}{due due':List (Nat×Nat)}(h:Pt M G0 p0 (due++[(i,a)]))(c:CI M G0 p0 i a [] G p)(d1:∀q∈due,q∈due')(d2:∀k b,p0<=k->k<p->b<M.m->(k,b)∈due')(d3:∀k b,(k,b)∈due'->k<p/\b<M.m):Pt M G p due':=by
 obtain⟨par,h1,h2⟩:=c.par
 refine h.step ok c.pp c.lt h1 h2 (λr s hr hs e=>?_) (λr s hr hs e q=>(c.sp r s hr hs e (by simp)).mpr q) d1 d2 d3
 have e0:G0 r=G0 s:=by rw[<-h1 r hr,<-h1 s hs,e]
 exact(c.sp r s hr hs e0 (by simp)).mp e
end My
namespace My
def RGr(f:List Nat):Prop:=∀i k:Nat,f[i]?=some k->∀j,j<k->∃i',i'<i/\f[i']?=some j
theorem RGr.one{f g:List Nat}(hf:RGr f)(hg:RGr g)(hl:f.length=g.length)(ke:∀i j:Nat,i<f.length->j<f.length->(f[i]?=f[j]?↔g[i]?=g[j]?)):f=g:=by
 have key:∀i,i<f.length->f[i]?=g[i]?:=λi=>by
  induction i using Nat.strongRecOn with
  |ind i ih =>
   intro hi
   have e1:f[i]?=some f[i]:=Aa hi
   have e2:g[i]?=some (g[i]'(by omega)):=Aa (by omega)
   by_cases c:∃j,j<i/\f[j]?=f[i]?
   ·obtain⟨j,ji,e⟩:=c
    have:=(ke j i (by omega) hi).mp e
    rw[<-e,<-this]
    exact ih j ji (by omega)
   ·have nf:∀j,j<i->f[j]?≠f[i]?:=λj hj e=>c ⟨j,hj,e⟩
    have ng:∀j,j<i->g[j]?≠g[i]?:=λj hj e=>nf j hj ((ke j i (by omega) hi).mpr e)
    generalize f[i]=a at e1
    generalize g[i]'(by omega)=b at e2
    by_cases h1:a<b
    ·obtain⟨j,ji,e⟩:=hg i b e2 a h1
     exact absurd (by rw[ih j ji (by omega),e,e1]) (nf j ji)
    ·by_cases h2:b<a
     ·obtain⟨j,ji,e⟩:=hf i a e1 b h2
      exact absurd (by rw[<-ih j ji (by omega),e,e2]) (ng j ji)
     ·rw[e1,e2,show a=b by omega]
 refine Wu λi=>?_
 by_cases c:i<f.length
 ·exact key i c
 ·rw[Ix (by omega),Ix (by omega)]
def dd1(l:List Nat)(x:Nat):List Nat:=if x∈l then l else l++[x]
def ddp(l:List Nat):List Nat:=l.foldl dd1 []
theorem jdv(l:List Nat)(x:Nat):ddp (l++[x])=dd1 (ddp l) x:=by unfold ddp;rw[Uf];rfl
theorem jnt(x:Nat):∀(l a:List Nat),x∈l.foldl dd1 a↔x∈a\/x∈l
 |[],a=>by simp
 |y::l,a=>by
  rw[List.foldl_cons,jnt x l,Ap]
  unfold dd1
  by_cases h:y∈a
  ·rw[Ao h]
   exact⟨λq=>q.elim .inl λz=>.inr (.inr z),λq=>q.elim .inl λz=>z.elim (λe=>.inl (e▸h)) .inr⟩
  ·rw[An h,Au,Aj]
   exact⟨λq=>q.elim (λz=>z.elim .inl λe=>.inr (.inl e)) λz=>.inr (.inr z),λq=>q.elim (λz=>.inl (.inl z)) λz=>z.elim (λe=>.inl (.inr e)) .inr⟩
theorem jcx(l:List Nat)(x:Nat):x∈ddp l↔x∈l:=by
 have:=jnt x l []
 simpa[ddp]using this
theorem jnu:∀(l a:List Nat),∃t,l.foldl dd1 a=a++t
 |[],a=>⟨[],by simp⟩
 |y::l,a=>by
  obtain⟨t,e⟩:=jnu l (dd1 a y)
  rw[List.foldl_cons,e]
  unfold dd1
  split
  ·exact⟨t,rfl⟩
  ·exact⟨y::t,by simp⟩
theorem jlr(l m:List Nat):∃t,ddp (l++m)=ddp l++t:=by
 unfold ddp
 rw[Uf]
 exact jnu m _
theorem jpz:∀(l a:List Nat),a.Nodup->(l.foldl dd1 a).Nodup
 |[],a,h=>h
 |y::l,a,h=>by
  rw[List.foldl_cons]
  refine jpz l _ ?_
  unfold dd1
  split
  ·exact h
  ·rename_i n
   rw[Os]
   exact⟨h,by simp,λu hu v hv e=>n ((e.trans (Aj.mp hv))▸hu)⟩
theorem jes(l:List Nat):(ddp l).Nodup:=jpz l [] .nil
theorem jnv(f:List Nat):RGr (f.map λx=>(ddp f).idxOf x):=by
 intro i k hi j jk
 rw[Ag]at hi
 obtain⟨x,hx,e⟩:=A3.mp hi
 have il:=(Ad.mp hx).1
 have tk:f.take (i+1)=f.take i++[x]:=by rw[Oa,hx];rfl
 obtain⟨t,et⟩:=jlr (f.take (i+1)) (f.drop (i+1))
 rw[U3]at et
 have xm:x∈ddp (f.take (i+1)):=(jcx _ _).mpr (by rw[tk];simp)
 have ix:(ddp f).idxOf x=(ddp (f.take (i+1))).idxOf x:=by rw[et,U8,Ao xm]
 have kl:k<(ddp (f.take (i+1))).length:=by rw[<-e,ix];exact A6.mpr xm
 have jl:j<(ddp f).length:=by rw[et,A1];omega
 have ej:(ddp f)[j]?=(ddp (f.take (i+1)))[j]?:=by rw[et,Ig (by omega)]
 have yi:(ddp f)[j]∈ddp (f.take i):=by
  rw[Aa jl]at ej
  have hj:=ej.symm
  rw[tk,jdv]at hj
  unfold dd1 at hj
  split at hj
  ·exact Al hj
  ·rename_i n
   have kk:k=(ddp (f.take i)).length:=by
    rw[<-e,ix,tk,jdv]
    unfold dd1
    rw[An n,U8,An n]
    simp
   rw[Ig (by omega)]at hj
   exact Al hj
 obtain⟨i',hi'⟩:=Is ((jcx _ _).mp yi)
 have il':i'<i:=by have:=(Ad.mp hi').1;rw[Oe]at this;omega
 refine⟨i',il',?_⟩
 rw[Wc il']at hi'
 rw[Ag,hi']
 show some ((ddp f).idxOf (ddp f)[j])=some j
 rw[(jes f).idxOf_getElem j jl]
end My
namespace My
open PySem L2
local macro_rules
 | `(tactic| simp!)=>`(tactic| simp only [tSeq,tIfS,jjs,tOp,tVar,tC,tAsg,jcz,gSub,tRet,jjp,jjo,tAnd,tOr,tNot,jjk,jjq,tB,jjm,rI0,rI,jc4,jit,jiy,jiz,jko,jkp,jkn,jch,jiw,jfg,jix,jiv,jkm,jhb,jha,ji0,jdu,jfe,jgh,jmf,jkj,jgi,jgk,jmh,jkr,jkq,jmg,jem,jl4,jiq,ji9,ji3,ji4,Option.isSome_some,tBML,jjl,tCB,jeo,tNil,tLst,tTup,tSl,jjr,jkt,iAny,jjg,jg0,jg1,jj9,jft,jjj,jmm,jfs,jd3,jdn,tTru,je4,jmj,jku,jhc,tBMS,jl5,jkl,tBM0,tBM,jmo,jg8,jf3,jiu,Option.bind_some,Option.bind_none,Option.getD_some,L2.start,Ay,Up,List.length_cons,List.length_nil,List.cons_append,List.nil_append,Ug,List.cons.injEq,List.replicate,List.getElem?_cons_zero,List.getElem?_cons_succ,List.set_cons_zero,List.set_cons_succ,Nat.reduceSub,Nat.reduceAdd,Nat.reduceLeDiff,Yi,V.int.injEq,V.bl.injEq,V.str.injEq,V.ref.injEq,HO.lst.injEq,HO.tup.injEq,exists_eq_left',exists_eq_left,exists_and_left,true_and,and_true,jb,jex,jei,jfm,jpx,Wn,Y2,Ww,A8,Of,Oz,reduceIte,reduceCtorEq,jhj,tLam,jfu,jeg,jhl,jhk,jjn,jfu,jeg,jjt,iDK,tBMD,tTru,je4,jh5,jeq,jen,jgn,jff])
 | `(tactic| simp! [$ls,*])=>`(tactic| simp only [tSeq,tIfS,jjs,tOp,tVar,tC,tAsg,jcz,gSub,tRet,jjp,jjo,tAnd,tOr,tNot,jjk,jjq,tB,jjm,rI0,rI,jc4,jit,jiy,jiz,jko,jkp,jkn,jch,jiw,jfg,jix,jiv,jkm,jhb,jha,ji0,jdu,jfe,jgh,jmf,jkj,jgi,jgk,jmh,jkr,jkq,jmg,jem,jl4,jiq,ji9,ji3,ji4,Option.isSome_some,tBML,jjl,tCB,jeo,tNil,tLst,tTup,tSl,jjr,jkt,iAny,jjg,jg0,jg1,jj9,jft,jjj,jmm,jfs,jd3,jdn,tTru,je4,jmj,jku,jhc,tBMS,jl5,jkl,tBM0,tBM,jmo,jg8,jf3,jiu,Option.bind_some,Option.bind_none,Option.getD_some,L2.start,Ay,Up,List.length_cons,List.length_nil,List.cons_append,List.nil_append,Ug,List.cons.injEq,List.replicate,List.getElem?_cons_zero,List.getElem?_cons_succ,List.set_cons_zero,List.set_cons_succ,Nat.reduceSub,Nat.reduceAdd,Nat.reduceLeDiff,Yi,V.int.injEq,V.bl.injEq,V.str.injEq,V.ref.injEq,HO.lst.injEq,HO.tup.injEq,exists_eq_left',exists_eq_left,exists_and_left,true_and,and_true,jb,jex,jei,jfm,jpx,Wn,Y2,Ww,A8,Of,Oz,reduceIte,reduceCtorEq,jhj,tLam,jfu,jeg,jhl,jhk,jjn,jfu,jeg,jjt,iDK,tBMD,tTru,je4,jh5,jeq,jen,jgn,jff,$ls,*])
def top(i:Nat):Stmt:=PySem.Challenge.pw_calmword_k53_deeds_put.main.body.getD i (.Pass ⟨0,0,0,0⟩)
def BoxO(o:HO):Prop:=∃c s,o=.lst [.int c,.int s]/\1<=s/\s<=2147483629
def jdp:Sp:=λvs H Q _=>∃b w o,vs=[.ref b,.int w]/\H b=some o/\BoxO o/\0<w/\w<1073741824/\∀d o,0<=d->d<w->BoxO o->Q (.int d) (upd H b o)
def jp8(K:PySem.W.Frag):Sp:=λvs H Q _=>∃(a:Addr)(k:Int)(ns:List Int),vs=[.ref a,.int k]/\SqL K H a (ns.map V.int)/\0<=k/\k<=1000/\∀b o,H b=none->BoxO o->Q (.ref b) (upd H b o)
section
variable{P:Program}{w:World}{K:PySem.W.Frag}{mg:Str->Option Value}{base:Heap}
abbrev yd:Stmt:=top 21
theorem jam:FnScope ["_law_box_here","_law_wide","_law_digit","_law_one"] ["_law_box_here","_law_wide"] (jf yd):=⟨rfl,rfl,rfl,by decide +kernel,rfl,by decide +kernel,by decide +kernel⟩
theorem ok__law_take{f:Addr}{fd:FuncData}(F:Fun K "_law_take" "_law_take" yd f fd):FnOk P w K mg base CX0 1 f fd ["_law_box_here","_law_wide"] jdp:=by
 refine F.ok jam (λvs H Q E h=>?_) (λcdv A outer s H vs Q E hr h=>?_)
 ·obtain⟨b,w,o,rfl,_⟩:=h
  rfl
 ·obtain⟨b,w,o,rfl,hb,⟨c,sd,rfl,s1,s2⟩,w0,w1,k⟩:=h
  refine⟨_,(QSs.h (jg (yt (ku jb7 (jt ix_U (qpv 0) jh (λ_ _=>rfl)) jh (yb _)) (jg (jq (i:=2) jam.nd rfl (by first|exact Or.inl rfl|exact Or.inr rfl) (jv zy (jt ix_U (qpv 0) jh (λ_ _=>rfl)) (qpv 1)))
  (jg (jae (jv jb0 (jt ix_U (qpv 0) jh (λ_ _=>rfl)) (qpv 1)) (jat (qpv 0) jh jhe))
  (jj (j7 (qpv 2))))) ya)
  (jg (jq (i:=3) jam.nd rfl (by first|exact Or.inl rfl|exact Or.inr rfl) (jv zy (jv zp (jt ix_U (qpv 0) jh (λ_ _=>rfl)) jh) jh))
  (jg (jae (jv ki (jv zy (jv ki (jv zp (qpv 3) jh) jh) jh) jh) (jat (qpv 0) jh jhe))
  (jj (j7 (jv zy (jv jb0 (jv ki (jv zp (qpv 3) jh) (jt ix_U (qpv 0) jh (λ_ _=>rfl))) jh) (qpv 1)))))))),?_⟩
  have m1:∀z m:Int,0<m->0<=z%m/\z%m<m:=λz m h=>⟨Y0 z (by omega),Ya z h⟩
  simp! [hb]
  refine ite2 (λhc=>?_) (λ_=>?_)
  ·refine⟨w0,⟨w0,w1⟩,0,rfl,?_⟩
   simp! [hb]
   exact k _ _ (m1 c w w0).1 (m1 c w w0).2 ⟨_,_,rfl,s1,s2⟩
  ·have q1:=m1 (sd*69623) 2147483647 (by decide)
   refine⟨.inl ⟨by omega,by omega⟩,by decide,.inl ⟨by omega,by omega⟩,by decide,1,rfl,?_⟩
   simp! [hb]
   have q2:=m1 (sd*69623%2147483647*48271+30103) 2147483629 (by decide)
   refine⟨.inl ⟨by omega,by omega⟩,⟨by decide,by decide⟩,w0,?_⟩
   exact k _ _ (m1 _ w w0).1 (m1 _ w w0).2 ⟨_,_,rfl,by omega,by omega⟩
structure TBox(mg:Str->Option Value):Prop where
 n_len:mg "len"=none
 n_int:mg "int"=none
abbrev zv:Stmt:=top 20
theorem z7:FnScope ["_law_script","_law_k","_law_cell","_law_seed"] ["_law_script","_law_k"] (jf zv):=⟨rfl,rfl,rfl,by decide +kernel,rfl,by decide +kernel,by decide +kernel⟩
theorem ok__law_box{f:Addr}{fd:FuncData}(F:Fun K "_law_box" "_law_box" zv f fd)(T:TBox mg):FnOk P w K mg base CX0 1 f fd ["_law_script","_law_k"] (jp8 K):=by
 refine F.ok z7 (λvs H Q E h=>?_) (λcdv A outer s H vs Q E hr h=>?_)
 ·obtain⟨a,k,ns,rfl,_⟩:=h
  rfl
 ·obtain⟨a,k,ns,rfl,hS,k0,k1,kk⟩:=h
  refine⟨_,(QSs.h (jg (jq (i:=2) z7.nd rfl (by first|exact Or.inl rfl|exact Or.inr rfl) (jv ki (jv zp jh (qpv 1)) jh))
  (jg (yt (ku jas (qpv 1) (jw z5 (by rfl) T.n_len kj (ja (qpv 0) jc)) (yb _)) (jj (jq (i:=2) z7.nd rfl (by first|exact Or.inl rfl|exact Or.inr rfl) (jt jbc (qpv 0) (qpv 1) (λ_ _=>rfl)))) (jj (yt (ku jb7 (jw z5 (by rfl) T.n_len kj (ja (qpv 0) jc)) jh (yb _)) (jj (jq (i:=2) z7.nd rfl (by first|exact Or.inl rfl|exact Or.inr rfl) (jv ki (qpv 2) (jv zp (jv zy (jt jbc (qpv 0) (jv zy (qpv 1) (jw z5 (by rfl) T.n_len kj (ja (qpv 0) jc))) (λ_ _=>rfl)) jh) jh)))) ya)))
  (jg (jq (i:=3) z7.nd rfl (by first|exact Or.inl rfl|exact Or.inr rfl) (jv ki (jv zy (jv ki (jv zp (jv zy (qpv 2) jh) jh) (jv zp jh (qpv 1))) jh) jh))
  (jj (j7 (yg (ja (jv zp (qpv 2) (ju jbi (by rfl) T.n_int jbq (ja (jac op_ge (qpv 2) (jv op_pow jh jh) (yb _)) jc))) (ja (qpv 3) jc))))))))),?_⟩
  have m1:∀z m:Int,0<m->0<=z%m/\z%m<m:=λz m h=>⟨Y0 z (by omega),Ya z h⟩
  have tail:∀cell:Int,(0:Int)<2147483629/\CMul (cell%2147483629) 48271/\CMul 40692 k/\(0:Int)<2147483629/\CPow 10 18/\CMul cell (if(10:Int)^(18:Int).toNat<=cell then 1 else 0)/\2<=sizeLine /\
    ∀p,H p=none->Q (.ref p) (upd H p (.lst [.int (cell*(if(10:Int)^(18:Int).toNat<=cell then 1 else 0)),.int ((cell%2147483629*48271+40692*k)%2147483629+1)])):=by
   intro cell
   have q1:=m1 cell 2147483629 (by decide)
   have q2:=m1 (cell%2147483629*48271+40692*k) 2147483629 (by decide)
   refine⟨by decide,.inl ⟨by omega,by omega⟩,.inl ⟨by decide,by decide⟩,by decide,⟨by decide,by decide,by decide⟩,.inr ?_,by decide,λp hp=>kk p _ hp ⟨_,_,rfl,by omega,by omega⟩⟩
   split <;> constructor <;> decide
  simp!
  refine⟨.inl ⟨by decide,by decide⟩,ns.map V.int,.inl hS,?_⟩
  rw[Ac]
  refine ite2 (λh=>?_) (λh=>?_)
  ·obtain⟨z,hz⟩:∃z,ns[k.toNat]?=some z:=⟨ns[k.toNat]'(by omega),by simp⟩
   refine⟨a,_,k,.int z,rfl,rfl,hS,je7 k0 (by rw[Ag,hz];rfl),?_⟩
   simp!
   exact tail z
  ·refine⟨ns.map V.int,.inl hS,?_⟩
   rw[Ac]
   refine ite2 (λh2=>?_) (λh2=>?_)
   ·refine⟨ns.map V.int,.inl hS,?_⟩
    rw[Ac]
    have q:=m1 k (ns.length:Int) (by omega)
    obtain⟨z,hz⟩:∃z,ns[(k%(ns.length:Int)).toNat]?=some z:=⟨ns[(k%(ns.length:Int)).toNat]'(by omega),by simp⟩
    refine⟨by omega,a,_,_,.int z,rfl,rfl,hS,je7 q.1 (by rw[Ag,hz];rfl),?_⟩
    simp!
    have q3:=m1 z 2147483629 (by decide)
    refine⟨by decide,.inl ⟨by omega,by omega⟩,?_⟩
    exact tail _
   ·exact tail _
end
structure Letters(z:Str)(m:Nat):Prop where
 lo:1<=z.length
 hi:z.length<=m
 az:∀c∈z.cps.toList,97<=c/\c<=122
 nd:z.cps.toList.Nodup
def chV(c:Nat):V:=.str ⟨#[c]⟩
def jfj:Sp:=λvs H Q _=>∃(b:Addr)(m:Nat)(o:HO),vs=[.ref b,.int (m:Int)]/\H b=some o/\BoxO o/\1<=m/\m<=4/\∀z o' H',Letters z m->BoxO o'->H' b=some o'->Kp [b] H H'->Q (.str z) H'
theorem jgx{α:Type}:∀(l:List α)(i:Nat)(x:α),l[i]?=some x->(x::l.eraseIdx i).Perm l
 |[],i,x,h=>by simp at h
 |a::l,0,x,h=>by simp at h;subst h;exact Ye _
 |a::l,i+1,x,h=>by
  rw[List.eraseIdx_cons_succ]
  exact(List.Perm.swap _ _ _).trans ((jgx l i x (by simpa using h)).cons a)
theorem jir{α β:Type}(f:α->β):∀(l:List α)(i:Nat),(l.map f).eraseIdx i=(l.eraseIdx i).map f
 |[],_=>rfl
 |_::_,0=>rfl
 |a::l,i+1=>by rw[Ay,List.eraseIdx_cons_succ,List.eraseIdx_cons_succ,Ay,jir f l i]
theorem jqe:sgn (Str.ofString "abcdefghijklmnopqrstuvwxyz")=((List.range 26).map (97+·)).map chV:=by decide +kernel
structure TLetters(mg:Str->Option Value)(ft:Addr):Prop where
 n_len:mg "len"=none
 n_list:mg "list"=none
 n_range:mg "range"=none
 m0z:mg "_law_take"=some (.ref ft)
section
variable{P:Program}{w:World}{K:PySem.W.Frag}{mg:Str->Option Value}{base:Heap}
abbrev yz:Stmt:=top 22
theorem zk:FnScope ["_law_box_here","_law_most","_law_pool","_law_found","_law_k"] ["_law_box_here","_law_most"] (jf yz):=⟨rfl,rfl,rfl,by decide +kernel,rfl,by decide +kernel,by decide +kernel⟩
theorem ok__law_letters{f ft:Addr}{fd fdt:FuncData}(F:Fun K "_law_letters" "_law_letters" yz f fd)(T:TLetters mg ft)(F0z:Fun K "_law_take" "_law_take" yd ft fdt)(b0z:Binds K fdt ["_law_box_here","_law_wide"] [])
  (G0z:FnOk P w K mg base CX0 1 ft fdt ["_law_box_here","_law_wide"] jdp):FnOk P w K mg base CX0 2 f fd ["_law_box_here","_law_most"] jfj:=by
 refine F.ok zk (λvs H Q E h=>?_) (λcdv A outer s H vs Q E hr h=>?_)
 ·obtain⟨b,m,o,rfl,_⟩:=h
  rfl
 ·obtain⟨b,m,o,rfl,hb,ho,m1,m4,k⟩:=h
  refine⟨_,(QSs.h (jg (jq (i:=2) zk.nd rfl (by first|exact Or.inl rfl|exact Or.inr rfl) (ju (call_listU rfl) (by rfl) T.n_list jbz (ja jbf jc)))
  (jg (jq (i:=3) zk.nd rfl (by first|exact Or.inl rfl|exact Or.inr rfl) jbf)
  (jg (ym Ic rfl (kg rfl T.n_range (ja (jv ki jh (jr G0z (hr.mono (by decide)) rfl T.m0z F0z.kp b0z .nil jy (ja (qpv 0) (ja (qpv 1) jc)))) jc)) (jo (i:=4) zk.nd rfl (by first|exact Or.inl rfl|exact Or.inr rfl)) (jj (jq (i:=3) zk.nd rfl (by first|exact Or.inl rfl|exact Or.inr rfl) (jv ki (qpv 3) (yf PySem.F.slot_list_pop PySem.F.type_list_pop mt_popU (qpv 2) (ja (jr G0z (hr.mono (by decide)) rfl T.m0z F0z.kp b0z .nil jy (ja (qpv 0) (ja (jw j4 (by rfl) T.n_len kj (ja (qpv 2) jc)) jc))) jc) jcj)))))
  (jj (j7 (qpv 3))))))),?_⟩
  simp!
  refine⟨by decide,λp hp=>?_⟩
  have npb:b≠p:=je hb hp
  obtain⟨c0,s0,rfl,_,_⟩:=id ho
  refine⟨b,(m:Int),_,rfl,by rw[jd npb];exact hb,ho,by omega,by omega,λd o1 d0 d1 ho1=>?_⟩
  simp!
  obtain⟨n,rfl⟩:∃n:Nat,d=(n:Int):=⟨d.toNat,by omega⟩
  have en:(1+(n:Int)).toNat=n+1:=by omega
  refine⟨by omega,by omega,?_⟩
  rw[en]
  refine jcm (λi σ H'=>∃l R o' v,σ=[some (.ref b),some (.int (m:Int)),some (.ref p),some (.str (toS l)),v]/\H' b=some o'/\BoxO o'/\H' p=some (.lst (R.map chV))/\Kp [b] H H'/\l.length=i/\R.length+i=26 /\
   (l++R).Nodup/\∀c∈l++R,97<=c/\c<=122) ?_ ?_ ?_
  ·refine⟨[],(List.range 26).map (97+·),o1,none,rfl,jb,ho1,?_,?_,rfl,by simp,?_,?_⟩
   ·rw[jd npb.symm,jb,jqe]
   ·exact((Kp.refl [b] H).new hp).set (by rw[jd npb];exact hb) (.inl (by simp))
   ·decide
   ·decide
  ·rintro i σ H' hi ⟨l,R,o',v,rfl,hb',ho',hp',kp,hl,hR,nd,az⟩
   simp! [hp']
   obtain⟨c1,s1,rfl,_,_⟩:=id ho'
   refine⟨b,_,_,rfl,hb',ho',by rw[Ac];omega,by rw[Ac];omega,λd o2 d0 d1 ho2=>?_⟩
   rw[Ac]at d1
   have hp2:upd H' b o2 p=some (.lst (R.map chV)):=by rw[jd npb.symm];exact hp'
   simp! [hp2]
   obtain⟨c,hc⟩:∃c,R[d.toNat]?=some c:=⟨R[d.toNat]'(by omega),by simp⟩
   have hc':(R.map chV)[d.toNat]?=some (.str ⟨#[c]⟩):=by rw[Ag,hc];rfl
   refine⟨d0,_,hc',?_⟩
   simp!
   have pm:=jgx R d.toNat c hc
   have e1:((l++[c])++R.eraseIdx d.toNat).Perm (l++R):=by
    rw[U5]
    exact pm.append_left l
   have hlen:(R.eraseIdx d.toNat).length+1=R.length:=by
    have:=pm.length_eq
    simpa using this
   refine⟨?_,l++[c],R.eraseIdx d.toNat,o2,_,⟨jre l c,rfl⟩,by rw[jd npb,jb],ho2,jir chV R _,?_,by simp[hl],by omega,?_,?_⟩
   ·rw[jfw]
    show l.length+1<=sizeLine
    have:sizeLine=16777216:=Ia
    omega
   ·exact(kp.set hb' (.inl (.head _))).set hp2 (.inr hp)
   ·exact e1.nodup_iff.mpr nd
   ·exact λx hx=>az x (e1.mem_iff.mp hx)
  ·rintro σ H' ⟨l,R,o',v,rfl,hb',ho',hp',kp,hl,hR,nd,az⟩
   simp! [hp']
   exact k (toS l) o' H' ⟨by rw[jfw];omega,by rw[jfw];omega,λc hc=>az c (Oi _ (by simpa[toS]using hc)),by simpa[toS]using(Os.mp nd).1⟩ ho' hb' kp
end
theorem jpt{H:Hp}{a b:Addr}{x y:HO}(h:a≠b):upd (upd H a x) b y=upd (upd H b y) a x:=by
 funext c
 by_cases h1:c=a
 ·subst h1;rw[jd h,jb,jb]
 ·by_cases h2:c=b
  ·subst h2;rw[jb,jd h1,jb]
  ·rw[jd h2,jd h1,jd h1,jd h2]
theorem jd7{lo:Int}{n:Nat}{D b:Addr}{te:TE}{E:Ends}{r:L2.St}{H:Hp}{o0:HO}(P:V->Prop)(hb:H b=some o0)(ho0:BoxO o0)(hD:H D=none)(hz:n<=sizeLine)
  (he:∀x H' o Q,H' b=some o->BoxO o->(∀v o',P v->BoxO o'->Q v (upd H' b o'))->te (some x::r) H' Q)
  (hn:∀v xs o',xs.length=n->(∀x∈xs,P x)->BoxO o'->E.nx (v::r) (upd (upd H b o') D (.lst xs))):jcr (Itr lo n) (jcz 0) (jc0 D te) E (none::r) (upd H D (.lst [])):=by
 have nbD:b≠D:=je hb hD
 refine jcm (λi σ H'=>∃(v:Option V)(xs:List V)(o':HO),σ=v::r/\xs.length=i/\(∀x∈xs,P x)/\BoxO o'/\H'=upd (upd H b o') D (.lst xs)) ?_ ?_ ?_
 ·refine⟨none,[],o0,rfl,rfl,(λx h=>nomatch h),ho0,?_⟩
  have:upd H b o0=H:=by
   funext c
   by_cases h:c=b
   ·subst h;rw[jb,hb]
   ·rw[jd h]
  rw[this]
 ·rintro i σ H' hi ⟨v,xs,o',rfl,hl,hP,ho',rfl⟩
  refine he _ _ o' _ (by rw[jd nbD,jb]) ho' λy o2 hy ho2=>?_
  have e:upd (upd (upd H b o') D (.lst xs)) b o2=upd (upd H b o2) D (.lst xs):=by rw[jpt nbD.symm,jex]
  refine⟨xs,by rw[e,jb];rfl,by omega,_,xs++[y],o2,rfl,by simp[hl],λx hx=>?_,ho2,by rw[e,jex]⟩
  rcases Au.mp hx with h|h
  ·exact hP x h
  ·simp at h;subst h;exact hy
 ·rintro σ H' ⟨v,xs,o',rfl,hl,hP,ho',rfl⟩
  exact hn v xs o' hl hP ho'
theorem _root_.L2.Kp.seq{S:List Addr}{K:PySem.W.Frag}{H H':Hp}{a:Addr}{xs:List V}(e:Kp S H H')(n:a∉S)(h:SqL K H a xs):SqL K H' a xs:=by
 rcases h with(h|⟨o,h⟩)|h
 ·exact .inl (.inl (e.old _ _ h n))
 ·exact .inl (.inr ⟨o,e.old _ _ h n⟩)
 ·exact .inr h
theorem exQ{X:Cx}{ss:List Stmt}{t:TS}{R:TS->Prop}(q:QSs X ss t)(h:R t):∃t,PSs X ss t/\R t:=⟨t,q.h,h⟩
def nV(n:Nat):V:=.int (n:Int)
def dk(r:Nat):L2.Key×V:=(.inl (r:Int),.bl true)
theorem jnx{x r:Nat}(z:(dk x).1=.inl (r:Int)):x=r:=Int.ofNat.inj (Sum.inl.inj z)
theorem jld(S:List Nat)(r:Nat):valV (S.map dk) (.inl (r:Int))=if r∈S then some (.bl true)else none:=by
 induction S with
 |nil=>rfl
 |cons x S ih =>
  rw[Ay]
  by_cases h:x=r
  ·subst h
   rw[jcu (p:=dk x) (r:=S.map dk) (k:=.inl (x:Int)) rfl,Ao (.head _)];rfl
  ·rw[jct (λz=>h (jnx z)),ih]
   by_cases h2:r∈S
   ·rw[Ao h2,Ao (.tail _ h2)]
   ·rw[An h2,An (λz=>(Ap.mp z).elim (λe=>h e.symm) h2)]
theorem jqm(S:List Nat)(r:Nat):je0 (S.map dk) (.inl (r:Int))=(S.filter λx=>decide (x≠r)).map dk:=by
 unfold je0
 rw[List.filter_map]
 congr 1
 refine List.filter_congr λx _=>?_
 show decide ((dk x).1≠_)=_
 exact decide_eq_decide.mpr ⟨λh z=>h (by rw[z];rfl),λh z=>h (jnx z)⟩
theorem jcb:∀(S T:List Nat),(T++S).Nodup->(S.map dk).foldl (λd kv=>putK d kv.1 kv.2) (T.map dk)=(T++S).map dk
 |[],T,_=>by simp
 |x::S,T,nd=>by
  have nx:x∉T:=λh=>by
   rw[Os]at nd
   exact nd.2.2 x h x (.head _) rfl
  rw[Ay,List.foldl_cons,jki _ (show valV (T.map dk) (dk x).1=none by rw[show(dk x).1=.inl (x:Int)from rfl,jld,An nx])]
  have:=jcb S (T++[x]) (by simpa using nd)
  rw[A5]at this
  rw[show T.map dk++[((dk x).1,(dk x).2)]=T.map dk++[x].map dk from rfl,this]
  simp
theorem jfd{S:List Nat}(nd:S.Nodup):jdh (S.map dk)=S.map dk:=by
 have:=jcb S [] (by simpa using nd)
 simpa[jdh]using this
theorem jl8{d:Addr}{H H1:Hp}{o:HO}(k:Kp [d] H H1)(h:H d=some o)(nt:∀xs,o≠.tup xs):Kp [] H (upd H1 d o):=by
 refine⟨λa u e _=>?_,λa xs e=>?_,λa u e=>?_⟩
 ·by_cases c:a=d
  ·subst c;rw[jb];rw[h]at e;exact e
  ·rw[jd c];exact k.old a u e (by simpa using c)
 ·have c:a≠d:=λz=>by rw[z,h]at e;exact nt xs (Av e)
  rw[jd c];exact k.tup a xs e
 ·by_cases c:a=d
  ·exact⟨o,by rw[c,jb]⟩
  ·obtain⟨o',e'⟩:=k.dom a u e
   exact⟨o',by rw[jd c];exact e'⟩
theorem jdq{S:List Addr}{H H1:Hp}(k:Kp S H H1){b:Addr}{kvs:List (Key×V)}{o:HO}(hb:H1 b=some (.dK kvs))(h:b∈S\/H b=none):Kp S H (upd H1 b o):=by
 have ne:∀c u,H c=some u->c∉S->c≠b:=λc u e n z=>by
  subst z
  rcases h with h|h
  ·exact n h
  ·rw[h]at e;cases e
 refine⟨λc u e n=>by rw[jd (ne c u e n)];exact k.old c u e n,λc ys e=>?_,λc u e=>?_⟩
 ·have e1:=k.tup c ys e
  have:c≠b:=λz=>by rw[z,hb]at e1;cases e1
  rw[jd this];exact e1
 ·obtain⟨o',e'⟩:=k.dom c u e
  by_cases q:c=b
  ·subst q;exact⟨o,jb⟩
  ·exact⟨o',by rw[jd q];exact e'⟩
def gsF(gs:List Nat)(L:List Nat)(p:Nat):List Nat:=L.foldl (λg r=>g.set r p) gs
theorem jhw(L:List Nat)(p:Nat):∀gs:List Nat,(gsF gs L p).length=gs.length:=by
 unfold gsF
 induction L with
 |nil=>intro gs;rfl
 |cons x L ih=>intro gs;rw[List.foldl_cons,ih];simp
theorem jgz(L:List Nat)(p r:Nat):∀gs:List Nat,r<gs.length->(gsF gs L p)[r]?=if r∈L then some p else gs[r]?:=by
 unfold gsF
 induction L with
 |nil=>intro gs _;simp
 |cons x L ih =>
  intro gs hr
  rw[List.foldl_cons,ih _ (by simpa using hr),List.getElem?_set]
  by_cases h1:r∈L
  ·rw[Ao h1,Ao (.tail _ h1)]
  ·rw[An h1]
   by_cases h2:x=r
   ·subst h2
    rw[Ao rfl,Ao hr,Ao (.head _)]
   ·rw[An h2,An (λz=>(Ap.mp z).elim (λe=>h2 e.symm) h1)]
theorem jpe(gs L:List Nat)(x p:Nat):gsF gs (L++[x]) p=(gsF gs L p).set x p:=by simp[gsF]
structure PS(H:Hp)(pp pg:Addr)(n:Nat)(ds:List Addr)(Ss:List (List Nat))(gs:List Nat):Prop where
 hp:H pp=some (.lst (ds.map V.ref))
 hg:H pg=some (.lst (gs.map nV))
 gl:gs.length=n
 dl:ds.length=Ss.length
 at_:∀(i:Nat) d S,ds[i]?=some d->Ss[i]?=some S->H d=some (.dK (S.map dk))
 nd:ds.Nodup
 ns:∀S∈Ss,S.Nodup
 mem:∀(i:Nat) S,Ss[i]?=some S->∀r,r∈S↔r<n/\gs[r]?=some i
 ne:pp≠pg
 n9:n<=1000
 gt:∀(r g:Nat),gs[r]?=some g->g<ds.length
theorem PS.kp{H H':Hp}{pp pg:Addr}{n:Nat}{ds:List Addr}{Ss:List (List Nat)}{gs:List Nat}(h:PS H pp pg n ds Ss gs)(k:Kp [] H H'):PS H' pp pg n ds Ss gs :=
 ⟨k.old _ _ h.hp (by simp),k.old _ _ h.hg (by simp),h.gl,h.dl,λi d S e1 e2=>k.old _ _ (h.at_ i d S e1 e2) Af,h.nd,h.ns,h.mem,h.ne,h.n9,h.gt⟩
theorem PS.get{H:Hp}{pp pg:Addr}{n:Nat}{ds:List Addr}{Ss:List (List Nat)}{gs:List Nat}(h:PS H pp pg n ds Ss gs){i:Nat}{S:List Nat}(e:Ss[i]?=some S):∃d,ds[i]?=some d/\H d=some (.dK (S.map dk)):=by
 have hi:=(Ad.mp e).1
 have e1:ds[i]?=some (ds[i]'(by rw[h.dl];exact hi)):=Aa _
 exact⟨_,e1,h.at_ i _ S e1 e⟩
theorem jco:∀{l zs:List Nat},l.Nodup->(∀x∈l,x∈zs)->l.length<=zs.length
 |[],_,_,_=>Oc _
 |x::l,zs,nd,h=>by
  obtain⟨hx,nd'⟩:=Ol.mp nd
  have hm:=h x (.head _)
  have:=jco (l:=l) (zs:=zs.erase x) nd' λy hy=>(U9 (λe:y=x=>hx (e▸hy))).mpr (h y (.tail _ hy))
  rw[Wg hm]at this
  have hp:0<zs.length:=Uy hm
  rw[List.length_cons]
  omega
theorem jde{S:List Nat}{n:Nat}(nd:S.Nodup)(h:∀r∈S,r<n):S.length<=n:=by
 have q:=jco (zs:=List.range n) nd λx hx=>At.mpr (h x hx)
 simpa using q
def prT(y x:V)(H:Hp):Prop:=∃t,x=.ref t/\H t=some (.tup [y,.bl true])
theorem jgf(y:V):Firm (prT y):=λS x H1 H2 k ⟨t,e,h⟩=>⟨t,e,k.tup _ _ h⟩
theorem ja5{H:Hp}:∀{L:List Nat}{xs:List V},Paired (λy x=>prT y x H) (L.map nV) xs->PairsK H xs (L.map dk)
 |[],xs,h=>by cases h;exact .nil
 |r::L,xs,h=>by
  rw[Ay]at h
  cases h with
  |cons a t =>
   obtain⟨q,e,g⟩:=a
   exact .cons ⟨q,e,g⟩ (ja5 t)
def notL(L:List Nat):V->Bool
 |.int i=>!decide (i.toNat∈L)
 |_=>false
theorem jpk(L S:List Nat):((S.map dk).map (λkv=>kV kv.1)).filter (notL L)=(S.filter λq=>!decide (q∈L)).map nV:=by
 rw[Ax,show(λkv:L2.Key×V=>kV kv.1)∘dk=nV from rfl,List.filter_map]
 congr 1
def jp9:Sp:=λvs H Q _=>∃(pp pg ps:Addr)(n:Nat)(ds:List Addr)(Ss:List (List Nat))(gs:List Nat)(i:Nat)(S L:List Nat),vs=[.ref pp,.ref pg,.int (i:Int),.ref ps]/\PS H pp pg n ds Ss gs/\Ss[i]?=some S/\H ps=some (.lst (L.map nV))/\L.Nodup/\(∀r∈L,r∈S)/\ps≠pp/\ps≠pg/\Ss.length<=1000 /\
 ((L=[]\/L.length=S.length)->∀H',Kp [] H H'->Q (.bl false) H') /\
 (¬(L=[]\/L.length=S.length)->∀(sh:List Nat)(d':Addr)(H':Hp),sh.Nodup->sh≠[]->H d'=none->(∀r∈sh,r∈S)->((∀r,r∈sh↔r∈L)\/∀r,r∈sh↔r∈S/\r∉L)->PS H' pp pg n (ds++[d']) (Ss.set i (S.filter λr=>!decide (r∈sh))++[sh]) (gsF gs sh ds.length)->Kp (pp::pg::ds) H H'->Q (.bl true) H')
structure TCut(mg:Str->Option Value):Prop where
 n_len:mg "len"=none
 n_dict:mg "dict"=none
section
variable{P:Program}{w:World}{K:PySem.W.Frag}{mg:Str->Option Value}{base:Heap}
abbrev jab:Stmt:=top 13
theorem ja2:FnScope ["parts","groups","number","share","part","inside","room"] ["parts","groups","number","share"] (jf jab):=⟨rfl,rfl,rfl,by decide +kernel,rfl,by decide +kernel,by decide +kernel⟩
theorem ok_cut{f:Addr}{fd:FuncData}(F:Fun K "cut" "cut" jab f fd)(T:TCut mg):FnOk P w K mg base CX0 1 f fd ["parts","groups","number","share"] jp9:=by
 refine F.ok ja2 (λvs H Q E h=>?_) (λcdv A outer s H vs Q E hr h=>?_)
 ·obtain⟨pp,pg,ps,n,ds,Ss,gs,i,S,L,rfl,_⟩:=h
  rfl
 ·obtain⟨pp,pg,ps,n,ds,Ss,gs,i,S,L,rfl,ph,hS,hL,ndL,subL,nsp,nsg,l9,kF,kT⟩:=h
  have hu:=hr.units
  have hsz:sizeLine=16777216:=Ia
  have hu1:(A.deeper (PyProof.Rows.envOfC (Str.ofString "cut") (jf jab) s.heap.objs.size f cdv)).units+1<cLine:=by omega
  obtain⟨d,hd,hdd⟩:=ph.get hS
  have ndS:=ph.ns S (Al hS)
  have Sn:S.length<=n:=jde ndS λr hr=>((ph.mem i S hS r).mp hr).1
  have n9:=ph.n9
  have Ll:L.length<=S.length:=jco ndL subL
  refine exQ (jg (jq (i:=4) ja2.nd rfl (by first|exact Or.inl rfl|exact Or.inr rfl) (jt ix_U (qpv 0) (qpv 2) (λ_ _=>rfl)))
  (kn (yt (QW.pt (jcc (ku (zc hu) (jw j4 (by rfl) T.n_len kj (ja (qpv 3) jc)) jh (yb _)) (jb6 (ku (zc hu) (jw j4 (by rfl) T.n_len kj (ja (qpv 3) jc)) (jw jbj (by rfl) T.n_len kj (ja (qpv 4) jc)) (yb _))))) (jj (j7 jaa)) ya)
  (kn (yt (ku jb7 (jv zp jh (jw j4 (by rfl) T.n_len kj (ja (qpv 3) jc))) (jw jbj (by rfl) T.n_len kj (ja (qpv 4) jc)) (yb _)) (jg (jq (i:=5) ja2.nd rfl (by first|exact Or.inl rfl|exact Or.inr rfl) (ju (jau rfl hu) (by rfl) T.n_dict jbb (ja (kc rfl (jcd (sc:=jf jab) (N:=["parts","groups","number","share","part","inside","room"]) (Nc:=["room"]) (js:=[none]) (by decide +kernel)) (j9 (K:=K) (qpv 3) rfl) (λ_ _ _ _=>(jo (i:=0) (show List.Nodup [("room":Str)]from by decide +kernel) rfl (by first|exact Or.inl rfl|exact Or.inr rfl))) (λ_ _ _ _=>(y9 (ja (qpv 0) (ja jaa jc))))) jc)))
  (jj (jbx (qps_setcIf (i:=3) ja2.nd rfl (by first|exact Or.inl rfl|exact Or.inr rfl) rfl (jcd (sc:=jf jab) (N:=["parts","groups","number","share","part","inside","room"]) (Nc:=["room","inside"]) (js:=[none,some 5]) (by decide +kernel)) (jbu (qpv 4)) (λ_ _ _ _=>(jo (i:=0) (show List.Nodup [("room":Str),("inside":Str)]from by decide +kernel) rfl (by first|exact Or.inl rfl|exact Or.inr rfl))) (λ_ _ _ _=>(jbg (jaw hu1 (qpv 0) (qpv 1)) (by with_unfolding_all rfl))) (λ_ _ _ _=>(qpv 0)))))) ya)
  (jg (ym Ic rfl (j9 (K:=K) (qpv 3) rfl) (jo (i:=6) ja2.nd rfl (by first|exact Or.inl rfl|exact Or.inr rfl)) (jg (yh (qpe_bmD PySem.F.slot_dict_pop PySem.F.type_dict_pop mt_popD (qpv 4) (ja (qpv 6) jc) jcj))
  (jj (jae (jw j4 (by rfl) T.n_len kj (ja (qpv 0) jc)) (jat (qpv 1) (qpv 6) jhe)))))
  (jg (yh (yf Ij Ik yj (qpv 0) (ja (ju (jau rfl hu) (by rfl) T.n_dict jbb (ja (kc rfl (jcd (sc:=jf jab) (N:=["parts","groups","number","share","part","inside","room"]) (Nc:=["room"]) (js:=[none]) (by decide +kernel)) (j9 (K:=K) (qpv 3) rfl) (λ_ _ _ _=>(jo (i:=0) (show List.Nodup [("room":Str)]from by decide +kernel) rfl (by first|exact Or.inl rfl|exact Or.inr rfl))) (λ_ _ _ _=>(y9 (ja (qpv 0) (ja jaa jc))))) jc)) jc) jcj))
  (jj (j7 jaa))))))) ?_
  simp! [ph.hp]
  refine⟨.ref d,jce (by rw[Ag,hd];rfl),?_⟩
  refine⟨λσ' H'=>σ'=[some (.ref pp),some (.ref pg),some (.int (i:Int)),some (.ref ps),some (.ref d),none,none]/\H=H'/\¬(L=[]\/L.length=S.length),?_,?_⟩
  ·simp! [hL]
   rw[Ac]
   refine ite2 (λh=>kF (.inl (Ux.mp (by omega))) H (Kp.refl _ _)) (λh=>⟨d,S.map dk,rfl,.inl hdd,?_⟩)
   rw[Ac]
   dsimp only
   rw[jgh]
   refine⟨_,rfl,ite2 (λh2=>kF (.inr (by have:=of_decide_eq_true h2;omega)) H (Kp.refl _ _)) (λh2=>⟨rfl,λz=>z.elim (λe=>h (by rw[e];rfl)) (λe=>h2 (by rw[e];simp))⟩)⟩
  rintro _ _ ⟨rfl,rfl,nn⟩
  refine⟨λσ' H'=>∃(ps':Addr)(sh:List Nat)(v5:Option V),σ'=[some (.ref pp),some (.ref pg),some (.int (i:Int)),some (.ref ps'),some (.ref d),v5,none]/\H' ps'=some (.lst (sh.map nV))/\ps'≠pp/\ps'≠pg/\sh.Nodup/\sh≠[]/\(∀r∈sh,r∈S)/\((∀r,r∈sh↔r∈L)\/∀r,r∈sh↔r∈S/\r∉L)/\Kp [] H H',?_,?_⟩
  ·simp! [hL]
   refine⟨.inl ⟨by decide,by decide⟩,d,S.map dk,rfl,.inl hdd,_,rfl,?_⟩
   rw[Ac,Ac]
   refine ite2 (λh=>?_) (λh=>⟨ps,L,none,⟨rfl,rfl⟩,hL,nsp,nsg,ndL,λz=>nn (.inl z),subL,.inl (λ_=>Iff.rfl),Kp.refl _ _⟩)
   simp only[hL]
   intro D hD
   refine jds prT jgf hL hD (by rw[Ac];omega) (λj y H1 Q' hy k1 q=>?_) λv xs H3 k3 hD3 pr=>?_
   ·simp!
    exact⟨by omega,λt ht=>q _ _ ((Kp.refl [] H1).new ht) ⟨t,rfl,jb⟩⟩
   dsimp only
   refine rDictK.of hD3 (ja5 pr) λpi hpi=>?_
   rw[jfd ndL]
   have k4:Kp [] H (upd H3 pi (.dK (L.map dk))):=k3.new hpi
   have ndp:d≠pi:=je (k3.old _ _ hdd Af) hpi
   have e4:upd H3 pi (.dK (L.map dk)) pi=some (.dK (L.map dk)):=jb
   generalize upd H3 pi (.dK (L.map dk))=H4 at k4 e4⊢
   have d4:=k4.old _ _ hdd Af
   simp!
   refine⟨d,λo u z=>?_,d,S.map dk,rfl,.inl ⟨d4,λo D2 hD2=>?_⟩⟩
   ·have z':H d=some (.frz o u):=z
    rw[hdd]at z';cases z'
   have e4z:upd H4 d (.frz o (.dK (S.map dk))) pi=some (.dK (L.map dk)):=by rw[jd ndp.symm];exact e4
   have Di:pi≠D2:=je e4z hD2
   have dD:d≠D2:=je jb hD2
   have D24:H4 D2=none:=by rwa[jd dD.symm]at hD2
   have D20:H D2=none:=k4.free D24
   refine jnq (notL L) id jb hD2 (by rw[Ac];omega) (λx hx l Q' q=>?_) (λx hx _ l Q' q=>?_) λvv=>?_
   ·obtain⟨kv,hkv,rfl⟩:=Am.mp hx
    obtain⟨y,hy,rfl⟩:=Am.mp hkv
    simp!
    refine⟨_,DGet.k (k:=.inl (y:Int)) (kvs:=L.map dk) (by rw[jd Di];exact e4z),?_⟩
    rw[jld]
    have:notL L (kV (dk y).1)=!(if y∈L then some (V.bl true)else none).isSome:=by
     show(!decide (y∈L))=_
     by_cases h:y∈L <;> simp[h]
    rw[<-this]
    exact q
   ·simp!
    exact q
   rw[List.map_id,jpk]
   dsimp only
   have kz:Kp [d] H (upd (upd H4 d (.frz o (.dK (S.map dk)))) D2 (.lst ((S.filter λq=>!decide (q∈L)).map nV))):=(jdq (k4.mono (by simp)) d4 (.inl (by simp))).new hD2
   refine⟨o,.dK (S.map dk),by rw[jd dD,jb],S.filter λq=>!decide (q∈L),by rw[jd dD.symm,jb],?_,?_,ndS.filter _,?_,λr hr=>(Iz.mp hr).1,.inr λr=>by simp[Iz],jl8 kz hdd (λxs z=>nomatch z)⟩
   ·exact λz=>by rw[z,ph.hp]at D20;cases D20
   ·exact λz=>by rw[z,ph.hg]at D20;cases D20
   ·intro z
    have:S.length<=L.length:=jco ndS λr hr=>by
     have:=Ym.mp z r hr
     simpa using this
    exact nn (.inr (by omega))
  rintro _ H2 ⟨ps',sh,v5,rfl,hsh,np1,np2,nds,nes,subs,how,k2⟩
  simp! [hsh]
  have ph2:=ph.kp k2
  have hd2:=k2.old _ _ hdd Af
  have d1:d≠pp:=λz=>by rw[z,ph.hp]at hdd;cases hdd
  have d2:d≠pg:=λz=>by rw[z,ph.hg]at hdd;cases hdd
  have d3:d≠ps':=λz=>by rw[z,hsh]at hd2;cases hd2
  refine jc9 (xs:=sh.map nV) (λj σ H'=>∃v6:Option V,σ=[some (.ref pp),some (.ref pg),some (.int (i:Int)),some (.ref ps'),some (.ref d),v5,v6]/\H' d=some (.dK ((S.filter λr=>!decide (r∈sh.take j)).map dk))/\H' pg=some (.lst ((gsF gs (sh.take j) ds.length).map nV))/\H' ps'=some (.lst (sh.map nV))/\Kp [pg,d] H2 H') ?_ ?_ ?_ ?_
  ·refine⟨none,rfl,?_,ph2.hg,hsh,Kp.refl _ _⟩
   rw[hd2,show(S.filter λr=>!decide (r∈sh.take 0))=S from List.filter_eq_self.mpr λr _=>by simp]
  ·rintro j σ H' _ ⟨v6,rfl,_,_,h,_⟩
   exact h
  ·rintro j x σ H3 hx ⟨v6,rfl,h1,h2,h3,k3⟩
   rw[Ag]at hx
   obtain⟨r,hr,rfl⟩:=A3.mp hx
   have rs:=Al hr
   have rS:=subs r rs
   obtain⟨rn,rg⟩:=(ph.mem i S hS r).mp rS
   have nt:r∉sh.take j:=λz=>by
    obtain⟨m,hm⟩:=Is z
    have hmj:m<j:=by have:=(Ad.mp hm).1;rw[Oe]at this;omega
    rw[List.getElem?_take,Ao hmj]at hm
    have hml:=(Ad.mp hm).1
    have:=(List.getElem?_inj hml nds).mp (hm.trans hr.symm)
    omega
   have tk:sh.take (j+1)=sh.take j++[r]:=by rw[Oa,hr];rfl
   have hp3:H3 pp=some (.lst (ds.map V.ref)):=k3.old _ _ ph2.hp (by simp[ph.ne,d1.symm])
   simp!
   refine⟨⟨d,_,rfl,h1⟩,d,_,.inl (r:Int),.bl true,rfl,rfl,h1,?_,?_⟩
   ·rw[jld,Ao (Iz.mpr ⟨rS,by simpa using nt⟩)]
   rw[jqm,List.filter_filter]
   have ef:S.filter (λx=>decide (x≠r) && !decide (x∈sh.take j))=S.filter λx=>!decide (x∈sh.take (j+1)):=List.filter_congr λx _=>by
    rw[tk]
    by_cases c1:x=r
    ·simp[c1]
    ·simp[c1]
   rw[ef]
   have k4:Kp [pg,d] H2 (upd H3 d (.dK ((S.filter λx=>!decide (x∈sh.take (j+1))).map dk))):=jdq k3 h1 (.inl (by simp))
   refine⟨_,by rw[jd d1.symm,hp3];rfl,?_⟩
   unfold nV
   rw[jem,jd d2.symm,h2]
   refine⟨_,rfl,r,?_,?_,?_,?_,?_⟩
   ·unfold ixN
    rw[Ac,jhw,ph.gl,Ao (by omega),Ao (by omega)];simp
   ·rw[jd d2,jb]
   ·rw[jb,tk,jpe,List.map_set,Ac];rfl
   ·rw[jd np2,jd d3.symm];exact h3
   ·exact k4.set (by rw[jd d2.symm];exact h2) (.inl (by simp))
  ·rintro σ H3 ⟨v6,rfl,h1,h2,h3,k3⟩
   rw[Ac,Ii]at h1 h2
   have hp3:H3 pp=some (.lst (ds.map V.ref)):=k3.old _ _ ph2.hp (by simp[ph.ne,d1.symm])
   have shl:sh.length<=S.length:=jco nds subs
   have dsl:=ph.dl
   simp! [h3]
   refine⟨by rw[hp3];rfl,λD hD=>?_⟩
   refine jds prT jgf h3 hD (by rw[Ac];omega) (λj y H1 Q' hy k1 q=>?_) λv xs H4 k4 hD4 pr=>?_
   ·simp!
    exact⟨by omega,λt ht=>q _ _ ((Kp.refl [] H1).new ht) ⟨t,rfl,jb⟩⟩
   dsimp only
   refine rDictK.of hD4 (ja5 pr) λd' hd'=>?_
   rw[jfd nds]
   have hp4:=k4.old _ _ hp3 Af
   have npd':pp≠d':=je hp4 hd'
   have g4:=k4.old _ _ h2 Af
   have ngd':pg≠d':=je g4 hd'
   have dd4:=k4.old _ _ h1 Af
   have ndd':d≠d':=je dd4 hd'
   have k5:Kp (pp::pg::ds) H (upd (upd H4 d' (.dK (sh.map dk))) pp (.lst (ds.map V.ref++[V.ref d']))):=by
    have a1:Kp (pp::pg::ds) H H3:=(k2.mono (by simp)).trans (k3.mono (λx hx=>by
     simp only[Ap,Af,Uk]at hx
     rcases hx with rfl|rfl
     ·simp
     ·exact .tail _ (.tail _ (Al hd))))
    exact((a1.trans (k4.mono (by simp))).new hd').set (by rw[jd npd'];exact hp4) (.inl (by simp))
   refine⟨_,by rw[jd npd',hp4];rfl,by rw[Ac];omega,kT nn sh d' _ nds nes (k2.free (k3.free (k4.free hd'))) subs how ?_ k5⟩
   have hi:i<ds.length:=(Ad.mp hd).1
   have old:∀(j:Nat)(dd:Addr)(U:List Nat),ds[j]?=some dd->Ss[j]?=some U->j≠i->upd (upd H4 d' (.dK (sh.map dk))) pp (.lst (ds.map V.ref++[V.ref d'])) dd=some (.dK (U.map dk)):=λj dd U e1 e2 nj=>by
    have hdU:=ph.at_ j dd U e1 e2
    have c1:dd≠pp:=λz=>by rw[z,ph.hp]at hdU;cases hdU
    have c2:dd≠pg:=λz=>by rw[z,ph.hg]at hdU;cases hdU
    have c3:dd≠d:=λz=>by
     rw[z]at e1
     exact nj ((List.getElem?_inj (Ad.mp e1).1 ph.nd).mp (e1.trans hd.symm))
    have q4:H4 dd=some (.dK (U.map dk)):=k4.old _ _ (k3.old _ _ (k2.old _ _ hdU Af) (by simp[c2,c3])) (by simp)
    rw[jd c1,jd (je q4 hd')];exact q4
   have fr:∀x∈ds,x≠d':=λx hx z=>by
    obtain⟨j,hj⟩:=Is hx
    have hjl:=(Ad.mp hj).1
    have e2:Ss[j]?=some (Ss[j]'(by omega)):=Aa _
    have hU:=ph.at_ j x _ hj e2
    have:=k4.dom x _ (k3.dom x _ (k2.old _ _ hU Af)|>.choose_spec)
    obtain⟨o',e'⟩:=this
    rw[z,hd']at e';cases e'
   refine⟨by rw[jb,A5];rfl,by rw[jd ph.ne.symm,jd ngd'];exact g4,by rw[jhw];exact ph.gl,by simp[dsl],λj dd U e1 e2=>?_,?_,λU hU=>?_,λj U e2 r=>?_,ph.ne,ph.n9,λr g e=>?_⟩
   ·rcases Nat.lt_trichotomy j ds.length with l|l|l
    ·rw[Ig l]at e1
     rw[Ig (by rw[Uh];omega)]at e2
     by_cases c:j=i
     ·subst c
      rw[hd]at e1
      cases e1
      rw[Ws (by omega)]at e2
      cases e2
      rw[jd d1,jd ndd'];exact dd4
     ·rw[Wz (λz=>c z.symm)]at e2
      exact old j dd U e1 e2 c
    ·subst l
     rw[Ir (Ak _)]at e1
     rw[Ir (by rw[Uh];omega),Uh,show ds.length-Ss.length=0 by omega]at e2
     simp at e1 e2
     subst e1 e2
     rw[jd npd'.symm,jb]
    ·rw[Ix (by simp;omega)]at e1
     cases e1
   ·rw[Os]
    exact⟨ph.nd,by simp,λa ha b hb e=>fr a ha (e.trans (Aj.mp hb))⟩
   ·rcases Au.mp hU with h|h
    ·rcases Wa h with h|rfl
     ·exact ph.ns U h
     ·exact ndS.filter _
    ·cases Aj.mp h;exact nds
   ·have key:r<n->(gsF gs sh ds.length)[r]?=if r∈sh then some ds.length else gs[r]?:=λhr=>jgz sh ds.length r gs (by rw[ph.gl];exact hr)
    rcases Nat.lt_trichotomy j ds.length with l|l|l
    ·rw[Ig (by rw[Uh];omega)]at e2
     by_cases c:j=i
     ·subst c
      rw[Ws (by omega)]at e2
      cases e2
      rw[Iz]
      refine⟨fun⟨h1',h2'⟩=>?_,fun⟨h1',h2'⟩=>?_⟩
      ·obtain⟨q1,q2⟩:=(ph.mem j S hS r).mp h1'
       refine⟨q1,?_⟩
       rw[key q1,An (by simpa using h2')];exact q2
      ·rw[key h1']at h2'
       by_cases m:r∈sh
       ·rw[Ao m]at h2';simp at h2';omega
       ·rw[An m]at h2'
        exact⟨(ph.mem j S hS r).mpr ⟨h1',h2'⟩,by simpa using m⟩
     ·rw[Wz (λz=>c z.symm)]at e2
      have mm:=ph.mem j U e2 r
      refine⟨λh=>?_,fun⟨h1',h2'⟩=>?_⟩
      ·obtain⟨q1,q2⟩:=mm.mp h
       refine⟨q1,?_⟩
       have m:r∉sh:=λm=>by
        have:=((ph.mem i S hS r).mp (subs r m)).2
        rw[q2]at this;simp at this;exact c this
       rw[key q1,An m];exact q2
      ·rw[key h1']at h2'
       by_cases m:r∈sh
       ·rw[Ao m]at h2';simp at h2';omega
       ·rw[An m]at h2';exact mm.mpr ⟨h1',h2'⟩
    ·subst l
     rw[Ir (by rw[Uh];omega),Uh,show ds.length-Ss.length=0 by omega]at e2
     simp at e2
     subst e2
     refine⟨λh=>?_,fun⟨h1',h2'⟩=>?_⟩
     ·have q1:=((ph.mem i S hS r).mp (subs r h)).1
      exact⟨q1,by rw[key q1,Ao h]⟩
     ·rw[key h1']at h2'
      by_cases m:r∈sh
      ·exact m
      ·rw[An m]at h2'
       have:=ph.gt r _ h2'
       omega
    ·rw[Ix (by simp;omega)]at e2
     cases e2
   ·have hr:r<gs.length:=by
     have:=(Ad.mp e).1
     rwa[jhw]at this
    rw[jgz sh ds.length r gs hr]at e
    rw[A1,List.length_cons,List.length_nil]
    by_cases m:r∈sh
    ·rw[Ao m]at e;simp at e;omega
    ·rw[An m]at e
     have:=ph.gt r g e
     omega
end
def lk(la:Nat->Addr)(g:Nat):L2.Key×V:=(.inl (g:Int),.ref (la g))
theorem jhn(la:Nat->Addr)(gk:List Nat)(g:Nat):valV (gk.map (lk la)) (.inl (g:Int))=if g∈gk then some (.ref (la g))else none:=by
 induction gk with
 |nil=>rfl
 |cons x S ih =>
  rw[Ay]
  by_cases h:x=g
  ·subst h
   rw[jcu (p:=lk la x) (r:=S.map (lk la)) (k:=.inl (x:Int)) rfl,Ao (.head _)];rfl
  ·rw[jct (λz=>h (Int.ofNat.inj (Sum.inl.inj z))),ih]
   by_cases h2:g∈S
   ·rw[Ao h2,Ao (.tail _ h2)]
   ·rw[An h2,An (λz=>(Ap.mp z).elim (λe=>h e.symm) h2)]
structure LD(H0 H:Hp)(pl:Addr)(gk:List Nat)(la:Nat->Addr)(T:List Nat)(G:Nat->Nat):Prop where
 hl:H pl=some (.dK (gk.map (lk la)))
 nd:gk.Nodup
 inj:∀g∈gk,∀g'∈gk,la g=la g'->g=g'
 fr:∀g∈gk,H0 (la g)=none
 at_:∀g∈gk,H (la g)=some (.lst ((T.filter λq=>decide (G q=g)).map nV))
 all:∀q∈T,G q∈gk
 ne:∀g∈gk,∃q∈T,G q=g
theorem jj7{Sr:Nat->List Nat}{n:Nat}(le:∀r,(Sr r).length<=n):∀S:List Nat,(S.flatMap Sr).length<=S.length*n
 |[]=>by simp
 |x::S=>by
  have:=jj7 le S
  have:=le x
  rw[List.flatMap_cons,A1,List.length_cons,Y3]
  omega
theorem jif(T:List Nat)(G:Nat->Nat)(q g:Nat):(T++[q]).filter (λx=>decide (G x=g))=T.filter (λx=>decide (G x=g))++if G q=g then[q]else[]:=by
 rw[Y5]
 congr 1
 by_cases h:G q=g <;> simp[h]
theorem jn3{T:List Nat}{G:Nat->Nat}{g:Nat}(h:∀x∈T,G x≠g):T.filter (λx=>decide (G x=g))=[]:=Ym.mpr λx hx=>by simpa using h x hx
structure Src(H:Hp)(ps:Addr)(sl:List Addr)(Sr:Nat->List Nat)(n:Nat):Prop where
 hs:H ps=some (.lst (sl.map V.ref))
 ln:sl.length=n
 at_:∀(r:Nat) a,sl[r]?=some a->H a=some (.lst ((Sr r).map nV))
 lt:∀r q,q∈Sr r->q<n
 le:∀r,(Sr r).length<=n
def spLI:Sp:=λvs H Q _=>∃(d ps pg:Addr)(n:Nat)(S:List Nat)(sl:List Addr)(Sr:Nat->List Nat)(gs:List Nat),vs=[.ref d,.ref ps,.ref pg]/\H d=some (.dK (S.map dk))/\Src H ps sl Sr n/\H pg=some (.lst (gs.map nV))/\gs.length=n/\n<=1000/\S.length<=1000/\(∀r∈S,r<n) /\
 ∀pl gk la H',H pl=none->LD H H' pl gk la (S.flatMap Sr) (λq=>gs.getD q 0)->Kp [] H H'->Q (.ref pl) H'
section
variable{P:Program}{w:World}{K:PySem.W.Frag}{mg:Str->Option Value}{base:Heap}
abbrev y6:Stmt:=top 12
theorem z0:FnScope ["part","sources","groups","leading","room","source"] ["part","sources","groups"] (jf y6):=⟨rfl,rfl,rfl,by decide +kernel,rfl,by decide +kernel,by decide +kernel⟩
theorem ok_leading_into{f:Addr}{fd:FuncData}(F:Fun K "leading_into" "leading_into" y6 f fd):FnOk P w K mg base CX0 1 f fd ["part","sources","groups"] spLI:=by
 refine F.ok z0 (λvs H Q E h=>?_) (λcdv A outer s H vs Q E hr h=>?_)
 ·obtain⟨d,ps,pg,n,S,sl,Sr,gs,rfl,_⟩:=h
  rfl
 ·obtain⟨d,ps,pg,n,S,sl,Sr,gs,rfl,hd,src,hg,gl,n9,s9,sn,k⟩:=h
  have hu:=hr.units
  have hsz:sizeLine=16777216:=Ia
  have hu1:(A.deeper (PyProof.Rows.envOfC (Str.ofString "leading_into") (jf y6) s.heap.objs.size f cdv)).units+1<cLine:=by omega
  refine exQ (jg (jq (i:=3) z0.nd rfl (by first|exact Or.inl rfl|exact Or.inr rfl) jbl)
  (jg (jbx (ym Ic rfl (jbu (qpv 0)) (jo (i:=4) z0.nd rfl (by first|exact Or.inl rfl|exact Or.inr rfl)) (jj (ym Ic rfl (j9 (K:=K) (jt ix_U (qpv 1) (qpv 4) (λ_ _=>rfl)) rfl) (jo (i:=5) z0.nd rfl (by first|exact Or.inl rfl|exact Or.inr rfl)) (jj (yh (yf Ij Ik yj (qpe_dset (qpv 3) (jt ix_U (qpv 2) (qpv 5) (λ_ _=>rfl)) (yg jc) ⟨rfl,rfl,rfl,rfl⟩) (ja (qpv 5) jc) (jok (jev _) (jhy (jev _) (jev _)) jpj))))))))
  (jj (j7 (qpv 3))))) ?_
  simp!
  intro pl hpl
  have ndl:d≠pl:=je hd hpl
  refine⟨d,λo u z=>?_,d,S.map dk,rfl,.inl ⟨by rw[jd ndl];exact hd,λo=>?_⟩⟩
  ·have z':H d=some (.frz o u):=z
   rw[hd]at z';cases z'
  refine jhx (λi σ H'=>∃(v4 v5:Option V)(gk:List Nat)(la:Nat->Addr),σ=[some (.ref d),some (.ref ps),some (.ref pg),some (.ref pl),v4,v5]/\H' d=some (.frz o (.dK (S.map dk)))/\LD H H' pl gk la ((S.take i).flatMap Sr) (λq=>gs.getD q 0)/\Kp [d] H H') ?_ ?_ ?_ ?_
  ·refine⟨none,none,[],λ_=>0,rfl,jb,⟨by rw[jd ndl.symm,jb];rfl,List.nodup_nil,by simp,by simp,by simp,by simp,by simp⟩,jdq (((Kp.refl [d] H).new hpl)) (by rw[jd ndl];exact hd) (.inl (by simp))⟩
  ·rintro i σ H' _ ⟨_,_,_,_,rfl,h,_⟩
   exact h
  ·rintro i kv σ H1 hkv ⟨v4,v5,gk,la,rfl,h1,ld,kp⟩
   rw[Ag]at hkv
   obtain⟨r,hr',rfl⟩:=A3.mp hkv
   have rS:=Al hr'
   have rn:=sn r rS
   have ea:sl[r]?=some (sl[r]'(by rw[src.ln];exact rn)):=Aa _
   generalize sl[r]'(by rw[src.ln];exact rn)=a at ea
   have ha:=src.at_ r a ea
   have nad:a≠d:=λz=>by rw[z,hd]at ha;cases ha
   have npd:ps≠d:=λz=>by have:=src.hs;rw[z,hd]at this;cases this
   have ngd:pg≠d:=λz=>by rw[z,hd]at hg;cases hg
   have ps1:=kp.old _ _ src.hs (by simpa using npd)
   have ha1:=kp.old _ _ ha (by simpa using nad)
   simp!
   rw[show kV (dk r).1=V.int (r:Int)from rfl,jch,ps1]
   refine⟨_,rfl,.ref a,jce (by rw[Ag,ea];rfl),?_⟩
   simp only[ha1]
   have tk:(S.take (i+1)).flatMap Sr=(S.take i).flatMap Sr++Sr r:=by rw[Oa,hr'];simp
   have srl:=src.le r
   refine jc9 (xs:=(Sr r).map nV) (λj σ H'=>∃(v5:Option V)(gk:List Nat)(la:Nat->Addr),σ=[some (.ref d),some (.ref ps),some (.ref pg),some (.ref pl),some (.int (r:Int)),v5]/\H' d=some (.frz o (.dK (S.map dk)))/\LD H H' pl gk la ((S.take i).flatMap Sr++(Sr r).take j) (λq=>gs.getD q 0)/\H' a=some (.lst ((Sr r).map nV))/\Kp [d] H H') ?_ ?_ ?_ ?_
   ·exact⟨v5,gk,la,rfl,h1,by simpa using ld,ha1,kp⟩
   ·rintro j σ H' _ ⟨_,_,_,rfl,_,_,h,_⟩
    exact h
   ·rintro j x σ H2 hx ⟨v5,gk,la,rfl,h2,ld2,ha2,kp2⟩
    rw[Ag]at hx
    obtain⟨q,hq,rfl⟩:=A3.mp hx
    have qn:=src.lt r q (Al hq)
    have hg2:=kp2.old _ _ hg (by simpa using ngd)
    have tj:(Sr r).take (j+1)=(Sr r).take j++[q]:=by rw[Oa,hq];rfl
    have hT:((S.take i).flatMap Sr++(Sr r).take j).length<=1001000:=by
     have q1:=jj7 src.le (S.take i)
     have q2:(S.take i).length<=1000:=by rw[Oe];omega
     have q3:=Nat.mul_le_mul q2 n9
     have q4:((Sr r).take j).length<=n:=by rw[Oe];omega
     rw[A1]
     omega
    have gkT:gk.length<=((S.take i).flatMap Sr++(Sr r).take j).length:=by
     have:=jco (zs:=((S.take i).flatMap Sr++(Sr r).take j).map λq=>gs.getD q 0) ld2.nd λg hg'=>by
      obtain⟨x,hx,e⟩:=ld2.ne g hg'
      exact Am.mpr ⟨x,hx,e⟩
     rwa[Ac]at this
    rw[tj,<-U5]
    generalize(S.take i).flatMap Sr++(Sr r).take j=U at ld2 hT gkT⊢
    have gq:gs[q]?=some (gs.getD q 0):=by rw[Ae,Aa (by omega)];rfl
    generalize hgd:gs.getD q 0=g at gq
    simp!
    refine⟨.inl ⟨_,.inl ld2.hl⟩,?_⟩
    unfold nV
    rw[jch,hg2]
    refine⟨_,rfl,nV g,jce (by rw[Ag,gq];rfl),by omega,λp hp=>⟨gk.map (lk la),by rw[jd (je ld2.hl hp)];exact ld2.hl,.inl (g:Int),rfl,by rw[Ac];omega,λv hv=>?_,λhv=>?_⟩⟩
    ·rw[jhn]at hv
     by_cases m:g∈gk
     ·rw[Ao m]at hv
      cases hv
      have hl2:=ld2.at_ g m
      have np:la g≠p:=je hl2 hp
      have nfl:=ld2.fr g m
      have nd':la g≠d:=λz=>by rw[z,hd]at nfl;cases nfl
      have na':la g≠a:=λz=>by rw[z,ha]at nfl;cases nfl
      have npl:la g≠pl:=λz=>by have:=ld2.hl;rw[<-z,hl2]at this;cases this
      have el:upd H2 p (.lst []) (la g)=some (.lst ((U.filter λx=>decide (gs.getD x 0=g)).map nV)):=by rw[jd np];exact hl2
      refine⟨by show(jcn _).isSome=true;rw[el];rfl,?_⟩
      rw[jdu,el]
      refine⟨_,rfl,?_,?_,gk,la,⟨?_,ld2.nd,ld2.inj,ld2.fr,λg' hg'=>?_,λx hx=>?_,λg' hg'=>?_⟩,?_,?_⟩
      ·rw[Ac]
       have:=Ub (λx=>decide (gs.getD x 0=g)) U
       omega
      ·rw[jd nd'.symm,jd (je h2 hp)];exact h2
      ·rw[jd npl.symm,jd (je ld2.hl hp)];exact ld2.hl
      ·rw[jif,hgd]
       by_cases c:g'=g
       ·subst c
        rw[jb,Ao rfl,A5];rfl
       ·rw[An (λz=>c z.symm),Ug,jd (λz=>c (ld2.inj g' hg' g m z)),jd (je (ld2.at_ g' hg') hp)]
        exact ld2.at_ g' hg'
      ·rcases Au.mp hx with h|h
       ·exact ld2.all x h
       ·cases Aj.mp h;rw[hgd];exact m
      ·obtain⟨x,hx,e⟩:=ld2.ne g' hg'
       exact⟨x,Oi _ hx,e⟩
      ·rw[jd na'.symm,jd (je ha2 hp)];exact ha2
      ·exact(kp2.new hp).set el (.inr nfl)
     ·rw[An m]at hv;cases hv
    ·rw[jhn]at hv
     have m:g∉gk:=λm=>by rw[Ao m]at hv;cases hv
     have np:pl≠p:=je ld2.hl hp
     have hp0:H p=none:=kp2.free hp
     have nov:∀x∈U,gs.getD x 0≠g:=λx hx z=>m (z▸ld2.all x hx)
     have laq:∀x∈gk,(if x=g then p else la x)=la x:=λx hx=>An (λz:x=g=>m (z▸hx))
     have ek:putK (gk.map (lk la)) (.inl (g:Int)) (V.ref p)=(gk++[g]).map (lk λx=>if x=g then p else la x):=by
      rw[jki _ (by rw[jhn,An m]),A5]
      congr 1
      ·exact Ih λx hx=>by show(_,V.ref (la x))=(_,V.ref (if x=g then p else la x));rw[laq x hx]
      ·unfold lk;simp
     rw[ek,jd np.symm,jb]
     have k3:Kp [d] H (upd (upd H2 p (.lst [])) pl (.dK ((gk++[g]).map (lk λx=>if x=g then p else la x)))):=jdq (kp2.new hp) (by rw[jd np];exact ld2.hl) (.inr hpl)
     refine⟨rfl,[],rfl,by rw[List.length_nil];omega,?_,gk++[g],λx=>if x=g then p else la x,⟨by rw[jd np,jb],?_,λx hx y hy e=>?_,λx hx=>?_,λg' hg'=>?_,λx hx=>?_,λg' hg'=>?_⟩,?_,k3.set (by rw[jd np.symm,jb]) (.inr hp0)⟩
     ·rw[jd (je h2 hp),jd ndl,jd (je h2 hp)];exact h2
     ·rw[Os]
      exact⟨ld2.nd,by simp,λx hx y hy e=>m ((e.trans (Aj.mp hy))▸hx)⟩
     ·have one:∀z∈gk++[g],z∈gk\/z=g:=λz hz=>by simpa using hz
      have fp:∀z∈gk,la z≠p:=λz hz=>je (ld2.at_ z hz) hp
      rcases one x hx with h|rfl <;> rcases one y hy with h'|rfl
      ·simp only[laq x h,laq y h']at e;exact ld2.inj x h y h' e
      ·simp only[laq x h,Oz]at e;exact absurd e (fp x h)
      ·simp only[laq y h',Oz]at e;exact absurd e.symm (fp y h')
      ·rfl
     ·rcases Au.mp hx with h|h
      ·simp only[laq x h];exact ld2.fr x h
      ·cases Aj.mp h;simp only[Oz];exact hp0
     ·rw[jif,hgd]
      rcases Au.mp hg' with h|h
      ·have hl2:=ld2.at_ g' h
       have npl:la g'≠pl:=λz=>by have:=ld2.hl;rw[<-z,hl2]at this;cases this
       simp only[laq g' h]
       rw[jd (je hl2 hp),jd npl,jd (je hl2 hp),An (λz:g=g'=>m (by rw[z];exact h)),Ug]
       exact hl2
      ·cases Aj.mp h
       simp only[Oz]
       rw[jb,jn3 nov];rfl
     ·rcases Au.mp hx with h|h
      ·exact Oi _ (ld2.all x h)
      ·cases Aj.mp h;rw[hgd];simp
     ·rcases Au.mp hg' with h|h
      ·obtain⟨x,hx,e⟩:=ld2.ne g' h
       exact⟨x,Oi _ hx,e⟩
      ·cases Aj.mp h
       exact⟨q,by simp,hgd⟩
     ·have nal:a≠pl:=λz=>by rw[z]at ha;rw[hpl]at ha;cases ha
      rw[jd (je ha2 hp),jd nal,jd (je ha2 hp)];exact ha2
   ·rintro σ H2 ⟨v5,gk,la,rfl,h2,ld2,ha2,kp2⟩
    rw[Ac,Ii,<-tk]at ld2
    exact⟨_,_,rfl,h2,gk,la,ld2,kp2⟩
  ·rintro σ H1 ⟨v4,v5,gk,la,rfl,h1,ld,kp⟩
   rw[Ac,Ii]at ld
   simp!
   refine⟨o,.dK (S.map dk),h1,?_⟩
   have kb:=jl8 kp hd (λxs z=>nomatch z)
   have nf:∀g∈gk,la g≠d:=λg hg' z=>by have:=ld.fr g hg';rw[z,hd]at this;cases this
   exact k pl gk la _ hpl ⟨by rw[jd ndl.symm];exact ld.hl,ld.nd,ld.inj,ld.fr,λg hg'=>by rw[jd (nf g hg')];exact ld.at_ g hg',ld.all,ld.ne⟩ kb
end
def RowsM(H:Hp)(us:List V)(mv:List (List Nat)):Prop:=Paired (λv row=>∃a,v=.ref a/\H a=some (.tup (row.map nV))) us mv
theorem RowsM.kp{S:List Addr}{H H':Hp}{us:List V}{mv:List (List Nat)}(k:Kp S H H')(h:RowsM H us mv):RowsM H' us mv:=Paired.mapP h λ_ _ ⟨a,e,h⟩=>⟨a,e,k.tup _ _ h⟩
theorem RowsM.get{H:Hp}{us:List V}{mv:List (List Nat)}(h:RowsM H us mv){i:Nat}{row:List Nat}(hi:mv[i]?=some row):∃a,us[i]?=some (.ref a)/\H a=some (.tup (row.map nV)):=by
 induction h generalizing i with
 |nil=>simp at hi
 |cons h _ ih =>
  cases i with
  |zero=>obtain⟨a,e,g⟩:=h;simp at hi;subst hi;exact⟨a,by simp[e],g⟩
  |succ i=>obtain⟨a,e,g⟩:=ih (by simpa using hi);exact⟨a,by simpa using e,g⟩
def dM(mv:List (List Nat))(r a:Nat):Nat:=(mv.getD r []).getD a 0
structure MvOk(mv:List (List Nat))(m:Nat):Prop where
 ln:∀row∈mv,row.length=m
 lt:∀row∈mv,∀x∈row,x<mv.length
theorem MvOk.at_{mv:List (List Nat)}{m r a:Nat}(h:MvOk mv m)(hr:r<mv.length)(ha:a<m):(mv.getD r [])[a]?=some (dM mv r a)/\dM mv r a<mv.length:=by
 have hm:mv.getD r []∈mv:=by rw[Ae,Aa hr];exact A7 _
 have hl:a<(mv.getD r []).length:=by rw[h.ln _ hm];exact ha
 have e:(mv.getD r [])[a]?=some (dM mv r a):=by unfold dM;rw[Ae (l:=mv.getD r []),Aa hl];rfl
 exact⟨e,h.lt _ hm _ (Al e)⟩
def srcF(mv:List (List Nat))(a i r:Nat):List Nat:=(List.range i).filter λq=>decide (dM mv q a=r)
def spLF:Sp:=λvs H Q _=>∃(pm:Addr)(us:List V)(mv:List (List Nat))(m a:Nat),vs=[.ref pm,.int (a:Int)]/\H pm=some (.tup us)/\RowsM H us mv/\MvOk mv m/\a<m/\mv.length<=1000 /\
 ∀ps sl H',H ps=none->(∀x∈sl,H x=none)->Src H' ps sl (srcF mv a mv.length) mv.length->Kp [] H H'->Q (.ref ps) H'
structure TLF(mg:Str->Option Value):Prop where
 n_enumerate:mg "enumerate"=none
section
variable{P:Program}{w:World}{K:PySem.W.Frag}{mg:Str->Option Value}{base:Heap}
abbrev zi:Stmt:=top 11
theorem jag:FnScope ["moves","sign","sources","room","row"] ["moves","sign"] (jf zi):=⟨rfl,rfl,rfl,by decide +kernel,rfl,by decide +kernel,by decide +kernel⟩
theorem ok_led_from{f:Addr}{fd:FuncData}(F:Fun K "led_from" "led_from" zi f fd)(T:TLF mg):FnOk P w K mg base CX0 1 f fd ["moves","sign"] spLF:=by
 refine F.ok jag (λvs H Q E h=>?_) (λcdv A outer s H vs Q E hr h=>?_)
 ·obtain⟨pm,us,mv,m,a,rfl,_⟩:=h
  rfl
 ·obtain⟨pm,us,mv,m,a,rfl,hm,rw',ok,am,n9,k⟩:=h
  have hu:=hr.units
  have hsz:sizeLine=16777216:=Ia
  have ul:us.length=mv.length:=Il rw'
  refine exQ (jg (zf (i:=2) jag.nd rfl (by first|exact Or.inl rfl|exact Or.inr rfl) rfl (jcd (sc:=jf zi) (N:=["moves","sign","sources","room","row"]) (Nc:=["room"]) (js:=[none]) (by decide +kernel)) (j9 (K:=K) (qpv 0) rfl) (λ_ _ _ _=>(jo (i:=0) (show List.Nodup [("room":Str)]from by decide +kernel) rfl (by first|exact Or.inl rfl|exact Or.inr rfl))) (λ_ _ _ _=>(yg jc)))
  (jg (ym Ic rfl (qpi_enumT (K:=K) rfl rfl T.n_enumerate (ja (qpv 0) jc)) (jaj (n:=2) rfl (yu (jo (i:=3) jag.nd rfl (by first|exact Or.inl rfl|exact Or.inr rfl)) (yu (jo (i:=4) jag.nd rfl (by first|exact Or.inl rfl|exact Or.inr rfl)) jad)) (K:=K) rfl) (jj (yh (yf Ij Ik yj (jt ix_U (qpv 2) (jt ix_U (qpv 4) (qpv 1) (λ_ _=>rfl)) (λ_ _=>rfl)) (ja (qpv 3) jc) (jhy (jev _) (jhy (jev _) (jev _)))))))
  (jj (j7 (qpv 2))))) ?_
  simp! [hm]
  intro D hD
  refine jea (xs:=us) (λi σ H'=>∃(v:Option V)(sl:List Addr),σ=[v]/\H' D=some (.lst (sl.map V.ref))/\sl.length=i/\sl.Nodup/\(∀x∈sl,H' x=some (.lst [])/\H x=none)/\Kp [] H H') ?_ ?_ ?_ ?_
  ·exact⟨none,[],rfl,jb,rfl,List.nodup_nil,by simp,(Kp.refl [] H).new hD⟩
  ·rintro i σ H' _ ⟨_,_,rfl,_,_,_,_,kp⟩
   exact kp.tup _ _ hm
  ·rintro i x σ H1 hx ⟨v,sl,rfl,h1,hl,nd,al,kp⟩
   have hil:=(Ad.mp hx).1
   simp! [jc0]
   have nxD:∀x∈sl,x≠D:=λx hx z=>by
    have:=(al x hx).1
    rw[z,h1]at this
    cases sl with
    |nil=>cases hx
    |cons y l=>simp at this
   refine⟨by omega,λp hp=>⟨_,by rw[jd (je h1 hp),h1];rfl,by rw[Ac];omega,sl++[p],by simp,by simp[hl],?_,λx hx=>?_,(kp.new hp).set (by rw[jd (je h1 hp)];exact h1) (.inr hD)⟩⟩
   ·rw[Os]
    exact⟨nd,by simp,λx hx y hy e=>je (al x hx).1 hp (e.trans (Aj.mp hy))⟩
   ·rcases Au.mp hx with h|h
    ·obtain⟨q1,q2⟩:=al x h
     exact⟨by rw[jd (nxD x h),jd (je q1 hp)];exact q1,q2⟩
    ·cases Aj.mp h
     exact⟨by rw[jd (je h1 hp).symm,jb],kp.free hp⟩
  ·rintro σ H1 ⟨v,sl,rfl,h1,hl,nd,al,kp⟩
   simp!
   refine⟨⟨us,SqT.of (kp.tup _ _ hm)⟩,?_⟩
   have slD:∀(r:Nat)(x:Addr),sl[r]?=some x->x≠D/\H x=none:=λr x e=>by
    obtain⟨q1,q2⟩:=al x (Al e)
    refine⟨λz=>?_,q2⟩
    rw[z,h1]at q1
    cases sl with
    |nil=>simp at e
    |cons y l=>simp at q1
   refine jq4 (xs:=us) (λi σ H'=>∃(v3 v4:Option V),σ=[some (.ref pm),some (.int (a:Int)),some (.ref D),v3,v4]/\H' D=some (.lst (sl.map V.ref))/\(∀(r:Nat)(x:Addr),sl[r]?=some x->H' x=some (.lst ((srcF mv a i r).map nV)))/\Kp [] H H') ⟨none,none,rfl,h1,λr x e=>by rw[(al x (Al e)).1];simp[srcF],kp⟩ ?_ ?_ ?_
   ·rintro i σ H' _ ⟨_,_,rfl,_,_,kp'⟩
    exact kp'.tup _ _ hm
   ·rintro i x σ H2 tt hx ⟨v3,v4,rfl,hD2,al2,kp2⟩ htt
    have hil:i<mv.length:=by rw[<-ul];exact(Ad.mp hx).1
    obtain⟨e1,tl⟩:=ok.at_ hil am
    obtain⟨c,hc,hcr⟩:=(rw'.kp kp2).get (show mv[i]?=some (mv.getD i [])by rw[Ae,Aa hil];rfl)
    rw[hx]at hc
    cases hc
    refine⟨tt,[.int (i:Int),.ref c],rfl,SqT.of jb,rfl,⟨_,_,rfl,⟨_,_,rfl,rfl,?_⟩⟩⟩
    have kT:Kp [] H2 (upd H2 tt (.tup [.int (i:Int),.ref c])):=(Kp.refl [] H2).new htt
    generalize upd H2 tt (.tup [.int (i:Int),.ref c])=H3 at kT⊢
    have hD3:=kT.old _ _ hD2 Af
    have hc3:=kT.tup _ _ hcr
    have kp3:=kp2.trans kT
    simp! [hD3,hc3]
    have ex:sl[dM mv i a]?=some (sl[dM mv i a]'(by omega)):=Aa _
    generalize sl[dM mv i a]'(by omega)=x at ex
    have hx3:=kT.old _ _ (al2 _ x ex) Af
    refine⟨nV (dM mv i a),jce (by rw[Ag,e1];rfl),?_⟩
    unfold nV
    rw[jch,hD3]
    refine⟨_,rfl,.ref x,jce (by rw[Ag,ex];rfl),by show(jcn _).isSome=true;rw[hx3];rfl,?_⟩
    rw[jdu,hx3]
    obtain⟨nxD,hx0⟩:=slD _ x ex
    refine⟨_,rfl,?_,_,_,⟨rfl,rfl⟩,by rw[jd nxD.symm];exact hD3,λr y ey=>?_,kp3.set hx3 (.inr hx0)⟩
    ·rw[Ac]
     have:=Ub (λq=>decide (dM mv q a=dM mv i a)) (List.range i)
     unfold srcF
     rw[Az]at this
     omega
    ·have sn:srcF mv a (i+1) r=srcF mv a i r++if dM mv i a=r then[i]else[]:=by
      unfold srcF
      rw[Uq,Y5]
      congr 1
      by_cases h:dM mv i a=r <;> simp[h]
     rw[sn]
     by_cases c:dM mv i a=r
     ·subst c
      rw[ex]at ey
      cases ey
      rw[jb,Ao rfl,A5];rfl
     ·have ny:y≠x:=λz=>by
       rw[z]at ey
       exact c ((List.getElem?_inj (Ad.mp ex).1 nd).mp (ex.trans ey.symm))
      rw[jd ny,An c,Ug]
      exact kT.old _ _ (al2 r y ey) Af
   ·rintro σ H2 ⟨v3,v4,rfl,hD2,al2,kp2⟩
    simp!
    rw[ul]at al2
    refine k D sl H2 hD (λx hx=>(al x hx).2) ⟨hD2,by omega,al2,λr q hq=>?_,λr=>?_⟩ kp2
    ·have:=(Iz.mp hq).1
     exact At.mp this
    ·have:=Ub (λq=>decide (dM mv q a=r)) (List.range mv.length)
     unfold srcF
     rwa[Az]at this
end
def Ky(X:List Addr)(Hs H:Hp):Prop:=∀x u,Hs x=some u->x∉X->(∀kvs,u≠.dK kvs)->H x=some u
theorem Ky.refl(X:List Addr)(H:Hp):Ky X H H:=λ_ _ e _ _=>e
theorem Ky.kp{X S:List Addr}{Hs H H':Hp}(h:Ky X Hs H)(k:Kp S H H')(hS:∀x∈S,x∈X\/Hs x=none\/∃kvs,H x=some (.dK kvs)):Ky X Hs H':=λx u e n1 n3=>k.old x u (h x u e n1 n3) λm=>by
 rcases hS x m with z|z|⟨kvs,z⟩
 ·exact n1 z
 ·rw[z]at e;cases e
 ·rw[h x u e n1 n3]at z;exact n3 kvs (Av z)
structure SrA(H:Hp)(X:List Addr)(psr:Addr)(mv:List (List Nat))(m:Nat)(as:List Addr):Prop where
 nx:psr∉X
 hs:H psr=some (.lst (as.map V.ref))
 ln:as.length=m
 at_:∀(a:Nat) x,as[a]?=some x->x∉X/\∃sl,(∀y∈sl,y∉X)/\Src H x sl (srcF mv a mv.length) mv.length
theorem SrA.ky{Hs H:Hp}{X:List Addr}{psr:Addr}{mv:List (List Nat)}{m:Nat}{as:List Addr}(h:SrA Hs X psr mv m as)(k:Ky X Hs H):SrA H X psr mv m as:=by
 refine⟨h.nx,k _ _ h.hs h.nx (λ_ z=>nomatch z),h.ln,λa x e=>?_⟩
 obtain⟨h1,sl,h2,s⟩:=h.at_ a x e
 exact⟨h1,sl,h2,k _ _ s.hs h1 (λ_ z=>nomatch z),s.ln,λr y ey=>k _ _ (s.at_ r y ey) (h2 y (Al ey)) (λ_ z=>nomatch z),s.lt,s.le⟩
def DuP(H:Hp)(xs:List V)(due:List (Nat×Nat)):Prop:=Paired (λv (q:Nat×Nat)=>∃t,v=.ref t/\H t=some (.tup [nV q.1,nV q.2])) xs due
theorem DuP.kp{S:List Addr}{H H':Hp}{xs:List V}{due:List (Nat×Nat)}(k:Kp S H H')(h:DuP H xs due):DuP H' xs due:=Paired.mapP h λ_ _ ⟨t,e,g⟩=>⟨t,e,k.tup _ _ g⟩
theorem DuP.app{H:Hp}{xs zs:List V}{d1 d2:List (Nat×Nat)}(a:DuP H xs d1)(b:DuP H zs d2):DuP H (xs++zs) (d1++d2):=by
 induction a with
 |nil=>exact b
 |cons h _ ih=>exact .cons h ih
theorem DuP.last{H:Hp}{xs:List V}{due:List (Nat×Nat)}{q:Nat×Nat}(h:DuP H xs (due++[q])):∃ys t,xs=ys++[.ref t]/\DuP H ys due/\H t=some (.tup [nV q.1,nV q.2]):=by
 induction due generalizing xs with
 |nil =>
  cases h with
  |cons a b =>
   cases b
   obtain⟨t,rfl,g⟩:=a
   exact⟨[],t,rfl,.nil,g⟩
 |cons d due ih =>
  cases h with
  |cons a b =>
   obtain⟨ys,t,e,hy,g⟩:=ih b
   exact⟨_::ys,t,by rw[e];rfl,.cons a hy,g⟩
theorem gG{gs:List Nat}{n r g:Nat}(hl:gs.length=n)(hr:r<n):gs[r]?=some g↔gs.getD r 0=g:=by
 rw[Ae,Aa (by omega)];simp
theorem PS.memG{H:Hp}{pp pg:Addr}{n:Nat}{ds:List Addr}{Ss:List (List Nat)}{gs:List Nat}(h:PS H pp pg n ds Ss gs){g:Nat}{S:List Nat}(e:Ss[g]?=some S)(r:Nat):r∈S↔r<n/\gs.getD r 0=g:=by
 rw[h.mem g S e r]
 exact⟨fun⟨a,b⟩=>⟨a,(gG h.gl a).mp b⟩,fun⟨a,b⟩=>⟨a,(gG h.gl a).mpr b⟩⟩
theorem PS.setL{H H':Hp}{pp pg x:Addr}{n:Nat}{ds:List Addr}{Ss:List (List Nat)}{gs:List Nat}{xs:List V}(h:PS H pp pg n ds Ss gs)(k:Kp [x] H H')(hx:H x=some (.lst xs))(n1:x≠pp)(n2:x≠pg):PS H' pp pg n ds Ss gs :=
 ⟨k.old _ _ h.hp (by simpa using n1.symm),k.old _ _ h.hg (by simpa using n2.symm),h.gl,h.dl,λi d S e1 e2=>k.old _ _ (h.at_ i d S e1 e2) (by
  have:=h.at_ i d S e1 e2
  simp only[Aj]
  intro z
  rw[z,hx]at this
  cases this),h.nd,h.ns,h.mem,h.ne,h.n9,h.gt⟩
structure GW(H0 Hs:Hp)(n:Nat)(pg pp pd:Addr)(H:Hp)(ds:List Addr)(Ss:List (List Nat))(gs:List Nat)(due:List (Nat×Nat)):Prop where
 ps:PS H pp pg n ds Ss gs
 ky:Ky [pp,pg] Hs H
 du:∃xs,H pd=some (.lst xs)/\DuP H xs due
 kp:Kp [] H0 H
 f1:H0 pp=none
 f2:H0 pg=none
 f3:H0 pd=none
 f4:Hs pd=none
 fd:∀d∈ds,H0 d=none
 n1:pd≠pp
 n2:pd≠pg
 ns:∀S∈Ss,S≠[]
theorem PS.isd{H:Hp}{pp pg:Addr}{n:Nat}{ds:List Addr}{Ss:List (List Nat)}{gs:List Nat}(h:PS H pp pg n ds Ss gs){d:Addr}(hd:d∈ds):∃kvs,H d=some (.dK kvs):=by
 obtain⟨j,hj⟩:=Is hd
 have hjl:=(Ad.mp hj).1
 exact⟨_,h.at_ j d _ hj (Aa (by have:=h.dl;omega))⟩
section
variable{H0 Hs H H':Hp}{n:Nat}{pg pp pd:Addr}{ds:List Addr}{Ss:List (List Nat)}{gs:List Nat}{due due':List (Nat×Nat)}
theorem GW.kp0(h:GW H0 Hs n pg pp pd H ds Ss gs due)(k:Kp [] H H'):GW H0 Hs n pg pp pd H' ds Ss gs due:=by
 obtain⟨xs,e,d⟩:=h.du
 exact⟨h.ps.kp k,h.ky.kp k (by simp),⟨xs,k.old _ _ e Af,d.kp k⟩,h.kp.trans k,h.f1,h.f2,h.f3,h.f4,h.fd,h.n1,h.n2,h.ns⟩
theorem GW.setd(h:GW H0 Hs n pg pp pd H ds Ss gs due){xs':List V}(d:DuP H xs' due'):GW H0 Hs n pg pp pd (upd H pd (.lst xs')) ds Ss gs due':=by
 obtain⟨xs,e,_⟩:=h.du
 have k:Kp [pd] H (upd H pd (.lst xs')):=(Kp.refl [pd] H).set e (.inl (.head _))
 exact⟨h.ps.setL k e h.n1 h.n2,h.ky.kp k (λx hx=>by simp at hx;subst hx;exact .inr (.inl h.f4)),⟨xs',jb,d.kp k⟩,h.kp.set e (.inr h.f3),h.f1,h.f2,h.f3,h.f4,h.fd,h.n1,h.n2,h.ns⟩
theorem GW.cut(h:GW H0 Hs n pg pp pd H ds Ss gs due){d':Addr}{i:Nat}{S sh gs':List Nat}(p':PS H' pp pg n (ds++[d']) (Ss.set i S++[sh]) gs')(k:Kp (pp::pg::ds) H H')(hd:H d'=none)(s1:S≠[])(s2:sh≠[]):GW H0 Hs n pg pp pd H' (ds++[d']) (Ss.set i S++[sh]) gs' due:=by
 obtain⟨xs,e,d⟩:=h.du
 have npd:pd∉pp::pg::ds:=λm=>by
  rcases Ap.mp m with z|m
  ·exact h.n1 z
  rcases Ap.mp m with z|m
  ·exact h.n2 z
  obtain⟨kvs,z⟩:=h.ps.isd m
  rw[e]at z;cases z
 refine⟨p',h.ky.kp k λx hx=>?_,⟨xs,k.old _ _ e npd,d.kp k⟩,h.kp.trans' k λx hx=>.inr ?_,h.f1,h.f2,h.f3,h.f4,λx hx=>?_,h.n1,h.n2,λU hU=>?_⟩
 ·rcases Ap.mp hx with rfl|hx
  ·exact .inl (by simp)
  rcases Ap.mp hx with rfl|hx
  ·exact .inl (by simp)
  exact .inr (.inr (h.ps.isd hx))
 ·rcases Ap.mp hx with rfl|hx
  ·exact h.f1
  rcases Ap.mp hx with rfl|hx
  ·exact h.f2
  exact h.fd x hx
 ·rcases Au.mp hx with hx|hx
  ·exact h.fd x hx
  ·cases Aj.mp hx;exact h.kp.free hd
 ·rcases Au.mp hU with hU|hU
  ·rcases Wa hU with hU|rfl
   ·exact h.ns U hU
   ·exact s1
  ·cases Aj.mp hU;exact s2
theorem GW.le(h:GW H0 Hs n pg pp pd H ds Ss gs due):ds.length<=n:=by
 have:=jco (l:=List.range ds.length) (zs:=(List.range n).map λr=>gs.getD r 0) Im λk hk=>by
  have hk:=At.mp hk
  have e:Ss[k]?=some (Ss[k]'(by have:=h.ps.dl;omega)):=Aa _
  obtain⟨r,hr⟩:=List.exists_mem_of_ne_nil _ (h.ns _ (Al e))
  obtain⟨h1,h2⟩:=(h.ps.memG e r).mp hr
  exact Am.mpr ⟨r,At.mpr h1,h2⟩
 simpa using this
end
theorem mem_T{mv:List (List Nat)}{a q n:Nat}{S:List Nat}:q∈S.flatMap (srcF mv a n)↔q<n/\dM mv q a∈S:=by
 unfold srcF
 simp only[List.mem_flatMap,Iz,At,Ww]
 exact⟨fun⟨x,h1,h2,h3⟩=>⟨h2,h3▸h1⟩,fun⟨h1,h2⟩=>⟨_,h2,h1,rfl⟩⟩
theorem nd_T{mv:List (List Nat)}{a n:Nat}:∀{S:List Nat},S.Nodup->(S.flatMap (srcF mv a n)).Nodup
 |[],_=>List.nodup_nil
 |x::S,nd=>by
  obtain⟨nx,nd⟩:=Ol.mp nd
  rw[List.flatMap_cons,Os]
  refine⟨(Im).filter _,nd_T nd,λy hy z hz e=>?_⟩
  subst e
  have h1:=(mem_T.mp hz).2
  have h2:=(Iz.mp hy).2
  simp at h2
  rw[h2]at h1
  exact nx h1
theorem jl1{L S:List Nat}(nd:L.Nodup)(sub:∀r∈L,r∈S)(e:L.length=S.length){r:Nat}(hr:r∈S):r∈L:=A9 λn=>by
 have:=jco (l:=r::L) (zs:=S) (Ol.mpr ⟨n,nd⟩) λx hx=>by
  rcases Ap.mp hx with rfl|hx
  ·exact hr
  ·exact sub x hx
 rw[List.length_cons]at this
 omega
theorem CI.part{M:Mc}{G0 G:Nat->Nat}{p0 i a g p:Nat}{rest:List Nat}(h:CI M G0 p0 i a (g::rest) G p)(gp:g<p0){r:Nat}(hr:r<M.n):G r=g↔G0 r=g:=by
 obtain⟨par,h1,h2⟩:=h.par
 refine⟨λe=>?_,λe=>?_⟩
 ·rw[<-h1 r hr,e,h2 g gp]
 ·rw[h.un r hr (e▸.head _),e]
theorem jmk{L S sh:List Nat}(ndL:L.Nodup)(sub:∀r∈L,r∈S)(nn:¬(L=[]\/L.length=S.length))(ndS:S.Nodup)(how:(∀r,r∈sh↔r∈L)\/∀r,r∈sh↔r∈S/\r∉L):S.filter (λr=>!decide (r∈sh))≠[]:=λz=>by
 have all:∀r∈S,r∈sh:=λr hr=>by
  have:=Ym.mp z r hr
  simpa using this
 rcases how with w|w
 ·exact nn (.inr (Nat.le_antisymm (jco ndL sub) (jco ndS λr hr=>(w r).mp (all r hr))))
 ·cases hL:L with
  |nil=>exact nn (.inl hL)
  |cons x L' =>
   have hx:x∈L:=by rw[hL];exact .head _
   exact((w x).mp (all x (sub x hx))).2 hx
def mcOf(mv:List (List Nat))(m:Nat)(ys:List Bool):Mc:=⟨mv.length,m,dM mv,λr=>ys.getD r false⟩
theorem jdg{mv:List (List Nat)}{m:Nat}{ys:List Bool}(h:MvOk mv m):(mcOf mv m ys).ok:=⟨λ_ _ hr ha=>(h.at_ hr ha).2⟩
def allB(k m:Nat):List (Nat×Nat):=(List.range m).map λb=>(k,b)
theorem mem_allB{k m k' b:Nat}:(k',b)∈allB k m↔k'=k/\b<m:=by
 unfold allB
 simp only[Am,At,Prod.mk.injEq]
 exact⟨fun⟨x,h1,h2,h3⟩=>⟨h2.symm,h3▸h1⟩,fun⟨h1,h2⟩=>⟨b,h2,h1.symm,rfl⟩⟩
def tkT(k:Nat)(y x:V)(H:Hp):Prop:=∃t,x=.ref t/\H t=some (.tup [nV k,y])
theorem jk9(k:Nat)(y:V):Firm (tkT k y):=λS x H1 H2 kp ⟨t,e,h⟩=>⟨t,e,kp.tup _ _ h⟩
theorem jmx{H:Hp}{k:Nat}:∀{L:List Nat}{xs:List V},Paired (λy x=>tkT k y x H) (L.map nV) xs->DuP H xs (L.map λb=>(k,b))
 |[],xs,h=>by cases h;exact .nil
 |r::L,xs,h=>by
  rw[Ay]at h
  cases h with
  |cons a t =>
   obtain⟨q,e,g⟩:=a
   exact .cons ⟨q,e,g⟩ (jmx t)
theorem jb1{H:Hp}:∀{L:List Nat}{xs:List V},Paired (fun(i:Nat) x=>prT (.int (0+(i:Int))) x H) L xs->PairsK H xs (L.map dk)
 |[],xs,h=>by cases h;exact .nil
 |r::L,xs,h=>by
  cases h with
  |cons a t =>
   obtain⟨q,e,g⟩:=a
   rw[Op]at g
   exact .cons ⟨q,e,g⟩ (jb1 t)
theorem PS.one{H:Hp}{pp pg d:Addr}{n:Nat}(hp:H pp=some (.lst [.ref d]))(hg:H pg=some (.lst ((List.replicate n 0).map nV)))(hd:H d=some (.dK ((List.range n).map dk)))(ne:pp≠pg)(n9:n<=1000):PS H pp pg n [d] [List.range n] (List.replicate n 0):=by
 refine⟨hp,hg,by simp,rfl,λi x S e1 e2=>?_,by simp,λS hS=>?_,λi S e r=>?_,ne,n9,λr g e=>?_⟩
 ·cases i with
  |zero=>simp at e1 e2;subst e1 e2;exact hd
  |succ i=>simp at e1
 ·simp at hS;subst hS;exact Im
 ·cases i with
  |zero=>simp at e;subst e;simp[Uw]
  |succ i=>simp at e
 ·rw[Uw]at e
  split at e
  ·cases e;simp
  ·cases e
def J1(H:Hp)(mv:List (List Nat))(m:Nat)(ys:List Bool)(H':Hp)(psg pg pp:Addr)(ds:List Addr)(Ss:List (List Nat))(gs:List Nat):Prop :=
 PS H' pp pg mv.length ds Ss gs/\H' psg=some (.lst ((List.range m).map nV))/\psg∉[pp,pg]/\Kp [] H H'/\H pp=none/\H pg=none/\(∀d∈ds,H d=none)/\(∀S∈Ss,S≠[]) /\
  ∀r s,r<mv.length->s<mv.length->(gs.getD r 0=gs.getD s 0↔ys.getD r false=ys.getD s false)
def spGR:Sp:=λvs H Q _=>∃(pm py:Addr)(us:List V)(mv:List (List Nat))(m:Nat)(ys:List Bool),vs=[.ref pm,.ref py]/\H pm=some (.tup us)/\RowsM H us mv/\MvOk mv m/\H py=some (.lst (ys.map V.bl))/\ys.length=mv.length/\1<=mv.length/\mv.length<=1000/\m<=1000 /\
 ∀(pg:Addr)(gs:List Nat)(H':Hp),H pg=none->H' pg=some (.lst (gs.map nV))->gs.length=mv.length->(∀r s,r<mv.length->s<mv.length->(gs.getD r 0=gs.getD s 0↔(mcOf mv m ys).eq r s))->(∀r,r<mv.length->gs.getD r 0<mv.length)->Kp [] H H'->Q (.ref pg) H'
structure TGR(mg:Str->Option Value)(fc fl fi:Addr):Prop where
 n_len:mg "len"=none
 n_list:mg "list"=none
 n_range:mg "range"=none
 n_dict:mg "dict"=none
 m_cut:mg "cut"=some (.ref fc)
 m21z:mg "led_from"=some (.ref fl)
 m19z:mg "leading_into"=some (.ref fi)
section
variable{P:Program}{w:World}{K:PySem.W.Frag}{mg:Str->Option Value}{base:Heap}
abbrev j5:Stmt:=top 10
theorem ko:FnScope ["moves","yes","signs","groups","parts","sources","due","part","task","leading"] ["moves","yes"] (jf j5):=⟨rfl,rfl,rfl,by decide +kernel,rfl,by decide +kernel,by decide +kernel⟩
theorem ok_groups_of_rooms{f fc fl fi:Addr}{fd fdc fdl fdi:FuncData}(F:Fun K "groups_of_rooms" "groups_of_rooms" j5 f fd)(T:TGR mg fc fl fi)(F_cut:Fun K "cut" "cut" jab fc fdc)(b_cut:Binds K fdc ["parts","groups","number","share"] [])
  (G_cut:FnOk P w K mg base CX0 1 fc fdc ["parts","groups","number","share"] jp9) (F21z:Fun K "led_from" "led_from" zi fl fdl) (b21z:Binds K fdl ["moves","sign"] [])
  (G21z:FnOk P w K mg base CX0 1 fl fdl ["moves","sign"] spLF) (F19z:Fun K "leading_into" "leading_into" y6 fi fdi) (b19z:Binds K fdi ["part","sources","groups"] [])
  (G19z:FnOk P w K mg base CX0 1 fi fdi ["part","sources","groups"] spLI):FnOk P w K mg base CX0 2 f fd ["moves","yes"] spGR:=by
 refine F.ok ko (λvs H Q E h=>?_) (λcdv A outer s H vs Q E hr h=>?_)
 ·obtain⟨pm,py,us,mv,m,ys,rfl,_⟩:=h
  rfl
 ·obtain⟨pm,py,us,mv,m,ys,rfl,hm,rw',ok,hy,yl,n1,n9,m9,k⟩:=h
  have hu:=hr.units
  have hsz:sizeLine=16777216:=Ia
  have hu1:(A.deeper (PyProof.Rows.envOfC (Str.ofString "groups_of_rooms") (jf j5) s.heap.objs.size f cdv)).units+1<cLine:=by omega
  have ul:us.length=mv.length:=Il rw'
  refine exQ (jg (jq (i:=2) ko.nd rfl (by first|exact Or.inl rfl|exact Or.inr rfl) (ju (call_listR rfl) (by rfl) T.n_list jbz (ja (ju call_rangeU (by rfl) T.n_range bt_range (ja (jw j4 (by rfl) T.n_len kj (ja (jt ix_U (qpv 0) jh (λ_ _=>rfl)) jc)) jc)) jc)))
  (jg (zf (i:=3) ko.nd rfl (by first|exact Or.inl rfl|exact Or.inr rfl) rfl (jcd (sc:=jf j5) (N:=["moves","yes","signs","groups","parts","sources","due","part","task","leading"]) (Nc:=["room"]) (js:=[none]) (by decide +kernel)) (j9 (K:=K) (qpv 0) rfl) (λ_ _ _ _=>(jo (i:=0) (show List.Nodup [("room":Str)]from by decide +kernel) rfl (by first|exact Or.inl rfl|exact Or.inr rfl))) (λ_ _ _ _=>jh))
  (jg (jq (i:=4) ko.nd rfl (by first|exact Or.inl rfl|exact Or.inr rfl) (yg (ja (ju (jau rfl hu) (by rfl) T.n_dict jbb (ja (kc rfl (jcd (sc:=jf j5) (N:=["moves","yes","signs","groups","parts","sources","due","part","task","leading"]) (Nc:=["room"]) (js:=[none]) (by decide +kernel)) (kg rfl T.n_range (ja (jw j4 (by rfl) T.n_len kj (ja (qpv 0) jc)) jc)) (λ_ _ _ _=>(jo (i:=0) (show List.Nodup [("room":Str)]from by decide +kernel) rfl (by first|exact Or.inl rfl|exact Or.inr rfl))) (λ_ _ _ _=>(y9 (ja (qpv 0) (ja jaa jc))))) jc)) jc)))
  (kn (yh (jr G_cut (hr.mono (by decide)) rfl T.m_cut F_cut.kp b_cut .nil jy (ja (qpv 4) (ja (qpv 3) (ja jh (ja (ja9 rfl (jcd (sc:=jf j5) (N:=["moves","yes","signs","groups","parts","sources","due","part","task","leading"]) (Nc:=["room","yes"]) (js:=[none,some 1]) (by decide +kernel)) (kg rfl T.n_range (ja (jw j4 (by rfl) T.n_len kj (ja (qpv 1) jc)) jc)) (λ_ _ _ _=>(jo (i:=0) (show List.Nodup [("room":Str),("yes":Str)]from by decide +kernel) rfl (by first|exact Or.inl rfl|exact Or.inr rfl))) (λ_ _ _ _=>(jak (jt ix_U (qpv 1) (qpv 0) (λ_ _=>rfl)))) (λ_ _ _ _=>(qpv 0))) jc))))))
  (kn (zf (i:=5) ko.nd rfl (by first|exact Or.inl rfl|exact Or.inr rfl) rfl (jcd (sc:=jf j5) (N:=["moves","yes","signs","groups","parts","sources","due","part","task","leading"]) (Nc:=["sign","moves"]) (js:=[none,some 0]) (by decide +kernel)) (j9 (K:=K) (qpv 2) rfl) (λ_ _ _ _=>(jo (i:=0) (show List.Nodup [("sign":Str),("moves":Str)]from by decide +kernel) rfl (by first|exact Or.inl rfl|exact Or.inr rfl))) (λ_ _ _ _=>(jr G21z (hr.mono (by decide)) rfl T.m21z F21z.kp b21z .nil jy (ja (qpv 1) (ja (qpv 0) jc)))))
  (jg (jq (i:=6) ko.nd rfl (by first|exact Or.inl rfl|exact Or.inr rfl) (yg jc))
  (kn (ym Ic rfl (kg rfl T.n_range (ja (jw j4 (by rfl) T.n_len kj (ja (qpv 4) jc)) jc)) (jo (i:=7) ko.nd rfl (by first|exact Or.inl rfl|exact Or.inr rfl)) (jj (yh (yf PySem.F.slot_list_extend PySem.F.type_list_extend ja8 (qpv 6) (ja (kc rfl (jcd (sc:=jf j5) (N:=["moves","yes","signs","groups","parts","sources","due","part","task","leading"]) (Nc:=["sign","part"]) (js:=[none,some 7]) (by decide +kernel)) (j9 (K:=K) (qpv 2) rfl) (λ_ _ _ _=>(jo (i:=0) (show List.Nodup [("sign":Str),("part":Str)]from by decide +kernel) rfl (by first|exact Or.inl rfl|exact Or.inr rfl))) (λ_ _ _ _=>(y9 (ja (qpv 1) (ja (qpv 0) jc))))) jc) jcj))))
  (jg (jap Ic (qpt_tru (qpv 6)) (jg (jq (i:=8) ko.nd rfl (by first|exact Or.inl rfl|exact Or.inr rfl) (qpe_bmL0 PySem.F.slot_list_pop PySem.F.type_list_pop mt_pop0U (qpv 6) jcj))
  (jg (jq (i:=9) ko.nd rfl (by first|exact Or.inl rfl|exact Or.inr rfl) (jr G19z (hr.mono (by decide)) rfl T.m19z F19z.kp b19z .nil jy (ja (jt ix_U (qpv 4) (jt ix_U (qpv 8) jh (λ_ _=>rfl)) (λ_ _=>rfl)) (ja (jt ix_U (qpv 5) (jt ix_U (qpv 8) jh (λ_ _=>rfl)) (λ_ _=>rfl)) (ja (qpv 3) jc)))))
  (jj (ym Ic rfl (jbu (qpv 9)) (jo (i:=7) ko.nd rfl (by first|exact Or.inl rfl|exact Or.inr rfl)) (jj (yt (jak (jr G_cut (hr.mono (by decide)) rfl T.m_cut F_cut.kp b_cut .nil jy (ja (qpv 4) (ja (qpv 3) (ja (qpv 7) (ja (ja7 hu1 (qpv 9) (qpv 7) (λ_ _=>rfl)) jc)))))) (jj (yh (yf PySem.F.slot_list_extend PySem.F.type_list_extend ja8 (qpv 6) (ja (kc rfl (jcd (sc:=jf j5) (N:=["moves","yes","signs","groups","parts","sources","due","part","task","leading"]) (Nc:=["sign","parts"]) (js:=[none,some 4]) (by decide +kernel)) (j9 (K:=K) (qpv 2) rfl) (λ_ _ _ _=>(jo (i:=0) (show List.Nodup [("sign":Str),("parts":Str)]from by decide +kernel) rfl (by first|exact Or.inl rfl|exact Or.inr rfl))) (λ_ _ _ _=>(y9 (ja (jv ja1 (jw j4 (by rfl) T.n_len kj (ja (qpv 1) jc)) jh) (ja (qpv 0) jc))))) jc) jcj))) ya)))))))
  (jj (j7 (qpv 3))))))))))) ?_
  obtain⟨c0,hc0,hr0⟩:=rw'.get (show mv[0]?=some (mv.getD 0 [])by rw[Ae,Aa (by omega)];rfl)
  have l0:(mv.getD 0 []).length=m:=ok.ln _ (by rw[Ae,Aa (by omega)];exact A7 _)
  simp! [hm]
  refine⟨.ref c0,jce (j:=0) hc0,?_⟩
  simp! [hr0]
  rw[Ac,l0]
  refine⟨by omega,by omega,λpr hpr=>⟨0,m,jb,by decide,by decide,by omega,by omega,by omega,λpsg hsg=>?_⟩⟩
  have k1:Kp [] H (upd (upd H pr (.rng 0 m)) psg (.lst ((List.range ((m:Int)-0).toNat).map λi=>V.int (0+(i:Nat))))):=((Kp.refl [] H).new hpr).new hsg
  have e1:upd (upd H pr (.rng 0 m)) psg (.lst ((List.range ((m:Int)-0).toNat).map λi=>V.int (0+(i:Nat)))) psg=some (.lst ((List.range m).map nV)):=by
   rw[jb,show((m:Int)-0).toNat=m by omega]
   congr 2
   exact Ih λi _=>by rw[Op];rfl
  generalize upd (upd H pr (.rng 0 m)) psg (.lst ((List.range ((m:Int)-0).toNat).map λi=>V.int (0+(i:Nat))))=H1 at k1 e1⊢
  have hm1:=k1.tup _ _ hm
  simp only[hm1]
  intro pg hpg
  refine jc5 (λ_=>nV 0) hm1 hpg (by omega) (λx hx l Q' q=>q) λvv=>?_
  have k2:Kp [] H (upd H1 pg (.lst (us.map λ_=>nV 0))):=k1.new hpg
  have e2:upd H1 pg (.lst (us.map λ_=>nV 0)) pg=some (.lst ((List.replicate mv.length 0).map nV)):=by
   rw[jb,<-ul,List.map_replicate,List.map_const']
  have g2:upd H1 pg (.lst (us.map λ_=>nV 0)) psg=some (.lst ((List.range m).map nV)):=by rw[jd (je e1 hpg)];exact e1
  have nsg:=je e1 hpg
  have hg0:H pg=none:=k1.free hpg
  generalize upd H1 pg (.lst (us.map λ_=>nV 0))=H2 at k2 e2 g2⊢
  refine⟨us,by rw[k2.tup _ _ hm];rfl,by omega,by omega,λD1 hD1=>?_⟩
  rw[show((us.length:Int)).toNat=mv.length by omega]
  refine jdz (λi=>prT (.int (0+(i:Int)))) (λi=>jgf _) hD1 (by omega) (λi H' Q' hi k' q=>?_) λv1 xs H3 k3 hx3 pr3=>?_
  ·simp!
   exact⟨by omega,λt ht=>q _ _ ((Kp.refl [] H').new ht) ⟨t,rfl,jb⟩⟩
  dsimp only
  refine rDictK.of hx3 (jb1 pr3) λd0 hd0=>⟨by omega,λpp hpp=>?_⟩
  rw[jfd Im]at hpp⊢
  have k4:Kp [] H (upd (upd H3 d0 (.dK ((List.range mv.length).map dk))) pp (.lst [.ref d0])):=((k2.trans k3).new hd0).new hpp
  have k34:Kp [] H2 (upd (upd H3 d0 (.dK ((List.range mv.length).map dk))) pp (.lst [.ref d0])):=(k3.new hd0).new hpp
  have nd0:d0≠pp:=je jb hpp
  have g4:=k34.old _ _ g2 Af
  have e4:=k34.old _ _ e2 Af
  have ngp:pg≠pp:=je ((k3.new hd0).old _ _ e2 Af) hpp
  have nsp:psg≠pp:=je ((k3.new hd0).old _ _ g2 Af) hpp
  have hp0:H pp=none:=((k2.trans k3).new hd0).free hpp
  have hd00:H d0=none:=(k2.trans k3).free hd0
  have ps4:PS (upd (upd H3 d0 (.dK ((List.range mv.length).map dk))) pp (.lst [.ref d0])) pp pg mv.length [d0] [List.range mv.length] (List.replicate mv.length 0):=PS.one jb e4 (by rw[jd nd0,jb]) ngp.symm n9
  generalize upd (upd H3 d0 (.dK ((List.range mv.length).map dk))) pp (.lst [.ref d0])=H4 at k4 k34 g4 e4 ps4⊢
  refine⟨λσ' H'=>∃(psg pg pp:Addr)(ds:List Addr)(Ss:List (List Nat))(gs:List Nat),σ'=[some (.ref pm),some (.ref py),some (.ref psg),some (.ref pg),some (.ref pp),none,none,none,none,none]/\J1 H mv m ys H' psg pg pp ds Ss gs,?_,?_⟩
  ·have hy4:=k4.old _ _ hy Af
   simp! [hy4]
   rw[Ac,yl]
   refine⟨by omega,by omega,λD2 hD2=>?_⟩
   have nyD:py≠D2:=je hy4 hD2
   refine je8 (λi=>ys.getD i false) (λi=>V.int (0+(i:Nat))) (by omega) (λi hi l Q' q=>?_) (λi hi _ l Q' q=>by simp!;exact q) λvv=>?_
   ·simp!
    rw[jd nyD,hy4]
    exact⟨_,rfl,.bl (ys.getD i false),by rw[Op];exact jce (by rw[Ag,Ae,Aa (by omega)];rfl),_,rfl,q⟩
   dsimp only
   rw[show((mv.length:Int)).toNat=mv.length by omega]
   have hm5:(((List.range mv.length).filter λi=>ys.getD i false).map λi=>V.int (0+(i:Nat)))=((List.range mv.length).filter λi=>ys.getD i false).map nV:=Ih λi _=>by rw[Op];rfl
   rw[hm5]
   have k5:Kp [] H4 (upd H4 D2 (.lst (((List.range mv.length).filter λi=>ys.getD i false).map nV))):=(Kp.refl [] H4).new hD2
   have e5:upd H4 D2 (.lst (((List.range mv.length).filter λi=>ys.getD i false).map nV)) D2=some (.lst (((List.range mv.length).filter λi=>ys.getD i false).map nV)):=jb
   have nD1:D2≠pp:=(je ps4.hp hD2).symm
   have nD2:D2≠pg:=(je ps4.hg hD2).symm
   generalize upd H4 D2 (.lst (((List.range mv.length).filter λi=>ys.getD i false).map nV))=H5 at k5 e5⊢
   have memL:∀r,r∈(List.range mv.length).filter (λi=>ys.getD i false)↔r<mv.length/\ys.getD r false=true:=λr=>by simp[Iz]
   have ndL:((List.range mv.length).filter λi=>ys.getD i false).Nodup:=Im.filter _
   have subL:∀r∈(List.range mv.length).filter (λi=>ys.getD i false),r∈List.range mv.length:=λr hr=>(Iz.mp hr).1
   generalize(List.range mv.length).filter (λi=>ys.getD i false)=L at e5 memL ndL subL
   have ps5:=ps4.kp k5
   have r0:∀r,r<mv.length->(List.replicate mv.length 0).getD r 0=0:=λr hr=>by simp[Ae,Uw,hr]
   refine⟨pp,pg,D2,mv.length,[d0],[List.range mv.length],List.replicate mv.length 0,0,List.range mv.length,L,rfl,ps5,rfl,e5,ndL,subL,nD1,nD2,by simp,λc H6 k6=>?_,λnn sh d' H6 nds nes hd' subs how p6 k6=>?_⟩
   ·refine⟨psg,pg,pp,⟨rfl,rfl,rfl⟩,_,_,_,ps5.kp k6,k6.old _ _ (k5.old _ _ g4 Af) (by simp),by simp[nsp,nsg],(k4.trans k5).trans k6,hp0,hg0,by simpa using hd00,λS hS=>?_,λr s hr hs=>?_⟩
    ·simp at hS;subst hS;intro z
     have:=O4 List.length z
     rw[Az,List.length_nil]at this;omega
    ·rw[r0 r hr,r0 s hs]
     refine⟨λ_=>?_,λ_=>rfl⟩
     rcases c with c|c
     ·have no:∀r,r<mv.length->ys.getD r false=false:=λr hr=>by
       have:=memL r
       rw[c]at this
       simpa[hr]using this
      rw[no r hr,no s hs]
     ·have al:∀r,r<mv.length->ys.getD r false=true:=λr hr=>((memL r).mp (jl1 ndL subL c (At.mpr hr))).2
      rw[al r hr,al s hs]
   ·have gat:∀r,r<mv.length->(gsF (List.replicate mv.length 0) sh [d0].length).getD r 0=if r∈sh then 1 else 0:=λr hr=>by
     rw[Ae,jgz sh _ r _ (by simpa using hr)]
     by_cases c:r∈sh
     ·rw[Ao c,Ao c];rfl
     ·rw[An c,An c,<-Ae,r0 r hr]
    have k45:=k4.trans k5
    have dk5:H5 d0=some (.dK ((List.range mv.length).map dk)):=ps5.at_ 0 d0 _ rfl rfl
    refine⟨psg,pg,pp,⟨rfl,rfl,rfl⟩,_,_,_,p6,k6.old _ _ (k5.old _ _ g4 Af) ?_,by simp[nsp,nsg],k45.trans' k6 (λx hx=>.inr ?_),hp0,hg0,λx hx=>?_,λS hS=>?_,λr s hr hs=>?_⟩
    ·simp only[Ap,Af,Uk,not_or]
     refine⟨nsp,nsg,λz=>?_⟩
     have:=k5.old _ _ g4 Af
     rw[z,dk5]at this;cases this
    ·simp only[Ap,Af,Uk]at hx
     rcases hx with rfl|rfl|rfl
     ·exact hp0
     ·exact hg0
     ·exact hd00
    ·simp only[List.cons_append,List.nil_append,Ap,Af,Uk]at hx
     rcases hx with rfl|rfl
     ·exact hd00
     ·exact k45.free hd'
    ·rcases Au.mp hS with hS|hS
     ·rcases Wa hS with hS|rfl
      ·simp at hS;subst hS;intro z
       have:=O4 List.length z
       rw[Az,List.length_nil]at this;omega
      ·exact jmk ndL subL nn Im how
     ·cases Aj.mp hS;exact nes
    ·rw[gat r hr,gat s hs]
     rcases how with w|w
     ·have e1:∀r,r<mv.length->(r∈sh↔ys.getD r false=true):=λr hr=>by rw[w,memL];simp[hr]
      simp only[e1 r hr,e1 s hs]
      cases ys.getD r false <;> cases ys.getD s false <;> simp
     ·have e1:∀r,r<mv.length->(r∈sh↔ys.getD r false=false):=λr hr=>by rw[w,memL];simp[hr]
      simp only[e1 r hr,e1 s hs]
      cases ys.getD r false <;> cases ys.getD s false <;> simp
  rintro _ H5 ⟨psg,pg,pp,ds,Ss,gs,rfl,j1⟩
  obtain⟨ps5,g5,nsg,k5,hp0,hg0,fd,ns,ye⟩:=j1
  refine⟨λσ' H'=>∃(psr:Addr)(as:List Addr),σ'=[some (.ref pm),some (.ref py),some (.ref psg),some (.ref pg),some (.ref pp),some (.ref psr),none,none,none,none]/\SrA H' [pp,pg] psr mv m as/\Kp [] H5 H',?_,?_⟩
  ·simp! [g5]
   intro D hD
   refine jc9 (xs:=(List.range m).map nV) (λi σ H'=>∃(v:Option V)(as:List Addr),σ=[v,some (.ref pm)]/\H' D=some (.lst (as.map V.ref))/\as.length=i/\(∀(a:Nat) x,as[a]?=some x->H5 x=none/\x≠D/\∃sl,(∀y∈sl,H5 y=none/\y≠D)/\Src H' x sl (srcF mv a mv.length) mv.length)/\Kp [] H5 H') ?_ ?_ ?_ ?_
   ·exact⟨none,[],rfl,jb,rfl,by simp,(Kp.refl [] H5).new hD⟩
   ·rintro i σ H' _ ⟨_,_,rfl,_,_,_,kp⟩
    exact kp.old _ _ g5 Af
   ·rintro i x σ H6 hx ⟨v,as,rfl,hD6,al,at6,kp⟩
    rw[Ag]at hx
    obtain⟨r,hr',rfl⟩:=A3.mp hx
    have hi:i<m:=by have:=(Ad.mp hr').1;simpa using this
    rw[Od hi]at hr'
    cases hr'
    have k56:=k5.trans kp
    simp! [jc0]
    refine⟨pm,us,mv,m,i,rfl,k56.tup _ _ hm,rw'.kp k56,ok,hi,n9,λps sl H7 hps hsl src k7=>?_⟩
    have hD7:=k7.old _ _ hD6 Af
    have hD56:H5 D=none:=hD
    have nps:ps≠D:=λz=>by rw[z,hD6]at hps;cases hps
    have k8:Kp [D] H6 (upd H7 D (.lst (as.map V.ref++[.ref ps]))):=((k7.mono (by simp)).set hD7 (.inl (.head _)))
    have k78:Kp [D] H7 (upd H7 D (.lst (as.map V.ref++[.ref ps]))):=((Kp.refl [D] H7).set hD7 (.inl (.head _)))
    refine⟨_,by rw[hD7];rfl,by rw[Ac];omega,as++[ps],by rw[A5];rfl,by simp[al],λa x e=>?_,(kp.trans k7).set hD7 (.inr hD)⟩
    have srcD:∀{Hx Hy:Hp}{x:Addr}{sl:List Addr}{Sr:Nat->List Nat}{n:Nat},Kp [D] Hx Hy->x≠D->(∀y∈sl,y≠D)->Src Hx x sl Sr n->Src Hy x sl Sr n:=λk nx ny s=>⟨k.old _ _ s.hs (by simpa using nx),s.ln,λr y ey=>k.old _ _ (s.at_ r y ey) (by simpa using ny y (Al ey)),s.lt,s.le⟩
    rcases Nat.lt_trichotomy a as.length with l|l|l
    ·rw[Ig l]at e
     obtain⟨q1,q2,sl',q3,q4⟩:=at6 a x e
     exact⟨q1,q2,sl',q3,srcD k8 q2 (λy hy=>(q3 y hy).2) q4⟩
    ·subst l
     rw[Ir (Ak _)]at e
     simp at e
     subst e
     rw[al]
     have nsl:∀y∈sl,y≠D:=λy hy z=>by have:=hsl y hy;rw[z,hD6]at this;cases this
     exact⟨kp.free hps,nps,sl,λy hy=>⟨kp.free (hsl y hy),nsl y hy⟩,srcD k78 nps nsl src⟩
    ·rw[Ix (by simp;omega)]at e
     cases e
   ·rintro σ H6 ⟨v,as,rfl,hD6,al,at6,kp⟩
    simp!
    have no:∀x,H5 x=none->x∉[pp,pg]:=λx hx m=>by
     simp only[Ap,Af,Uk]at m
     rcases m with rfl|rfl
     ·rw[ps5.hp]at hx;cases hx
     ·rw[ps5.hg]at hx;cases hx
    refine⟨as,⟨no D hD,hD6,by rw[al];simp,λa x e=>?_⟩,kp⟩
    obtain⟨q1,q2,sl',q3,q4⟩:=at6 a x e
    exact⟨no x q1,sl',λy hy=>no y (q3 y hy).1,q4⟩
  rintro _ H6 ⟨psr,as,rfl,sr,k6⟩
  have ps6:=ps5.kp k6
  have g6:=k6.old _ _ g5 Af
  have k06:=k5.trans k6
  simp!
  refine⟨by omega,λpd hpd=>?_⟩
  have gw0:GW H H6 mv.length pg pp pd (upd H6 pd (.lst [])) ds Ss gs []:=⟨ps6.kp ((Kp.refl [] H6).new hpd),(Ky.refl _ H6).kp ((Kp.refl [] H6).new hpd) (by simp),⟨[],jb,.nil⟩,k06.new hpd,hp0,hg0,k06.free hpd,hpd,fd,(je ps6.hp hpd).symm,(je ps6.hg hpd).symm,ns⟩
  generalize upd H6 pd (.lst [])=H7 at gw0⊢
  have dn:ds.length<=mv.length:=gw0.le
  have sgk:∀{H':Hp}{ds:List Addr}{Ss:List (List Nat)}{gs:List Nat}{due:List (Nat×Nat)},GW H H6 mv.length pg pp pd H' ds Ss gs due->H' psg=some (.lst ((List.range m).map nV)):=λg=>g.ky _ _ g6 nsg (λ_ z=>nomatch z)
  have mul:∀{p:Nat},p<=mv.length->p*m<=1000000:=λhp=>Iv (Nat.mul_le_mul (Iv hp n9) m9) (by decide)
  refine⟨λσ' H'=>∃(v7:Option V)(due:List (Nat×Nat)),σ'=[some (.ref pm),some (.ref py),some (.ref psg),some (.ref pg),some (.ref pp),some (.ref psr),some (.ref pd),v7,none,none]/\GW H H6 mv.length pg pp pd H' ds Ss gs due/\(∀k b,(k,b)∈due↔k<ds.length/\b<m)/\due.length=ds.length*m,?_,?_⟩
  ·simp! [gw0.ps.hp]
   rw[Ac]
   refine⟨by omega,by omega,?_⟩
   rw[show((ds.length:Int)).toNat=ds.length by omega]
   refine jcm (λi σ H'=>∃(v7:Option V)(due:List (Nat×Nat)),σ=[some (.ref pm),some (.ref py),some (.ref psg),some (.ref pg),some (.ref pp),some (.ref psr),some (.ref pd),v7,none,none]/\GW H H6 mv.length pg pp pd H' ds Ss gs due/\(∀k b,(k,b)∈due↔k<i/\b<m)/\due.length=i*m) ⟨none,[],rfl,gw0,by simp,by simp⟩ ?_ ?_
   ·rintro i σ H8 hi ⟨v7,due,rfl,gw,md,dl⟩
    have g8:=sgk gw
    obtain⟨xs,hxs,dp⟩:=gw.du
    have xl:xs.length=due.length:=Il dp
    have ml:=mul (p:=i) (by omega)
    simp! [g8]
    refine⟨by show(jcn _).isSome=true;rw[hxs];rfl,λD hD=>?_⟩
    refine jds (tkT i) (jk9 i) g8 hD (by simp;omega) (λj y H1 Q' hy k1 q=>?_) λv zs H9 k9 hD9 pr=>?_
    ·simp!
     rw[Op]
     exact⟨by omega,λt ht=>q _ _ ((Kp.refl [] H1).new ht) ⟨t,rfl,jb⟩⟩
    have dz:DuP H9 zs (allB i m):=jmx pr
    have zl:zs.length=m:=by rw[Il dz];simp[allB]
    have gw9:=gw.kp0 k9
    have hx9:=k9.old _ _ hxs Af
    dsimp only
    rw[hx9,hD9]
    refine⟨_,rfl,_,rfl,by omega,due++allB i m,gw9.setd ((dp.kp k9).app dz),λk' b=>?_,?_⟩
    ·rw[Au,md,mem_allB]
     omega
    ·rw[A1,dl,Y3];simp[allB]
   ·rintro σ H8 ⟨v7,due,rfl,gw,md,dl⟩
    exact⟨v7,rfl,due,gw,md,dl⟩
  rintro _ H8 ⟨v7,due,rfl,gw,md,dl⟩
  simp!
  have mok:=jdg (ys:=ys) ok
  obtain⟨W,hW⟩:∃W:Nat->L2.St->Hp->Prop,W=λμ σ' H'=>∃(v7 v8 v9:Option V)(ds:List Addr)(Ss:List (List Nat))(gs:List Nat)(due:List (Nat×Nat)),σ'=[some (.ref pm),some (.ref py),some (.ref psg),some (.ref pg),some (.ref pp),some (.ref psr),some (.ref pd),v7,v8,v9]/\GW H H6 mv.length pg pp pd H' ds Ss gs due/\Pt (mcOf mv m ys) (λr=>gs.getD r 0) ds.length due/\due.length<=ds.length*m/\μ=(mv.length-ds.length)*(m+1)+due.length:=⟨_,rfl⟩
  refine⟨W,?_,?_⟩
  ·rw[hW]
   refine⟨_,v7,none,none,ds,Ss,gs,due,rfl,gw,Pt.first (λr hr=>gw.ps.gt r _ ((gG gw.ps.gl hr).mpr rfl)) ye (λi a hi ha=>(md i a).mpr ⟨hi,ha⟩) (λi a h=>(md i a).mp h) mok,by omega,rfl⟩
  clear gw md dl ye ns fd dn gw0 ps6 ps5 due ds Ss gs
  intro μ σ H9 hw
  rw[hW]at hw
  obtain⟨v7,v8,v9,ds,Ss,gs,due,rfl,gw,pt,dl,rfl⟩:=hw
  obtain⟨xs,hxs,dp⟩:=gw.du
  have dn:=gw.le
  simp! [hxs]
  rcases List.eq_nil_or_concat due with rfl|⟨due0,q,rfl⟩
  ·cases dp
   rw[An (by simp)]
   exact k pg gs H9 hg0 gw.ps.hg gw.ps.gl (λr s hr hs=>pt.done mok hr hs) (λr hr=>A2 (gw.ps.gt r _ ((gG gw.ps.gl hr).mpr rfl)) dn) gw.kp
  rw[List.concat_eq_append]at dp pt dl⊢
  obtain⟨i,a⟩:=q
  obtain⟨us',t,rfl,dp0,ht⟩:=dp.last
  obtain⟨hip,ham⟩:=pt.du i a (by simp)
  rw[Ao (by simp)]
  refine⟨_,λ_ _ h=>h,.ref t,by simp,?_⟩
  rw[List.dropLast_concat]
  have gw1:=gw.setd dp0
  have ht1:upd H9 pd (.lst us') t=some (.tup [nV i,nV a]):=(((Kp.refl [pd] H9).set hxs (.inl (.head _))).tup _ _ ht)
  generalize upd H9 pd (.lst us')=H10 at gw1 ht1⊢
  have ham:a<m:=ham
  have sr1:=sr.ky gw1.ky
  have ei:Ss[i]?=some (Ss[i]'(by have:=gw1.ps.dl;omega)):=Aa _
  generalize Ss[i]'(by have:=gw1.ps.dl;omega)=S at ei
  obtain⟨d,hd,hdd⟩:=gw1.ps.get ei
  have ea:as[a]?=some (as[a]'(by have:=sr1.ln;omega)):=Aa _
  generalize as[a]'(by have:=sr1.ln;omega)=x at ea
  obtain⟨_,sl,_,src⟩:=sr1.at_ a x ea
  rw[jch,ht1]
  refine⟨_,rfl,nV i,jei _ _,?_⟩
  show rIxU (.ref pp) (.int (i:Int)) H10 _
  rw[jch,gw1.ps.hp]
  refine⟨_,rfl,.ref d,jce (by rw[Ag,hd];rfl),?_⟩
  rw[jch,ht1]
  refine⟨_,rfl,nV a,jfm _ _ _,?_⟩
  show rIxU (.ref psr) (.int (a:Int)) H10 _
  rw[jch,sr1.hs]
  refine⟨_,rfl,.ref x,jce (by rw[Ag,ea];rfl),?_⟩
  have mS:=gw1.ps.memG ei
  have ndS:=gw1.ps.ns S (Al ei)
  have Sn:S.length<=mv.length:=jde ndS λr hr=>((mS r).mp hr).1
  refine⟨d,x,pg,mv.length,S,sl,srcF mv a mv.length,gs,rfl,hdd,src,gw1.ps.hg,gw1.ps.gl,n9,by omega,λr hr=>((mS r).mp hr).1,λpl gk la H11 hpl ld k11=>⟨pl,gk.map (lk la),rfl,.inl ⟨ld.hl,λo=>?_⟩⟩⟩
  have k12:Kp [] H10 (upd H11 pl (.frz o (.dK (gk.map (lk la))))):=jdq k11 ld.hl (.inr hpl)
  have fz:upd H11 pl (.frz o (.dK (gk.map (lk la)))) pl=some (.frz o (.dK (gk.map (lk la)))):=jb
  have lat:∀g∈gk,upd H11 pl (.frz o (.dK (gk.map (lk la)))) (la g)=some (.lst (((S.flatMap (srcF mv a mv.length)).filter λq=>decide (gs.getD q 0=g)).map nV)):=λg hg=>by
   have e:=ld.at_ g hg
   rw[jd (λz=>by rw[z,ld.hl]at e;cases e)];exact e
  have gw2:=gw1.kp0 k12
  obtain⟨ys',hys,dpy⟩:=gw1.du
  have no:∀z,H10 z=none->z∉[pp,pg,pd]:=λz hz mz=>by
   simp only[Ap,Af,Uk]at mz
   rcases mz with rfl|rfl|rfl
   ·rw[gw1.ps.hp]at hz;cases hz
   ·rw[gw1.ps.hg]at hz;cases hz
   ·rw[hys]at hz;cases hz
  have npl:=no pl hpl
  have nla:∀g∈gk,la g∉[pp,pg,pd]:=λg hg=>no _ (ld.fr g hg)
  have ndg:=ld.nd
  have all:=ld.all
  have nem:=ld.ne
  clear ld k11 hys dpy
  generalize upd H11 pl (.frz o (.dK (gk.map (lk la))))=H53 at k12 fz lat gw2⊢
  have lt0:∀r,r<mv.length->gs.getD r 0<ds.length:=λr hr=>gw1.ps.gt r _ ((gG gw1.ps.gl hr).mpr rfl)
  have memT:∀q,q∈S.flatMap (srcF mv a mv.length)↔q<mv.length/\gs.getD (dM mv q a) 0=i:=λq=>by
   rw[mem_T]
   exact⟨fun⟨h1,h2⟩=>⟨h1,((mS _).mp h2).2⟩,fun⟨h1,h2⟩=>⟨h1,(mS _).mpr ⟨(ok.at_ h1 ham).2,h2⟩⟩⟩
  have ndT:=nd_T (mv:=mv) (a:=a) (n:=mv.length) ndS
  have dl0:due0.length+1<=ds.length*m:=by simpa using dl
  have pm1:=mul dn
  refine jhx (λj σ H'=>∃(v7:Option V)(ds':List Addr)(Ss':List (List Nat))(gs':List Nat)(due':List (Nat×Nat)),σ=[some (.ref pm),some (.ref py),some (.ref psg),some (.ref pg),some (.ref pp),some (.ref psr),some (.ref pd),v7,some (.ref t),some (.ref pl)]/\GW H H6 mv.length pg pp pd H' ds' Ss' gs' due'/\Ky [pp,pg,pd] H53 H'/\CI (mcOf mv m ys) (λr=>gs.getD r 0) ds.length i a (gk.drop j) (λr=>gs'.getD r 0) ds'.length /\
   (∀q∈due0,q∈due')/\(∀k b,ds.length<=k->k<ds'.length->b<m->(k,b)∈due')/\(∀k b,(k,b)∈due'->k<ds'.length/\b<m)/\due'.length<=due0.length+(ds'.length-ds.length)*m) ?_ ?_ ?_ ?_
  ·refine⟨v7,ds,Ss,gs,due0,rfl,gw2,Ky.refl _ _,CI.init lt0 λr hr n e=>n (all r ((memT r).mpr ⟨hr,e⟩)),λq h=>h,λk b h1 h2=>by omega,λk b h=>pt.du k b (by simp[h]),by omega⟩
  ·rintro j σ H' _ ⟨_,_,_,_,_,rfl,_,ky,_⟩
   exact ky _ _ fz npl (λ_ z=>nomatch z)
  ·rintro j kv σ H13 hkv ⟨w7,ds',Ss',gs',due',rfl,gw3,ky,ci,d1,d2,d3,dl3⟩
   rw[Ag]at hkv
   obtain⟨g,hg',rfl⟩:=A3.mp hkv
   have hj:=(Ad.mp hg').1
   have hgm:=Al hg'
   have dr:gk.drop j=g::gk.drop (j+1):=by
    rw[List.drop_eq_getElem_cons hj,(Ad.mp hg').2]
   rw[dr]at ci
   have ng:g∉gk.drop (j+1):=by
    have:=ndg.sublist (List.drop_sublist j gk)
    rw[dr]at this
    exact(Ol.mp this).1
   obtain⟨q0,hq0,eq0⟩:=nem g hgm
   have gp:g<ds.length:=by rw[<-eq0];exact lt0 q0 ((memT q0).mp hq0).1
   have pp':=ci.pp
   have pn:=gw3.le
   have sl3:=gw3.ps.dl
   have eg:Ss'[g]?=some (Ss'[g]'(by omega)):=Aa _
   generalize Ss'[g]'(by omega)=S' at eg
   have mS':∀r,r∈S'↔r<mv.length/\gs.getD r 0=g:=λr=>by
    rw[gw3.ps.memG eg r]
    exact⟨fun⟨h1,h2⟩=>⟨h1,(ci.part gp h1).mp h2⟩,fun⟨h1,h2⟩=>⟨h1,(ci.part gp h1).mpr h2⟩⟩
   have ndS':=gw3.ps.ns S' (Al eg)
   have hL:=ky _ _ (lat g hgm) (nla g hgm) (λ_ z=>nomatch z)
   have memL:∀r,r∈(S.flatMap (srcF mv a mv.length)).filter (λq=>decide (gs.getD q 0=g))↔r<mv.length/\gs.getD (dM mv r a) 0=i/\gs.getD r 0=g:=λr=>by
    rw[Iz,memT]
    simp[and_assoc]
   have ndL:((S.flatMap (srcF mv a mv.length)).filter λq=>decide (gs.getD q 0=g)).Nodup:=ndT.filter _
   have Lne:(S.flatMap (srcF mv a mv.length)).filter (λq=>decide (gs.getD q 0=g))≠[]:=List.ne_nil_of_mem (Iz.mpr ⟨hq0,by simpa using eq0⟩)
   generalize(S.flatMap (srcF mv a mv.length)).filter (λq=>decide (gs.getD q 0=g))=L at hL memL ndL Lne
   have subL:∀r∈L,r∈S':=λr hr=>(mS' r).mpr ⟨((memL r).mp hr).1,((memL r).mp hr).2.2⟩
   have fz3:=ky _ _ fz npl (λ_ z=>nomatch z)
   have nlg:=nla g hgm
   simp only[Ap,Af,Uk,not_or]at nlg
   rw[show kV (lk la g).1=V.int (g:Int)from rfl]
   simp!
   refine⟨.ref (la g),.inl ⟨gk.map (lk la),.inl (g:Int),.inr ⟨o,fz3⟩,rfl,by rw[jhn,Ao hgm]⟩,?_⟩
   refine⟨pp,pg,la g,mv.length,ds',Ss',gs',g,S',L,rfl,gw3.ps,eg,hL,ndL,subL,nlg.1,nlg.2.1,by omega,λc H14 k14=>⟨false,rfl,?_⟩,λnn sh d' H14 nds nes hd' subs how p6 k14=>⟨true,rfl,?_⟩⟩
   ·rw[An (by simp)]
    refine⟨ds',Ss',gs',due',gw3.kp0 k14,ky.kp k14 (by simp),ci.same λr hr e=>?_,d1,d2,d3,dl3⟩
    rcases c with c|c
    ·exact absurd c Lne
    ·exact((memL r).mp (jl1 ndL subL c ((mS' r).mpr ⟨hr,e⟩))).2.1
   ·rw[Ao rfl]
    have s1:=jmk ndL subL nn ndS' how
    have gw4:=gw3.cut p6 k14 hd' s1 nes
    have pn4:=gw4.le
    have l4:(ds'++[d']).length=ds'.length+1:=by simp
    rw[l4]at pn4
    have ci4:CI (mcOf mv m ys) (λr=>gs.getD r 0) ds.length i a (gk.drop (j+1)) (λr=>(gsF gs' sh ds'.length).getD r 0) (ds'++[d']).length:=by
     rw[l4]
     refine ci.cut ng gp (sh:=sh) (λr hr=>(mS' r).mp (subs r hr)) ?_ λr hr=>?_
     ·rcases how with w|w
      ·exact .inl λr hr e=>by rw[w,memL];exact⟨λh=>h.2.1,λh=>⟨hr,h,e⟩⟩
      ·exact .inr λr hr e=>by
        rw[w,memL,mS']
        exact⟨λh z=>h.2 ⟨hr,z,e⟩,λh=>⟨⟨hr,e⟩,λz=>h z.2.1⟩⟩
     ·show(gsF gs' sh ds'.length).getD r 0=if r∈sh then ds'.length else gs'.getD r 0
      rw[Ae,jgz sh _ r _ (by rw[gw3.ps.gl];exact hr)]
      by_cases c:r∈sh
      ·rw[Ao c,Ao c];rfl
      ·rw[An c,An c,Ae]
    have ky4:Ky [pp,pg,pd] H53 H14:=ky.kp k14 λz hz=>by
     rcases Ap.mp hz with rfl|hz
     ·exact .inl (by simp)
     rcases Ap.mp hz with rfl|hz
     ·exact .inl (by simp)
     exact .inr (.inr (gw3.ps.isd hz))
    have g4:=sgk gw4
    obtain⟨xs,hxs,dp4⟩:=gw4.du
    have xl:xs.length=due'.length:=Il dp4
    have ml:=mul (p:=ds'.length-ds.length) (by omega)
    simp only[g4]
    refine⟨by rw[hxs];rfl,λD hD=>?_⟩
    refine jds (tkT ds'.length) (jk9 _) g4 hD (by simp;omega) (λj' y H1 Q' hy k1 q=>?_) λv zs H15 k15 hD15 pr=>?_
    ·have hp1:=k1.old _ _ gw4.ps.hp (by simp)
     simp! [hp1]
     rw[Ac,l4,show((ds'.length+1:Nat):Int)-1=(ds'.length:Int)by omega]
     exact⟨by omega,λt ht=>q _ _ ((Kp.refl [] H1).new ht) ⟨t,rfl,jb⟩⟩
    have dz:DuP H15 zs (allB ds'.length m):=jmx pr
    have zl:zs.length=m:=by rw[Il dz];simp[allB]
    have al:(allB ds'.length m).length=m:=by simp[allB]
    have gw5:=gw4.kp0 k15
    have hx15:=k15.old _ _ hxs Af
    dsimp only
    rw[hx15,hD15]
    refine⟨_,rfl,_,rfl,by omega,_,_,_,due'++allB ds'.length m,gw5.setd ((dp4.kp k15).app dz),(ky4.kp k15 (by simp)).kp ((Kp.refl [pd] H15).set hx15 (.inl (.head _))) (λz hz=>.inl (by simp at hz;simp[hz])),ci4,λq hq=>Oi _ (d1 q hq),λk' b h1 h2 h3=>?_,λk' b h=>?_,?_⟩
    ·rw[l4]at h2
     rw[Au,mem_allB]
     by_cases c:k'=ds'.length
     ·exact .inr ⟨c,h3⟩
     ·exact .inl (d2 k' b h1 (by omega) h3)
    ·rw[l4]
     rcases Au.mp h with h|h
     ·have:=d3 k' b h;omega
     ·have:=mem_allB.mp h;omega
    ·rw[l4,A1,al,show ds'.length+1-ds.length=(ds'.length-ds.length)+1 by omega,Y3]
     omega
  ·rintro σ H13 ⟨w7,ds',Ss',gs',due',rfl,gw3,ky,ci,d1,d2,d3,dl3⟩
   rw[Ac,List.drop_length]at ci
   have pt':=pt.task mok ci d1 d2 d3
   have pn:=gw3.le
   have pp':=ci.pp
   have e1:(mv.length-ds.length)*(m+1)=(mv.length-ds'.length)*(m+1)+(ds'.length-ds.length)*m+(ds'.length-ds.length):=by
    rw[show mv.length-ds.length=(mv.length-ds'.length)+(ds'.length-ds.length)by omega,Y3,Nat.mul_succ (ds'.length-ds.length) m];omega
   have e2:ds'.length*m=ds.length*m+(ds'.length-ds.length)*m:=by
    rw[<-Y3];congr 1;omega
   refine⟨(mv.length-ds'.length)*(m+1)+due'.length,?_,?_⟩
   ·rw[A1,List.length_cons,List.length_nil]
    omega
   ·rw[hW]
    exact⟨w7,some (.ref t),some (.ref pl),ds',Ss',gs',due',rfl,gw3,pt',by omega,rfl⟩
end
structure MG(G:Nat->Nat)(j:Nat)(fr:List Nat):Prop where
 lt:∀r∈fr,r<j
 inc:fr.Pairwise (λa b=>a<b)
 nd:(fr.map G).Nodup
 all:∀r,r<j->G r∈fr.map G
 fst:∀f∈fr,∀r,r<f->G r≠G f
theorem MG.nil(G:Nat->Nat):MG G 0 []:=⟨by simp,.nil,by simp,λr h=>by omega,by simp⟩
theorem MG.old{G:Nat->Nat}{j:Nat}{fr:List Nat}(h:MG G j fr)(m:G j∈fr.map G):MG G (j+1) fr :=
 ⟨λr hr=>Ut (h.lt r hr),h.inc,h.nd,λr hr=>by
  rcases Nat.lt_or_ge r j with c|c
  ·exact h.all r c
  ·rw[show r=j by omega];exact m,h.fst⟩
theorem MG.new{G:Nat->Nat}{j:Nat}{fr:List Nat}(h:MG G j fr)(m:G j∉fr.map G):MG G (j+1) (fr++[j]):=by
 refine⟨λr hr=>?_,?_,?_,λr hr=>?_,λf hf r hr e=>?_⟩
 ·rcases Au.mp hr with c|c
  ·exact Ut (h.lt r c)
  ·cases Aj.mp c;omega
 ·rw[Yz]
  exact⟨h.inc,by simp,λa ha b hb=>by cases Aj.mp hb;exact h.lt a ha⟩
 ·rw[A5,Os]
  exact⟨h.nd,by simp,λa ha b hb e=>m (by simp at hb;rw[<-hb,<-e];exact ha)⟩
 ·rw[A5,Au]
  rcases Nat.lt_or_ge r j with c|c
  ·exact .inl (h.all r c)
  ·exact .inr (by simp[show r=j by omega])
 ·rcases Au.mp hf with c|c
  ·exact h.fst f c r hr e
  ·cases Aj.mp c
   exact m (e▸h.all r hr)
structure Nmb(G:Nat->Nat)(fr:List Nat)(kvs:List (L2.Key×V)):Prop where
 num:∀x:Nat,valV kvs (.inl (x:Int))=if x∈fr.map G then some (nV ((fr.map G).idxOf x))else none
 kl:kvs.length<=fr.length
theorem Nmb.new{G:Nat->Nat}{fr:List Nat}{kvs:List (L2.Key×V)}(h:Nmb G fr kvs){j:Nat}(m:G j∉fr.map G):Nmb G (fr++[j]) (putK kvs (.inl (G j:Int)) (nV fr.length)):=by
 refine⟨λx=>?_,?_⟩
 ·rw[jlc,h.num,A5]
  by_cases c:x=G j
  ·subst c
   rw[Ao rfl,Ao (by simp),U8,An m]
   simp
  ·rw[An (by simpa using λz:(x:Int)=G j=>c (by omega))]
   by_cases hx:x∈fr.map G
   ·rw[Ao hx,Ao (Oi _ hx),U8,Ao hx]
   ·rw[An hx,An (λz=>(Au.mp z).elim hx (by simpa using c))]
 ·have:=jdf kvs (.inl (G j:Int)) (nV fr.length)
  have:=h.kl
  rw[A1,List.length_cons,List.length_nil]
  omega
def phi(G:Nat->Nat)(fr:List Nat)(r:Nat):Nat:=(fr.map G).idxOf (G r)
def phV(G:Nat->Nat)(fr:List Nat):V->V
 |.int i=>nV (phi G fr i.toNat)
 |v=>v
def mgR(mv:List (List Nat))(G:Nat->Nat)(fr:List Nat):List (List Nat):=fr.map λf=>(mv.getD f []).map (phi G fr)
def mgY(ys:List Bool)(fr:List Nat):List Bool:=fr.map λf=>ys.getD f false
def ysV(ys:List Bool):V->V
 |.int i=>.bl (ys.getD i.toNat false)
 |v=>v
def spMg:Sp:=λvs H Q _=>∃(pm py pg:Addr)(us:List V)(mv:List (List Nat))(m:Nat)(ys:List Bool)(gs:List Nat),vs=[.ref pm,.ref py,.ref pg]/\H pm=some (.tup us)/\RowsM H us mv/\MvOk mv m/\H py=some (.lst (ys.map V.bl))/\ys.length=mv.length/\H pg=some (.lst (gs.map nV))/\gs.length=mv.length/\1<=mv.length/\mv.length<=1000/\m<=1000 /\
 ∀(q a1 a2:Addr)(us':List V)(fr:List Nat)(H':Hp),MG (λr=>gs.getD r 0) mv.length fr->H' q=some (.tup [.ref a1,.ref a2])->H' a1=some (.tup us')->RowsM H' us' (mgR mv (λr=>gs.getD r 0) fr)->H' a2=some (.tup ((mgY ys fr).map V.bl))->Kp [] H H'->Q (.ref q) H'
structure TMg(mg:Str->Option Value):Prop where
 n_len:mg "len"=none
 n_tuple:mg "tuple"=none
 n_enumerate:mg "enumerate"=none
section
variable{P:Program}{w:World}{K:PySem.W.Frag}{mg:Str->Option Value}{base:Heap}
abbrev zo:Stmt:=top 9
theorem z6:FnScope ["moves","yes","groups","numbers","first_rooms","room","group","rows"] ["moves","yes","groups"] (jf zo):=⟨rfl,rfl,rfl,by decide +kernel,rfl,by decide +kernel,by decide +kernel⟩
theorem ok_merged{f:Addr}{fd:FuncData}(F:Fun K "merged" "merged" zo f fd)(T:TMg mg):FnOk P w K mg base CX0 1 f fd ["moves","yes","groups"] spMg:=by
 refine F.ok z6 (λvs H Q E h=>?_) (λcdv A outer s H vs Q E hr h=>?_)
 ·obtain⟨pm,py,pg,us,mv,m,ys,gs,rfl,_⟩:=h
  rfl
 ·obtain⟨pm,py,pg,us,mv,m,ys,gs,rfl,hm,rw',ok,hy,yl,hg,gl,n1,n9,m9,k⟩:=h
  have hu:=hr.units
  have hsz:sizeLine=16777216:=Ia
  have hu1:(A.deeper (PyProof.Rows.envOfC (Str.ofString "merged") (jf zo) s.heap.objs.size f cdv)).units+1<cLine:=by omega
  have ul:us.length=mv.length:=Il rw'
  have gat:∀r,r<mv.length->gs[r]?=some (gs.getD r 0):=λr hr=>(gG gl hr).mpr rfl
  generalize hG:(λr=>gs.getD r 0)=G at k
  have gat:∀r,r<mv.length->gs[r]?=some (G r):=λr hr=>by rw[<-hG];exact gat r hr
  refine exQ (jg (jq (i:=3) z6.nd rfl (by first|exact Or.inl rfl|exact Or.inr rfl) jbl)
  (jg (jq (i:=4) z6.nd rfl (by first|exact Or.inl rfl|exact Or.inr rfl) (yg jc))
  (jg (ym Ic rfl (qpi_enumF rfl T.n_enumerate (ja (qpv 2) jc)) (jaj (n:=2) rfl (yu (jo (i:=5) z6.nd rfl (by first|exact Or.inl rfl|exact Or.inr rfl)) (yu (jo (i:=6) z6.nd rfl (by first|exact Or.inl rfl|exact Or.inr rfl)) jad)) (K:=K) rfl) (jj (yt (jbg (jaw hu1 (qpv 6) (qpv 3)) (by with_unfolding_all rfl)) (jg (jbw hu1 (qpv 3) (qpv 6) (jw j4 (by rfl) T.n_len kj (ja (qpv 4) jc)) rfl)
  (jj (yh (yf Ij Ik yj (qpv 4) (ja (qpv 5) jc) jcj)))) ya)))
  (jg (jq (i:=7) z6.nd rfl (by first|exact Or.inl rfl|exact Or.inr rfl) (yg jc))
  (jg (ym Ic rfl (j9 (K:=K) (qpv 4) rfl) (jo (i:=5) z6.nd rfl (by first|exact Or.inl rfl|exact Or.inr rfl)) (jj (yh (yf Ij Ik yj (qpv 7) (ja (ju jx (by rfl) T.n_tuple j6 (ja (kc rfl (jcd (sc:=jf zo) (N:=["moves","yes","groups","numbers","first_rooms","room","group","rows"]) (Nc:=["target","numbers","groups"]) (js:=[none,some 3,some 2]) (by decide +kernel)) (j9 (K:=K) (jt ix_U (qpv 0) (qpv 5) (λ_ _=>rfl)) rfl) (λ_ _ _ _=>(jo (i:=0) (show List.Nodup [("target":Str),("numbers":Str),("groups":Str)]from by decide +kernel) rfl (by first|exact Or.inl rfl|exact Or.inr rfl))) (λ_ _ _ _=>(ja7 hu1 (qpv 1) (jt ix_U (qpv 2) (qpv 0) (λ_ _=>rfl)) (λ_ _=>rfl)))) jc)) jc) jcj))))
  (jj (j7 (y9 (ja (ju jx (by rfl) T.n_tuple j6 (ja (qpv 7) jc)) (ja (ju jx (by rfl) T.n_tuple j6 (ja (kc rfl (jcd (sc:=jf zo) (N:=["moves","yes","groups","numbers","first_rooms","room","group","rows"]) (Nc:=["room","yes"]) (js:=[none,some 1]) (by decide +kernel)) (j9 (K:=K) (qpv 4) rfl) (λ_ _ _ _=>(jo (i:=0) (show List.Nodup [("room":Str),("yes":Str)]from by decide +kernel) rfl (by first|exact Or.inl rfl|exact Or.inr rfl))) (λ_ _ _ _=>(jt ix_U (qpv 1) (qpv 0) (λ_ _=>rfl)))) jc)) jc)))))))))) ?_
  simp!
  intro pn hpn
  refine⟨by omega,λpf hpf=>?_⟩
  have nnf:pn≠pf:=je jb hpf
  have k0:Kp [] H (upd (upd H pn (.dK [])) pf (.lst [])):=((Kp.refl [] H).new hpn).new hpf
  have hpf0:H pf=none:=((Kp.refl [] H).new hpn).free hpf
  have g0:=k0.old _ _ hg Af
  refine⟨_,g0,?_⟩
  refine jq3 (xs:=gs.map nV) (λi σ H'=>∃(v5 v6:Option V)(fr:List Nat)(kvs:List (L2.Key×V)),σ=[some (.ref pm),some (.ref py),some (.ref pg),some (.ref pn),some (.ref pf),v5,v6,none]/\H' pn=some (.dK kvs)/\H' pf=some (.lst (fr.map nV))/\MG G i fr/\Nmb G fr kvs/\Kp [] H H') ?_ ?_ ?_ ?_
  ·exact⟨none,none,[],[],rfl,by rw[jd nnf,jb],jb,MG.nil G,⟨λx=>by simp[valV],Ak _⟩,k0⟩
  ·rintro i σ H' _ ⟨_,_,_,_,rfl,_,_,_,_,kp⟩
   exact kp.old _ _ hg Af
  ·rintro i x σ H1 tt hx ⟨v5,v6,fr,kvs,rfl,e1,e2,I,N,kp⟩ htt
   rw[Ag]at hx
   obtain⟨y,hy',rfl⟩:=A3.mp hx
   have hi:i<mv.length:=by have:=(Ad.mp hy').1;omega
   rw[gat i hi]at hy'
   cases hy'
   refine⟨tt,[.int (i:Int),nV (G i)],rfl,SqT.of jb,rfl,⟨_,_,rfl,⟨_,_,rfl,rfl,?_⟩⟩⟩
   have kT:Kp [] H1 (upd H1 tt (.tup [.int (i:Int),nV (G i)])):=(Kp.refl [] H1).new htt
   generalize upd H1 tt (.tup [.int (i:Int),nV (G i)])=H2 at kT⊢
   have e1:=kT.old _ _ e1 Af
   have e2:=kT.old _ _ e2 Af
   have kp:=kp.trans kT
   have frl:fr.length<=i:=by
    have:=jco (l:=fr) (zs:=List.range i) (I.inc.imp λh=>by omega) λr hr=>At.mpr (I.lt r hr)
    simpa using this
   have kl:=N.kl
   simp!
   refine⟨_,DGet.k (k:=.inl (G i:Int)) e1,?_⟩
   rw[N.num (G i)]
   by_cases c:G i∈fr.map G
   ·rw[Ao c]
    simp only[Option.isSome_some,Wn,A8,Of]
    exact⟨_,_,⟨rfl,rfl⟩,fr,kvs,e1,e2,I.old c,N,kp⟩
   ·rw[An c]
    simp only[Option.isSome_none,Y2,Oz,e2]
    refine⟨_,rfl,upd H2 pn (.dK (putK kvs (.inl (G i:Int)) (nV fr.length))),by rw[Ac];exact DPut.k (k:=.inl (G i:Int)) (v:=nV fr.length) e1 (by omega),?_⟩
    rw[jd nnf.symm,e2]
    refine⟨rfl,_,rfl,by rw[Ac];omega,_,_,⟨rfl,rfl⟩,fr++[i],_,by rw[jd nnf,jb],by rw[A5];rfl,I.new c,N.new c,?_⟩
    exact(jdq kp e1 (.inr hpn)).set (by rw[jd nnf.symm];exact e2) (.inr hpf0)
  ·rintro σ H1 ⟨v5,v6,fr,kvs,rfl,e1,e2,I,N,kp⟩
   rw[Ac,gl]at I
   simp!
   refine⟨by omega,λpr hpr=>?_⟩
   have frl:fr.length<=mv.length:=by
    have:=jco (l:=fr) (zs:=List.range mv.length) (I.inc.imp λh=>by omega) λr hr=>At.mpr (I.lt r hr)
    simpa using this
   have kR:Kp [] H1 (upd H1 pr (.lst [])):=(Kp.refl [] H1).new hpr
   have eR:upd H1 pr (.lst []) pr=some (.lst []):=jb
   have hpr0:H pr=none:=kp.free hpr
   have nrn:pn≠pr:=je e1 hpr
   have nrf:pf≠pr:=je e2 hpr
   generalize upd H1 pr (.lst [])=H2 at kR eR⊢
   have e1:=kR.old _ _ e1 Af
   have e2:=kR.old _ _ e2 Af
   have kp:=kp.trans kR
   simp only[e2]
   refine jc9 (xs:=fr.map nV) (λj σ H'=>∃(v5:Option V)(rs:List V),σ=[some (.ref pm),some (.ref py),some (.ref pg),some (.ref pn),some (.ref pf),v5,v6,some (.ref pr)]/\H' pr=some (.lst rs)/\RowsM H' rs ((fr.take j).map λf=>(mv.getD f []).map (phi G fr))/\H' pn=some (.dK kvs)/\H' pf=some (.lst (fr.map nV))/\Kp [] H H') ?_ ?_ ?_ ?_
   ·exact⟨v5,[],rfl,eR,.nil,e1,e2,kp⟩
   ·rintro j σ H' _ ⟨_,_,rfl,_,_,_,h,_⟩
    exact h
   ·rintro j x σ H3 hx ⟨v5,rs,rfl,r3,R3,n3,f3,kp3⟩
    rw[Ag]at hx
    obtain⟨fj,hf,rfl⟩:=A3.mp hx
    have fl:=I.lt fj (Al hf)
    obtain⟨c,hc,hcr⟩:=(rw'.kp kp3).get (show mv[fj]?=some (mv.getD fj [])by rw[Ae,Aa fl];rfl)
    have rm:mv.getD fj []∈mv:=by rw[Ae,Aa fl];exact A7 _
    have rl:=ok.ln _ rm
    have rlt:=ok.lt _ rm
    have hm3:=kp3.tup _ _ hm
    have rsl:rs.length=j:=by
     rw[Il R3,Ac,Oe]
     have:=(Ad.mp hf).1
     omega
    have jl:=(Ad.mp hf).1
    simp! [r3]
    unfold nV
    rw[jch,hm3]
    refine⟨_,rfl,.ref c,jce hc,?_⟩
    simp only[hcr]
    intro D hD
    have nDn:pn≠D:=je n3 hD
    have g3:=kp3.old _ _ hg Af
    have nDg:pg≠D:=je g3 hD
    refine jc5 (phV G fr) hcr hD (by rw[Ac];omega) (λx hx l Q' q=>?_) λvv=>?_
    ·obtain⟨t,ht,rfl⟩:=Am.mp hx
     have tl:=rlt t ht
     simp!
     rw[show nV t=V.int (t:Int)from rfl,jch,jd nDg,g3]
     refine⟨_,rfl,nV (G t),jce (by rw[Ag,gat t tl];rfl),nV (phi G fr t),.inl ⟨kvs,.inl (G t:Int),.inl (by rw[jd nDn];exact n3),rfl,?_⟩,q⟩
     rw[N.num (G t),Ao (I.all t tl)];rfl
    dsimp only
    refine jcf jb λl hl=>?_
    have k4:Kp [] H3 (upd (upd H3 D (.lst (((mv.getD fj []).map nV).map (phV G fr)))) l (.tup (((mv.getD fj []).map nV).map (phV G fr)))):=((Kp.refl [] H3).new hD).new hl
    have l4:upd (upd H3 D (.lst (((mv.getD fj []).map nV).map (phV G fr)))) l (.tup (((mv.getD fj []).map nV).map (phV G fr))) l=some (.tup (((mv.getD fj []).map (phi G fr)).map nV)):=by
     rw[jb,Ax,Ax]
     rfl
    generalize upd (upd H3 D (.lst (((mv.getD fj []).map nV).map (phV G fr)))) l (.tup (((mv.getD fj []).map nV).map (phV G fr)))=H4 at k4 l4⊢
    have r4:=k4.old _ _ r3 Af
    have k5:Kp [pr] H4 (upd H4 pr (.lst (rs++[.ref l]))):=(Kp.refl [pr] H4).set r4 (.inl (.head _))
    refine⟨rs,by rw[r4];rfl,by omega,?_,by rw[jd nrn];exact k4.old _ _ n3 Af,by rw[jd nrf];exact k4.old _ _ f3 Af,(kp3.trans k4).set r4 (.inr hpr0)⟩
    rw[Oa,hf,A5]
    exact Yk ((R3.kp k4).kp k5) ⟨l,rfl,k5.tup _ _ l4⟩
   ·rintro σ H3 ⟨v5,rs,rfl,r3,R3,n3,f3,kp3⟩
    rw[Ac,Ii]at R3
    simp!
    refine jcf r3 λa1 ha1=>?_
    have k4:Kp [] H3 (upd H3 a1 (.tup rs)):=(Kp.refl [] H3).new ha1
    have e4:upd H3 a1 (.tup rs) a1=some (.tup rs):=jb
    generalize upd H3 a1 (.tup rs)=H4 at k4 e4⊢
    have f4:=k4.old _ _ f3 Af
    simp only[f4]
    intro D hD
    have y4:=(kp3.trans k4).old _ _ hy Af
    have nDy:py≠D:=je y4 hD
    refine jd0 (ysV ys) f4 hD (by rw[Ac];omega) (λx hx l Q' q=>?_) λvv=>?_
    ·obtain⟨t,ht,rfl⟩:=Am.mp hx
     have tl:=I.lt t ht
     simp!
     rw[show nV t=V.int (t:Int)from rfl,jch,jd nDy,y4]
     exact⟨_,rfl,.bl (ys.getD t false),jce (by rw[Ag,Ae,Aa (by omega)];rfl),q⟩
    dsimp only
    refine jcf jb λa2 ha2=>⟨by omega,λq hq=>?_⟩
    have k5:Kp [] H4 (upd (upd H4 D (.lst ((fr.map nV).map (ysV ys)))) a2 (.tup ((fr.map nV).map (ysV ys)))):=((Kp.refl [] H4).new hD).new ha2
    have e5:upd (upd H4 D (.lst ((fr.map nV).map (ysV ys)))) a2 (.tup ((fr.map nV).map (ysV ys))) a2=some (.tup ((mgY ys fr).map V.bl)):=by
     rw[jb,Ax]
     unfold mgY
     rw[Ax]
     rfl
    generalize upd (upd H4 D (.lst ((fr.map nV).map (ysV ys)))) a2 (.tup ((fr.map nV).map (ysV ys)))=H5 at k5 e5 hq⊢
    have k6:Kp [] H5 (upd H5 q (.tup [.ref a1,.ref a2])):=(Kp.refl [] H5).new hq
    exact k q a1 a2 rs fr _ I jb (k6.tup _ _ (k5.tup _ _ e4)) (((R3.kp k4).kp k5).kp k6) (k6.tup _ _ e5) (((kp3.trans k4).trans k5).trans k6)
end
def cu1(g:Nat->Nat->Nat)(r:Nat)(rs:List Nat)(a:Nat):List Nat:=if g r a∈rs then rs else rs++[g r a]
def cuR(g:Nat->Nat->Nat)(r a:Nat)(rs:List Nat):List Nat:=(List.range a).foldl (cu1 g r) rs
inductive Bf (g:Nat->Nat->Nat) (m first:Nat):Nat->List Nat->Prop
 |z:Bf g m first 0 [first]
 |s {j:Nat}{rs:List Nat}{r:Nat}:Bf g m first j rs->rs[j]?=some r->Bf g m first (j+1) (cuR g r m rs)
theorem jc6(g:Nat->Nat->Nat)(r a:Nat)(rs:List Nat):cuR g r (a+1) rs=cu1 g r (cuR g r a rs) a:=by
 unfold cuR
 rw[Uq,Uf];rfl
theorem jhu(g:Nat->Nat->Nat)(r:Nat)(rs:List Nat)(a:Nat):∃t,cu1 g r rs a=rs++t:=by
 unfold cu1
 split
 ·exact⟨[],by simp⟩
 ·exact⟨_,rfl⟩
theorem jfo(g:Nat->Nat->Nat)(r:Nat)(rs:List Nat):∀a,∃t,cuR g r a rs=rs++t
 |0=>⟨[],by simp[cuR]⟩
 |a+1=>by
  obtain⟨t,e⟩:=jfo g r rs a
  obtain⟨t2,e2⟩:=jhu g r (cuR g r a rs) a
  exact⟨t++t2,by rw[jc6,e2,e,U5]⟩
theorem jqj(g:Nat->Nat->Nat)(r:Nat)(rs:List Nat)(a:Nat):g r a∈cu1 g r rs a:=by
 unfold cu1
 split
 ·assumption
 ·simp
theorem jfn(g:Nat->Nat->Nat)(r:Nat)(rs:List Nat):∀a b,b<a->g r b∈cuR g r a rs
 |0,b,h=>by omega
 |a+1,b,h=>by
  rw[jc6]
  by_cases c:b=a
  ·subst c;exact jqj g r _ b
  ·obtain⟨t,e⟩:=jhu g r (cuR g r a rs) a
   rw[e]
   exact Oi _ (jfn g r rs a b (by omega))
theorem ixa{x:Nat}{rs t:List Nat}(h:x∈rs):(rs++t).idxOf x=rs.idxOf x:=by rw[U8,Ao h]
structure BI(g:Nat->Nat->Nat)(m n first j:Nat)(rs:List Nat):Prop where
 nd:rs.Nodup
 lt:∀r∈rs,r<n
 z:rs[0]?=some first
 cl:∀r∈rs.take j,∀a,a<m->g r a∈rs
 jl:j<=rs.length
 rc:∀r∈rs,∃w:List Nat,(∀a∈w,a<m)/\w.foldl g first=r
theorem jrm{g:Nat->Nat->Nat}{r a:Nat}{rs:List Nat}(h:rs.Nodup):(cu1 g r rs a).Nodup:=by
 unfold cu1
 split
 ·exact h
 ·rename_i c
  rw[Os]
  exact⟨h,by simp,λx hx y hy e=>c ((e.trans (Aj.mp hy))▸hx)⟩
theorem jgt{g:Nat->Nat->Nat}{r:Nat}{rs:List Nat}(h:rs.Nodup):∀a,(cuR g r a rs).Nodup
 |0=>h
 |a+1=>by rw[jc6];exact jrm (jgt h a)
theorem jd8{g:Nat->Nat->Nat}{r:Nat}{rs:List Nat}:∀a x,x∈cuR g r a rs->x∈rs\/∃b,b<a/\x=g r b
 |0,x,h=>.inl h
 |a+1,x,h=>by
  rw[jc6]at h
  have:x∈cuR g r a rs\/x=g r a:=by
   unfold cu1 at h
   split at h
   ·exact .inl h
   ·rcases Au.mp h with h|h
    ·exact .inl h
    ·exact .inr (Aj.mp h)
  rcases this with h|h
  ·rcases jd8 a x h with h|⟨b,h1,h2⟩
   ·exact .inl h
   ·exact .inr ⟨b,by omega,h2⟩
  ·exact .inr ⟨a,by omega,h⟩
theorem Bf.inv{g:Nat->Nat->Nat}{m n first:Nat}(f0:first<n)(gl:∀r a,r<n->a<m->g r a<n){j:Nat}{rs:List Nat}(h:Bf g m first j rs):BI g m n first j rs:=by
 induction h with
 |z=>exact⟨by simp,by simpa using f0,rfl,by simp,by simp,λr hr=>⟨[],by simp,by simp at hr;exact hr.symm⟩⟩
 |@s j rs r _ hr ih =>
  obtain⟨t,e⟩:=jfo g r rs m
  have rm:=Al hr
  have jl:=(Ad.mp hr).1
  refine⟨jgt ih.nd m,λx hx=>?_,?_,λx hx a ha=>?_,?_,λx hx=>?_⟩
  ·rcases jd8 m x hx with h|⟨b,h1,h2⟩
   ·exact ih.lt x h
   ·rw[h2];exact gl r b (ih.lt r rm) h1
  ·rw[e,Ig (by omega)];exact ih.z
  ·rw[e,Uv (by omega),Oa,hr]at hx
   rcases Au.mp hx with h|h
   ·rw[e];exact Oi _ (ih.cl x h a ha)
   ·simp at h;subst h
    exact jfn g x rs m a ha
  ·rw[e,A1];omega
  ·rcases jd8 m x hx with h|⟨b,h1,h2⟩
   ·exact ih.rc x h
   ·obtain⟨w,hw,ew⟩:=ih.rc r rm
    refine⟨w++[b],λa ha=>?_,by rw[Uf,ew,h2];rfl⟩
    rcases Au.mp ha with h|h
    ·exact hw a h
    ·cases Aj.mp h;exact h1
structure NmI(rs:List Nat)(kvs:List (L2.Key×V)):Prop where
 num:∀x:Nat,valV kvs (.inl (x:Int))=if x∈rs then some (nV (rs.idxOf x))else none
 kl:kvs.length<=rs.length
theorem NmI.new{rs:List Nat}{kvs:List (L2.Key×V)}(h:NmI rs kvs){y:Nat}(m:y∉rs):NmI (rs++[y]) (putK kvs (.inl (y:Int)) (nV rs.length)):=by
 refine⟨λx=>?_,?_⟩
 ·rw[jlc,h.num]
  by_cases c:x=y
  ·subst c
   rw[Ao rfl,Ao (by simp),U8,An m]
   simp
  ·rw[An (by simpa using λz:(x:Int)=y=>c (by omega))]
   by_cases hx:x∈rs
   ·rw[Ao hx,Ao (Oi _ hx),ixa hx]
   ·rw[An hx,An (λz=>(Au.mp z).elim hx (by simpa using c))]
 ·have:=jdf kvs (.inl (y:Int)) (nV rs.length)
  have:=h.kl
  rw[A1,List.length_cons,List.length_nil]
  omega
def cuM(g:Nat->Nat->Nat)(m:Nat)(rs:List Nat):List (List Nat):=rs.map λr=>(List.range m).map λa=>rs.idxOf (g r a)
def spS(g:Nat->Nat->Nat)(n m:Nat)(R:Hp->Prop):Sp:=λvs H Q _=>∃r a:Nat,vs=[.int (r:Int),.int (a:Int)]/\r<n/\a<m/\R H/\∀H',Kp [] H H'->Q (.int (g r a:Nat)) H'
structure Lg(P:Program)(w:World)(K:PySem.W.Frag)(mg:Str->Option Value)(base:Heap)(fp:Addr)(o:Obj)(fd:FuncData)(psp:List Str)(g:Nat->Nat->Nat)(n m:Nat)(R:Hp->Prop):Prop where
 dat:o.data=.func fd
 fn:FnOk P w K mg base CX0 3 fp fd psp (spS g n m R)
 bi:Binds K fd psp []
 at_:∀H,R H->H fp=some (FZ o)
 kr:∀H H',Kp [] H H'->R H->R H'
def spCU(P:Program)(w:World)(K:PySem.W.Frag)(mg:Str->Option Value)(base:Heap):Sp:=λvs H Q _=>∃(fp:Addr)(o:Obj)(fd:FuncData)(psp:List Str)(g:Nat->Nat->Nat)(n m first:Nat)(R:Hp->Prop),Lg P w K mg base fp o fd psp g n m R/\R H/\vs=[.int (first:Int),.int (m:Int),.ref fp,.non,.int 0]/\first<n/\n<=1000/\m<=1000/\(∀r a,r<n->a<m->g r a<n) /\
 ∀(q a1 a2:Addr)(us':List V)(rs:List Nat)(H':Hp),Bf g m first rs.length rs->H' q=some (.tup [.ref a1,.ref a2])->H' a1=some (.lst (rs.map nV))->H' a2=some (.tup us')->RowsM H' us' (cuM g m rs)->Kp [] H H'->Q (.ref q) H'
structure TCU(mg:Str->Option Value):Prop where
 n_len:mg "len"=none
 n_tuple:mg "tuple"=none
 n_range:mg "range"=none
section
variable{P:Program}{w:World}{K:PySem.W.Frag}{mg:Str->Option Value}{base:Heap}
abbrev zt:Stmt:=top 5
theorem zn:FnScope ["first","signs","step","most","at","numbers","rooms","moves","room","row","sign","target"] ["first","signs","step","most","at"] (jf zt):=⟨rfl,rfl,rfl,by decide +kernel,rfl,by decide +kernel,by decide +kernel⟩
theorem ok_come_up{f td:Addr}{fd:FuncData}(F:FunD K "come_up" "come_up" zt f fd td)(T:TCU mg):FnOk P w K mg base CX0 4 f fd ["first","signs","step","most","at"] (spCU P w K mg base):=by
 refine F.ok zn (λvs H Q E h=>?_) (λcdv A outer s H vs Q E hr h=>?_)
 ·obtain⟨fp,o,fd,psp,g,n,m,first,R,_,_,rfl,_⟩:=h
  rfl
 ·obtain⟨fp,o,fd',psp,g,n,m,first,R,L,hR,rfl,f0,n9,m9,gl,k⟩:=h
  have hu:=hr.units
  have hsz:sizeLine=16777216:=Ia
  have hu1:(A.deeper (PyProof.Rows.envOfC (Str.ofString "come_up") (jf zt) s.heap.objs.size f cdv)).units+1<cLine:=by omega
  refine exQ (jg (jq (i:=5) zn.nd rfl (by first|exact Or.inl rfl|exact Or.inr rfl) (qpe_disp (qpps_cons (qpv 0) jh qpps_nil)))
  (jg (jq (i:=6) zn.nd rfl (by first|exact Or.inl rfl|exact Or.inr rfl) (yg (ja (qpv 0) jc)))
  (jg (jq (i:=7) zn.nd rfl (by first|exact Or.inl rfl|exact Or.inr rfl) (yg jc))
  (jg (jap Ic (ku jas (jw j4 (by rfl) T.n_len kj (ja (qpv 7) jc)) (jw j4 (by rfl) T.n_len kj (ja (qpv 6) jc)) (yb _)) (jg (jq (i:=8) zn.nd rfl (by first|exact Or.inl rfl|exact Or.inr rfl) (jt ix_U (qpv 6) (jw j4 (by rfl) T.n_len kj (ja (qpv 7) jc)) (λ_ _=>rfl)))
  (jg (jq (i:=9) zn.nd rfl (by first|exact Or.inl rfl|exact Or.inr rfl) (yg jc))
  (jg (ym Ic rfl (kg rfl T.n_range (ja (qpv 1) jc)) (jo (i:=10) zn.nd rfl (by first|exact Or.inl rfl|exact Or.inr rfl)) (jg (jq (i:=11) zn.nd rfl (by first|exact Or.inl rfl|exact Or.inr rfl) (qpe_callD (P:=P) (w:=w) (K:=K) (mg:=mg) (base:=base) (k:=3) rfl rfl rfl rfl rfl 2 (hr.mono (by decide)) (ja (qpv 8) (ja (qpv 10) jc))))
  (kn (yt (jbg (jaw hu1 (qpv 11) (qpv 5)) (by with_unfolding_all rfl)) (kn (yt (ku (zc hu) (jw j4 (by rfl) T.n_len kj (ja (qpv 6) jc)) (qpv 3) (yb _)) (jj jbm) ya)
  (jg (jbw hu1 (qpv 5) (qpv 11) (jw j4 (by rfl) T.n_len kj (ja (qpv 6) jc)) rfl)
  (jj (yh (yf Ij Ik yj (qpv 6) (ja (qpv 11) jc) jcj))))) ya)
  (jj (yh (yf Ij Ik yj (qpv 9) (ja (ja7 hu1 (qpv 5) (qpv 11) (λ_ _=>rfl)) jc) jcj))))))
  (jj (yh (yf Ij Ik yj (qpv 7) (ja (ju jx (by rfl) T.n_tuple j6 (ja (qpv 9) jc)) jc) jcj)))))))
  (jj (j7 (y9 (ja (qpv 6) (ja (ju jx (by rfl) T.n_tuple j6 (ja (qpv 7) jc)) jc))))))))) ?_
  simp!
  intro pn hpn
  refine⟨[(.inl (first:Int),.int 0)],rfl,by simp,by omega,λpr hpr=>⟨by omega,λpv hpv=>?_⟩⟩
  have nnr:pn≠pr:=je jb hpr
  have nnv:pn≠pv:=je (by rw[jd nnr,jb]) hpv
  have nrv:pr≠pv:=je jb hpv
  have k0:=(((Kp.refl [] H).new (o:=.dK (jeb [] [(.inl (first:Int),.int 0)])) hpn).new (o:=.lst [.int (first:Int)]) hpr).new (o:=.lst []) hpv
  have hpr0:H pr=none:=((Kp.refl [] H).new hpn).free hpr
  have hpv0:H pv=none:=(((Kp.refl [] H).new hpn).new hpr).free hpv
  obtain⟨W,hW⟩:∃W:Nat->L2.St->Hp->Prop,W=λμ σ H'=>∃(rs:List Nat)(kvs:List (L2.Key×V))(us:List V)(j:Nat)(v8 v9 v10 v11:Option V),σ=[some (.int (first:Int)),some (.int (m:Int)),some (.ref fp),some .non,some (.int 0),some (.ref pn),some (.ref pr),some (.ref pv),v8,v9,v10,v11]/\Bf g m first j rs/\NmI rs kvs/\H' pn=some (.dK kvs)/\H' pr=some (.lst (rs.map nV))/\H' pv=some (.lst us)/\us.length=j/\RowsM H' us ((rs.take j).map λr=>(List.range m).map λa=>rs.idxOf (g r a))/\Kp [] H H'/\μ=n-j:=⟨_,rfl⟩
  refine⟨W,?_,?_⟩
  ·have n0:NmI [first] (jeb [] [(.inl (first:Int),.int 0)]):=NmI.new (rs:=[]) (kvs:=[]) ⟨λx=>by simp[valV],Ak _⟩ (y:=first) (by simp)
   rw[hW]
   exact⟨_,[first],_,[],0,none,none,none,none,rfl,.z,n0,by rw[jd nnv,jd nnr,jb],by rw[jd nrv,jb];rfl,jb,rfl,.nil,k0,rfl⟩
  intro μ σ H1 hw
  rw[hW]at hw
  obtain⟨rs,kvs,us,j,v8,v9,v10,v11,rfl,bf,N,e1,e2,e3,ul,R1,kp,rfl⟩:=hw
  have bi:=bf.inv f0 gl
  have rl:rs.length<=n:=jde bi.nd bi.lt
  have jl:=bi.jl
  simp! [e2,e3]
  rw[Ac,ul]
  by_cases c:j<rs.length
  ·rw[Ao (by simpa using c)]
   have er:rs[j]?=some (rs[j]):=Aa c
   generalize rs[j]=r at er
   have rn:=bi.lt r (Al er)
   refine⟨_,λ_ _ h=>h,nV r,jce (by rw[Ag,er];rfl),by omega,λpw hpw=>⟨by omega,by omega,?_⟩⟩
   rw[show((m:Int)).toNat=m by omega]
   have nnw:pn≠pw:=je e1 hpw
   have nrw:pr≠pw:=je e2 hpw
   have nvw:pv≠pw:=je e3 hpw
   have hpw0:H pw=none:=kp.free hpw
   have kw:Kp [] H1 (upd H1 pw (.lst [])):=(Kp.refl [] H1).new hpw
   refine jcm (λa σ H'=>∃(kvs:List (L2.Key×V))(v10 v11:Option V),σ=[some (.int (first:Int)),some (.int (m:Int)),some (.ref fp),some .non,some (.int 0),some (.ref pn),some (.ref pr),some (.ref pv),some (nV r),some (.ref pw),v10,v11]/\NmI (cuR g r a rs) kvs/\H' pn=some (.dK kvs)/\H' pr=some (.lst ((cuR g r a rs).map nV))/\H' pv=some (.lst us)/\H' pw=some (.lst ((List.range a).map λb=>nV ((cuR g r a rs).idxOf (g r b))))/\RowsM H' us ((rs.take j).map λr=>(List.range m).map λa=>rs.idxOf (g r a))/\Kp [] H H') ?_ ?_ ?_
   ·exact⟨kvs,v10,v11,rfl,N,kw.old _ _ e1 Af,kw.old _ _ e2 Af,kw.old _ _ e3 Af,jb,R1.kp kw,kp.trans kw⟩
   ·rintro a σ H2 ha ⟨kvs,v10,v11,rfl,N,e1,e2,e3,e4,R1,kp⟩
    have cl:(cuR g r a rs).length<=n:=jde (jgt bi.nd a) λx hx=>by
     rcases jd8 a x hx with h|⟨b,h1,h2⟩
     ·exact bi.lt x h
     ·rw[h2];exact gl r b rn (by omega)
    simp!
    rw[Op]
    refine⟨o,fd',L.dat,psp,spS g n m R,L.fn,L.bi,L.at_ _ (L.kr _ _ kp hR),r,a,rfl,rn,ha,L.kr _ _ kp hR,λH3 k3=>?_⟩
    have e1:=k3.old _ _ e1 Af
    have e2:=k3.old _ _ e2 Af
    have e3:=k3.old _ _ e3 Af
    have e4:=k3.old _ _ e4 Af
    have R1:=R1.kp k3
    have kp:=kp.trans k3
    have kl:=N.kl
    clear k3
    refine⟨λσ' H'=>∃(kvs:List (L2.Key×V)),σ'=[some (.int (first:Int)),some (.int (m:Int)),some (.ref fp),some .non,some (.int 0),some (.ref pn),some (.ref pr),some (.ref pv),some (nV r),some (.ref pw),some (.int (a:Int)),some (.int (g r a:Nat))]/\NmI (cuR g r (a+1) rs) kvs/\H' pn=some (.dK kvs)/\H' pr=some (.lst ((cuR g r (a+1) rs).map nV))/\H' pv=some (.lst us)/\H' pw=some (.lst ((List.range a).map λb=>nV ((cuR g r a rs).idxOf (g r b))))/\RowsM H' us ((rs.take j).map λr=>(List.range m).map λa=>rs.idxOf (g r a))/\Kp [] H H',?_,?_⟩
    ·simp!
     refine⟨_,DGet.k (k:=.inl (g r a:Int)) e1,?_⟩
     rw[N.num (g r a),jc6]
     unfold cu1
     by_cases c:g r a∈cuR g r a rs
     ·rw[Ao c,Ao c]
      simp only[Option.isSome_some,Wn,A8,Of]
      exact⟨kvs,N,e1,e2,e3,e4,R1,kp⟩
     ·rw[An c,An c]
      simp only[Option.isSome_none,Y2,Oz]
      refine⟨λσ' H'=>σ'=[some (.int (first:Int)),some (.int (m:Int)),some (.ref fp),some .non,some (.int 0),some (.ref pn),some (.ref pr),some (.ref pv),some (nV r),some (.ref pw),some (.int (a:Int)),some (.int (g r a:Nat))]/\H3=H',?_,?_⟩
      ·simp! [e2]
       refine⟨rfl,_,rfl,?_⟩
       rw[An (by simp)]
      rintro _ _ ⟨rfl,rfl⟩
      simp! [e2]
      have e2p:upd H3 pn (.dK (putK kvs (.inl (g r a:Int)) (nV (cuR g r a rs).length))) pr=some (.lst ((cuR g r a rs).map nV)):=by rw[jd nnr.symm];exact e2
      have kq:Kp [pn] H3 (upd H3 pn (.dK (putK kvs (.inl (g r a:Int)) (nV (cuR g r a rs).length)))):=jdq (Kp.refl [pn] H3) e1 (.inl (by simp))
      have kq2:Kp [pr] (upd H3 pn (.dK (putK kvs (.inl (g r a:Int)) (nV (cuR g r a rs).length)))) (upd (upd H3 pn (.dK (putK kvs (.inl (g r a:Int)) (nV (cuR g r a rs).length)))) pr (.lst ((cuR g r a rs).map nV++[.int (g r a:Nat)]))):=(Kp.refl [pr] _).set e2p (.inl (.head _))
      refine⟨upd H3 pn (.dK (putK kvs (.inl (g r a:Int)) (nV (cuR g r a rs).length))),by rw[Ac];exact DPut.k (k:=.inl (g r a:Int)) (v:=nV (cuR g r a rs).length) e1 (by omega),by rw[e2p];rfl,_,by rw[e2p];rfl,by rw[Ac];omega,_,N.new c,by rw[jd nnr,jb],by rw[A5];rfl,?_,?_,(R1.kp kq).kp kq2,(jdq kp e1 (.inr hpn)).set e2p (.inr hpr0)⟩
      ·rw[jd nrv.symm,jd nnv.symm];exact e3
      ·rw[jd nrw.symm,jd nnw.symm];exact e4
    rintro _ H4 ⟨kvs,rfl,N,e1,e2,e3,e4,R1,kp⟩
    simp! [e4]
    have kw4:∀x,Kp [pw] H4 (upd H4 pw (.lst ((List.range a).map (λb=>nV ((cuR g r a rs).idxOf (g r b)))++[x]))):=λx=>(Kp.refl [pw] H4).set e4 (.inl (.head _))
    refine⟨nV ((cuR g r (a+1) rs).idxOf (g r a)),.inl ⟨kvs,.inl (g r a:Int),.inl e1,rfl,?_⟩,by rw[Ac,Az];omega,kvs,_,_,⟨rfl,rfl⟩,N,by rw[jd nnw];exact e1,by rw[jd nrw];exact e2,by rw[jd nvw];exact e3,?_,R1.kp (kw4 _),kp.set e4 (.inr hpw0)⟩
    ·rw[N.num,Ao (jfn g r rs (a+1) a (by omega))]
    ·rw[Uq,A5]
     congr 1
     refine Ih λb hb=>?_
     obtain⟨t,et⟩:=jhu g r (cuR g r a rs) a
     rw[jc6,et,ixa (jfn g r rs a b (At.mp hb))]
   ·rintro σ H2 ⟨kvs,v10,v11,rfl,N,e1,e2,e3,e4,R2,kp⟩
    simp!
    refine⟨by rw[e3];rfl,?_⟩
    refine jcf e4 λl hl=>?_
    have kl:Kp [] H2 (upd H2 l (.tup ((List.range m).map λb=>nV ((cuR g r m rs).idxOf (g r b))))):=(Kp.refl [] H2).new hl
    have el:upd H2 l (.tup ((List.range m).map λb=>nV ((cuR g r m rs).idxOf (g r b)))) l=some (.tup (((List.range m).map λb=>(cuR g r m rs).idxOf (g r b)).map nV)):=by rw[jb,Ax];rfl
    generalize upd H2 l (.tup ((List.range m).map λb=>nV ((cuR g r m rs).idxOf (g r b))))=H3 at kl el⊢
    have e33:=kl.old _ _ e3 Af
    have kv:Kp [pv] H3 (upd H3 pv (.lst (us++[.ref l]))):=(Kp.refl [pv] H3).set e33 (.inl (.head _))
    refine⟨us,by rw[e33];rfl,by omega,n-(j+1),by omega,?_⟩
    rw[hW]
    refine⟨cuR g r m rs,kvs,us++[.ref l],j+1,_,_,_,_,rfl,.s bf er,N,by rw[jd nnv];exact kl.old _ _ e1 Af,by rw[jd nrv];exact kl.old _ _ e2 Af,jb,by simp[ul],?_,(kp.trans kl).set e33 (.inr hpv0),rfl⟩
    obtain⟨t,et⟩:=jfo g r rs m
    have e5:(cuR g r m rs).take (j+1)=rs.take j++[r]:=by rw[et,Uv (by omega),Oa,er];rfl
    rw[e5,A5]
    have e6:(rs.take j).map (λr'=>(List.range m).map λa=>(cuR g r m rs).idxOf (g r' a))=(rs.take j).map λr'=>(List.range m).map λa=>rs.idxOf (g r' a):=Ih λx hx=>Ih λa ha=>by
     rw[et,ixa (bi.cl x hx a (At.mp ha))]
    rw[e6]
    exact Yk ((R2.kp kl).kp kv) ⟨l,rfl,kv.tup _ _ el⟩
  ·have ej:j=rs.length:=by omega
   subst ej
   rw[An (by simpa using c)]
   refine jcf e3 λa2 ha2=>⟨by omega,λq hq=>?_⟩
   rw[Ii]at R1
   have k2:Kp [] H1 (upd H1 a2 (.tup us)):=(Kp.refl [] H1).new ha2
   have k3:Kp [] (upd H1 a2 (.tup us)) (upd (upd H1 a2 (.tup us)) q (.tup [.ref pr,.ref a2])):=(Kp.refl [] _).new hq
   exact k q pr a2 us rs _ bf jb (k3.old _ _ (k2.old _ _ e2 Af) (by simp)) (k3.tup _ _ jb) ((R1.kp k2).kp k3) ((kp.trans k2).trans k3)
end
abbrev LQ:Str:="least_from"++".<locals>."++"<lambda>"
structure TLm(P:Program)(w:World)(K:PySem.W.Frag)(mg:Str->Option Value)(base:Heap)(fcu fmg fgr c Pt:Addr)(pm:Value):Prop where
 n_len:mg "len"=none
 m17z:mg "come_up"=some (.ref fcu)
 m22z:mg "merged"=some (.ref fmg)
 m18z:mg "groups_of_rooms"=some (.ref fgr)
 pm:(mg "__name__").getD .none=pm
 hd:PySem.W.CodeHd base c Pt
 bl:base.BuiltinsAt mg Pt
structure LS(mv:List (List Nat))(m:Nat)(ys:List Bool)(first:Nat)(mv':List (List Nat))(ys':List Bool)(rs:List Nat)(G:Nat->Nat)(fr:List Nat):Prop where
 bf:Bf (dM mv) m first rs.length rs
 gr:∀r s,r<rs.length->s<rs.length->(G r=G s↔(mcOf (cuM (dM mv) m rs) m (rs.map λr=>ys.getD r false)).eq r s)
 mg:MG G rs.length fr
 em:mv'=mgR (cuM (dM mv) m rs) G fr
 ey:ys'=mgY (rs.map λr=>ys.getD r false) fr
theorem jrx{Pt:Addr}{H H':Hp}{p:Addr}{xs:List V}(k:Kp [Pt] H H')(tb:TabOk H Pt LQ)(h:jc8 (H p)=some xs):∃o,H' p=some o/\jc8 (some o)=some xs:=by
 cases e:H p with
 |none=>rw[e]at h;cases h
 |some o =>
  refine⟨o,k.old _ _ e λm=>?_,by rw[<-e];exact h⟩
  obtain⟨tps,hPt,_⟩:=id tb
  rw[Aj.mp m,hPt]at h
  cases h
def spLm(Pt:Addr):Sp:=λvs H Q _=>∃(pm py:Addr)(us:List V)(mv:List (List Nat))(m first:Nat)(ys:List Bool),vs=[.ref pm,.ref py,.int (first:Int)]/\H pm=some (.tup us)/\RowsM H us mv/\MvOk mv m/\jc8 (H py)=some (ys.map V.bl)/\ys.length=mv.length/\first<mv.length/\mv.length<=1000/\m<=1000/\TabOk H Pt LQ /\
 ∀(q a1 a2:Addr)(us':List V)(mv':List (List Nat))(ys':List Bool)(rs:List Nat)(G:Nat->Nat)(fr:List Nat)(H':Hp),LS mv m ys first mv' ys' rs G fr->H' q=some (.tup [.ref a1,.ref a2])->H' a1=some (.tup us')->RowsM H' us' mv'->H' a2=some (.tup (ys'.map V.bl))->Kp [Pt] H H'->TabOk H' Pt LQ->Q (.ref q) H'
section
variable{P:Program}{w:World}{K:PySem.W.Frag}{mg:Str->Option Value}{base:Heap}
abbrev y8:Stmt:=top 8
theorem jai:FnScope ["moves","yes","first","came","answers"] ["moves","yes","first"] (jf y8):=⟨rfl,rfl,rfl,by decide +kernel,rfl,by decide +kernel,by decide +kernel⟩
def lamE:Expr:=match jz y8 with
 |.Assign _ (.Call _ [_,_,l] _ _) _::_=>l
 |_=>.Name "" ⟨0,0,0,0⟩
def lamA:Arguments:=match lamE with
 |.Lambda a _ _ _=>a
 |_=>j3 (.Pass ⟨0,0,0,0⟩)
def lamB:Expr:=match lamE with
 |.Lambda _ b _ _=>b
 |_=>.Name "" ⟨0,0,0,0⟩
def lamS:Scope:=match lamE with
 |.Lambda _ _ c _=>c
 |_=>jf (.Pass ⟨0,0,0,0⟩)
theorem jsh:LamScope ["room","sign"] ["moves"] lamS:=⟨rfl,rfl,rfl,by decide +kernel,by decide +kernel,by decide +kernel,by decide +kernel,λx h=>by
 have hn:lamS.names=[(Str.ofString "room",.local),(Str.ofString "sign",.local),(Str.ofString "moves",.free)]:=rfl
 rw[hn]at h
 by_cases h1:x=Str.ofString "moves"
 ·rw[h1];exact .head _
 have b1:(x == Str.ofString "moves")=false:=by simpa using h1
 simp only[List.lookup_cons,List.lookup_nil,b1]at h
 repeat (split at h <;> try (cases h))⟩
theorem us2{C:List Value->Prop}(h:∀v0 v1:Value,C [v0,v1])(us:List Value)(e:us.length=2):C us:=by
 cases us with
 |nil=>exact absurd e.symm (Iq _)
 |cons v0 us =>
  cases us with
  |nil=>exact absurd (Io (e.symm)) (Iq _)
  |cons v1 us =>
   cases us with
   |nil=>exact h v0 v1
   |cons _ _=>exact absurd (Io (Io (e))) (Iq _)
theorem jdt{g:Nat->Nat->Nat}{m n first:Nat}{rs:List Nat}(b:BI g m n first rs.length rs):MvOk (cuM g m rs) m:=by
 refine⟨λrow hrow=>?_,λrow hrow x hx=>?_⟩
 ·obtain⟨r,_,rfl⟩:=Am.mp hrow
  simp
 ·obtain⟨r,hr,rfl⟩:=Am.mp hrow
  obtain⟨a,ha,rfl⟩:=Am.mp hx
  have:=A6.mpr (b.cl r (by rw[Ii];exact hr) a (At.mp ha))
  simpa[cuM]using this
theorem ok_least_from{f fcu fmg fgr c Pt td:Addr}{fd fdc fdm fdg:FuncData}{pm:Value}{dfs:List Value}(F:Fun K "least_from" "least_from" y8 f fd)(T:TLm P w K mg base fcu fmg fgr c Pt pm)(hcd:fd.code=.ref c)
  (F17z:FunD K "come_up" "come_up" zt fcu fdc td) (b17z:Binds K fdc ["first","signs","step","most","at"] dfs) (h_come_up:Vals [.non,.int 0] dfs) (G17z:FnOk P w K mg base CX0 4 fcu fdc ["first","signs","step","most","at"] (spCU P w K mg base))
  (F22z:Fun K "merged" "merged" zo fmg fdm) (b22z:Binds K fdm ["moves","yes","groups"] []) (G22z:FnOk P w K mg base CX0 1 fmg fdm ["moves","yes","groups"] spMg)
  (F18z:Fun K "groups_of_rooms" "groups_of_rooms" j5 fgr fdg) (b18z:Binds K fdg ["moves","yes"] []) (G18z:FnOk P w K mg base CX0 2 fgr fdg ["moves","yes"] spGR):FnOk P w K mg base CX0 5 f fd ["moves","yes","first"] (spLm Pt):=by
 refine F.okC jai (λvs H Q E h=>?_) (λA outer s H vs Q E hr h=>?_)
 ·obtain⟨a,py,us,mv,m,first,ys,rfl,_⟩:=h
  rfl
 ·obtain⟨a,py,us,mv,m,first,ys,rfl,ha,rw',ok,hy,yl,f0,n9,m9,tb,k⟩:=h
  have hu:=hr.units
  have hsz:sizeLine=16777216:=Ia
  have ul:us.length=mv.length:=Il rw'
  refine exQ (jg (jq (i:=3) jai.nd rfl (by first|exact Or.inl rfl|exact Or.inr rfl) (qpe_callCD [(0,s.heap.objs.size+1)] (by intro j hj;simp only[Ap,Af,Uk]at hj;rcases hj with rfl <;> exact⟨_,rfl,rfl,rfl,rfl⟩) G17z (hr.mono (by decide)) rfl T.m17z F17z.kp b17z h_come_up (ja (qpv 2) (ja (jw j4 (by rfl) T.n_len kj (ja (jt ix_U (qpv 0) jh (λ_ _=>rfl)) jc)) (ja (qpe_lambda (Pt:=Pt) rfl T.pm hcd T.hd T.bl) jc)))))
  (jg (zf (i:=4) jai.nd rfl (by first|exact Or.inl rfl|exact Or.inr rfl) rfl (jcd (sc:=jf y8) (N:=["moves","yes","first","came","answers"]) (Nc:=["room","yes"]) (js:=[none,some 1]) (by decide +kernel)) (j9 (K:=K) (jt ix_U (qpv 3) jh (λ_ _=>rfl)) rfl) (λ_ _ _ _=>(jo (i:=0) (show List.Nodup [("room":Str),("yes":Str)]from by decide +kernel) rfl (by first|exact Or.inl rfl|exact Or.inr rfl))) (λ_ _ _ _=>(jt ix_U (qpv 1) (qpv 0) (λ_ _=>rfl))))
  (jj (j7 (jr G22z (hr.mono (by decide)) rfl T.m22z F22z.kp b22z .nil jy (ja (jt ix_U (qpv 3) jh (λ_ _=>rfl)) (ja (qpv 4) (ja (jr G18z (hr.mono (by decide)) rfl T.m18z F18z.kp b18z .nil jy (ja (jt ix_U (qpv 3) jh (λ_ _=>rfl)) (ja (qpv 4) jc))) jc)))))))) ?_
  obtain⟨c0,hc0,hr0⟩:=rw'.get (show mv[0]?=some (mv.getD 0 [])by rw[Ae,Aa (by omega)];rfl)
  have l0:(mv.getD 0 []).length=m:=ok.ln _ (by rw[Ae,Aa (by omega)];exact A7 _)
  simp! [ha]
  refine⟨.ref c0,jce (j:=0) hc0,?_⟩
  simp! [hr0]
  rw[Ac,l0]
  refine⟨tb,λfl c' ct H1 hfl k1 e1 cz tb1=>?_⟩
  refine⟨λj hj=>by cases Aj.mp hj;exact⟨_,rfl⟩,λcs hcs=>?_⟩
  obtain⟨o,rfl,hn,u,ho,ru⟩:∃o,cs=[(s.heap.objs.size+1,o)]/\H1 (s.heap.objs.size+1)=none/\∃u,o.data=.cell (some u)/\RelV (.ref a) u:=by
   cases hcs with
   |cons h t =>
    cases t
    rename_i p
    obtain⟨c1,o1⟩:=p
    obtain⟨e1,e2,v,u,e3,e4,e5⟩:=h
    cases(Av (Av e3))
    cases(show c1=s.heap.objs.size+1 from e1)
    exact⟨o1,rfl,e2,u,e4,e5⟩
  generalize s.heap.objs.size+1=n1 at e1 hn
  have lk:∀b,b≠n1->([(n1,o)]:List (Addr×Obj)).lookup b=none:=λb h=>by
   rw[List.lookup_cons]
   have:(b == n1)=false:=by simpa using h
   rw[this];rfl
  have sh:∀b v,H1 b=some v->jdb H1 [(n1,o)] b=some v:=λb v e=>by rw[jcv (lk b (je e hn))];exact e
  have kS:Kp [] H1 (jdb H1 [(n1,o)]):=⟨λb v e _=>sh b v e,λb xs e=>sh b _ e,λb v e=>⟨v,sh b v e⟩⟩
  have e1':H1 fl=some (FZ (PySem.W.kla_obj "<lambda>" LQ lamA lamB lamS [("moves",n1)] pm c' ct)):=e1
  have cap:Caps (jdb H1 [(n1,o)]) [("moves",n1)] ["moves"] [.ref a]:=by
   have en:jdb H1 [(n1,o)] n1=some (FZ o):=jef (by simp[List.lookup])
   refine⟨rfl,λi x v q1 q2=>?_,λx hx=>?_,λp hp=>?_,λx y c q1 q2=>?_⟩
   ·cases i with
    |zero=>cases q1;cases q2;exact⟨n1,o,u,rfl,en,ho,ru⟩
    |succ i=>simp at q1
   ·cases Aj.mp hx;exact⟨n1,rfl⟩
   ·cases Aj.mp hp;exact⟨o,some u,en,ho⟩
   ·rw[List.lookup_cons]at q1 q2
    split at q1
    ·split at q2
     ·rename_i z1 _ z2;rw[eq_of_beq z1,eq_of_beq z2]
     ·cases q2
    ·cases q1
  let R:Hp->Prop:=λH=>H fl=some (FZ (PySem.W.kla_obj "<lambda>" LQ lamA lamB lamS [("moves",n1)] pm c' ct))/\CodeZ H c' LQ/\Caps H [("moves",n1)] ["moves"] [.ref a]/\H a=some (.tup us)/\RowsM H us mv
  have L:Lg P w K mg base fl (PySem.W.kla_obj "<lambda>" LQ lamA lamB lamS [("moves",n1)] pm c' ct) (PySem.W.kla_fn "<lambda>" LQ lamA lamB lamS [("moves",n1)] pm (.ref c') ct) ["room","sign"] (dM mv) mv.length m R:=by
   refine⟨rfl,jro (fs:=["moves"]) jsh (λvs H Q E h=>?_) (λvs H Q E h=>?_),.all (us2 λ_ _=>rfl),λH h=>h.1,λH H' k h=>⟨k.old _ _ h.1 (by simp),h.2.1.kp k (by simp),h.2.2.1.kp k (by simp),k.tup _ _ h.2.2.2.1,h.2.2.2.2.kp k⟩⟩
   ·obtain⟨r,a,rfl,_⟩:=h
    rfl
   ·obtain⟨r,b,rfl,hr',hb,hR,q⟩:=h
    refine⟨hR.1,hR.2.1,[.ref a],hR.2.2.1,λA outer s hr=>⟨_,QE.h (jt ix_U (jt ix_U (qpv 2) (qpv 0) (λ_ _=>rfl)) (qpv 1) (λ_ _=>rfl)),?_⟩⟩
    have ne:∀b v,H b=some v->(∀o,v≠FZ o)->b∉[n1]:=λb v e n m=>by
     obtain⟨o2,u2,e2,_⟩:=hR.2.2.1.fz _ (.head _)
     rw[Aj.mp m]at e
     rw[show H n1=some (FZ o2)from e2]at e
     exact n o2 (Av e).symm
    have tk:∀b xs,H b=some (.tup xs)->hideC H ([n1]) b=some (.tup xs):=λb xs e=>by rw[jcl (ne b _ e (λ_ z=>by cases z))];exact e
    obtain⟨x,hx,hxr⟩:=hR.2.2.2.2.get (show mv[r]?=some (mv.getD r [])by rw[Ae,Aa hr'];rfl)
    have hx2:=tk _ _ hxr
    simp!
    rw[tk _ _ hR.2.2.2.1]
    refine⟨_,rfl,.ref x,jce hx,?_⟩
    rw[jch,hx2]
    exact⟨_,rfl,nV (dM mv r b),jce (by rw[Ag,(ok.at_ hr' hb).1];rfl),λ_=>q _ (Kp.refl [] (hideC H [n1])).backC⟩
  have hR:R (jdb H1 [(n1,o)]):=⟨sh _ _ e1',cz.kp kS (by simp),cap,sh _ _ (k1.tup _ _ ha),(rw'.kp k1).kp kS⟩
  refine⟨fl,_,_,_,dM mv,mv.length,m,first,R,L,hR,rfl,f0,n9,m9,λr a hr ha=>(ok.at_ hr ha).2,λq0 b1 b2 us1 rs H2 bf eq0 eb1 eb2 R2 k2=>?_⟩
  have k3:Kp [] H1 (hideC H2 [n1]):=by
   have kk:=kS.trans k2
   have ne:∀b v,H1 b=some v->b∉[n1]:=λb v e m=>by rw[Aj.mp m,hn]at e;cases e
   exact⟨λb v e m=>by rw[jcl (ne b _ e)];exact kk.old b v e m,λb xs e=>by rw[jcl (ne b _ e)];exact kk.tup b xs e,λb v e=>by rw[jcl (ne b _ e)];exact kk.dom b v e⟩
  have en2:H2 n1=some (FZ o):=k2.old _ _ (jef (by simp[List.lookup])) (by simp)
  have hd2:∀b v,H2 b=some v->(∀o,v≠FZ o)->hideC H2 [n1] b=some v:=λb v e n=>by
   rw[jcl (λm=>by
    rw[Aj.mp m,en2]at e
    exact n o (Av e).symm)]
   exact e
  have q3:=hd2 _ _ eq0 (λ_ z=>by cases z)
  have b13:=hd2 _ _ eb1 (λ_ z=>by cases z)
  have b23:=hd2 _ _ eb2 (λ_ z=>by cases z)
  have R3:RowsM (hideC H2 [n1]) us1 (cuM (dM mv) m rs):=Paired.mapP R2 λ_ _ ⟨b,z1,z2⟩=>⟨b,z1,hd2 _ _ z2 (λ_ z=>by cases z)⟩
  have kp3:Kp [Pt] H (hideC H2 [n1]):=k1.trans (k3.mono (by simp))
  have tb3:TabOk (hideC H2 [n1]) Pt LQ:=tb1.kp k3 (by simp) (by simp)
  dsimp only
  rw[show(List.map Prod.fst [(n1,o)])=[n1]from rfl]
  generalize hideC H2 [n1]=H3 at q3 b13 b23 R3 kp3 tb3⊢
  have bi:=bf.inv f0 (λr a hr ha=>(ok.at_ hr ha).2)
  have rl:rs.length<=mv.length:=jde bi.nd bi.lt
  have r1:1<=rs.length:=(Ad.mp bi.z).1
  have ml:(cuM (dM mv) m rs).length=rs.length:=by simp[cuM]
  obtain⟨o3,y3,y3s⟩:=jrx kp3 tb hy
  rw[jch,q3]
  refine⟨_,rfl,.ref b1,jei _ _,?_⟩
  simp only[b13]
  intro D hD
  refine jd0 (ysV ys) b13 hD (by rw[Ac];omega) (λx hx l Q' q=>?_) λvv=>?_
  ·obtain⟨t,ht,rfl⟩:=Am.mp hx
   have tl:=bi.lt t ht
   simp!
   rw[show nV t=V.int (t:Int)from rfl,jch,jd (je y3 hD),y3,y3s]
   exact⟨_,rfl,.bl (ys.getD t false),jce (by rw[Ag,Ae,Aa (by omega)];rfl),q⟩
  dsimp only
  have k4:Kp [] H3 (upd H3 D (.lst ((rs.map nV).map (ysV ys)))):=(Kp.refl [] H3).new hD
  have e4:upd H3 D (.lst ((rs.map nV).map (ysV ys))) D=some (.lst ((rs.map λr=>ys.getD r false).map V.bl)):=by
   rw[jb,Ax,Ax];rfl
  generalize upd H3 D (.lst ((rs.map nV).map (ysV ys)))=H4 at k4 e4⊢
  have q4:=k4.tup _ _ q3
  have b24:=k4.tup _ _ b23
  have R4:=R3.kp k4
  have cok:=jdt bi
  rw[jch,q4]
  refine⟨_,rfl,.ref b2,jfm _ _ _,?_⟩
  rw[jch,q4]
  refine⟨_,rfl,.ref b2,jfm _ _ _,?_⟩
  refine⟨b2,D,us1,cuM (dM mv) m rs,m,rs.map λr=>ys.getD r false,rfl,b24,R4,cok,e4,by rw[ml,Ac],by omega,by omega,m9,λpg gs H5 hpg epg gl gr _ k5=>?_⟩
  rw[ml]at gr
  refine⟨b2,D,pg,us1,cuM (dM mv) m rs,m,rs.map λr=>ys.getD r false,gs,rfl,k5.tup _ _ b24,R4.kp k5,cok,k5.old _ _ e4 Af,by rw[ml,Ac],epg,gl,by omega,by omega,m9,λq a1 a2 us' fr H6 mg6 eq6 ea1 R6 ea2 k6=>?_⟩
  have k36:=(k4.trans k5).trans k6
  rw[ml]at mg6
  exact k q a1 a2 us' _ _ rs _ fr H6 ⟨bf,gr,mg6,rfl,rfl⟩ eq6 ea1 R6 ea2 (kp3.trans (k36.mono (by simp))) (tb3.kp k36 (by simp) (by simp))
end
def spLe(Pt:Addr):Sp:=λvs H Q _=>∃(p pm py:Addr)(z:Str)(us:List V)(mv:List (List Nat))(m:Nat)(ys:List Bool),vs=[.ref p]/\H p=some (.tup [.str z,.ref pm,.ref py])/\H pm=some (.tup us)/\RowsM H us mv/\MvOk mv m/\jc8 (H py)=some (ys.map V.bl)/\ys.length=mv.length/\1<=mv.length/\mv.length<=1000/\m<=1000/\TabOk H Pt LQ /\
 ∀(q a1 a2:Addr)(us':List V)(mv':List (List Nat))(ys':List Bool)(rs:List Nat)(G:Nat->Nat)(fr:List Nat)(H':Hp),LS mv m ys 0 mv' ys' rs G fr->H' q=some (.tup [.str z,.ref a1,.ref a2])->H' a1=some (.tup us')->RowsM H' us' mv'->H' a2=some (.tup (ys'.map V.bl))->Kp [Pt] H H'->TabOk H' Pt LQ->Q (.ref q) H'
structure TLe(mg:Str->Option Value)(fl:Addr):Prop where
 m20z:mg "least_from"=some (.ref fl)
section
variable{P:Program}{w:World}{K:PySem.W.Frag}{mg:Str->Option Value}{base:Heap}
abbrev jaf:Stmt:=top 7
theorem jby:FnScope ["machine","lean"] ["machine"] (jf jaf):=⟨rfl,rfl,rfl,by decide +kernel,rfl,by decide +kernel,by decide +kernel⟩
theorem ok_least{f fl Pt:Addr}{fd fdl:FuncData}(F:Fun K "least" "least" jaf f fd)(T:TLe mg fl)(F20z:Fun K "least_from" "least_from" y8 fl fdl)(b20z:Binds K fdl ["moves","yes","first"] [])
  (G20z:FnOk P w K mg base CX0 5 fl fdl ["moves","yes","first"] (spLm Pt)):FnOk P w K mg base CX0 6 f fd ["machine"] (spLe Pt):=by
 refine F.ok jby (λvs H Q E h=>?_) (λcdv A outer s H vs Q E hr h=>?_)
 ·obtain⟨p,pm,py,z,us,mv,m,ys,rfl,_⟩:=h
  rfl
 ·obtain⟨p,pm,py,z,us,mv,m,ys,rfl,hp,hm,rw',ok,hy,yl,n1,n9,m9,tb,k⟩:=h
  have hu:=hr.units
  have hsz:sizeLine=16777216:=Ia
  refine exQ (jg (jq (i:=1) jby.nd rfl (by first|exact Or.inl rfl|exact Or.inr rfl) (jr G20z (hr.mono (by decide)) rfl T.m20z F20z.kp b20z .nil jy (ja (jt ix_U (qpv 0) jh (λ_ _=>rfl)) (ja (jt ix_U (qpv 0) jh (λ_ _=>rfl)) (ja jh jc)))))
  (jj (j7 (y9 (ja (jt ix_U (qpv 0) jh (λ_ _=>rfl)) (ja (jt ix_U (qpv 1) jh (λ_ _=>rfl)) (ja (jt ix_U (qpv 1) jh (λ_ _=>rfl)) jc))))))) ?_
  simp! [hp]
  refine⟨pm,py,us,mv,m,0,ys,rfl,hm,rw',ok,hy,yl,by omega,n9,m9,tb,λq a1 a2 us' mv' ys' rs G fr H1 ls eq ea1 R1 ea2 k1 tb1=>?_⟩
  have hp1:=k1.tup _ _ hp
  dsimp only
  rw[hp1]
  refine⟨_,rfl,.str z,jei _ _,?_⟩
  rw[jch,eq]
  refine⟨_,rfl,.ref a1,jei _ _,?_⟩
  rw[jch,eq]
  refine⟨_,rfl,.ref a2,jfm _ _ _,by omega,λp' hp'=>?_⟩
  have k2:Kp [] H1 (upd H1 p' (.tup [.str z,.ref a1,.ref a2])):=(Kp.refl [] H1).new hp'
  exact k p' a1 a2 us' mv' ys' rs G fr _ ls jb (k2.tup _ _ ea1) (R1.kp k2) (k2.tup _ _ ea2) (k1.trans (k2.mono (by simp))) (tb1.kp k2 (by simp) (by simp))
end
def Mc.rc(M:Mc)(r:Nat):Prop:=∃w,M.ws w/\M.led 0 w=r
structure LeanM(M M':Mc)(h:Nat->Nat):Prop where
 ok:M'.ok
 n1:1<=M'.n
 le:M'.n<=M.n
 mm:M'.m=M.m
 z:h 0=0
 lt:∀r,M.rc r->h r<M'.n
 st:∀r a,M.rc r->a<M.m->h (M.d r a)=M'.d (h r) a
 ye:∀r,M.rc r->M'.y (h r)=M.y r
 inj:∀r s,M.rc r->M.rc s->(h r=h s↔M.eq r s)
 sur:∀k,k<M'.n->∃r,M.rc r/\h r=k
theorem Mc.rc_lt{M:Mc}(ok:M.ok)(n1:1<=M.n){r:Nat}(h:M.rc r):r<M.n:=by
 obtain⟨w,hw,rfl⟩:=h
 exact Mc.led_lt ok (by omega) hw
theorem Mc.rc_step{M:Mc}{r a:Nat}(h:M.rc r)(ha:a<M.m):M.rc (M.d r a):=by
 obtain⟨w,hw,rfl⟩:=h
 refine⟨w++[a],λb hb=>?_,by unfold Mc.led;rw[Uf];rfl⟩
 rcases Au.mp hb with h|h
 ·exact hw b h
 ·cases Aj.mp h;exact ha
theorem jc2{α β:Type}{f:α->β}{l:List α}{i:Nat}{x:α}{d:β}(h:l[i]?=some x):(l.map f).getD i d=f x:=by
 rw[Ae,Ag,h];rfl
theorem jje{g:Nat->Nat->Nat}{m:Nat}{rs:List Nat}{i r a:Nat}(h:rs[i]?=some r)(ha:a<m):dM (cuM g m rs) i a=rs.idxOf (g r a):=by
 unfold dM cuM
 rw[jc2 h,jc2 (Od ha)]
theorem jsi{mv:List (List Nat)}{G:Nat->Nat}{fr:List Nat}{m k f a:Nat}(ok:MvOk mv m)(h:fr[k]?=some f)(hf:f<mv.length)(ha:a<m):dM (mgR mv G fr) k a=phi G fr (dM mv f a):=by
 unfold dM mgR
 rw[jc2 h]
 exact jc2 (ok.at_ hf ha).1
theorem MG.z{G:Nat->Nat}{j:Nat}{fr:List Nat}(h:MG G j fr)(hj:0<j):phi G fr 0=0:=by
 have m:=h.all 0 hj
 obtain⟨f,hf,e⟩:=Am.mp m
 have f0:f=0:=A9 λc=>h.fst f hf 0 (by omega) e.symm
 subst f0
 obtain⟨i,hi⟩:=Is hf
 have i0:i=0:=A9 λc=>by
  have hl:=(Ad.mp hi).1
  have h2:=(Ad.mp hi).2
  have:=(Ua.mp h.inc) 0 i (by omega) hl (by omega)
  omega
 subst i0
 unfold phi
 cases fr with
 |nil=>simp at hi
 |cons x r=>simp at hi;subst hi;simp
theorem MG.at_{G:Nat->Nat}{j:Nat}{fr:List Nat}(h:MG G j fr){r:Nat}(hr:r<j):∃f,fr[phi G fr r]?=some f/\G f=G r/\f<j/\phi G fr r<fr.length:=by
 have m:=h.all r hr
 have l:=A6.mpr m
 have e:=Iw l
 rw[Ac]at l
 rw[Oo]at e
 exact⟨_,Aa l,e,h.lt _ (A7 _),l⟩
theorem MG.phi_eq{G:Nat->Nat}{j:Nat}{fr:List Nat}(h:MG G j fr){r s:Nat}(hr:r<j)(hs:s<j):phi G fr r=phi G fr s↔G r=G s:=by
 refine⟨λe=>?_,λe=>by unfold phi;rw[e]⟩
 obtain⟨f,h1,h2,_⟩:=h.at_ hr
 obtain⟨f',h3,h4,_⟩:=h.at_ hs
 rw[e,h3]at h1
 cases h1
 rw[<-h2,h4]
theorem MG.phi_at{G:Nat->Nat}{j:Nat}{fr:List Nat}(h:MG G j fr){k f:Nat}(e:fr[k]?=some f):phi G fr f=k:=by
 have kl:=(Ad.mp e).1
 have l:k<(fr.map G).length:=by rw[Ac];exact kl
 have e2:(fr.map G)[k]=G f:=by rw[Oo,(Ad.mp e).2]
 unfold phi
 rw[<-e2]
 exact h.nd.idxOf_getElem k l
theorem LS.lean{mv mv':List (List Nat)}{m:Nat}{ys ys':List Bool}{rs fr:List Nat}{G:Nat->Nat}(S:LS mv m ys 0 mv' ys' rs G fr)(ok:MvOk mv m)(n1:1<=mv.length):LeanM (mcOf mv m ys) (mcOf mv' m ys') (λr=>phi G fr (rs.idxOf r))/\MvOk mv' m/\ys'.length=mv'.length:=by
 have bi:=S.bf.inv (n:=mv.length) (by omega) (λr a hr ha=>(ok.at_ hr ha).2)
 have rl:rs.length<=mv.length:=jde bi.nd bi.lt
 have r1:1<=rs.length:=(Ad.mp bi.z).1
 have cok:=jdt bi
 have ml:(cuM (dM mv) m rs).length=rs.length:=by simp[cuM]
 have M1:=jdg (ys:=rs.map λr=>ys.getD r false) cok
 have rcm:∀r,(mcOf mv m ys).rc r↔r∈rs:=λr=>by
  refine⟨fun⟨w,hw,e⟩=>?_,λh=>?_⟩
  ·subst e
   have:∀(w:List Nat)(r:Nat),(mcOf mv m ys).ws w->r∈rs->(mcOf mv m ys).led r w∈rs:=λw=>by
    induction w with
    |nil=>intro r _ h;exact h
    |cons a w ih =>
     intro r hw h
     exact ih _ (λb hb=>hw b (.tail _ hb)) (bi.cl r (by rw[Ii];exact h) a (hw a (.head _)))
   exact this w 0 hw (Al bi.z)
  ·obtain⟨w,hw,e⟩:=bi.rc r h
   exact⟨w,hw,e⟩
 have ixl:∀r,r∈rs->rs.idxOf r<rs.length:=λr h=>A6.mpr h
 have ixe:∀r,r∈rs->rs[rs.idxOf r]?=some r:=λr h=>by rw[Aa (ixl r h),Iw]
 have d1:∀r a,r∈rs->a<m->dM (cuM (dM mv) m rs) (rs.idxOf r) a=rs.idxOf (dM mv r a):=λr a h ha=>jje (ixe r h) ha
 have clo:∀r a,r∈rs->a<m->dM mv r a∈rs:=λr a h ha=>bi.cl r (by rw[Ii];exact h) a ha
 have led1:∀(w:List Nat)(r:Nat),(∀a∈w,a<m)->r∈rs->(mcOf (cuM (dM mv) m rs) m (rs.map λr=>ys.getD r false)).led (rs.idxOf r) w=rs.idxOf ((mcOf mv m ys).led r w)/\(mcOf mv m ys).led r w∈rs:=λw=>by
  induction w with
  |nil=>intro r _ h;exact⟨rfl,h⟩
  |cons a w ih =>
   intro r hw h
   have ha:=hw a (.head _)
   have:=ih (dM mv r a) (λb hb=>hw b (.tail _ hb)) (clo r a h ha)
   refine⟨?_,this.2⟩
   show(mcOf (cuM (dM mv) m rs) m (rs.map λr=>ys.getD r false)).led (dM (cuM (dM mv) m rs) (rs.idxOf r) a) w=_
   rw[d1 r a h ha]
   exact this.1
 have y1:∀r,r∈rs->(rs.map λr=>ys.getD r false).getD (rs.idxOf r) false=ys.getD r false:=λr h=>jc2 (ixe r h)
 have eq1:∀r s,r∈rs->s∈rs->((mcOf (cuM (dM mv) m rs) m (rs.map λr=>ys.getD r false)).eq (rs.idxOf r) (rs.idxOf s)↔(mcOf mv m ys).eq r s):=λr s hr hs=>by
  have one:∀w,(∀a∈w,a<m)->∀r,r∈rs->(mcOf (cuM (dM mv) m rs) m (rs.map λr=>ys.getD r false)).y ((mcOf (cuM (dM mv) m rs) m (rs.map λr=>ys.getD r false)).led (rs.idxOf r) w)=(mcOf mv m ys).y ((mcOf mv m ys).led r w):=λw hw r hr=>by
   obtain⟨e1,e2⟩:=led1 w r hw hr
   rw[e1]
   exact y1 _ e2
  refine⟨λh w hw=>?_,λh w hw=>?_⟩
  ·rw[<-one w hw r hr,<-one w hw s hs];exact h w hw
  ·rw[one w hw r hr,one w hw s hs];exact h w hw
 have ml':mv'.length=fr.length:=by rw[S.em];simp[mgR]
 have yl':ys'.length=fr.length:=by rw[S.ey];simp[mgY]
 have fl:∀{k f:Nat},fr[k]?=some f->f<(cuM (dM mv) m rs).length:=λe=>by rw[ml];exact S.mg.lt _ (Al e)
 have mok':MvOk mv' m:=by
  rw[S.em]
  refine⟨λrow hrow=>?_,λrow hrow x hx=>?_⟩
  ·obtain⟨f,hf,rfl⟩:=Am.mp hrow
   rw[Ac]
   have:f<(cuM (dM mv) m rs).length:=by rw[ml];exact S.mg.lt f hf
   exact cok.ln _ (by rw[Ae,Aa this];exact A7 _)
  ·obtain⟨f,hf,rfl⟩:=Am.mp hrow
   obtain⟨t,ht,rfl⟩:=Am.mp hx
   have:f<(cuM (dM mv) m rs).length:=by rw[ml];exact S.mg.lt f hf
   have tl:=cok.lt _ (by rw[Ae,Aa this];exact A7 _) t ht
   rw[ml]at tl
   obtain⟨_,_,_,_,l⟩:=S.mg.at_ tl
   simpa[mgR]using l
 refine⟨⟨jdg mok',?_,?_,rfl,?_,λr h=>?_,λr a h ha=>?_,λr h=>?_,λr s hr hs=>?_,λk hk=>?_⟩,mok',by rw[ml',yl']⟩
 ·show 1<=mv'.length
  obtain⟨_,_,_,_,l⟩:=S.mg.at_ (show 0<rs.length by omega)
  omega
 ·show mv'.length<=mv.length
  have:=jco (l:=fr) (zs:=List.range rs.length) (S.mg.inc.imp λh=>by omega) λr hr=>At.mpr (S.mg.lt r hr)
  rw[Az]at this
  omega
 ·have:rs.idxOf 0=0:=by
   have z:=bi.z
   cases hrs:rs with
   |nil=>rw[hrs]at z;cases z
   |cons x l=>rw[hrs]at z;simp at z;subst z;simp
  show phi G fr (rs.idxOf 0)=0
  rw[this]
  exact S.mg.z (by omega)
 ·have hr:=(rcm r).mp h
  obtain⟨_,_,_,_,l⟩:=S.mg.at_ (ixl r hr)
  show _<mv'.length
  omega
 ·have hr:=(rcm r).mp h
  obtain⟨f,e,ge,fr',l⟩:=S.mg.at_ (ixl r hr)
  have ha:a<m:=ha
  show phi G fr (rs.idxOf (dM mv r a))=dM mv' (phi G fr (rs.idxOf r)) a
  rw[S.em,jsi cok e (fl e) ha,<-d1 r a hr ha]
  have q1:=(cok.at_ (show rs.idxOf r<(cuM (dM mv) m rs).length by rw[ml];exact ixl r hr) ha).2
  have q2:=(cok.at_ (fl e) ha).2
  rw[ml]at q1 q2
  refine(S.mg.phi_eq q1 q2).mpr ((S.gr _ _ q1 q2).mpr ?_)
  exact Mc.eq_step ((S.gr _ _ (ixl r hr) fr').mp ge.symm) ha
 ·have hr:=(rcm r).mp h
  obtain⟨f,e,ge,fr',l⟩:=S.mg.at_ (ixl r hr)
  show ys'.getD (phi G fr (rs.idxOf r)) false=ys.getD r false
  rw[S.ey]
  unfold mgY
  rw[jc2 e,<-y1 r hr]
  exact Mc.eq_y ((S.gr _ _ fr' (ixl r hr)).mp ge)
 ·have hr:=(rcm r).mp hr
  have hs:=(rcm s).mp hs
  show phi G fr (rs.idxOf r)=phi G fr (rs.idxOf s)↔_
  rw[S.mg.phi_eq (ixl r hr) (ixl s hs),S.gr _ _ (ixl r hr) (ixl s hs),eq1 r s hr hs]
 ·have hk:k<fr.length:=by have:k<mv'.length:=hk;omega
  have e:fr[k]?=some fr[k]:=Aa hk
  have f2:=S.mg.lt _ (Al e)
  have e2:rs[fr[k]]?=some (rs[fr[k]]):=Aa f2
  have m2:=Al e2
  refine⟨rs[fr[k]],(rcm _).mpr m2,?_⟩
  show phi G fr (rs.idxOf rs[fr[k]])=k
  rw[bi.nd.idxOf_getElem _ f2]
  exact S.mg.phi_at e
structure MH(H:Hp)(p:Addr)(z:Str)(pm py:Addr)(us:List V)(mv:List (List Nat))(m:Nat)(ys:List Bool):Prop where
 hp:H p=some (.tup [.str z,.ref pm,.ref py])
 hm:H pm=some (.tup us)
 rw:RowsM H us mv
 ok:MvOk mv m
 hy:H py=some (.tup (ys.map V.bl))
 yl:ys.length=mv.length
 n1:1<=mv.length
 n9:mv.length<=1000
 m9:m<=1000
theorem MH.kp{S:List Addr}{H H':Hp}{p:Addr}{z:Str}{pm py:Addr}{us:List V}{mv:List (List Nat)}{m:Nat}{ys:List Bool}(k:Kp S H H')(h:MH H p z pm py us mv m ys):MH H' p z pm py us mv m ys :=
 ⟨k.tup _ _ h.hp,k.tup _ _ h.hm,h.rw.kp k,h.ok,k.tup _ _ h.hy,h.yl,h.n1,h.n9,h.m9⟩
theorem Bf.det{g:Nat->Nat->Nat}{m f j:Nat}{rs rs':List Nat}(h:Bf g m f j rs)(h':Bf g m f j rs'):rs=rs':=by
 induction h generalizing rs' with
 |z=>cases h';rfl
 |s h hr ih =>
  cases h' with
  |s h' hr' =>
   cases ih h'
   rw[hr]at hr'
   cases hr'
   rfl
theorem Bf.back{g:Nat->Nat->Nat}{m f:Nat}:∀{j':Nat}{rs':List Nat},Bf g m f j' rs'->∀j,j<=j'->∃rs,Bf g m f j rs/\(j<j'->∃r,rs[j]?=some r)
 |0,rs',h,j,hj=>by
  have:j=0:=by omega
  subst this
  exact⟨rs',h,λz=>by omega⟩
 |j'+1,_,.s h hr,j,hj=>by
  by_cases c:j=j'+1
  ·subst c;exact⟨_,.s h hr,λz=>by omega⟩
  ·by_cases d:j=j'
   ·subst d;exact⟨_,h,λ_=>⟨_,hr⟩⟩
   ·obtain⟨rs,h1,h2⟩:=Bf.back h j (by omega)
    exact⟨rs,h1,λ_=>h2 (by omega)⟩
theorem Bf.full_one{g:Nat->Nat->Nat}{m f:Nat}{rs rs':List Nat}(h:Bf g m f rs.length rs)(h':Bf g m f rs'.length rs'):rs=rs':=by
 have key:∀{rs rs':List Nat},Bf g m f rs.length rs->Bf g m f rs'.length rs'->rs.length<=rs'.length->rs=rs':=fun{rs rs'} h h' l=>by
  by_cases c:rs.length<rs'.length
  ·obtain⟨r0,h1,h2⟩:=Bf.back h' rs.length l
   have e:=Bf.det h h1
   subst e
   obtain⟨r,hr⟩:=h2 c
   have:=(Ad.mp hr).1
   omega
  ·have e:rs.length=rs'.length:=by omega
   rw[<-e]at h'
   exact Bf.det h h'
 by_cases c:rs.length<=rs'.length
 ·exact key h h' c
 ·exact(key h' h (by omega)).symm
theorem Bf.image{g g':Nat->Nat->Nat}{m n' f:Nat}{h:Nat->Nat}{P:Nat->Prop}(pf:P f)(st:∀r,P r->∀a,a<m->P (g r a)/\h (g r a)=g' (h r) a)(f0:h f<n')(gl:∀r a,r<n'->a<m->g' r a<n'){j:Nat}{rs:List Nat}(B:Bf g m f j rs) :
  Bf g' m (h f) (ddp ((rs.take j).map h)).length (ddp (rs.map h))/\(∀r∈rs,P r)/\j<=rs.length:=by
 induction B with
 |z=>exact⟨by simpa[ddp,dd1]using(Bf.z:Bf g' m (h f) 0 [h f]),by simpa using pf,by simp⟩
 |@s j rs r B hr ih =>
  obtain⟨b,pr,jl⟩:=ih
  have rm:=Al hr
  have jl':=(Ad.mp hr).1
  have hP:=pr r rm
  have one:∀a,a<=m->ddp ((cuR g r a rs).map h)=cuR g' (h r) a (ddp (rs.map h))/\∀x∈cuR g r a rs,P x:=λa=>by
   induction a with
   |zero=>intro _;exact⟨rfl,pr⟩
   |succ a ih =>
    intro ha
    obtain⟨e,p⟩:=ih (by omega)
    obtain⟨p1,e1⟩:=st r hP a (by omega)
    rw[jc6,jc6,<-e]
    unfold cu1
    rw[<-e1]
    by_cases c:g r a∈cuR g r a rs
    ·rw[Ao c,Ao ((jcx _ _).mpr (Am.mpr ⟨_,c,rfl⟩))]
     exact⟨rfl,p⟩
    ·rw[An c,A5,List.map_singleton,jdv]
     refine⟨rfl,λx hx=>?_⟩
     rcases Au.mp hx with q|q
     ·exact p x q
     ·cases Aj.mp q;exact p1
  obtain⟨e,p⟩:=one m (Ak _)
  obtain⟨t,et⟩:=jfo g r rs m
  have tk:(cuR g r m rs).take (j+1)=rs.take j++[r]:=by rw[et,Uv (by omega),Oa,hr];rfl
  refine⟨?_,p,by rw[et,A1];omega⟩
  rw[tk,A5,List.map_singleton,jdv,e]
  obtain⟨t2,e2⟩:=jlr ((rs.take (j+1)).map h) ((rs.drop (j+1)).map h)
  rw[<-A5,U3,Oa,hr]at e2
  have e2:ddp (rs.map h)=ddp ((rs.take j).map h++[h r])++t2:=by
   rw[e2]
   congr 2
   simp
  rw[jdv]at e2
  unfold dd1 at e2⊢
  by_cases c:h r∈ddp ((rs.take j).map h)
  ·rw[Ao c]at e2⊢
   have bi:=b.inv f0 gl
   have tk2:(ddp (rs.map h)).take (ddp ((rs.take j).map h)).length=ddp ((rs.take j).map h):=by rw[e2,Uv (Ak _),Ii]
   have same:∀a,a<=m->cuR g' (h r) a (ddp (rs.map h))=ddp (rs.map h):=λa=>by
    induction a with
    |zero=>intro _;rfl
    |succ a ih =>
     intro ha
     rw[jc6,ih (by omega)]
     unfold cu1
     exact Ao (bi.cl (h r) (by rw[tk2];exact c) a (by omega))
   rw[same m (Ak _)]
   exact b
  ·rw[An c]at e2⊢
   rw[A1,List.length_singleton]
   refine .s b ?_
   rw[e2,Ig (by rw[A1,List.length_singleton];omega),Ir (Ak _)]
   simp
theorem jkv{mv:List (List Nat)}{m:Nat}{ys:List Bool}{rs:List Nat}(ok:MvOk mv m)(n1:1<=mv.length)(bf:Bf (dM mv) m 0 rs.length rs)(r:Nat):(mcOf mv m ys).rc r↔r∈rs:=by
 have bi:=bf.inv (n:=mv.length) (by omega) (λr a hr ha=>(ok.at_ hr ha).2)
 refine⟨fun⟨w,hw,e⟩=>?_,λh=>?_⟩
 ·subst e
  have:∀(w:List Nat)(r:Nat),(mcOf mv m ys).ws w->r∈rs->(mcOf mv m ys).led r w∈rs:=λw=>by
   induction w with
   |nil=>intro r _ h;exact h
   |cons a w ih =>
    intro r hw h
    exact ih _ (λb hb=>hw b (.tail _ hb)) (bi.cl r (by rw[Ii];exact h) a (hw a (.head _)))
  exact this w 0 hw (Al bi.z)
 ·obtain⟨w,hw,e⟩:=bi.rc r h
  exact⟨w,hw,e⟩
theorem LeanM.one{M M1 M2:Mc}{h1 h2:Nat->Nat}(L1:LeanM M M1 h1)(L2':LeanM M M2 h2){rs:List Nat}(rc:∀r,M.rc r↔r∈rs)(g1:RGr (rs.map h1))(g2:RGr (rs.map h2)) :
  M1.n=M2.n/\(∀r,M.rc r->h1 r=h2 r):=by
 have e:rs.map h1=rs.map h2:=by
  refine RGr.one g1 g2 (by simp) λi j hi hj=>?_
  rw[Ac]at hi hj
  rw[Ag,Ag,Ag,Ag,Aa hi,Aa hj]
  have q1:=(rc _).mpr (A7 hi)
  have q2:=(rc _).mpr (A7 hj)
  show some (h1 rs[i])=some (h1 rs[j])↔some (h2 rs[i])=some (h2 rs[j])
  rw[Yi,Yi,L1.inj _ _ q1 q2,L2'.inj _ _ q1 q2]
 have he:∀r,M.rc r->h1 r=h2 r:=λr hr=>by
  obtain⟨i,hi⟩:=Is ((rc r).mp hr)
  have q:(rs.map h1)[i]?=(rs.map h2)[i]?:=by rw[e]
  rw[Ag,Ag,hi]at q
  exact Av q
 refine⟨?_,he⟩
 have le:∀{A B:Mc}{f g:Nat->Nat},LeanM M A f->LeanM M B g->(∀r,M.rc r->f r=g r)->A.n<=B.n:=fun{A B f g} la lb hfg=>by
  by_cases c:A.n=0
  ·omega
  ·obtain⟨r,hr,er⟩:=la.sur (A.n-1) (by omega)
   have:=lb.lt r hr
   rw[<-hfg r hr,er]at this
   omega
 have a:=le L1 L2' he
 have b:=le L2' L1 λr hr=>(he r hr).symm
 omega
theorem LeanM.same{M:Mc}{mv1 mv2:List (List Nat)}{m:Nat}{ys1 ys2:List Bool}{h1 h2:Nat->Nat}(L1:LeanM M (mcOf mv1 m ys1) h1)(L2':LeanM M (mcOf mv2 m ys2) h2)(o1:MvOk mv1 m)(o2:MvOk mv2 m)(l1:ys1.length=mv1.length)(l2:ys2.length=mv2.length){rs:List Nat}(rc:∀r,M.rc r↔r∈rs)(g1:RGr (rs.map h1))(g2:RGr (rs.map h2)):mv1=mv2/\ys1=ys2:=by
 obtain⟨en,eh⟩:=LeanM.one L1 L2' rc g1 g2
 have en:mv1.length=mv2.length:=en
 have mm:m=M.m:=L1.mm
 have dd:∀k a,k<mv1.length->a<m->dM mv1 k a=dM mv2 k a:=λk a hk ha=>by
  obtain⟨r,hr,e⟩:=L1.sur k hk
  have q1:=L1.st r a hr (by omega)
  have q2:=L2'.st r a hr (by omega)
  rw[eh _ (Mc.rc_step hr (by omega)),q2,<-eh r hr,e]at q1
  exact q1.symm
 have yy:∀k,k<mv1.length->ys1.getD k false=ys2.getD k false:=λk hk=>by
  obtain⟨r,hr,e⟩:=L1.sur k hk
  have q1:=L1.ye r hr
  have q2:=L2'.ye r hr
  rw[e]at q1
  rw[<-eh r hr,e]at q2
  exact q1.trans q2.symm
 constructor
 ·refine Om en λk a b=>?_
  have x1:=o1.ln _ (A7 a)
  have x2:=o2.ln _ (A7 b)
  refine Om (by omega) λj c d=>?_
  have q:=dd k j a (by omega)
  unfold dM at q
  simp only[Ae,Aa a,Aa b,Option.getD_some,Aa c,Aa d]at q
  exact q
 ·refine Om (by omega) λk a b=>?_
  have q:=yy k (by omega)
  simp only[Ae,Aa a,Aa b,Option.getD_some]at q
  exact q
theorem LS.rg{mv mv':List (List Nat)}{m first:Nat}{ys ys':List Bool}{rs fr:List Nat}{G:Nat->Nat}(S:LS mv m ys first mv' ys' rs G fr)(nd:rs.Nodup):RGr (rs.map λr=>phi G fr (rs.idxOf r)):=by
 have e:rs.map (λr=>phi G fr (rs.idxOf r))=(List.range rs.length).map (phi G fr):=by
  refine Om (by simp) λi a b=>?_
  rw[Oo,Oo,Ob,nd.idxOf_getElem i (by simpa using a)]
 rw[e]
 intro i k hi j jk
 rw[Ag]at hi
 obtain⟨r,hr,rfl⟩:=A3.mp hi
 obtain⟨rl,e'⟩:=Ad.mp hr
 rw[Ob]at e'
 rw[Az]at rl
 subst e'
 obtain⟨f,f1,f2,f3,f4⟩:=S.mg.at_ rl
 have jl:j<fr.length:=by omega
 have ej:fr[j]?=some fr[j]:=Aa jl
 have lt:fr[j]<f:=by
  obtain⟨q1,q2⟩:=Ad.mp f1
  rw[<-q2]
  exact(Ua.mp S.mg.inc) j _ jl q1 jk
 have fi:f<=i:=by
  by_cases c:f<=i
  ·exact c
  ·exact absurd f2.symm (S.mg.fst f (Al f1) i (by omega))
 refine⟨fr[j],by omega,?_⟩
 rw[Ag,Od (by omega)]
 exact O4 some (S.mg.phi_at ej)
theorem LeanM.anew{M:Mc}{mv:List (List Nat)}{m:Nat}{ys:List Bool}{h:Nat->Nat}(L:LeanM M (mcOf mv m ys) h)(ok:MvOk mv m)(yl:ys.length=mv.length){rs:List Nat}(bf:Bf (dM mv) m 0 rs.length rs){rM:List Nat}(rcM:∀r,M.rc r↔r∈rM)(bM:Bf M.d m 0 rM.length rM) :
  LeanM M (mcOf (cuM (dM mv) m rs) m (rs.map λr=>ys.getD r false)) (λr=>rs.idxOf (h r))/\RGr (rM.map λr=>rs.idxOf (h r))/\rs.length=mv.length:=by
 have n1:1<=mv.length:=L.n1
 have mm:m=M.m:=L.mm
 have bi:=bf.inv (n:=mv.length) (by omega) (λr a hr ha=>(ok.at_ hr ha).2)
 have z:M.rc 0:=⟨[],by simp[Mc.ws],rfl⟩
 have im:=Bf.image (g:=M.d) (g':=dM mv) (h:=h) (P:=M.rc) (n':=mv.length) z (λr hr a ha=>⟨Mc.rc_step hr (by omega),L.st r a hr (by omega)⟩) (by rw[L.z];omega) (λr a hr ha=>(ok.at_ hr ha).2) bM
 rw[L.z,Ii]at im
 have er:rs=ddp (rM.map h):=Bf.full_one bf im.1
 have inr:∀r,M.rc r->h r∈rs:=λr hr=>by rw[er,jcx];exact Am.mpr ⟨r,(rcM r).mp hr,rfl⟩
 have all:∀k,k<mv.length->k∈rs:=λk hk=>by
  obtain⟨r,hr,e⟩:=L.sur k hk
  rw[<-e];exact inr r hr
 have rl:rs.length=mv.length:=by
  have h1:rs.length<=mv.length:=jde bi.nd bi.lt
  have h2:=L2.nodup_len (List.range mv.length) rs Im λx hx=>all x (At.mp hx)
  rw[Az]at h2
  omega
 have ixl:∀r,r∈rs->rs.idxOf r<rs.length:=λr h=>A6.mpr h
 have ixe:∀r,r∈rs->rs[rs.idxOf r]?=some r:=λr h=>by rw[Aa (ixl r h),Iw]
 have cl:(cuM (dM mv) m rs).length=rs.length:=by simp[cuM]
 refine⟨⟨jdg (jdt bi),by show 1<=(cuM (dM mv) m rs).length;omega,by show(cuM (dM mv) m rs).length<=M.n;have:=L.le;rw[cl,rl];exact this,mm,?_,λr hr=>?_,λr a hr ha=>?_,λr hr=>?_,λr s hr hs=>?_,λk hk=>?_⟩,?_,rl⟩
 ·show rs.idxOf (h 0)=0
  rw[L.z]
  have:=bi.z
  cases rs with
  |nil=>simp at this
  |cons x r=>simp at this;subst this;simp
 ·show rs.idxOf (h r)<(cuM (dM mv) m rs).length
  rw[cl];exact ixl _ (inr r hr)
 ·show rs.idxOf (h (M.d r a))=dM (cuM (dM mv) m rs) (rs.idxOf (h r)) a
  rw[jje (ixe _ (inr r hr)) (by omega)]
  exact O4 rs.idxOf (L.st r a hr ha)
 ·show(rs.map λr=>ys.getD r false).getD (rs.idxOf (h r)) false=_
  rw[jc2 (ixe _ (inr r hr))]
  exact L.ye r hr
 ·rw[<-L.inj r s hr hs]
  refine⟨λe=>?_,λe=>by show rs.idxOf (h r)=rs.idxOf (h s);rw[e]⟩
  have a:=ixe _ (inr r hr)
  have e:rs.idxOf (h r)=rs.idxOf (h s):=e
  rw[e,ixe _ (inr s hs)]at a
  exact(Av a).symm
 ·have hk:k<rs.length:=by rw[<-cl];exact hk
  have km:=bi.lt _ (A7 hk)
  obtain⟨r,hr,e⟩:=L.sur _ km
  exact⟨r,hr,by show rs.idxOf (h r)=k;rw[e];exact bi.nd.idxOf_getElem k hk⟩
 ·have:=jnv (rM.map h)
  rw[<-er,Ax]at this
  exact this
theorem jqn(L:List Nat):(L.map nV).all jdj=true:=List.all_eq_true.mpr λx hx=>by
 obtain⟨t,_,rfl⟩:=Am.mp hx
 rfl
theorem jrq(L:List Nat)(t:Nat):inV (nV t) (L.map nV)=decide (t∈L):=by
 unfold inV
 induction L with
 |nil=>rfl
 |cons x L ih =>
  rw[Ay,List.any_cons,ih]
  have:eqV (nV x) (nV t)=decide (x=t):=by
   show decide (_=_)=_
   exact decide_eq_decide.mpr ⟨λz=>Int.ofNat.inj z,λz=>by rw[z]⟩
  rw[this]
  by_cases h:x=t
  ·subst h;simp
  ·have h':¬t=x:=λz=>h z.symm
   simp[h,h']
def spNb:Sp:=λvs H Q _=>∃(pm py:Addr)(z:Str)(us:List V)(mv:List (List Nat))(m:Nat)(ys:List Bool),vs=[.str z,.ref pm,.ref py]/\H pm=some (.tup us)/\RowsM H us mv/\MvOk mv m/\H py=some (.tup (ys.map V.bl))/\ys.length=mv.length/\1<=mv.length/\mv.length<=1000/\m<=1000 /\
 ∀(q a1 a2:Addr)(us':List V)(rs:List Nat)(H':Hp),Bf (dM mv) m 0 rs.length rs->H' q=some (.tup [.str z,.ref a1,.ref a2])->H' a1=some (.tup us')->RowsM H' us' (cuM (dM mv) m rs)->H' a2=some (.tup ((rs.map λr=>ys.getD r false).map V.bl))->Kp [] H H'->Q (.ref q) H'
def ixV(rs:List Nat):V->V
 |.int t=>.int (rs.idxOf t.toNat:Nat)
 |v=>v
def yV(ys:List Bool):V->V
 |.int t=>.bl (ys.getD t.toNat false)
 |v=>v
def rowP(mv:List (List Nat))(m:Nat)(rs:List Nat)(y v:V)(H:Hp):Prop:=∃a,v=.ref a/\∃r,y=nV r/\H a=some (.tup (((List.range m).map λa=>rs.idxOf (dM mv r a)).map nV))
theorem joo(mv:List (List Nat))(m:Nat)(rs:List Nat)(y:V):Firm (rowP mv m rs y):=λS x H1 H2 k ⟨a,e,r,e2,h⟩=>⟨a,e,r,e2,k.tup _ _ h⟩
theorem jp7{mv:List (List Nat)}{m:Nat}{rs0:List Nat}{H:Hp}:∀{rs:List Nat}{xs:List V},Paired (λy x=>rowP mv m rs0 y x H) (rs.map nV) xs->RowsM H xs (rs.map λr=>(List.range m).map λa=>rs0.idxOf (dM mv r a))
 |[],_,.nil=>.nil
 |r::rs,_,.cons ⟨a,e,r',e2,h⟩ t=>by
  have:r=r':=by
   unfold nV at e2
   have:=V.int.inj e2
   omega
  subst this
  exact .cons ⟨a,e,h⟩ (jp7 t)
theorem jqt(rs:List Nat)(t:Nat):(rs.map λx:Nat=>(x:Int)).idxOf (t:Int)=rs.idxOf t:=by
 induction rs with
 |nil=>rfl
 |cons x rs ih =>
  rw[Ay,Y1,Y1,ih]
  have:((x:Int) == (t:Int))=(x == t):=by
   by_cases c:x=t
   ·subst c;simp
   ·rw[O9.mpr c,O9.mpr (by omega)]
  rw[this]
theorem jhz(rs:List Nat):rs.map nV=(rs.map λx:Nat=>(x:Int)).map V.int:=by rw[Ax];rfl
theorem je1{H:Hp}{l:Addr}{rs:List Nat}{t:Nat}{Q:VK}(e:H l=some (.lst (rs.map nV)))(ht:t∈rs)(q:Q (.int (rs.idxOf t:Nat)) H):jew (.ref l) [.int (t:Int)] H Q:=by
 rw[jhz]at e
 refine jm2 e (Am.mpr ⟨t,ht,rfl⟩) ?_
 rw[jqt];exact q
structure TNb(mg:Str->Option Value):Prop where
 n_len:mg "len"=none
 n_tuple:mg "tuple"=none
section
variable{P:Program}{w:World}{K:PySem.W.Frag}{mg:Str->Option Value}{base:Heap}
abbrev yc:Stmt:=top 26
theorem za:FnScope ["_law_letters_here","_law_moves","_law_yes","_law_order","_law_at","_law_goal","_law_rows"] ["_law_letters_here","_law_moves","_law_yes"] (jf yc):=⟨rfl,rfl,rfl,by decide +kernel,rfl,by decide +kernel,by decide +kernel⟩
theorem ok__law_numbered{f:Addr}{fd:FuncData}(F:Fun K "_law_numbered" "_law_numbered" yc f fd)(T:TNb mg):FnOk P w K mg base CX0 1 f fd ["_law_letters_here","_law_moves","_law_yes"] spNb:=by
 refine F.ok za (λvs H Q E h=>?_) (λcdv A outer s H vs Q E hr h=>?_)
 ·obtain⟨pm,py,z,us,mv,m,ys,rfl,_⟩:=h
  rfl
 ·obtain⟨pm,py,z,us,mv,m,ys,rfl,hm,rw',ok,hy,yl,n1,n9,m9,k⟩:=h
  have hu:=hr.units
  have hsz:sizeLine=16777216:=Ia
  have ul:us.length=mv.length:=Il rw'
  have gl:∀r a,r<mv.length->a<m->dM mv r a<mv.length:=λr a hr ha=>(ok.at_ hr ha).2
  refine exQ (jg (jq (i:=3) za.nd rfl (by first|exact Or.inl rfl|exact Or.inr rfl) (yg (ja jh jc)))
  (jg (jq (i:=4) za.nd rfl (by first|exact Or.inl rfl|exact Or.inr rfl) jh)
  (jg (jap Ic (ku jas (qpv 4) (jw j4 (by rfl) T.n_len kj (ja (qpv 3) jc)) (yb _)) (jg (ym Ic rfl (j9 (K:=K) (jt ix_U (qpv 1) (jt ix_U (qpv 3) (qpv 4) (λ_ _=>rfl)) (λ_ _=>rfl)) rfl) (jo (i:=5) za.nd rfl (by first|exact Or.inl rfl|exact Or.inr rfl)) (jj (yt (ku (op_notinU (K:=K) rfl) (qpv 5) (qpv 3) (by with_unfolding_all rfl)) (jj (yh (yf Ij Ik yj (qpv 3) (ja (qpv 5) jc) jcj))) ya)))
  (jj (jq (i:=4) za.nd rfl (by first|exact Or.inl rfl|exact Or.inr rfl) (jv ki (qpv 4) jh)))))
  (jg (jq (i:=6) za.nd rfl (by first|exact Or.inl rfl|exact Or.inr rfl) (ju jx (by rfl) T.n_tuple j6 (ja (kc rfl (jcd (sc:=jf yc) (N:=["_law_letters_here","_law_moves","_law_yes","_law_order","_law_at","_law_goal","_law_rows"]) (Nc:=["_law_room","_law_order","_law_moves"]) (js:=[none,some 3,some 1]) (by decide +kernel)) (j9 (K:=K) (qpv 3) rfl) (λ_ _ _ _=>(jo (i:=0) (show List.Nodup [("_law_room":Str),("_law_order":Str),("_law_moves":Str)]from by decide +kernel) rfl (by first|exact Or.inl rfl|exact Or.inr rfl))) (λ_ _ _ _=>(ju jx (by rfl) T.n_tuple j6 (ja (kc rfl (jcd (sc:=jkw {kind:=.function,names:=[(".0",.local),("_law_room",.local),("tuple",.globalImplicit),("_law_moves",.free),("_law_order",.free)],isGenerator:=false,isCoroutine:=false} (jf yc)) (N:=["_law_room","_law_order","_law_moves"]) (Nc:=["_law_goal","_law_order"]) (js:=[none,some 1]) (by decide +kernel)) (j9 (K:=K) (jt ix_U (qpv 2) (qpv 0) (λ_ _=>rfl)) rfl) (λ_ _ _ _=>(jo (i:=0) (show List.Nodup [("_law_goal":Str),("_law_order":Str)]from by decide +kernel) rfl (by first|exact Or.inl rfl|exact Or.inr rfl))) (λ_ _ _ _=>(yf Wi Wj (jao hu) (qpv 1) (ja (qpv 0) jc) jcj))) jc)))) jc)))
  (jj (j7 (y9 (ja (qpv 0) (ja (qpv 6) (ja (ju jx (by rfl) T.n_tuple j6 (ja (kc rfl (jcd (sc:=jf yc) (N:=["_law_letters_here","_law_moves","_law_yes","_law_order","_law_at","_law_goal","_law_rows"]) (Nc:=["_law_room","_law_yes"]) (js:=[none,some 2]) (by decide +kernel)) (j9 (K:=K) (qpv 3) rfl) (λ_ _ _ _=>(jo (i:=0) (show List.Nodup [("_law_room":Str),("_law_yes":Str)]from by decide +kernel) rfl (by first|exact Or.inl rfl|exact Or.inr rfl))) (λ_ _ _ _=>(jt ix_U (qpv 1) (qpv 0) (λ_ _=>rfl)))) jc)) jc)))))))))) ?_
  simp!
  refine⟨by omega,λpr hpr=>?_⟩
  refine⟨λμ σ H'=>∃(j:Nat)(rs:List Nat)(v5:Option V),σ=[some (.str z),some (.ref pm),some (.ref py),some (.ref pr),some (.int (j:Int)),v5,none]/\Bf (dM mv) m 0 j rs/\H' pr=some (.lst (rs.map nV))/\Kp [] H H'/\μ=mv.length-j,⟨_,0,[0],none,rfl,.z,jb,(Kp.refl [] H).new hpr,rfl⟩,?_⟩
  rintro μ σ H1 ⟨j,rs,v5,rfl,bf,e1,kp,rfl⟩
  have bi:=bf.inv (n:=mv.length) (by omega) gl
  have rl:rs.length<=mv.length:=jde bi.nd bi.lt
  have jl:=bi.jl
  have hm1:=kp.tup _ _ hm
  have rw1:=rw'.kp kp
  simp! [e1]
  rw[Ac]
  by_cases c:j<rs.length
  ·rw[Ao (by simpa using c)]
   have er:rs[j]?=some (rs[j]):=Aa c
   generalize rs[j]=r at er
   have rn:=bi.lt r (Al er)
   obtain⟨cr,hcx,hcr⟩:=rw1.get (show mv[r]?=some (mv.getD r [])by rw[Ae,Aa rn];rfl)
   have rowl:(mv.getD r []).length=m:=ok.ln _ (by rw[Ae,Aa rn];exact A7 _)
   refine⟨_,λ_ _ h=>h,?_⟩
   refine⟨nV r,jce (by rw[Ag,er];rfl),?_⟩
   unfold nV
   rw[jch,hm1]
   refine⟨_,rfl,.ref cr,jce hcx,?_⟩
   simp only[hcr]
   refine jea (xs:=(mv.getD r []).map nV) (λa σ H'=>∃(v5:Option V),σ=[some (.str z),some (.ref pm),some (.ref py),some (.ref pr),some (.int (j:Int)),v5,none]/\H' pr=some (.lst ((cuR (dM mv) r a rs).map nV))/\H' cr=some (.tup ((mv.getD r []).map nV))/\Kp [] H H') ⟨v5,rfl,e1,hcr,kp⟩ ?_ ?_ ?_
   ·rintro a σ H' _ ⟨_,rfl,_,h,_⟩
    exact h
   ·rintro a x σ H2 hx ⟨v5,rfl,e2,r2,kp2⟩
    rw[Ag]at hx
    obtain⟨t,ht,rfl⟩:=A3.mp hx
    have ha:a<m:=by have:=(Ad.mp ht).1;omega
    have td:t=dM mv r a:=by have:=(ok.at_ rn ha).1;rw[ht]at this;exact Av this
    simp! [e2]
    refine rInU.lst e2 rfl (jqn _) ?_
    rw[jrq,jc6]
    unfold cu1
    rw[<-td]
    have cl:(cuR (dM mv) r a rs).length<=mv.length:=jde (jgt bi.nd a) λx hx=>by
     rcases jd8 a x hx with h|⟨b,h1,h2⟩
     ·exact bi.lt x h
     ·rw[h2];exact gl r b rn (by omega)
    by_cases h:t∈cuR (dM mv) r a rs
    ·refine⟨_,rfl,?_⟩
     rw[Ao h,An (by simp[h])]
     exact⟨e2,r2,kp2⟩
    ·refine⟨_,rfl,?_⟩
     rw[An h,Ao (by simp[h]),e2]
     refine⟨rfl,_,rfl,by rw[Ac];omega,by rw[A5];rfl,?_,kp2.set e2 (.inr hpr)⟩
     rw[jd (λz=>by rw[z,e2]at r2;cases r2)];exact r2
   ·rintro σ H2 ⟨v5,rfl,e2,r2,kp2⟩
    rw[Ac,rowl]at e2
    simp!
    exact⟨mv.length-(j+1),by omega,j+1,cuR (dM mv) r m rs,_,⟨rfl,rfl⟩,.s bf er,e2,kp2,rfl⟩
  ·have ej:j=rs.length:=by omega
   subst ej
   rw[An (by simpa using c)]
   intro D hD
   have hD0:H D=none:=kp.free hD
   refine jds (rowP mv m rs) (joo mv m rs) e1 hD (by rw[Ac];omega) (λi y H2 Q' hy k2 q=>?_) λvv xs H2 k2 e2 pr2=>?_
   ·rw[Ag]at hy
    obtain⟨r,hr',rfl⟩:=A3.mp hy
    have rn:=bi.lt r (Al hr')
    have hm2:=(kp.trans k2).tup _ _ hm
    have e12:=k2.old _ _ e1 Af
    obtain⟨cr,hcx,hcr⟩:=((rw'.kp kp).kp k2).get (show mv[r]?=some (mv.getD r [])by rw[Ae,Aa rn];rfl)
    have rowe:mv.getD r []=(List.range m).map (dM mv r):=by
     have rowl:(mv.getD r []).length=m:=ok.ln _ (by rw[Ae,Aa rn];exact A7 _)
     refine Om (by simpa using rowl) λa q1 q2=>?_
     rw[Oo,Ob]
     have:=(ok.at_ rn (show a<m by omega)).1
     rw[Aa q1]at this
     exact Av this
    simp! [nV,hm2]
    refine⟨.ref cr,jce hcx,?_⟩
    simp only[hcr]
    intro D2 hD2
    refine jc5 (ixV rs) hcr hD2 (by rw[rowe];simp;omega) (λx hx l Q'' q'=>?_) λvv=>?_
    ·obtain⟨t,ht,rfl⟩:=Am.mp hx
     have tm:t∈rs:=by
      rw[rowe]at ht
      obtain⟨a,ha,rfl⟩:=Am.mp ht
      exact bi.cl r (by rw[Ii];exact Al hr') a (At.mp ha)
     have e3:=((Kp.refl [] H2).new (o:=.lst l) hD2).old _ _ e12 Af
     simp! [nV,e3]
     exact je1 e3 tm q'
    dsimp only
    refine jcf jb λq2 hq2=>?_
    refine q (.ref q2) _ (((Kp.refl [] H2).new hD2).new hq2) ⟨q2,rfl,r,rfl,?_⟩
    rw[jb,rowe,Ax,Ax,Ax]
    rfl
   have R2:=jp7 pr2
   dsimp only
   refine jcf e2 λq1 hq1=>?_
   have k3:Kp [] H1 (upd H2 q1 (.tup xs)):=k2.new hq1
   have eq1:upd H2 q1 (.tup xs) q1=some (.tup xs):=jb
   have R3:=R2.kp ((Kp.refl [] H2).new (o:=.tup xs) hq1)
   generalize upd H2 q1 (.tup xs)=H3 at k3 eq1 R3⊢
   have e13:=k3.old _ _ e1 Af
   have hy3:=(kp.trans k3).tup _ _ hy
   rw[e13]
   intro D3 hD3
   refine jd0 (yV ys) e13 hD3 (by rw[Ac];omega) (λx hx l Q' q=>?_) λvv=>?_
   ·obtain⟨t,ht,rfl⟩:=Am.mp hx
    have tn:=bi.lt t ht
    have y4:=((Kp.refl [] H3).new (o:=.lst l) hD3).tup _ _ hy3
    simp! [nV,y4]
    exact⟨.bl (ys.getD t false),jce (by rw[Ag,Ae,Aa (by omega)];rfl),q⟩
   dsimp only
   refine jcf jb λq2 hq2=>⟨by omega,λq3 hq3=>?_⟩
   have kA:Kp [] H3 (upd (upd (upd H3 D3 (.lst ((rs.map nV).map (yV ys)))) q2 (.tup ((rs.map nV).map (yV ys)))) q3 (.tup [.str z,.ref q1,.ref q2])):=(((Kp.refl [] H3).new hD3).new hq2).new hq3
   refine k q3 q1 q2 xs rs _ bf jb (kA.tup _ _ eq1) (R3.kp kA) ?_ ((kp.trans k3).trans kA)
   rw[jd (je jb hq3),jb,Ax,Ax]
   rfl
end
def Mc.eqN(M:Mc)(i r s:Nat):Prop:=∀w,M.ws w->w.length<=i->M.y (M.led r w)=M.y (M.led s w)
theorem Mc.eqN_succ(M:Mc)(i r s:Nat):M.eqN (i+1) r s↔M.eqN i r s/\∀a,a<M.m->M.eqN i (M.d r a) (M.d s a):=by
 refine⟨λh=>⟨λw hw hl=>h w hw (by omega),λa ha w hw hl=>h (a::w) (λb hb=>(Ap.mp hb).elim (λe=>e▸ha) (hw b)) (by rw[List.length_cons];omega)⟩,fun⟨h1,h2⟩ w hw hl=>?_⟩
 cases w with
 |nil=>exact h1 [] hw (by simp)
 |cons a w=>exact h2 a (hw a (.head _)) w (λb hb=>hw b (.tail _ hb)) (by rw[List.length_cons]at hl;omega)
theorem Mc.eqN_eq{M:Mc}(ok:M.ok){i:Nat}(st:∀r s,r<M.n->s<M.n->M.eqN i r s->M.eqN (i+1) r s){r s:Nat}(hr:r<M.n)(hs:s<M.n):M.eqN i r s↔M.eq r s:=by
 refine⟨λh=>?_,λh w hw _=>h w hw⟩
 have key:∀(w:List Nat)(r s:Nat),r<M.n->s<M.n->M.ws w->M.eqN i r s->M.y (M.led r w)=M.y (M.led s w):=λw=>by
  induction w with
  |nil=>intro r s _ _ hw h;exact h [] hw (by simp)
  |cons a w ih =>
   intro r s hr hs hw h
   have ha:=hw a (.head _)
   exact ih _ _ (ok.lt r a hr ha) (ok.lt s a hs ha) (λb hb=>hw b (.tail _ hb)) (((M.eqN_succ i r s).mp (st r s hr hs h)).2 a ha)
 exact λw hw=>key w r s hr hs hw h
theorem jj1:∀{V L:List Nat},V.Nodup->(∀x∈V,x∈L)->L.length<=V.length->L.Nodup
 |[],L,_,_,hl=>by
  have:L=[]:=Ux.mp (Nat.le_zero.mp hl)
  subst this
  exact .nil
 |x::V,L,nd,sub,hl=>by
  obtain⟨nx,nd'⟩:=Ol.mp nd
  have xm:=sub x (.head _)
  have el:=Wg xm
  rw[List.length_cons]at hl
  have i:=jj1 (V:=V) (L:=L.erase x) nd' (λy hy=>(U9 (λe:y=x=>nx (e▸hy))).mpr (sub y (.tail _ hy))) (by omega)
  have xn:x∉L.erase x:=λq=>by
   have:=L2.nodup_len (x::V) (L.erase x) nd λy hy=>by
    by_cases c:y=x
    ·subst c;exact q
    ·exact(U9 c).mpr (sub y hy)
   rw[List.length_cons]at this
   have:=Uy xm
   omega
  exact(List.perm_cons_erase xm).nodup_iff.mpr (Ol.mpr ⟨xn,i⟩)
theorem jqg{f g:List Nat}(hl:f.length=g.length)(rf:∀i j:Nat,i<g.length->j<g.length->g[i]?=g[j]?->f[i]?=f[j]?):(ddp f).length<=(ddp g).length/\((ddp g).length<=(ddp f).length->∀i j:Nat,i<g.length->j<g.length->f[i]?=f[j]?->g[i]?=g[j]?):=by
 let φ:Nat->Nat:=λv=>f.getD (g.idxOf v) 0
 have at_:∀i,i<g.length->φ (g.getD i 0)=f.getD i 0:=λi hi=>by
  have gi:g[i]?=some (g.getD i 0):=by rw[Ae,Aa hi];rfl
  have m:=Al gi
  have il:=A6.mpr m
  have e:g[g.idxOf (g.getD i 0)]?=some (g.getD i 0):=by rw[Aa il,Iw]
  have:=rf _ i il hi (e.trans gi.symm)
  show f.getD (g.idxOf (g.getD i 0)) 0=f.getD i 0
  rw[Ae,this,<-Ae]
 have cov:∀u∈ddp f,u∈(ddp g).map φ:=λu hu=>by
  obtain⟨i,hi⟩:=Is ((jcx _ _).mp hu)
  have il:=(Ad.mp hi).1
  refine Am.mpr ⟨g.getD i 0,(jcx _ _).mpr (by rw[Ae,Aa (by omega)];exact A7 _),?_⟩
  rw[at_ i (by omega),Ae,hi];rfl
 have le:=L2.nodup_len _ _ (jes f) cov
 rw[Ac]at le
 refine⟨le,λh i j hi hj e=>?_⟩
 have nd:=jj1 (jes f) cov (by rw[Ac];exact h)
 have gi:g[i]?=some (g.getD i 0):=by rw[Ae,Aa hi];rfl
 have gj:g[j]?=some (g.getD j 0):=by rw[Ae,Aa hj];rfl
 have ep:φ (g.getD i 0)=φ (g.getD j 0):=by rw[at_ i hi,at_ j hj,Ae,Ae,e]
 rw[gi,gj]
 obtain⟨a,ha⟩:=Is ((jcx g _).mpr (Al gi))
 obtain⟨b,hb⟩:=Is ((jcx g _).mpr (Al gj))
 have al:=(Ad.mp ha).1
 have bl:=(Ad.mp hb).1
 have ea:((ddp g).map φ)[a]?=some (φ (g.getD i 0)):=by rw[Ag,ha];rfl
 have eb:((ddp g).map φ)[b]?=some (φ (g.getD i 0)):=by rw[Ag,hb,ep];rfl
 have ab:a=b:=by
  by_cases c:a=b
  ·exact c
  ·obtain⟨a1,a2⟩:=Ad.mp ea
   obtain⟨b1,b2⟩:=Ad.mp eb
   have pw:=Ua.mp nd
   by_cases d:a<b
   ·exact absurd (a2.trans b2.symm) (pw a b a1 b1 d)
   ·exact absurd (b2.trans a2.symm) (pw b a b1 a1 (by omega))
 rw[ab,hb]at ha
 exact ha.symm
structure CLI(M:Mc)(i:Nat)(cl:List Nat):Prop where
 ln:cl.length=M.n
 eq:∀r s,r<M.n->s<M.n->(cl.getD r 0=cl.getD s 0↔M.eqN i r s)
def keyL(M:Mc)(cl:List Nat)(r:Nat):List Nat:=cl.getD r 0::(List.range M.m).map λa=>cl.getD (M.d r a) 0
theorem jqz{M:Mc}(ok:M.ok){i:Nat}{cl:List Nat}(C:CLI M i cl){r s:Nat}(hr:r<M.n)(hs:s<M.n):keyL M cl r=keyL M cl s↔M.eqN (i+1) r s:=by
 rw[M.eqN_succ]
 unfold keyL
 rw[List.cons.injEq,C.eq r s hr hs]
 refine and_congr_right λ_=>⟨λh a ha=>?_,λh=>Ih λa ha=>?_⟩
 ·have q:((List.range M.m).map λa=>cl.getD (M.d r a) 0)[a]?=((List.range M.m).map λa=>cl.getD (M.d s a) 0)[a]?:=by rw[h]
  rw[Ag,Ag,Od ha]at q
  exact(C.eq _ _ (ok.lt r a hr ha) (ok.lt s a hs ha)).mp (Av q)
 ·have ha:=At.mp ha
  exact(C.eq _ _ (ok.lt r a hr ha) (ok.lt s a hs ha)).mpr (h a ha)
theorem CLI.next{M:Mc}(ok:M.ok){i:Nat}{cl:List Nat}(C:CLI M i cl){ks:List (List Nat)}(nd:ks.Nodup)(mem:∀k,k∈ks↔k∈(List.range M.n).map (keyL M cl)) :
  CLI M (i+1) ((List.range M.n).map λr=>ks.idxOf (keyL M cl r))/\(ddp ((List.range M.n).map λr=>ks.idxOf (keyL M cl r))).length=ks.length/\∀x,x∈(List.range M.n).map (λr=>ks.idxOf (keyL M cl r))↔x<ks.length:=by
 have kin:∀r,r<M.n->keyL M cl r∈ks:=λr hr=>(mem _).mpr (Am.mpr ⟨r,At.mpr hr,rfl⟩)
 have g:∀r,r<M.n->((List.range M.n).map λr=>ks.idxOf (keyL M cl r)).getD r 0=ks.idxOf (keyL M cl r):=λr hr=>by
  rw[Ae,Ag,Od hr];rfl
 have inj:∀{a b:List Nat},a∈ks->b∈ks->ks.idxOf a=ks.idxOf b->a=b:=fun{a b} ha hb e=>by
  have q1:ks[ks.idxOf a]?=some a:=by rw[Aa (A6.mpr ha),Iw]
  have q2:ks[ks.idxOf b]?=some b:=by rw[Aa (A6.mpr hb),Iw]
  rw[e,q2]at q1
  exact(Av q1).symm
 have all:∀x,x∈(List.range M.n).map (λr=>ks.idxOf (keyL M cl r))↔x<ks.length:=λx=>by
  constructor
  ·intro h
   obtain⟨r,hr,rfl⟩:=Am.mp h
   exact A6.mpr (kin r (At.mp hr))
  ·intro h
   obtain⟨r,hr,e⟩:=Am.mp ((mem _).mp (A7 h))
   exact Am.mpr ⟨r,hr,by rw[e];exact nd.idxOf_getElem x h⟩
 refine⟨⟨by simp,λr s hr hs=>?_⟩,?_,all⟩
 ·rw[g r hr,g s hs,<-jqz ok C hr hs]
  exact⟨λe=>inj (kin r hr) (kin s hs) e,λe=>by rw[e]⟩
 ·have p:(ddp ((List.range M.n).map λr=>ks.idxOf (keyL M cl r))).Perm (List.range ks.length):=(U4 (jes _) Im).mpr λx=>by rw[jcx,all,At]
  rw[p.length_eq,Az]
theorem CLI.mono{M:Mc}{i:Nat}{cl cl':List Nat}(C:CLI M i cl)(C':CLI M (i+1) cl'):(ddp cl).length<=(ddp cl').length/\((ddp cl').length<=(ddp cl).length->∀r s,r<M.n->s<M.n->M.eqN i r s->M.eqN (i+1) r s):=by
 have ge:∀{c:List Nat}{j:Nat},CLI M j c->∀r s,r<M.n->s<M.n->(c[r]?=c[s]?↔M.eqN j r s):=fun{c j} D r s hr hs=>by
  have dl:=D.ln
  rw[<-D.eq r s hr hs,Ae,Ae,Aa (by omega),Aa (by omega)]
  simp
 have hl:cl.length=cl'.length:=by rw[C.ln,C'.ln]
 obtain⟨h1,h2⟩:=jqg (f:=cl) (g:=cl') hl λi' j' hi hj e=>by
  rw[C'.ln]at hi hj
  exact(ge C i' j' hi hj).mpr (((M.eqN_succ _ _ _).mp ((ge C' i' j' hi hj).mp e)).1)
 refine⟨h1,λh r s hr hs e=>?_⟩
 have:=h2 h r s (by rw[C'.ln];exact hr) (by rw[C'.ln];exact hs) ((ge C r s hr hs).mpr e)
 exact(ge C' r s hr hs).mp this
section
variable{mv:List (List Nat)}{m:Nat}{ys:List Bool}{rs:List Nat}
theorem jp4(ok:MvOk mv m)(n1:1<=mv.length)(bf:Bf (dM mv) m 0 rs.length rs){r a:Nat}(hr:r∈rs)(ha:a<m):dM (cuM (dM mv) m rs) (rs.idxOf r) a=rs.idxOf (dM mv r a)/\dM mv r a∈rs:=by
 have bi:=bf.inv (n:=mv.length) (by omega) (λr a hr ha=>(ok.at_ hr ha).2)
 have ixe:rs[rs.idxOf r]?=some r:=by rw[Aa (A6.mpr hr),Iw]
 exact⟨jje ixe ha,bi.cl r (by rw[Ii];exact hr) a ha⟩
theorem jmc(ok:MvOk mv m)(n1:1<=mv.length)(bf:Bf (dM mv) m 0 rs.length rs)(ys':List Bool):∀(w:List Nat)(r:Nat),(∀a∈w,a<m)->r∈rs->(mcOf (cuM (dM mv) m rs) m ys').led (rs.idxOf r) w=rs.idxOf ((mcOf mv m ys).led r w)/\(mcOf mv m ys).led r w∈rs
 |[],r,_,h=>⟨rfl,h⟩
 |a::w,r,hw,h=>by
  obtain⟨e,q⟩:=jp4 ok n1 bf h (hw a (.head _))
  have:=jmc ok n1 bf ys' w (dM mv r a) (λb hb=>hw b (.tail _ hb)) q
  refine⟨?_,this.2⟩
  show(mcOf (cuM (dM mv) m rs) m ys').led (dM (cuM (dM mv) m rs) (rs.idxOf r) a) w=_
  rw[e];exact this.1
theorem jm8(h:r∈rs):(rs.map λr=>ys.getD r false).getD (rs.idxOf r) false=ys.getD r false :=
 jc2 (by rw[Aa (A6.mpr h),Iw])
theorem jr1(ok:MvOk mv m)(n1:1<=mv.length)(bf:Bf (dM mv) m 0 rs.length rs){r s:Nat}(hr:r∈rs)(hs:s∈rs):(mcOf (cuM (dM mv) m rs) m (rs.map λr=>ys.getD r false)).eq (rs.idxOf r) (rs.idxOf s)↔(mcOf mv m ys).eq r s:=by
 have one:∀w,(∀a∈w,a<m)->∀r,r∈rs->(mcOf (cuM (dM mv) m rs) m (rs.map λr=>ys.getD r false)).y ((mcOf (cuM (dM mv) m rs) m (rs.map λr=>ys.getD r false)).led (rs.idxOf r) w)=(mcOf mv m ys).y ((mcOf mv m ys).led r w):=λw hw r hr=>by
  obtain⟨e1,e2⟩:=jmc (ys:=ys) ok n1 bf (rs.map λr=>ys.getD r false) w r hw hr
  rw[e1]
  exact jm8 e2
 refine⟨λh w hw=>?_,λh w hw=>?_⟩
 ·rw[<-one w hw r hr,<-one w hw s hs];exact h w hw
 ·rw[one w hw r hr,one w hw s hs];exact h w hw
def mvN(mvC:List (List Nat))(m:Nat)(cl order:List Nat):List (List Nat):=order.map λone=>(List.range m).map λa=>order.idxOf (cl.getD (dM mvC (cl.idxOf one) a) 0)
def ysN(ysC:List Bool)(cl order:List Nat):List Bool:=order.map λone=>ysC.getD (cl.idxOf one) false
structure Ord(cl order:List Nat)(many:Nat):Prop where
 nd:order.Nodup
 mem:∀x,x∈order↔x<many
 z:order[0]?=some (cl.getD 0 0)
theorem jka(ok:MvOk mv m)(n1:1<=mv.length)(bf:Bf (dM mv) m 0 rs.length rs){cl order:List Nat}{many:Nat}(ln:cl.length=rs.length)
  (ce:∀r s,r<rs.length->s<rs.length->(cl.getD r 0=cl.getD s 0↔(mcOf (cuM (dM mv) m rs) m (rs.map λr=>ys.getD r false)).eq r s)) (dn:∀x,x∈cl↔x<many) (O:Ord cl order many) :
  LeanM (mcOf mv m ys) (mcOf (mvN (cuM (dM mv) m rs) m cl order) m (ysN (rs.map λr=>ys.getD r false) cl order)) (λr=>order.idxOf (cl.getD (rs.idxOf r) 0))/\MvOk (mvN (cuM (dM mv) m rs) m cl order) m/\(ysN (rs.map λr=>ys.getD r false) cl order).length=(mvN (cuM (dM mv) m rs) m cl order).length/\(mvN (cuM (dM mv) m rs) m cl order).length=many:=by
 have bi:=bf.inv (n:=mv.length) (by omega) (λr a hr ha=>(ok.at_ hr ha).2)
 have r1:1<=rs.length:=(Ad.mp bi.z).1
 have rl:rs.length<=mv.length:=jde bi.nd bi.lt
 have cok:=jdt bi
 have cL:(cuM (dM mv) m rs).length=rs.length:=by simp[cuM]
 have ol:order.length=many:=by
  have p:order.Perm (List.range many):=(U4 O.nd Im).mpr λx=>by rw[O.mem,At]
  rw[p.length_eq,Az]
 have clm:∀r,r<rs.length->cl.getD r 0∈order:=λr hr=>(O.mem _).mpr ((dn _).mp (by rw[Ae,Aa (by omega)];exact A7 _))
 have fi:∀x,x<many->cl.idxOf x<rs.length/\cl.getD (cl.idxOf x) 0=x:=λx hx=>by
  have xm:=(dn x).mpr hx
  have il:=A6.mpr xm
  exact⟨by omega,by rw[Ae,Aa il,Iw];rfl⟩
 have ixl:∀{x},x∈order->order.idxOf x<order.length:=λh=>A6.mpr h
 have ixe:∀{x},x∈order->order[order.idxOf x]?=some x:=λh=>by rw[Aa (ixl h),Iw]
 have nl:(mvN (cuM (dM mv) m rs) m cl order).length=order.length:=by simp[mvN]
 have dlt:∀r a,r<rs.length->a<m->dM (cuM (dM mv) m rs) r a<rs.length:=λr a hr ha=>by
  have:=(cok.at_ (show r<(cuM (dM mv) m rs).length by omega) ha).2
  omega
 have dN:∀{x a:Nat},x∈order->a<m->dM (mvN (cuM (dM mv) m rs) m cl order) (order.idxOf x) a=order.idxOf (cl.getD (dM (cuM (dM mv) m rs) (cl.idxOf x) a) 0):=fun{x a} hx ha=>by
  show((mvN (cuM (dM mv) m rs) m cl order).getD (order.idxOf x) []).getD a 0=_
  unfold mvN
  rw[jc2 (ixe hx),jc2 (Od ha)]
 have mok:MvOk (mvN (cuM (dM mv) m rs) m cl order) m:=by
  refine⟨λrow hrow=>?_,λrow hrow x hx=>?_⟩
  ·obtain⟨one,_,rfl⟩:=Am.mp hrow;simp
  ·obtain⟨one,ho,rfl⟩:=Am.mp hrow
   obtain⟨a,ha,rfl⟩:=Am.mp hx
   rw[nl]
   exact ixl (clm _ (dlt _ a (fi one ((O.mem one).mp ho)).1 (At.mp ha)))
 have ixr:∀r,r∈rs->rs.idxOf r<rs.length:=λr h=>A6.mpr h
 have rc:=jkv (ys:=ys) ok n1 bf
 have st1:∀{k k' a:Nat},k<rs.length->k'<rs.length->a<m->cl.getD k 0=cl.getD k' 0->cl.getD (dM (cuM (dM mv) m rs) k a) 0=cl.getD (dM (cuM (dM mv) m rs) k' a) 0:=fun{k k' a} hk hk' ha e=>by
  have q:=(ce k k' hk hk').mp e
  exact(ce _ _ (dlt k a hk ha) (dlt k' a hk' ha)).mpr (Mc.eq_step q ha)
 refine⟨⟨jdg mok,?_,?_,rfl,?_,λr hr=>?_,λr a hr ha=>?_,λr hr=>?_,λr s hr hs=>?_,λk hk=>?_⟩,mok,by simp[ysN,mvN],by rw[nl,ol]⟩
 ·show 1<=(mvN (cuM (dM mv) m rs) m cl order).length
  rw[nl]
  exact(Ad.mp O.z).1
 ·show(mvN (cuM (dM mv) m rs) m cl order).length<=mv.length
  rw[nl,ol]
  have:=L2.nodup_len (List.range many) cl Im λx hx=>(dn x).mpr (At.mp hx)
  rw[Az]at this
  omega
 ·show order.idxOf (cl.getD (rs.idxOf 0) 0)=0
  have e0:rs.idxOf 0=0:=by
   have:=bi.z
   cases rs with
   |nil=>simp at this
   |cons x r=>simp at this;subst this;simp
  rw[e0]
  have oz:=O.z
  cases order with
  |nil=>simp at oz
  |cons x r=>simp at oz;subst oz;simp
 ·show order.idxOf _<(mvN (cuM (dM mv) m rs) m cl order).length
  rw[nl];exact ixl (clm _ (ixr r ((rc r).mp hr)))
 ·have rm:=(rc r).mp hr
  obtain⟨e,q⟩:=jp4 ok n1 bf rm ha
  show order.idxOf (cl.getD (rs.idxOf (dM mv r a)) 0)=dM (mvN (cuM (dM mv) m rs) m cl order) (order.idxOf (cl.getD (rs.idxOf r) 0)) a
  have cm:=clm _ (ixr r rm)
  rw[dN cm ha,<-e]
  have f:=fi _ ((O.mem _).mp cm)
  rw[st1 (ixr r rm) f.1 ha f.2.symm]
 ·have rm:=(rc r).mp hr
  have cm:=clm _ (ixr r rm)
  show(ysN (rs.map λr=>ys.getD r false) cl order).getD (order.idxOf (cl.getD (rs.idxOf r) 0)) false=ys.getD r false
  unfold ysN
  rw[jc2 (ixe cm),<-jm8 (ys:=ys) rm]
  have f:=fi _ ((O.mem _).mp cm)
  exact(Mc.eq_y ((ce _ _ (ixr r rm) f.1).mp f.2.symm)).symm
 ·have rm:=(rc r).mp hr
  have sm:=(rc s).mp hs
  show order.idxOf (cl.getD (rs.idxOf r) 0)=order.idxOf (cl.getD (rs.idxOf s) 0)↔_
  rw[<-jr1 (ys:=ys) ok n1 bf rm sm,<-ce _ _ (ixr r rm) (ixr s sm)]
  refine⟨λe=>?_,λe=>by rw[e]⟩
  have a:=ixe (clm _ (ixr r rm))
  rw[e,ixe (clm _ (ixr s sm))]at a
  exact(Av a).symm
 ·have hk:k<order.length:=by rw[<-nl];exact hk
  have f:=fi order[k] ((O.mem _).mp (A7 hk))
  refine⟨rs[cl.idxOf order[k]]'(f.1),(rc _).mpr (A7 f.1),?_⟩
  show order.idxOf (cl.getD (rs.idxOf (rs[cl.idxOf order[k]]'(f.1))) 0)=k
  rw[bi.nd.idxOf_getElem _ f.1,f.2]
  exact O.nd.idxOf_getElem k hk
end
theorem Mc.led_app'(M:Mc)(r:Nat)(w u:List Nat):M.led r (w++u)=M.led (M.led r w) u:=by unfold Mc.led;rw[Uf]
theorem jhr{M:Mc}{w u:List Nat}(h:M.ws w)(h2:M.ws u):M.ws (w++u):=λa ha=>(Au.mp ha).elim (h a) (h2 a)
theorem LeanM.led{M M':Mc}{h:Nat->Nat}(L:LeanM M M' h):∀{w:List Nat}{r:Nat},M.rc r->M.ws w->M'.led (h r) w=h (M.led r w)/\M.rc (M.led r w)
 |[],r,hr,_=>⟨rfl,hr⟩
 |a::w,r,hr,hw=>by
  have ha:=hw a (.head _)
  have:=LeanM.led L (w:=w) (Mc.rc_step hr ha) λb hb=>hw b (.tail _ hb)
  show M'.led (M'.d (h r) a) w=h (M.led (M.d r a) w)/\_
  rw[<-L.st r a hr ha]
  exact this
theorem LeanM.ws{M M':Mc}{h:Nat->Nat}(L:LeanM M M' h){w:List Nat}:M'.ws w↔M.ws w:=by unfold Mc.ws;rw[L.mm]
theorem jid{f:List Nat}(h:RGr f):∀i,i<=f.length->∃k,ddp (f.take i)=List.range k/\∀x,x∈f.take i↔x<k
 |0,_=>⟨0,by simp[ddp],by simp⟩
 |i+1,hi=>by
  obtain⟨k,e,m⟩:=jid h i (by omega)
  have ex:f[i]?=some f[i]:=Aa (by omega)
  generalize f[i]=x at ex
  have tk:f.take (i+1)=f.take i++[x]:=by rw[Oa,ex];rfl
  rw[tk,jdv,e]
  unfold dd1
  by_cases c:x<k
  ·rw[Ao (At.mpr c)]
   refine⟨k,rfl,λy=>?_⟩
   rw[Au,m,Aj]
   exact⟨λq=>q.elim id λz=>z▸c,.inl⟩
  ·rw[An (λz=>c (At.mp z))]
   have xk:x=k:=by
    by_cases d:k<x
    ·obtain⟨i',i1,i2⟩:=h i x ex k d
     have:k∈f.take i:=by
      rw[<-Wc i1]at i2
      exact Al i2
     have:=(m k).mp this
     omega
    ·omega
   subst xk
   refine⟨x+1,by rw[Uq],λy=>?_⟩
   rw[Au,m,Aj]
   omega
theorem jgu{f:List Nat}{n:Nat}(h:RGr f)(mem:∀x,x∈f↔x<n):ddp f=List.range n:=by
 obtain⟨k,e,m⟩:=jid h f.length (Ak _)
 rw[Ii]at e m
 have:k=n:=by
  by_cases c:k<n
  ·have:=(m k).mp ((mem k).mpr c);omega
  ·by_cases d:n<k
   ·have:=(mem n).mp ((m n).mpr d);omega
   ·omega
 rw[e,this]
theorem LeanM.can{M:Mc}{mv:List (List Nat)}{m:Nat}{ys:List Bool}{h:Nat->Nat}(L:LeanM M (mcOf mv m ys) h)(ok:MvOk mv m){rM:List Nat}(rcM:∀r,M.rc r↔r∈rM)(bM:Bf M.d m 0 rM.length rM) :
  (RGr (rM.map h)->Bf (dM mv) m 0 mv.length (List.range mv.length))/\(Bf (dM mv) m 0 mv.length (List.range mv.length)->RGr (rM.map h)):=by
 have mm:m=M.m:=L.mm
 have n1:1<=mv.length:=L.n1
 have z:M.rc 0:=⟨[],by simp[Mc.ws],rfl⟩
 have im:=(Bf.image (g:=M.d) (g':=dM mv) (h:=h) (P:=M.rc) (n':=mv.length) z (λr hr a ha=>⟨Mc.rc_step hr (by omega),L.st r a hr (by omega)⟩) (by rw[L.z];omega) (λr a hr ha=>(ok.at_ hr ha).2) bM).1
 rw[L.z,Ii]at im
 have mem:∀x,x∈rM.map h↔x<mv.length:=λx=>by
  constructor
  ·intro q
   obtain⟨r,hr,rfl⟩:=Am.mp q
   exact L.lt r ((rcM r).mpr hr)
  ·intro q
   obtain⟨r,hr,e⟩:=L.sur x q
   exact Am.mpr ⟨r,(rcM r).mp hr,e⟩
 refine⟨λrg=>?_,λb=>?_⟩
 ·have e:=jgu rg mem
  rw[e,Az]at im
  exact im
 ·have b':Bf (dM mv) m 0 (List.range mv.length).length (List.range mv.length):=by rw[Az];exact b
  have e:=Bf.full_one im b'
  have rg:=jnv (rM.map h)
  rw[e,Ax]at rg
  have:rM.map ((λx=>(List.range mv.length).idxOf x)∘h)=rM.map h:=Ih λr hr=>by
   have hl:=L.lt r ((rcM r).mpr hr)
   show(List.range mv.length).idxOf (h r)=h r
   have hl:h r<(List.range mv.length).length:=by rw[Az];exact hl
   have:=(Im (n:=mv.length)).idxOf_getElem (h r) hl
   rw[Ob]at this
   exact this
  rw[this]at rg
  exact rg
theorem LeanM.refl{M N:Mc}{h:Nat->Nat}(L:LeanM M N h):LeanM N N id/\∀k,N.rc k↔k<N.n:=by
 have z:M.rc 0:=⟨[],by simp[Mc.ws],rfl⟩
 have rcN:∀k,N.rc k↔k<N.n:=λk=>by
  constructor
  ·rintro⟨w,hw,rfl⟩
   exact Mc.led_lt L.ok L.n1 hw
  ·intro hk
   obtain⟨r,⟨w,hw,e⟩,ek⟩:=L.sur k hk
   refine⟨w,L.ws.mpr hw,?_⟩
   have:=(L.led z hw).1
   rw[L.z,e,ek]at this
   exact this
 refine⟨⟨L.ok,L.n1,Ak _,rfl,rfl,λr hr=>(rcN r).mp hr,λr a _ _=>rfl,λr _=>rfl,λr s hr hs=>?_,λk hk=>⟨k,(rcN k).mpr hk,rfl⟩⟩,rcN⟩
 obtain⟨r0,hr0,e1⟩:=L.sur r ((rcN r).mp hr)
 obtain⟨s0,hs0,e2⟩:=L.sur s ((rcN s).mp hs)
 show r=s↔_
 rw[<-e1,<-e2,L.inj r0 s0 hr0 hs0]
 have one:∀r,M.rc r->∀w,M.ws w->N.y (N.led (h r) w)=M.y (M.led r w):=λr hr w hw=>by
  obtain⟨q1,q2⟩:=L.led hr hw
  rw[q1,L.ye _ q2]
 refine⟨λq w hw=>?_,λq w hw=>?_⟩
 ·rw[one r0 hr0 w (L.ws.mp hw),one s0 hs0 w (L.ws.mp hw)];exact q w (L.ws.mp hw)
 ·rw[<-one r0 hr0 w hw,<-one s0 hs0 w hw];exact q w (L.ws.mpr hw)
def Lang(M1 M2:Mc):Prop:=M1.m=M2.m/\∀w,M1.ws w->M1.y (M1.led 0 w)=M2.y (M2.led 0 w)
theorem Lang.symm{M1 M2:Mc}(h:Lang M1 M2):Lang M2 M1:=⟨h.1.symm,λw hw=>(h.2 w (by unfold Mc.ws at hw⊢;rw[h.1];exact hw)).symm⟩
theorem Lang.trans{M1 M2 M3:Mc}(h:Lang M1 M2)(h':Lang M2 M3):Lang M1 M3:=⟨h.1.trans h'.1,λw hw=>(h.2 w hw).trans (h'.2 w (by unfold Mc.ws at hw⊢;rw[<-h.1];exact hw))⟩
theorem LeanM.tells{M N:Mc}{h:Nat->Nat}(L:LeanM M N h):Lang M N:=by
 have z:M.rc 0:=⟨[],by simp[Mc.ws],rfl⟩
 refine⟨L.mm.symm,λw hw=>?_⟩
 obtain⟨q1,q2⟩:=L.led z hw
 rw[L.z]at q1
 rw[q1,L.ye _ q2]
theorem LeanM.lang{M1 M2 N:Mc}{h1:Nat->Nat}(L:LeanM M1 N h1)(ok2:M2.ok)(n2:1<=M2.n)(la:Lang M1 M2):∃h2,LeanM M2 N h2:=by
 obtain⟨mm,la⟩:=la
 have z:M1.rc 0:=⟨[],by simp[Mc.ws],rfl⟩
 have ws:∀w,M2.ws w↔M1.ws w:=λw=>by unfold Mc.ws;rw[mm]
 have rc1:∀w,M1.ws w->M1.rc (M1.led 0 w):=λw hw=>⟨w,hw,rfl⟩
 have ex:∀r,∃k:Nat,M2.rc r->∃w,M2.ws w/\M2.led 0 w=r/\h1 (M1.led 0 w)=k:=λr=>by
  by_cases c:M2.rc r
  ·obtain⟨w,hw,e⟩:=c
   exact⟨h1 (M1.led 0 w),λ_=>⟨w,hw,e,rfl⟩⟩
  ·exact⟨0,λq=>absurd q c⟩
 let h2:Nat->Nat:=λr=>Classical.choose (ex r)
 have h2s:∀r,M2.rc r->∃w,M2.ws w/\M2.led 0 w=r/\h1 (M1.led 0 w)=h2 r:=λr=>Classical.choose_spec (ex r)
 have key:∀w,M2.ws w->h2 (M2.led 0 w)=h1 (M1.led 0 w):=λw hw=>by
  obtain⟨w',hw',e,e2⟩:=h2s _ ⟨w,hw,rfl⟩
  rw[<-e2]
  refine(L.inj _ _ (rc1 w' ((ws _).mp hw')) (rc1 w ((ws _).mp hw))).mpr λu hu=>?_
  rw[<-Mc.led_app',<-Mc.led_app',la _ (jhr ((ws _).mp hw') hu),la _ (jhr ((ws _).mp hw) hu),Mc.led_app',Mc.led_app',e]
 have yk:∀w,M2.ws w->N.y (h1 (M1.led 0 w))=M2.y (M2.led 0 w):=λw hw=>by rw[L.ye _ (rc1 w ((ws _).mp hw)),la w ((ws _).mp hw)]
 refine⟨h2,L.ok,L.n1,?_,by rw[L.mm,mm],?_,λr hr=>?_,λr a hr ha=>?_,λr hr=>?_,λr s hr hs=>?_,λk hk=>?_⟩
 ·have sur:∀k,k<N.n->∃r,M2.rc r/\h2 r=k:=λk hk=>by
   obtain⟨r,⟨w,hw,e⟩,ek⟩:=L.sur k hk
   exact⟨M2.led 0 w,⟨w,(ws _).mpr hw,rfl⟩,by rw[key w ((ws _).mpr hw),e,ek]⟩
  have:=L2.nodup_len (List.range N.n) ((List.range M2.n).map h2) Im λk hk=>by
   obtain⟨r,hr,e⟩:=sur k (At.mp hk)
   exact Am.mpr ⟨r,At.mpr (Mc.rc_lt ok2 n2 hr),e⟩
  rw[Ac,Az,Az]at this
  exact this
 ·have:=key [] (by simp[Mc.ws])
  exact this.trans L.z
 ·obtain⟨w,hw,rfl⟩:=hr
  rw[key w hw]
  exact L.lt _ (rc1 w ((ws _).mp hw))
 ·obtain⟨w,hw,rfl⟩:=hr
  have hw2:M2.ws (w++[a]):=jhr hw (λb hb=>by cases Aj.mp hb;exact ha)
  have e:M2.d (M2.led 0 w) a=M2.led 0 (w++[a]):=by rw[Mc.led_app'];rfl
  have e':M1.d (M1.led 0 w) a=M1.led 0 (w++[a]):=by rw[Mc.led_app'];rfl
  rw[e,key _ hw2,<-e',key w hw]
  exact L.st _ a (rc1 w ((ws _).mp hw)) (by rw[mm];exact ha)
 ·obtain⟨w,hw,rfl⟩:=hr
  rw[key w hw];exact yk w hw
 ·obtain⟨w,hw,rfl⟩:=hr
  obtain⟨v,hv,rfl⟩:=hs
  rw[key w hw,key v hv,L.inj _ _ (rc1 w ((ws _).mp hw)) (rc1 v ((ws _).mp hv))]
  have one:∀w,M2.ws w->∀u,M2.ws u->M1.y (M1.led (M1.led 0 w) u)=M2.y (M2.led (M2.led 0 w) u):=λw hw u hu=>by
   rw[<-Mc.led_app',<-Mc.led_app']
   exact la _ ((ws _).mp (jhr hw hu))
  refine⟨λq u hu=>?_,λq u hu=>?_⟩
  ·rw[<-one w hw u hu,<-one v hv u hu];exact q u ((ws _).mp hu)
  ·rw[one w hw u ((ws _).mpr hu),one v hv u ((ws _).mpr hu)];exact q u ((ws _).mpr hu)
 ·obtain⟨r,⟨w,hw,e⟩,ek⟩:=L.sur k hk
  exact⟨M2.led 0 w,⟨w,(ws _).mpr hw,rfl⟩,by rw[key w ((ws _).mpr hw),e,ek]⟩
structure Lst(M:Mc)(mv:List (List Nat))(m:Nat)(ys:List Bool):Prop where
 h:∃h,LeanM M (mcOf mv m ys) h
 b:Bf (dM mv) m 0 mv.length (List.range mv.length)
 ok:MvOk mv m
 yl:ys.length=mv.length
theorem Lst.one{M1 M2:Mc}{mv1 mv2:List (List Nat)}{m:Nat}{ys1 ys2:List Bool}(a:Lst M1 mv1 m ys1)(b:Lst M2 mv2 m ys2)(la:Lang M1 M2):mv1=mv2/\ys1=ys2:=by
 obtain⟨h1,L1⟩:=a.h
 obtain⟨h2,L2'⟩:=b.h
 obtain⟨R1,rc⟩:=L1.refl
 obtain⟨h3,L3⟩:=L2'.lang L1.ok L1.n1 (la.symm.trans L1.tells)
 have rcr:∀r,(mcOf mv1 m ys1).rc r↔r∈List.range mv1.length:=λr=>by rw[At];exact rc r
 have bb:Bf (mcOf mv1 m ys1).d m 0 (List.range mv1.length).length (List.range mv1.length):=by rw[Az];exact a.b
 exact LeanM.same R1 L3 a.ok b.ok a.yl b.yl rcr ((R1.can a.ok rcr bb).2 a.b) ((L3.can b.ok rcr bb).2 b.b)
theorem jn9{n i:Nat}(h:i<n):(List.range n).idxOf i=i:=by
 have hl:i<(List.range n).length:=by rw[Az];exact h
 have:=(Im (n:=n)).idxOf_getElem i hl
 rw[Ob]at this
 exact this
theorem jkz{mv:List (List Nat)}{m r:Nat}(ok:MvOk mv m)(h1:r<mv.length):mv.getD r []=(List.range m).map (dM mv r):=by
 have rm:mv.getD r []∈mv:=by rw[Ae,Aa h1];exact A7 _
 refine Om (by simpa using ok.ln _ rm) λa q1 q2=>?_
 rw[Oo,Ob]
 have:=(ok.at_ h1 (show a<m by simpa using q2)).1
 rw[Aa q1]at this
 exact Av this
theorem jo7{mv:List (List Nat)}{m:Nat}(ok:MvOk mv m):cuM (dM mv) m (List.range mv.length)=mv:=by
 unfold cuM
 refine Om (by simp) λi h1 h2=>?_
 rw[Oo,Ob]
 have e:mv[i]=mv.getD i []:=by rw[Ae,Aa h2];rfl
 rw[e,jkz ok h2]
 refine Ih λa ha=>jn9 (ok.at_ h2 (At.mp ha)).2
theorem jri{ys:List Bool}{n:Nat}(h:ys.length=n):(List.range n).map (λr=>ys.getD r false)=ys:=by
 subst h
 refine Om (by simp) λi h1 h2=>?_
 rw[Oo,Ob,Ae,Aa h2];rfl
section
variable{mv mv':List (List Nat)}{m first:Nat}{ys ys':List Bool}{rs fr:List Nat}{G:Nat->Nat}
theorem jn7(ok:MvOk mv m)(f0:first<mv.length)(bf:Bf (dM mv) m first rs.length rs){r a:Nat}(hr:r∈rs)(ha:a<m):dM (cuM (dM mv) m rs) (rs.idxOf r) a=rs.idxOf (dM mv r a)/\dM mv r a∈rs:=by
 have bi:=bf.inv (n:=mv.length) f0 (λr a hr ha=>(ok.at_ hr ha).2)
 have ixe:rs[rs.idxOf r]?=some r:=by rw[Aa (A6.mpr hr),Iw]
 exact⟨jje ixe ha,bi.cl r (by rw[Ii];exact hr) a ha⟩
theorem jn6(ok:MvOk mv m)(f0:first<mv.length)(bf:Bf (dM mv) m first rs.length rs):rs.idxOf first=0/\first∈rs:=by
 have bi:=bf.inv (n:=mv.length) f0 (λr a hr ha=>(ok.at_ hr ha).2)
 have:=bi.z
 cases rs with
 |nil=>simp at this
 |cons x r=>simp at this;subst this;simp
theorem jj8(ok:MvOk mv m)(f0:first<mv.length)(bf:Bf (dM mv) m first rs.length rs)(y1 y2:List Bool):∀(w:List Nat)(r:Nat),(∀a∈w,a<m)->r∈rs->(mcOf (cuM (dM mv) m rs) m y1).led (rs.idxOf r) w=rs.idxOf ((mcOf mv m y2).led r w)/\(mcOf mv m y2).led r w∈rs
 |[],r,_,h=>⟨rfl,h⟩
 |a::w,r,hw,h=>by
  obtain⟨e,q⟩:=jn7 ok f0 bf h (hw a (.head _))
  have:=jj8 ok f0 bf y1 y2 w (dM mv r a) (λb hb=>hw b (.tail _ hb)) q
  refine⟨?_,this.2⟩
  show(mcOf (cuM (dM mv) m rs) m y1).led (dM (cuM (dM mv) m rs) (rs.idxOf r) a) w=_
  rw[e];exact this.1
theorem jl0(ok:MvOk mv m)(f0:first<mv.length)(bf:Bf (dM mv) m first rs.length rs):Bf (dM (cuM (dM mv) m rs)) m 0 rs.length (List.range rs.length):=by
 have bi:=bf.inv (n:=mv.length) f0 (λr a hr ha=>(ok.at_ hr ha).2)
 have cok:=jdt bi
 have cL:(cuM (dM mv) m rs).length=rs.length:=by simp[cuM]
 obtain⟨z,zm⟩:=jn6 ok f0 bf
 have r1:1<=rs.length:=(Ad.mp bi.z).1
 have im:=(Bf.image (g:=dM mv) (g':=dM (cuM (dM mv) m rs)) (h:=rs.idxOf) (P:=(·∈rs)) (n':=rs.length) zm (λr hr a ha=>let⟨e,q⟩:=jn7 ok f0 bf hr ha;⟨q,e.symm⟩) (by rw[z];omega) (λr a hr ha=>by have:=(cok.at_ (show r<(cuM (dM mv) m rs).length by omega) ha).2;omega) bf).1
 rw[z,Ii]at im
 have e:rs.map rs.idxOf=List.range rs.length:=by
  refine Om (by simp) λi h1 h2=>?_
  rw[Oo,Ob,bi.nd.idxOf_getElem i (by simpa using h2)]
 have d:ddp (List.range rs.length)=List.range rs.length:=by
  refine jgu (λi k hi j jk=>?_) (λx=>At)
  obtain⟨il,e⟩:=Ad.mp hi
  rw[Ob]at e
  rw[Az]at il
  subst e
  exact⟨j,jk,Od (by omega)⟩
 rw[e,d,Az]at im
 exact im
theorem LS.self(S:LS mv m ys first mv' ys' rs G fr)(ok:MvOk mv m)(f0:first<mv.length):LS (cuM (dM mv) m rs) m (rs.map λr=>ys.getD r false) 0 mv' ys' (List.range rs.length) G fr:=by
 have bi:=S.bf.inv (n:=mv.length) f0 (λr a hr ha=>(ok.at_ hr ha).2)
 have cok:=jdt bi
 have cL:(cuM (dM mv) m rs).length=rs.length:=by simp[cuM]
 have e1:cuM (dM (cuM (dM mv) m rs)) m (List.range rs.length)=cuM (dM mv) m rs:=by
  have:=jo7 cok
  rw[cL]at this
  exact this
 have e2:(List.range rs.length).map (λr=>(rs.map λr=>ys.getD r false).getD r false)=rs.map λr=>ys.getD r false:=jri (by simp)
 refine⟨by rw[Az];exact jl0 ok f0 S.bf,λr s hr hs=>?_,by rw[Az];exact S.mg,?_,?_⟩
 ·rw[Az]at hr hs
  rw[e1,e2]
  exact S.gr r s hr hs
 ·rw[e1];exact S.em
 ·rw[e2];exact S.ey
theorem LS.lst(S:LS mv m ys first mv' ys' rs G fr)(ok:MvOk mv m)(f0:first<mv.length):Lst (mcOf (cuM (dM mv) m rs) m (rs.map λr=>ys.getD r false)) mv' m ys':=by
 have bi:=S.bf.inv (n:=mv.length) f0 (λr a hr ha=>(ok.at_ hr ha).2)
 have cok:=jdt bi
 have cL:(cuM (dM mv) m rs).length=rs.length:=by simp[cuM]
 have r1:1<=rs.length:=(Ad.mp bi.z).1
 have S':=S.self ok f0
 obtain⟨L,ok',yl'⟩:=S'.lean cok (by omega)
 have b':=jl0 ok f0 S.bf
 have b2:Bf (dM (cuM (dM mv) m rs)) m 0 (List.range rs.length).length (List.range rs.length):=by rw[Az];exact b'
 have rc:=jkv (ys:=rs.map λr=>ys.getD r false) cok (by omega) b2
 exact⟨⟨_,L⟩,(L.can ok' rc b2).1 (S'.rg Im),ok',yl'⟩
theorem LS.tells(S:LS mv m ys first mv' ys' rs G fr)(ok:MvOk mv m)(f0:first<mv.length)(w:List Nat)(hw:∀a∈w,a<m):(mcOf (cuM (dM mv) m rs) m (rs.map λr=>ys.getD r false)).y ((mcOf (cuM (dM mv) m rs) m (rs.map λr=>ys.getD r false)).led 0 w)=(mcOf mv m ys).y ((mcOf mv m ys).led first w):=by
 obtain⟨z,zm⟩:=jn6 ok f0 S.bf
 obtain⟨e,q⟩:=jj8 ok f0 S.bf (rs.map λr=>ys.getD r false) ys w first hw zm
 rw[z]at e
 rw[e]
 exact jm8 q
end
theorem jq1{mv:List (List Nat)}{m:Nat}{ys:List Bool}{rs:List Nat}(ok:MvOk mv m)(n1:1<=mv.length)(bf:Bf (dM mv) m 0 rs.length rs){cl order:List Nat}{many:Nat}(ln:cl.length=rs.length)
  (ce:∀r s,r<rs.length->s<rs.length->(cl.getD r 0=cl.getD s 0↔(mcOf (cuM (dM mv) m rs) m (rs.map λr=>ys.getD r false)).eq r s)) (dn:∀x,x∈cl↔x<many) (O:Ord cl order many) {rs3:List Nat}
  (b3:Bf (dM (mvN (cuM (dM mv) m rs) m cl order)) m 0 rs3.length rs3) :
  Lst (mcOf mv m ys) (cuM (dM (mvN (cuM (dM mv) m rs) m cl order)) m rs3) m (rs3.map λr=>(ysN (rs.map λr=>ys.getD r false) cl order).getD r false):=by
 obtain⟨L,okN,ylN,nN⟩:=jka ok n1 bf ln ce dn O
 have rc:=jkv (ys:=ys) ok n1 bf
 obtain⟨L3,rg,rl⟩:=L.anew okN ylN b3 rc bf
 have biN:=b3.inv (n:=(mvN (cuM (dM mv) m rs) m cl order).length) L.n1 (λr a hr ha=>(okN.at_ hr ha).2)
 have cok:=jdt biN
 exact⟨⟨_,L3⟩,(L3.can cok rc bf).1 rg,cok,by simp[cuM]⟩
def jqb:Sp:=λvs H Q _=>∃(p pm py:Addr)(z:Str)(us:List V)(mv:List (List Nat))(m:Nat)(ys:List Bool),vs=[.ref p]/\MH H p z pm py us mv m ys/\mv.length<64/\1<=m /\
 ∀(q a1 a2:Addr)(us':List V)(mv':List (List Nat))(ys':List Bool)(H':Hp),Lst (mcOf mv m ys) mv' m ys'->H' q=some (.tup [.str z,.ref a1,.ref a2])->H' a1=some (.tup us')->RowsM H' us' mv'->H' a2=some (.tup (ys'.map V.bl))->Kp [] H H'->Q (.ref q) H'
structure TLst(mg:Str->Option Value)(fn:Addr):Prop where
 n_range:mg "range"=none
 n_tuple:mg "tuple"=none
 n_len:mg "len"=none
 n_sorted:mg "sorted"=none
 n_int:mg "int"=none
 n_set:mg "set"=none
 m6z:mg "_law_numbered"=some (.ref fn)
def boV:V->V
 |.bl b=>.int (if b then 1 else 0)
 |v=>v
def cl0(ys:List Bool):List Nat:=ys.map λb=>if b then 1 else 0
def gtN(cl:List Nat):V->V
 |.int t=>.int (cl.getD t.toNat 0:Nat)
 |v=>v
def cI(l:List Nat):List Int:=l.map λx:Nat=>(x:Int)
theorem jjv:∀{a b:List Nat},cI a=cI b->a=b
 |[],[],_=>rfl
 |[],_::_,h=>by cases h
 |_::_,[],h=>by cases h
 |x::a,y::b,h=>by
  have h:(x:Int)::cI a=(y:Int)::cI b:=h
  injection h with h1 h2
  rw[jjv h2,show x=y by omega]
theorem jno:∀k:List Nat,(cI k).map Int.toNat=k
 |[]=>rfl
 |x::k=>by
  show((x:Int)).toNat::(cI k).map Int.toNat=x::k
  rw[jno k,Int.toNat_natCast]
def kxV(bs':List Addr)(kf:Addr->List Int):V->V
 |.ref b=>.int ((bs'.map kf).idxOf (kf b):Nat)
 |v=>v
theorem jsb(l:List Nat):(cI l).map V.int=l.map nV:=by unfold cI;rw[Ax];rfl
theorem jrp(ks:List (List Nat))(k:List Nat):(ks.map cI).idxOf (cI k)=ks.idxOf k:=by
 induction ks with
 |nil=>rfl
 |cons x ks ih =>
  rw[Ay,Y1,Y1,ih]
  have:(cI x == cI k)=(x == k):=by
   by_cases c:x=k
   ·subst c;simp
   ·rw[O9.mpr c,O9.mpr λz=>c (jjv z)]
  rw[this]
def jc3(H:Hp)(b:Addr):List Int:=match H b with
 |some (.tup vs)=>vs.map λv=>match v with|.int i=>i|_=>0
 |_=>[]
theorem jek{H:Hp}{b:Addr}{k:List Int}(e:H b=some (.tup (k.map V.int))):jc3 H b=k:=by
 unfold jc3
 rw[e]
 show(k.map V.int).map _=k
 rw[Ax]
 exact(Ih (λ_ _=>rfl)).trans (List.map_id k)
theorem jlo{cl:List Nat}{c:List Int}(nd:c.Nodup)(mem:∀x,x∈c↔x∈cl.map λx:Nat=>(x:Int)):c.length=(ddp cl).length:=by
 have nd2:((ddp cl).map λx:Nat=>(x:Int)).Nodup:=Wv.mpr (List.Pairwise.imp (λh=>by omega) (jes cl))
 have p:c.Perm ((ddp cl).map λx:Nat=>(x:Int)):=(U4 nd nd2).mpr λx=>by
  rw[mem,Am,Am]
  exact⟨fun⟨y,h,e⟩=>⟨y,(jcx _ _).mpr h,e⟩,fun⟨y,h,e⟩=>⟨y,(jcx _ _).mp h,e⟩⟩
 rw[p.length_eq,Ac]
theorem cli0{mv:List (List Nat)}{m:Nat}{ys:List Bool}(yl:ys.length=mv.length):CLI (mcOf mv m ys) 0 (cl0 ys):=by
 have g:∀r,r<mv.length->(cl0 ys).getD r 0=if ys.getD r false then 1 else 0:=λr hr=>by
  unfold cl0
  rw[Ae,Ag,Ae,Aa (by omega)];rfl
 refine⟨by simp[cl0,mcOf,yl],λr s hr hs=>?_⟩
 rw[g r hr,g s hs]
 refine⟨λe w hw hl=>?_,λh=>?_⟩
 ·rw[Ux.mp (Nat.le_zero.mp hl)]
  show ys.getD r false=ys.getD s false
  revert e
  cases ys.getD r false <;> cases ys.getD s false <;> simp
 ·have:ys.getD r false=ys.getD s false:=h [] (by simp[Mc.ws]) (Ak _)
  rw[this]
theorem RowsM.snoc{H:Hp}{us:List V}{mv:List (List Nat)}{a:Addr}{row:List Nat}(h:RowsM H us mv)(e:H a=some (.tup (row.map nV))):RowsM H (us++[.ref a]) (mv++[row]):=by
 unfold RowsM at h⊢
 induction h with
 |nil=>exact .cons ⟨a,rfl,e⟩ .nil
 |cons r _ ih=>exact .cons r ih
section
variable{P:Program}{w:World}{K:PySem.W.Frag}{mg:Str->Option Value}{base:Heap}
abbrev kx:Stmt:=top 27
theorem kh:FnScope ["_law_machine_here","_law_letters_here","_law_moves","_law_yes","_law_classes","_law_many","_law_keys","_law_room","_law_some","_law_firsts","_law_begin","_law_order","_law_rows","_law_one"] ["_law_machine_here"] (jf kx):=⟨rfl,rfl,rfl,by decide +kernel,rfl,by decide +kernel,by decide +kernel⟩
theorem ok__law_least{f fn:Addr}{fd fdn:FuncData}(F:Fun K "_law_least" "_law_least" kx f fd)(T:TLst mg fn)(F6z:Fun K "_law_numbered" "_law_numbered" yc fn fdn)(b6z:Binds K fdn ["_law_letters_here","_law_moves","_law_yes"] [])(G6z:FnOk P w K mg base CX0 1 fn fdn ["_law_letters_here","_law_moves","_law_yes"] spNb):FnOk P w K mg base CX0 2 f fd ["_law_machine_here"] jqb:=by
 refine F.ok kh (λvs H Q E h=>?_) (λcdv A outer s H vs Q E hr h=>?_)
 ·obtain⟨p,pm,py,z,us,mv,m,ys,rfl,_⟩:=h
  rfl
 ·obtain⟨p,pm,py,z,us,mv,m,ys,rfl,M,n64,m1,k⟩:=h
  have hu:=hr.units
  have hsz:sizeLine=16777216:=Ia
  have m9:=M.m9
  refine exQ (jg (jae (jr G6z (hr.mono (by decide)) rfl T.m6z F6z.kp b6z .nil jy (ja (jt ix_U (qpv 0) jh (λ_ _=>rfl)) (ja (jt ix_U (qpv 0) jh (λ_ _=>rfl)) (ja (jt ix_U (qpv 0) jh (λ_ _=>rfl)) jc)))) (jaj (n:=3) rfl (yu (jo (i:=1) kh.nd rfl (by first|exact Or.inl rfl|exact Or.inr rfl)) (yu (jo (i:=2) kh.nd rfl (by first|exact Or.inl rfl|exact Or.inr rfl)) (yu (jo (i:=3) kh.nd rfl (by first|exact Or.inl rfl|exact Or.inr rfl)) jad))) (K:=K) rfl))
  (jg (jq (i:=4) kh.nd rfl (by first|exact Or.inl rfl|exact Or.inr rfl) (kc rfl (jcd (sc:=jf kx) (N:=["_law_machine_here","_law_letters_here","_law_moves","_law_yes","_law_classes","_law_many","_law_keys","_law_room","_law_some","_law_firsts","_law_begin","_law_order","_law_rows","_law_one"]) (Nc:=["_law_one"]) (js:=[none]) (by decide +kernel)) (j9 (K:=K) (qpv 3) rfl) (λ_ _ _ _=>(jo (i:=0) (show List.Nodup [("_law_one":Str)]from by decide +kernel) rfl (by first|exact Or.inl rfl|exact Or.inr rfl))) (λ_ _ _ _=>(ju jbi (by rfl) T.n_int jbq (ja (qpv 0) jc)))))
  (jg (jq (i:=5) kh.nd rfl (by first|exact Or.inl rfl|exact Or.inr rfl) jh)
  (kn (jap Ic (ku jas (qpv 5) (ja4 rfl rfl T.n_len rfl T.n_set (qpv 4)) (yb _)) (jg (jq (i:=5) kh.nd rfl (by first|exact Or.inl rfl|exact Or.inr rfl) (ja4 rfl rfl T.n_len rfl T.n_set (qpv 4)))
  (jg (jq (i:=6) kh.nd rfl (by first|exact Or.inl rfl|exact Or.inr rfl) (yg jc))
  (jg (ym Ic rfl (kg rfl T.n_range (ja (jw j4 (by rfl) T.n_len kj (ja (qpv 3) jc)) jc)) (jo (i:=7) kh.nd rfl (by first|exact Or.inl rfl|exact Or.inr rfl)) (jj (yh (yf Ij Ik yj (qpv 6) (ja (jv ki (y9 (ja (jt ix_U (qpv 4) (qpv 7) (λ_ _=>rfl)) jc)) (ju jx (by rfl) T.n_tuple j6 (ja (kc rfl (jcd (sc:=jf kx) (N:=["_law_machine_here","_law_letters_here","_law_moves","_law_yes","_law_classes","_law_many","_law_keys","_law_room","_law_some","_law_firsts","_law_begin","_law_order","_law_rows","_law_one"]) (Nc:=["_law_goal","_law_classes"]) (js:=[none,some 4]) (by decide +kernel)) (j9 (K:=K) (jt ix_U (qpv 2) (qpv 7) (λ_ _=>rfl)) rfl) (λ_ _ _ _=>(jo (i:=0) (show List.Nodup [("_law_goal":Str),("_law_classes":Str)]from by decide +kernel) rfl (by first|exact Or.inl rfl|exact Or.inr rfl))) (λ_ _ _ _=>(jt ix_U (qpv 1) (qpv 0) (λ_ _=>rfl)))) jc))) jc) jcj))))
  (jg (jq (i:=8) kh.nd rfl (by first|exact Or.inl rfl|exact Or.inr rfl) (qpe_sortedSetT rfl hu rfl T.n_sorted rfl T.n_set (qpv 6)))
  (jj (jq (i:=4) kh.nd rfl (by first|exact Or.inl rfl|exact Or.inr rfl) (kc rfl (jcd (sc:=jf kx) (N:=["_law_machine_here","_law_letters_here","_law_moves","_law_yes","_law_classes","_law_many","_law_keys","_law_room","_law_some","_law_firsts","_law_begin","_law_order","_law_rows","_law_one"]) (Nc:=["_law_key","_law_some"]) (js:=[none,some 8]) (by decide +kernel)) (j9 (K:=K) (qpv 6) rfl) (λ_ _ _ _=>(jo (i:=0) (show List.Nodup [("_law_key":Str),("_law_some":Str)]from by decide +kernel) rfl (by first|exact Or.inl rfl|exact Or.inr rfl))) (λ_ _ _ _=>(yf Wi Wj (jao hu) (qpv 1) (ja (qpv 0) jc) jcj))))))))))
  (jg (jq (i:=9) kh.nd rfl (by first|exact Or.inl rfl|exact Or.inr rfl) (kc rfl (jcd (sc:=jf kx) (N:=["_law_machine_here","_law_letters_here","_law_moves","_law_yes","_law_classes","_law_many","_law_keys","_law_room","_law_some","_law_firsts","_law_begin","_law_order","_law_rows","_law_one"]) (Nc:=["_law_one","_law_classes"]) (js:=[none,some 4]) (by decide +kernel)) (kg rfl T.n_range (ja (qpv 5) jc)) (λ_ _ _ _=>(jo (i:=0) (show List.Nodup [("_law_one":Str),("_law_classes":Str)]from by decide +kernel) rfl (by first|exact Or.inl rfl|exact Or.inr rfl))) (λ_ _ _ _=>(yf Wi Wj (jao hu) (qpv 1) (ja (qpv 0) jc) jcj))))
  (jg (jq (i:=10) kh.nd rfl (by first|exact Or.inl rfl|exact Or.inr rfl) (jt ix_U (qpv 4) jh (λ_ _=>rfl)))
  (kn (jq (i:=11) kh.nd rfl (by first|exact Or.inl rfl|exact Or.inr rfl) (jv ki (yg (ja (qpv 10) jc)) (ja9 rfl (jcd (sc:=jf kx) (N:=["_law_machine_here","_law_letters_here","_law_moves","_law_yes","_law_classes","_law_many","_law_keys","_law_room","_law_some","_law_firsts","_law_begin","_law_order","_law_rows","_law_one"]) (Nc:=["_law_one","_law_begin"]) (js:=[none,some 10]) (by decide +kernel)) (kg rfl T.n_range (ja (qpv 5) jc)) (λ_ _ _ _=>(jo (i:=0) (show List.Nodup [("_law_one":Str),("_law_begin":Str)]from by decide +kernel) rfl (by first|exact Or.inl rfl|exact Or.inr rfl))) (λ_ _ _ _=>(ku (op_neU hu) (qpv 0) (qpv 1) (yb _))) (λ_ _ _ _=>(qpv 0)))))
  (jg (jq (i:=12) kh.nd rfl (by first|exact Or.inl rfl|exact Or.inr rfl) (yg jc))
  (kn (ym Ic rfl (j9 (K:=K) (qpv 11) rfl) (jo (i:=13) kh.nd rfl (by first|exact Or.inl rfl|exact Or.inr rfl)) (jj (yh (yf Ij Ik yj (qpv 12) (ja (ju jx (by rfl) T.n_tuple j6 (ja (kc rfl (jcd (sc:=jf kx) (N:=["_law_machine_here","_law_letters_here","_law_moves","_law_yes","_law_classes","_law_many","_law_keys","_law_room","_law_some","_law_firsts","_law_begin","_law_order","_law_rows","_law_one"]) (Nc:=["_law_goal","_law_order","_law_classes"]) (js:=[none,some 11,some 4]) (by decide +kernel)) (j9 (K:=K) (jt ix_U (qpv 2) (jt ix_U (qpv 9) (qpv 13) (λ_ _=>rfl)) (λ_ _=>rfl)) rfl) (λ_ _ _ _=>(jo (i:=0) (show List.Nodup [("_law_goal":Str),("_law_order":Str),("_law_classes":Str)]from by decide +kernel) rfl (by first|exact Or.inl rfl|exact Or.inr rfl))) (λ_ _ _ _=>(yf Wi Wj (jao hu) (qpv 1) (ja (jt ix_U (qpv 2) (qpv 0) (λ_ _=>rfl)) jc) jcj))) jc)) jc) jcj))))
  (jj (j7 (jr G6z (hr.mono (by decide)) rfl T.m6z F6z.kp b6z .nil jy (ja (qpv 1) (ja (ju jx (by rfl) T.n_tuple j6 (ja (qpv 12) jc)) (ja (ju jx (by rfl) T.n_tuple j6 (ja (kc rfl (jcd (sc:=jf kx) (N:=["_law_machine_here","_law_letters_here","_law_moves","_law_yes","_law_classes","_law_many","_law_keys","_law_room","_law_some","_law_firsts","_law_begin","_law_order","_law_rows","_law_one"]) (Nc:=["_law_one","_law_yes","_law_firsts"]) (js:=[none,some 3,some 9]) (by decide +kernel)) (j9 (K:=K) (qpv 11) rfl) (λ_ _ _ _=>(jo (i:=0) (show List.Nodup [("_law_one":Str),("_law_yes":Str),("_law_firsts":Str)]from by decide +kernel) rfl (by first|exact Or.inl rfl|exact Or.inr rfl))) (λ_ _ _ _=>(jt ix_U (qpv 1) (jt ix_U (qpv 2) (qpv 0) (λ_ _=>rfl)) (λ_ _=>rfl)))) jc)) jc))))))))))))))) ?_
  simp! [M.hp]
  refine⟨pm,py,z,us,mv,m,ys,rfl,M.hm,M.rw,M.ok,M.hy,M.yl,M.n1,M.n9,M.m9,λq b1 b2 us1 rs H1 bf eq eb1 R1 eb2 k1=>?_⟩
  have bi:=bf.inv (n:=mv.length) M.n1 (λr a hr ha=>(M.ok.at_ hr ha).2)
  have rl:rs.length<=mv.length:=jde bi.nd bi.lt
  have r1:1<=rs.length:=(Ad.mp bi.z).1
  have cok:=jdt bi
  have cL:(cuM (dM mv) m rs).length=rs.length:=by simp[cuM]
  have yl:(rs.map λr=>ys.getD r false).length=rs.length:=by simp
  have fin:∀{cl order:List Nat}{many:Nat},cl.length=rs.length->(∀r s,r<rs.length->s<rs.length->(cl.getD r 0=cl.getD s 0↔(mcOf (cuM (dM mv) m rs) m (rs.map λr=>ys.getD r false)).eq r s))->(∀x,x∈cl↔x<many)->Ord cl order many->MvOk (mvN (cuM (dM mv) m rs) m cl order) m/\∀{rs3:List Nat},Bf (dM (mvN (cuM (dM mv) m rs) m cl order)) m 0 rs3.length rs3->Lst (mcOf mv m ys) (cuM (dM (mvN (cuM (dM mv) m rs) m cl order)) m rs3) m (rs3.map λr=>(ysN (rs.map λr=>ys.getD r false) cl order).getD r false):=fun{cl order many} h1 h2 h3 h4=>⟨(jka M.ok M.n1 bf h1 h2 h3 h4).2.1,fun{rs3} h5=>jq1 M.ok M.n1 bf h1 h2 h3 h4 h5⟩
  generalize hC:cuM (dM mv) m rs=C at R1 cok cL fin
  generalize hY:(rs.map λr=>ys.getD r false)=yC at eb2 yl fin
  generalize hn:rs.length=n at rl r1 cL yl fin
  have ul1:us1.length=n:=by rw[<-cL];exact Il R1
  have mok:=jdg (ys:=yC) cok
  have yl':yC.length=C.length:=by omega
  have Cn:(mcOf C m yC).n=n:=cL
  refine⟨q,_,rfl,SqT.of eq,rfl,⟨_,_,rfl,⟨_,_,rfl,⟨_,_,rfl,rfl,?_⟩⟩⟩⟩
  simp! [eb2]
  intro D hD
  refine jc5 boV eb2 hD (by rw[Ac];omega) (λx hx l Q' q=>?_) λvv=>?_
  ·obtain⟨b,_,rfl⟩:=Am.mp hx
   simp!
   exact q
  dsimp only
  have k2:Kp [] H1 (upd H1 D (.lst ((yC.map V.bl).map boV))):=(Kp.refl [] H1).new hD
  have e2:upd H1 D (.lst ((yC.map V.bl).map boV)) D=some (.lst ((cl0 yC).map nV)):=by
   rw[jb,Ax]
   unfold cl0
   rw[Ax]
   congr 2
   refine Ih λb _=>?_
   cases b <;> rfl
  generalize upd H1 D (.lst ((yC.map V.bl).map boV))=H2 at k2 e2⊢
  refine⟨λσ' H'=>∃(cl:List Nat)(many:Nat)(pc:Addr)(v6 v7 v8:Option V),σ'=[some (.ref p),some (.str z),some (.ref b1),some (.ref b2),some (.ref pc),some (.int (many:Int)),v6,v7,v8,none,none,none,none,none]/\H' pc=some (.lst (cl.map nV))/\cl.length=n/\(∀r s,r<n->s<n->(cl.getD r 0=cl.getD s 0↔(mcOf C m yC).eq r s))/\(∀x,x∈cl↔x<many)/\Kp [] H1 H',?_,?_⟩
  ·refine⟨λμ σ' H'=>∃(i:Nat)(cl:List Nat)(many:Nat)(pc:Addr)(v6 v7 v8:Option V),σ'=[some (.ref p),some (.str z),some (.ref b1),some (.ref b2),some (.ref pc),some (.int (many:Int)),v6,v7,v8,none,none,none,none,none]/\H' pc=some (.lst (cl.map nV))/\CLI (mcOf C m yC) i cl/\(i=0/\many=0\/∃i' clp,i=i'+1/\CLI (mcOf C m yC) i' clp/\many=(ddp clp).length/\∀x,x∈cl↔x<(ddp cl).length)/\many<=n/\Kp [] H1 H'/\μ=n-many,⟨_,0,cl0 yC,0,D,none,none,none,rfl,e2,cli0 yl',.inl ⟨rfl,rfl⟩,Oc _,k2,rfl⟩,?_⟩
   rintro μ σ H3 ⟨i,cl,many,pc,v6,v7,v8,rfl,e3,CL,st,mn,k3,rfl⟩
   have cll:cl.length=n:=by rw[CL.ln,Cn]
   have dl:(ddp cl).length<=n:=by
    have:=L2.nodup_len (ddp cl) cl (jes cl) λx hx=>(jcx _ _).mp hx
    omega
   have d1:1<=(ddp cl).length:=by
    cases cl with
    |nil=>simp at cll;omega
    |cons x l=>exact Uy ((jcx (x::l) x).mpr (.head _))
   simp!
   refine⟨cl.map λx:Nat=>(x:Int),by rw[e3,jhz],by rw[Ac];omega,λc nd mem=>?_⟩
   rw[jlo nd mem]
   by_cases cc:many<(ddp cl).length
   ·rw[Ao (by simpa using cc)]
    refine⟨λσ' H'=>∃(cl':List Nat)(pc':Addr)(v6 v7 v8:Option V),σ'=[some (.ref p),some (.str z),some (.ref b1),some (.ref b2),some (.ref pc'),some (.int ((ddp cl).length:Int)),v6,v7,v8,none,none,none,none,none]/\H' pc'=some (.lst (cl'.map nV))/\CLI (mcOf C m yC) (i+1) cl'/\(∀x,x∈cl'↔x<(ddp cl').length)/\Kp [] H1 H',λσ' H' ⟨cl',pc',w6,w7,w8,h1,h2,h3,h4,h5⟩=>⟨n-(ddp cl).length,by omega,i+1,cl',(ddp cl).length,pc',w6,w7,w8,h1,h2,h3,.inr ⟨i,rfl,cl,CL,rfl,h4⟩,dl,h5,rfl⟩,?_⟩
    refine⟨cl.map λx:Nat=>(x:Int),by rw[e3,jhz],by rw[Ac];omega,λc nd mem=>?_⟩
    rw[jlo nd mem]
    refine⟨by omega,λpk hpk=>?_⟩
    have kK:Kp [] H3 (upd H3 pk (.lst [])):=(Kp.refl [] H3).new hpk
    have e4:upd H3 pk (.lst []) pk=some (.lst []):=jb
    generalize upd H3 pk (.lst [])=H4 at kK e4⊢
    rw[(k3.trans kK).tup _ _ eb2]
    refine⟨_,rfl,by rw[Ac];omega,by rw[Ac];omega,?_⟩
    rw[Ac,yl,show((n:Int)).toNat=n by omega]
    refine jcm (λj σ H'=>∃(bs:List Addr)(v7:Option V),σ=[some (.ref p),some (.str z),some (.ref b1),some (.ref b2),some (.ref pc),some (.int ((ddp cl).length:Int)),some (.ref pk),v7,v8,none,none,none,none,none]/\H' pk=some (.lst (bs.map V.ref))/\bs.length=j/\(∀(r:Nat)(b:Addr),bs[r]?=some b->H' b=some (.tup ((cI (keyL (mcOf C m yC) cl r)).map V.int)))/\Kp [] H3 H') ⟨[],v7,rfl,e4,rfl,λr b e=>by simp at e,kK⟩ ?_ ?_
    ·rintro j σ H5 hj ⟨bs,v7,rfl,e5,bl,bt,k5⟩
     have e3':=k5.old _ _ e3 Af
     have eb1':=(k3.trans k5).tup _ _ eb1
     obtain⟨cr,hcx,hcr⟩:=(R1.kp (k3.trans k5)).get (show C[j]?=some (C.getD j [])by rw[Ae,Aa (by omega)];rfl)
     simp! [e5,e3',Op]
     refine⟨nV (cl.getD j 0),jce (by rw[Ag,Ae,Aa (by omega)];rfl),by omega,λt1 ht1=>?_⟩
     have kA:Kp [] H5 (upd H5 t1 (.tup [nV (cl.getD j 0)])):=(Kp.refl [] H5).new ht1
     have f1:upd H5 t1 (.tup [nV (cl.getD j 0)]) t1=some (.tup [nV (cl.getD j 0)]):=jb
     generalize upd H5 t1 (.tup [nV (cl.getD j 0)])=H6 at kA f1⊢
     have hcr6:=kA.tup _ _ hcr
     have e36:=kA.old _ _ e3' Af
     rw[kA.tup _ _ eb1']
     refine⟨_,rfl,.ref cr,jce hcx,?_⟩
     dsimp only
     rw[hcr6]
     intro D2 hD2
     have jC:j<C.length:=by omega
     have rowe:=jkz cok jC
     refine jc5 (gtN cl) hcr6 hD2 (by rw[rowe];simp;omega) (λx hx l Q' q=>?_) λvv=>?_
     ·obtain⟨t,ht,rfl⟩:=Am.mp hx
      have tn:t<n:=by
       rw[rowe]at ht
       obtain⟨a,ha,rfl⟩:=Am.mp ht
       rw[<-cL];exact(cok.at_ jC (At.mp ha)).2
      have e7:=((Kp.refl [] H6).new (o:=.lst l) hD2).old _ _ e36 Af
      simp! [nV,e7]
      refine⟨.int (cl.getD t 0:Nat),jce (by rw[Ag,Ae,Aa (by omega)];rfl),?_⟩
      exact q
     dsimp only
     refine jcf jb λt2 ht2=>?_
     have er:((C.getD j []).map nV).map (gtN cl)=((List.range m).map λa=>cl.getD (dM C j a) 0).map nV:=by
      rw[rowe,Ax,Ax,Ax];rfl
     rw[er]at ht2⊢
     have kB:Kp [] H6 (upd (upd H6 D2 (.lst (((List.range m).map λa=>cl.getD (dM C j a) 0).map nV))) t2 (.tup (((List.range m).map λa=>cl.getD (dM C j a) 0).map nV))):=((Kp.refl [] H6).new hD2).new ht2
     have f2:upd (upd H6 D2 (.lst (((List.range m).map λa=>cl.getD (dM C j a) 0).map nV))) t2 (.tup (((List.range m).map λa=>cl.getD (dM C j a) 0).map nV)) t2=some (.tup (((List.range m).map λa=>cl.getD (dM C j a) 0).map nV)):=jb
     generalize upd (upd H6 D2 (.lst (((List.range m).map λa=>cl.getD (dM C j a) 0).map nV))) t2 (.tup (((List.range m).map λa=>cl.getD (dM C j a) 0).map nV))=H7 at kB f2⊢
     refine rAddW.tup (kB.tup _ _ f1) f2 (by simp) (by simp;omega) (by simp;omega) λt3 ht3=>?_
     have kC:Kp [] H7 (upd H7 t3 (.tup ([nV (cl.getD j 0)]++((List.range m).map λa=>cl.getD (dM C j a) 0).map nV))):=(Kp.refl [] H7).new ht3
     have f3:upd H7 t3 (.tup ([nV (cl.getD j 0)]++((List.range m).map λa=>cl.getD (dM C j a) 0).map nV)) t3=some (.tup ((cI (keyL (mcOf C m yC) cl j)).map V.int)):=by
      rw[jb,jsb];rfl
     generalize upd H7 t3 (.tup ([nV (cl.getD j 0)]++((List.range m).map λa=>cl.getD (dM C j a) 0).map nV))=H8 at kC f3⊢
     have k58:Kp [] H5 H8:=(kA.trans kB).trans kC
     have e8:=k58.old _ _ e5 Af
     rw[e8]
     refine⟨_,rfl,by rw[Ac];omega,bs++[t3],by rw[A5];rfl,by rw[A1,bl];rfl,λr b hb=>?_,(k5.trans k58).set e8 (.inr hpk)⟩
     have nb:∀{b:Addr}{xs:List V},H8 b=some (.tup xs)->b≠pk:=fun{b xs} h z=>by rw[z,e8]at h;cases h
     by_cases c1:r<bs.length
     ·rw[Ig c1]at hb
      have:=k58.tup _ _ (bt r b hb)
      rw[jd (nb this)];exact this
     ·rw[Ir (by omega)]at hb
      have:r=bs.length:=by have:=(Ad.mp hb).1;simp at this;omega
      subst this
      simp at hb
      subst hb
      rw[jd (nb f3),bl];exact f3
    ·rintro σ H5 ⟨bs,v7,rfl,e5,bl,bt,k5⟩
     simp!
     have mem:∀b∈bs,∃r,r<n/\H5 b=some (.tup ((cI (keyL (mcOf C m yC) cl r)).map V.int)):=λb hb=>by
      obtain⟨r,hr'⟩:=Is hb
      exact⟨r,by have:=(Ad.mp hr').1;omega,bt r b hr'⟩
     refine⟨bs,e5,jc3 H5,λb hb=>?_,by omega,λps bs' hps sub nd mm=>?_⟩
     ·obtain⟨r,_,e⟩:=mem b hb
      rw[jek e]
      exact⟨e,by simp[cI,keyL]⟩
     have kfb:∀(r:Nat)(b:Addr),bs[r]?=some b->jc3 H5 b=cI (keyL (mcOf C m yC) cl r):=λr b hb=>jek (bt r b hb)
     let ks:List (List Nat):=bs'.map λb=>(jc3 H5 b).map Int.toNat
     have ek:bs'.map (jc3 H5)=ks.map cI:=by
      show _=(bs'.map λb=>(jc3 H5 b).map Int.toNat).map cI
      rw[Ax]
      refine Ih λb hb=>?_
      obtain⟨r,hr'⟩:=Is (sub b hb)
      show jc3 H5 b=cI ((jc3 H5 b).map Int.toNat)
      rw[kfb r b hr',jno]
     have eb:bs.map (jc3 H5)=((List.range n).map (keyL (mcOf C m yC) cl)).map cI:=by
      refine Wu λr=>?_
      rw[Ag,Ag,Ag]
      by_cases c1:r<n
      ·rw[Od c1]
       have hb:bs[r]?=some bs[r]:=Aa (by omega)
       rw[hb]
       exact O4 some (kfb r _ hb)
      ·rw[Ix (by omega),Ix (by rw[Az];omega)];rfl
     have nd':ks.Nodup:=by
      rw[ek]at nd
      exact List.Pairwise.imp (λh e=>h (by rw[e])) (Wv.mp nd)
     have mm':∀k,k∈ks↔k∈(List.range (mcOf C m yC).n).map (keyL (mcOf C m yC) cl):=λk=>by
      have q:=mm (cI k)
      rw[ek,eb]at q
      have inj:∀l:List (List Nat),cI k∈l.map cI↔k∈l:=λl=>⟨λh=>by obtain⟨x,h1,h2⟩:=Am.mp h;rw[<-jjv h2];exact h1,λh=>Am.mpr ⟨k,h,rfl⟩⟩
      rw[inj,inj]at q
      rw[Cn];exact q
     obtain⟨CL',dc,dn⟩:=CLI.next mok CL nd' mm'
     rw[Cn]at CL' dc dn
     have kS:Kp [] H5 (upd H5 ps (.lst (bs'.map V.ref))):=(Kp.refl [] H5).new hps
     have e6:upd H5 ps (.lst (bs'.map V.ref)) ps=some (.lst (bs'.map V.ref)):=jb
     generalize upd H5 ps (.lst (bs'.map V.ref))=H6 at kS e6⊢
     have e56:=kS.old _ _ e5 Af
     rw[e56]
     intro D2 hD2
     refine jd0 (kxV bs' (jc3 H5)) e56 hD2 (by rw[Ac];omega) (λx hx l Q' q=>?_) λvv=>?_
     ·obtain⟨b,hb,rfl⟩:=Am.mp hx
      obtain⟨r,_,ebr⟩:=mem b hb
      have kN:=(Kp.refl [] H6).new (o:=.lst l) hD2
      have e67:=kN.old _ _ e6 Af
      have kf1:=jek ebr
      simp! [e67]
      refine jm3 (kf:=jc3 H5) e67 (λb' hb'=>?_) (kN.tup _ _ (kS.tup _ _ (by rw[kf1];exact ebr))) ((mm _).mpr (Am.mpr ⟨b,hb,rfl⟩)) q
      obtain⟨r',_,er'⟩:=mem b' (sub b' hb')
      rw[jek er']
      exact kN.tup _ _ (kS.tup _ _ er')
     dsimp only
     refine⟨_,D2,_,_,_,⟨rfl,rfl,rfl,rfl⟩,?_,CL',λx=>by rw[dc];exact dn x,(k3.trans k5).trans (kS.new hD2)⟩
     rw[jb,Ax,Ax]
     congr 2
     refine Wu λr=>?_
     rw[Ag,Ag]
     by_cases c1:r<n
     ·rw[Od c1]
      have hb:bs[r]?=some bs[r]:=Aa (by omega)
      rw[hb]
      show some (V.int ((bs'.map (jc3 H5)).idxOf (jc3 H5 bs[r]):Nat))=some (V.int (ks.idxOf (keyL (mcOf C m yC) cl r):Nat))
      rw[kfb r _ hb,ek,jrp]
     ·rw[Ix (by omega),Ix (by rw[Az];omega)];rfl
   ·rw[An (by simpa using cc)]
    rcases st with⟨_,rfl⟩|⟨i',clp,rfl,CLp,rfl,dn⟩
    ·omega
    have sb:=(CLp.mono CL).2 (by omega)
    have le:=(CLp.mono CL).1
    have me:(ddp clp).length=(ddp cl).length:=by omega
    refine⟨cl,(ddp clp).length,pc,_,_,_,⟨rfl,rfl,rfl,rfl,rfl⟩,e3,cll,λr s hr hs=>?_,by rw[me];exact dn,k3⟩
    rw[CL.eq r s (by rw[Cn];exact hr) (by rw[Cn];exact hs),<-Mc.eqN_eq mok sb (by rw[Cn];exact hr) (by rw[Cn];exact hs)]
    exact⟨λq=>((Mc.eqN_succ _ _ _ _).mp q).1,λq=>sb r s (by rw[Cn];exact hr) (by rw[Cn];exact hs) q⟩
  rintro _ H3 ⟨cl,many,pc,v6,v7,v8,rfl,e3,cll,ce,dn,k3⟩
  have mn:many<=n:=by
   have:=L2.nodup_len (List.range many) cl Im λx hx=>(dn x).mpr (At.mp hx)
   rw[Az]at this
   omega
  have c0:cl.getD 0 0<many:=(dn _).mp (by rw[Ae,Aa (by omega)];exact A7 _)
  simp!
  refine⟨by omega,by omega,λD2 hD2=>?_⟩
  rw[show((many:Int)).toNat=many by omega]
  refine jgs (λi=>nV (cl.idxOf i)) (by omega) (λi hi l Q' q=>?_) λvv=>?_
  ·have e4:=((Kp.refl [] H3).new (o:=.lst l) hD2).old _ _ e3 Af
   simp! [e4,Op]
   exact je1 e4 ((dn i).mpr hi) q
  dsimp only
  have k4:Kp [] H3 (upd H3 D2 (.lst ((List.range many).map λi=>nV (cl.idxOf i)))):=(Kp.refl [] H3).new hD2
  have f4:upd H3 D2 (.lst ((List.range many).map λi=>nV (cl.idxOf i))) D2=some (.lst (((List.range many).map cl.idxOf).map nV)):=by rw[jb,Ax];rfl
  generalize upd H3 D2 (.lst ((List.range many).map λi=>nV (cl.idxOf i)))=H4 at k4 f4⊢
  have e4:=k4.old _ _ e3 Af
  rw[e4]
  refine⟨_,rfl,nV (cl.getD 0 0),jce (j:=0) (by rw[Ag,Ae,Aa (by omega)];rfl),?_⟩
  refine⟨λσ' H'=>∃(po:Addr)(order:List Nat),σ'=[some (.ref p),some (.str z),some (.ref b1),some (.ref b2),some (.ref pc),some (.int (many:Int)),v6,v7,v8,some (.ref D2),some (.int (cl.getD 0 0:Nat)),some (.ref po),none,none]/\H' po=some (.lst (order.map nV))/\Ord cl order many/\Kp [] H4 H',?_,?_⟩
  ·simp!
   refine⟨by omega,λpo hpo=>⟨by omega,by omega,λD3 hD3=>?_⟩⟩
   rw[show((many:Int)).toNat=many by omega]
   have kO:Kp [] H4 (upd H4 po (.lst [nV (cl.getD 0 0)])):=(Kp.refl [] H4).new hpo
   have f5:upd H4 po (.lst [nV (cl.getD 0 0)]) po=some (.lst [nV (cl.getD 0 0)]):=jb
   generalize upd H4 po (.lst [nV (cl.getD 0 0)])=H5 at kO f5 hD3⊢
   refine je8 (λi=>i != cl.getD 0 0) nV (by omega) (λi hi l Q' q=>?_) (λi hi hp l Q' q=>?_) λvv=>?_
   ·simp! [Op]
    rw[show nV (cl.getD 0 0)=.int (cl.getD 0 0:Nat)from rfl,jgk]
    refine⟨_,rfl,?_⟩
    rw[show(!decide ((i:Int)=(cl.getD 0 0:Nat)))=(i != cl.getD 0 0)by
     rw[W4];simp;omega]
    exact q
   ·simp! [Op]
    exact q
   dsimp only
   have kD:Kp [] H5 (upd H5 D3 (.lst (((List.range many).filter λi=>i != cl.getD 0 0).map nV))):=(Kp.refl [] H5).new hD3
   refine rAddW.lst (kD.old _ _ f5 Af) jb (by
    have:=Ub (λi=>i != cl.getD 0 0) (List.range many)
    rw[Az]at this
    simp only[Ac,List.length_cons,List.length_nil];omega) λp2 hp2=>?_
   refine⟨p2,⟨rfl,rfl⟩,cl.getD 0 0::(List.range many).filter λi=>i != cl.getD 0 0,?_,⟨?_,λx=>?_,rfl⟩,(kO.trans kD).new hp2⟩
   ·rw[jb];rfl
   ·refine Ol.mpr ⟨λh=>?_,List.Nodup.sublist List.filter_sublist Im⟩
    have:=(Iz.mp h).2
    simp at this
   ·rw[Ap,Iz,At,bne_iff_ne]
    constructor
    ·rintro(rfl|⟨h,_⟩)
     ·exact c0
     ·exact h
    ·intro h
     by_cases c:x=cl.getD 0 0
     ·exact .inl c
     ·exact .inr ⟨h,c⟩
  rintro _ H5 ⟨po,order,rfl,e5,O,k5⟩
  obtain⟨okN,fin⟩:=fin cll ce dn O
  have ol:order.length=many:=by
   have a:=L2.nodup_len (List.range many) order Im λx hx=>(O.mem x).mpr (At.mp hx)
   have b:=L2.nodup_len order (List.range many) O.nd λx hx=>At.mpr ((O.mem x).mp hx)
   rw[Az]at a b
   omega
  simp!
  refine⟨by omega,λpw hpw=>?_⟩
  have kW:Kp [] H5 (upd H5 pw (.lst [])):=(Kp.refl [] H5).new hpw
  have e6:upd H5 pw (.lst []) pw=some (.lst []):=jb
  generalize upd H5 pw (.lst [])=H6 at kW e6⊢
  have mvl:(mvN C m cl order).length=order.length:=by simp[mvN]
  have k35:Kp [] H3 H5:=k4.trans k5
  have one_lt:∀one∈order,cl.idxOf one<n:=λone ho=>by
   rw[<-cll];exact A6.mpr ((dn one).mpr ((O.mem one).mp ho))
  have goal_mem:∀g,g<n->cl.getD g 0∈order:=λg hg=>(O.mem _).mpr ((dn _).mp (by rw[Ae,Aa (by omega)];exact A7 _))
  refine⟨λσ' H'=>∃(us3:List V)(v13:Option V),σ'=[some (.ref p),some (.str z),some (.ref b1),some (.ref b2),some (.ref pc),some (.int (many:Int)),v6,v7,v8,some (.ref D2),some (.int (cl.getD 0 0:Nat)),some (.ref po),some (.ref pw),v13]/\H' pw=some (.lst us3)/\RowsM H' us3 (mvN C m cl order)/\Kp [] H5 H',?_,?_⟩
  ·simp! [kW.old _ _ e5 Af]
   refine jc9 (xs:=order.map nV) (λi σ' H'=>∃(us3:List V)(v13:Option V),σ'=[some (.ref p),some (.str z),some (.ref b1),some (.ref b2),some (.ref pc),some (.int (many:Int)),v6,v7,v8,some (.ref D2),some (.int (cl.getD 0 0:Nat)),some (.ref po),some (.ref pw),v13]/\H' pw=some (.lst us3)/\RowsM H' us3 ((mvN C m cl order).take i)/\Kp [] H5 H') ⟨[],none,rfl,e6,.nil,kW⟩ ?_ ?_ ?_
   ·rintro i σ H' _ ⟨_,_,_,_,_,h⟩
    exact h.old _ _ e5 Af
   ·rintro i x σ H7 hx ⟨us3,v13,rfl,e7,R7,k7⟩
    rw[Ag]at hx
    obtain⟨one,ho,rfl⟩:=A3.mp hx
    have om:=Al ho
    have on:one<many:=(O.mem one).mp om
    have jn:=one_lt one om
    have f7:=(k5.trans k7).old _ _ f4 Af
    have k37:=(k3.trans k35).trans k7
    have eb7:=k37.tup _ _ eb1
    have ul7:us3.length<=order.length:=by
     have:=Il R7
     rw[Oe,mvl]at this;omega
    obtain⟨cr,hcx,hcr⟩:=(R1.kp k37).get (show C[cl.idxOf one]?=some (C.getD (cl.idxOf one) [])by rw[Ae,Aa (by omega)];rfl)
    simp! [e7,nV,f7]
    refine⟨nV (cl.idxOf one),jce (by rw[Ag,Ag,Od on];rfl),?_⟩
    simp! [nV,eb7]
    refine⟨.ref cr,jce hcx,?_⟩
    dsimp only
    rw[hcr]
    intro D4 hD4
    have jC:cl.idxOf one<C.length:=by omega
    have rowe:=jkz cok jC
    have e37:=(k35.trans k7).old _ _ e3 Af
    have e57:=k7.old _ _ e5 Af
    refine jc5 (λv=>ixV order (gtN cl v)) hcr hD4 (by rw[rowe];simp;omega) (λx hx l Q' q=>?_) λvv=>?_
    ·obtain⟨t,ht,rfl⟩:=Am.mp hx
     have tn:t<n:=by
      rw[rowe]at ht
      obtain⟨a,ha,rfl⟩:=Am.mp ht
      rw[<-cL];exact(cok.at_ jC (At.mp ha)).2
     have kN:=(Kp.refl [] H7).new (o:=.lst l) hD4
     have e38:=kN.old _ _ e37 Af
     have e58:=kN.old _ _ e57 Af
     simp! [nV,e38]
     refine⟨by rw[e58];rfl,.int (cl.getD t 0:Nat),jce (by rw[Ag,Ae,Aa (by omega)];rfl),?_⟩
     exact je1 e58 (goal_mem t tn) q
    dsimp only
    refine jcf jb λt2 ht2=>?_
    have er:((C.getD (cl.idxOf one) []).map nV).map (λv=>ixV order (gtN cl v))=((List.range m).map λa=>order.idxOf (cl.getD (dM C (cl.idxOf one) a) 0)).map nV:=by
     rw[rowe,Ax,Ax,Ax];rfl
    rw[er]at ht2⊢
    generalize hrow:(List.range m).map (λa=>order.idxOf (cl.getD (dM C (cl.idxOf one) a) 0))=row at ht2⊢
    have kB:Kp [] H7 (upd (upd H7 D4 (.lst (row.map nV))) t2 (.tup (row.map nV))):=((Kp.refl [] H7).new hD4).new ht2
    have f2:upd (upd H7 D4 (.lst (row.map nV))) t2 (.tup (row.map nV)) t2=some (.tup (row.map nV)):=jb
    generalize upd (upd H7 D4 (.lst (row.map nV))) t2 (.tup (row.map nV))=H8 at kB f2⊢
    have e8:=kB.old _ _ e7 Af
    rw[e8]
    have tk:(mvN C m cl order).take (i+1)=(mvN C m cl order).take i++[row]:=by
     have:(mvN C m cl order)[i]?=some row:=by
      unfold mvN
      rw[Ag,ho,<-hrow];rfl
     rw[Oa,this];rfl
    rw[tk]
    have kP:Kp [pw] H8 (upd H8 pw (.lst (us3++[.ref t2]))):=(Kp.refl [pw] H8).set e8 (.inl (.head _))
    exact⟨_,rfl,by omega,((R7.kp kB).snoc f2).kp kP,(k7.trans kB).set e8 (.inr hpw)⟩
   ·rintro σ H7 ⟨us3,v13,rfl,e7,R7,k7⟩
    rw[Ac,<-mvl,Ii]at R7
    exact⟨us3,v13,rfl,e7,R7,k7⟩
  rintro _ H7 ⟨us3,v13,rfl,e7,R7,k7⟩
  simp!
  refine jcf e7 λpm3 hpm3=>?_
  have k8:Kp [] H7 (upd H7 pm3 (.tup us3)):=(Kp.refl [] H7).new hpm3
  have e8:upd H7 pm3 (.tup us3) pm3=some (.tup us3):=jb
  generalize upd H7 pm3 (.tup us3)=H8 at k8 e8⊢
  have k08:=k7.trans k8
  have e58:=k08.old _ _ e5 Af
  rw[e58]
  intro D5 hD5
  refine jd0 (λv=>yV yC (ixV cl v)) e58 hD5 (by rw[Ac];omega) (λx hx l Q' q=>?_) λvv=>?_
  ·obtain⟨one,ho,rfl⟩:=Am.mp hx
   have jn:=one_lt one ho
   have kN:=(Kp.refl [] H8).new (o:=.lst l) hD5
   have f8:=(k5.trans (k08.trans kN)).old _ _ f4 Af
   have eb8:=(((k3.trans k35).trans k08).trans kN).tup _ _ eb2
   simp! [nV,f8]
   refine⟨nV (cl.idxOf one),jce (by rw[Ag,Ag,Od ((O.mem one).mp ho)];rfl),?_⟩
   simp! [nV,eb8]
   refine⟨.bl (yC.getD (cl.idxOf one) false),jce (by rw[Ag,Ae,Aa (by omega)];rfl),?_⟩
   exact q
  dsimp only
  have ey:(order.map nV).map (λv=>yV yC (ixV cl v))=(ysN yC cl order).map V.bl:=by
   unfold ysN
   rw[Ax,Ax];rfl
  rw[ey]at *
  refine jcf jb λpy3 hpy3=>?_
  have k9:Kp [] H8 (upd (upd H8 D5 (.lst ((ysN yC cl order).map V.bl))) py3 (.tup ((ysN yC cl order).map V.bl))):=((Kp.refl [] H8).new hD5).new hpy3
  have e9:upd (upd H8 D5 (.lst ((ysN yC cl order).map V.bl))) py3 (.tup ((ysN yC cl order).map V.bl)) py3=some (.tup ((ysN yC cl order).map V.bl)):=jb
  generalize upd (upd H8 D5 (.lst ((ysN yC cl order).map V.bl))) py3 (.tup ((ysN yC cl order).map V.bl))=H9 at k9 e9⊢
  refine⟨pm3,py3,z,us3,_,m,_,rfl,k9.tup _ _ e8,(R7.kp (k8.trans k9)),okN,e9,by simp[ysN,mvN],by omega,by omega,M.m9,λq3 a1 a2 us4 rs3 H10 b3 g1 g2 g3 g4 k10=>?_⟩
  exact k q3 a1 a2 us4 _ _ H10 (fin b3) g1 g2 g3 g4 ((((k1.trans k3).trans k35).trans (k08.trans k9)).trans k10)
end
def tz(z:Str)(w:List Nat):Str:=toS (w.map λa=>z.cps.toList.getD a 0)
theorem jfl(z:Str)(w:List Nat):(tz z w).length=w.length:=by simp[tz,jfw]
theorem jr9(z:Str)(w u:List Nat):tz z w++tz z u=tz z (w++u):=by
 unfold tz
 rw[A5]
 generalize w.map (λa=>z.cps.toList.getD a 0)=x
 generalize u.map (λa=>z.cps.toList.getD a 0)=y
 show(⟨(toS x).cps++(toS y).cps⟩:Str)=_
 simp[toS]
theorem jqd{z:Str}{w:List Nat}{i c:Nat}(h:(tz z w).cps.toList[i]?=some c):∃a,w[i]?=some a/\c=z.cps.toList.getD a 0:=by
 have:(tz z w).cps.toList=w.map λa=>z.cps.toList.getD a 0:=by simp[tz,toS]
 rw[this,Ag]at h
 obtain⟨a,h1,h2⟩:=A3.mp h
 exact⟨a,h1,h2.symm⟩
theorem jsq{z u:Str}(h:∀c∈u.cps.toList,c∈z.cps.toList):∃w,u=tz z w/\(∀a∈w,a<z.length)/\w.length=u.length:=by
 refine⟨u.cps.toList.map λc=>z.cps.toList.idxOf c,?_,λa ha=>?_,by simp[Str.length]⟩
 ·have e:(u.cps.toList.map λc=>z.cps.toList.idxOf c).map (λa=>z.cps.toList.getD a 0)=u.cps.toList:=by
   rw[Ax]
   refine(Ih λc hc=>?_).trans (List.map_id _)
   show z.cps.toList.getD (z.cps.toList.idxOf c) 0=c
   have hl:=A6.mpr (h c hc)
   rw[Ae,Aa hl,Iw];rfl
  unfold tz
  rw[e]
  simp[toS]
 ·obtain⟨c,hc,rfl⟩:=Am.mp ha
  have:=A6.mpr (h c hc)
  simpa[Str.length]using this
theorem jca{z:Str}(nd:z.cps.toList.Nodup){a:Nat}(h:a<z.length):z.cps.toList.getD a 0∈z.cps.toList/\plc z.cps.toList (z.cps.toList.getD a 0)=(a:Int):=by
 have hl:a<z.cps.toList.length:=by simpa[Str.length]using h
 have e:z.cps.toList.getD a 0=z.cps.toList[a]:=by rw[Ae,Aa hl];rfl
 have m:z.cps.toList[a]∈z.cps.toList:=A7 hl
 rw[e]
 refine⟨m,?_⟩
 unfold plc
 rw[Ao m,nd.idxOf_getElem a hl]
def spLd:Sp:=λvs H Q _=>∃(p pm py:Addr)(z:Str)(us:List V)(mv:List (List Nat))(m:Nat)(ys:List Bool)(r:Nat)(u:List Nat),vs=[.ref p,.int (r:Int),.str (tz z u)]/\MH H p z pm py us mv m ys/\z.length=m/\z.cps.toList.Nodup/\r<mv.length/\(∀a∈u,a<m)/\u.length<=1000/\∀H',Kp [] H H'->Q (.int ((mcOf mv m ys).led r u:Nat)) H'
structure TLd(mg:Str->Option Value):Prop where
 n_enumerate:mg "enumerate"=none
def jqa:Sp:=λvs H Q _=>∃(p pm py:Addr)(z:Str)(us:List V)(mv:List (List Nat))(m:Nat)(ys:List Bool)(r:Nat)(u:List Nat),vs=[.ref p,.int (r:Int),.str (tz z u)]/\MH H p z pm py us mv m ys/\z.length=m/\z.cps.toList.Nodup/\r<mv.length/\(∀a∈u,a<m)/\u.length<=1000/\Q (.int ((mcOf mv m ys).led r u:Nat)) H
section
variable{P:Program}{w:World}{K:PySem.W.Frag}{mg:Str->Option Value}{base:Heap}
abbrev jax:Stmt:=top 15
theorem jan:FnScope ["machine","room","text","letters","moves","place","sign","number"] ["machine","room","text"] (jf jax):=⟨rfl,rfl,rfl,by decide +kernel,rfl,by decide +kernel,by decide +kernel⟩
abbrev zw:Stmt:=top 25
theorem jar:FnScope ["_law_machine_here","_law_room","_law_text_here","_law_letter"] ["_law_machine_here","_law_room","_law_text_here"] (jf zw):=⟨rfl,rfl,rfl,by decide +kernel,rfl,by decide +kernel,by decide +kernel⟩
theorem ok__law_led{f:Addr}{fd:FuncData}(F:Fun K "_law_led" "_law_led" zw f fd):FnOk P w K mg base CX0 1 f fd ["_law_machine_here","_law_room","_law_text_here"] jqa:=by
 refine F.ok jar (λvs H Q E h=>?_) (λcdv A outer s H vs Q E hr h=>?_)
 ·obtain⟨p,pm,py,z,us,mv,m,ys,r,u,rfl,_⟩:=h
  rfl
 ·obtain⟨p,pm,py,z,us,mv,m,ys,r,u,rfl,M,zm,nd,rn,hw,ul,k⟩:=h
  have hu:=hr.units
  have mok:=jdg (ys:=ys) M.ok
  refine exQ (jg (ym Ic rfl (j9 (K:=K) (qpv 2) rfl) (jo (i:=3) jar.nd rfl (by first|exact Or.inl rfl|exact Or.inr rfl)) (jj (jq (i:=1) jar.nd rfl (by first|exact Or.inl rfl|exact Or.inr rfl) (jt ix_U (jt ix_U (jt ix_U (qpv 0) jh (λ_ _=>rfl)) (qpv 1) (λ_ _=>rfl)) (qpe_bmT PySem.F.slot_str_index PySem.F.type_str_index mt_indexU (jt ix_U (qpv 0) jh (λ_ _=>rfl)) (ja (qpv 3) jc)) (λ_ _=>rfl)))))
  (jj (j7 (qpv 1)))) ?_
  simp!
  refine jgc (λi σ H'=>∃v3:Option V,σ=[some (.ref p),some (.int ((mcOf mv m ys).led r (u.take i):Nat)),some (.str (tz z u)),v3]/\H'=H) ⟨none,rfl,rfl⟩ ?_ ?_
  ·rintro i c σ H' hc ⟨v3,rfl,rfl⟩
   obtain⟨a,ha,rfl⟩:=jqd hc
   have am:=hw a (Al ha)
   obtain⟨q1,q2⟩:=jca nd (show a<z.length by omega)
   have rl:(mcOf mv m ys).led r (u.take i)<mv.length:=Mc.led_lt mok rn λb hb=>hw b (Yy hb)
   have tk:u.take (i+1)=u.take i++[a]:=by rw[Oa,ha];rfl
   rw[tk,Mc.led_app']
   generalize(mcOf mv m ys).led r (u.take i)=r1 at rl⊢
   have hi:mv[r1]?=some (mv.getD r1 []):=by rw[Ae,Aa rl];rfl
   obtain⟨c,hcx,hcr⟩:=M.rw.get hi
   simp! [M.hp,M.hm]
   refine⟨.ref c,jce hcx,_,rfl,q1,?_⟩
   rw[q2,jch,hcr]
   exact⟨_,rfl,_,jce (by rw[Ag,(M.ok.at_ rl am).1];rfl),_,⟨rfl,rfl⟩,rfl⟩
  ·rintro σ H' ⟨v3,rfl,rfl⟩
   rw[jfl,Ii]
   simp!
   exact k
theorem ok_led{f:Addr}{fd:FuncData}(F:Fun K "led" "led" jax f fd)(T:TLd mg):FnOk P w K mg base CX0 1 f fd ["machine","room","text"] spLd:=by
 refine F.ok jan (λvs H Q E h=>?_) (λcdv A outer s H vs Q E hr h=>?_)
 ·obtain⟨p,pm,py,z,us,mv,m,ys,r,u,rfl,_⟩:=h
  rfl
 ·obtain⟨p,pm,py,z,us,mv,m,ys,r,u,rfl,M,zm,nd,rn,hw,ul,k⟩:=h
  have hu:=hr.units
  have hsz:sizeLine=16777216:=Ia
  have mok:=jdg (ys:=ys) M.ok
  refine exQ (jg (jq (i:=3) jan.nd rfl (by first|exact Or.inl rfl|exact Or.inr rfl) (jt ix_U (qpv 0) jh (λ_ _=>rfl)))
  (jg (jq (i:=4) jan.nd rfl (by first|exact Or.inl rfl|exact Or.inr rfl) (jt ix_U (qpv 0) jh (λ_ _=>rfl)))
  (jg (ym Ic rfl (qpi_enumerate rfl T.n_enumerate (ja (qpv 2) jc)) (jaj (n:=2) rfl (yu (jo (i:=5) jan.nd rfl (by first|exact Or.inl rfl|exact Or.inr rfl)) (yu (jo (i:=6) jan.nd rfl (by first|exact Or.inl rfl|exact Or.inr rfl)) jad)) (K:=K) rfl) (jg (jq (i:=7) jan.nd rfl (by first|exact Or.inl rfl|exact Or.inr rfl) (jb3 PySem.F.slot_str_find PySem.F.type_str_find mt_findU (qpv 3) (ja (qpv 6) jc) jcj))
  (jg (yt (ku jas (qpv 7) jh (yb _)) (jj jbm) ya)
  (jj (jq (i:=1) jan.nd rfl (by first|exact Or.inl rfl|exact Or.inr rfl) (jt ix_U (jt ix_U (qpv 4) (qpv 1) (λ_ _=>rfl)) (qpv 7) (λ_ _=>rfl)))))))
  (jj (j7 (qpv 1)))))) ?_
  simp! [M.hp]
  refine jry (λi σ H'=>∃(v5 v6 v7:Option V),σ=[some (.ref p),some (.int ((mcOf mv m ys).led r (u.take i):Nat)),some (.str (tz z u)),some (.str z),some (.ref pm),v5,v6,v7]/\Kp [] H H') ⟨none,none,none,rfl,Kp.refl _ _⟩ ?_ ?_
  ·rintro i σ H1 Tt hi ⟨v5,v6,v7,rfl,kp⟩ hTt
   refine⟨Tt,jgw (tz z u) i,rfl,SqT.of jb,rfl,⟨_,_,rfl,⟨_,_,rfl,rfl,?_⟩⟩⟩
   have kT:Kp [] H1 (upd H1 Tt (.tup (jgw (tz z u) i))):=(Kp.refl [] H1).new hTt
   generalize upd H1 Tt (.tup (jgw (tz z u) i))=H2 at kT
   have kp2:=kp.trans kT
   have M2:=M.kp kp2
   have hc:(tz z u).cps.toList[i]?=some ((tz z u).cps.toList.getD i 0):=by
    rw[Ae,Aa (by simpa[Str.length]using hi)];rfl
   generalize(tz z u).cps.toList.getD i 0=c at hc⊢
   obtain⟨a,ha,rfl⟩:=jqd hc
   have am:=hw a (Al ha)
   obtain⟨q1,q2⟩:=jca nd (show a<z.length by omega)
   have rl:(mcOf mv m ys).led r (u.take i)<mv.length:=Mc.led_lt mok rn λb hb=>hw b (Yy hb)
   have tk:u.take (i+1)=u.take i++[a]:=by rw[Oa,ha];rfl
   rw[tk,Mc.led_app']
   generalize(mcOf mv m ys).led r (u.take i)=r1 at rl⊢
   have hi:mv[r1]?=some (mv.getD r1 []):=by rw[Ae,Aa rl];rfl
   obtain⟨c,hcx,hcr⟩:=M2.rw.get hi
   simp!
   refine⟨_,rfl,?_⟩
   rw[q2]
   have nn:¬((a:Int)<0):=by omega
   simp! [nn,M2.hm]
   refine⟨.ref c,jce hcx,?_⟩
   rw[jch,hcr]
   exact⟨_,rfl,_,jce (by rw[Ag,(M2.ok.at_ rl am).1];rfl),_,_,_,⟨rfl,rfl,rfl,rfl⟩,kp2⟩
  ·rintro σ H' ⟨v5,v6,v7,rfl,kp⟩
   rw[jfl,Ii]
   simp!
   exact k _ kp
end
def La(mv:List (List Nat))(m:Nat)(ys:List Bool)(r:Nat)(w:List Nat):Bool:=(mcOf mv m ys).y ((mcOf mv m ys).led r w)
def Tl(mv:List (List Nat))(m:Nat)(ys:List Bool)(L:List Nat->Bool):Prop:=∃M:Mc,Lst M mv m ys/\∀w,(∀a∈w,a<m)->M.y (M.led 0 w)=L w
section
variable{mv mv':List (List Nat)}{m first:Nat}{ys ys':List Bool}{L L':List Nat->Bool}
theorem Tl.ok(h:Tl mv m ys L):MvOk mv m:=h.elim λ_ h=>h.1.ok
theorem Tl.yl(h:Tl mv m ys L):ys.length=mv.length:=h.elim λ_ h=>h.1.yl
theorem Tl.n1(h:Tl mv m ys L):1<=mv.length:=h.elim λ_ h=>h.1.h.elim λ_ l=>l.n1
theorem Tl.one(a:Tl mv m ys L)(b:Tl mv' m ys' L')(q:∀w,(∀a∈w,a<m)->L w=L' w):mv=mv'/\ys=ys':=by
 obtain⟨M1,l1,t1⟩:=a
 obtain⟨M2,l2,t2⟩:=b
 obtain⟨g1,h1⟩:=l1.h
 obtain⟨g2,h2⟩:=l2.h
 have m1:m=M1.m:=h1.mm
 have m2:m=M2.m:=h2.mm
 refine l1.one l2 ⟨by rw[<-m1,m2],λw hw=>?_⟩
 have hw:∀a∈w,a<m:=λa ha=>by rw[m1];exact hw a ha
 rw[t1 w hw,t2 w hw,q w hw]
theorem LS.tl{rs fr:List Nat}{G:Nat->Nat}(S:LS mv m ys first mv' ys' rs G fr)(ok:MvOk mv m)(f0:first<mv.length):Tl mv' m ys' (La mv m ys first)/\mv'.length<=mv.length:=by
 refine⟨⟨_,S.lst ok f0,S.tells ok f0⟩,?_⟩
 obtain⟨g,h⟩:=(S.lst ok f0).h
 have bi:=S.bf.inv (n:=mv.length) f0 (λr a hr ha=>(ok.at_ hr ha).2)
 have rl:rs.length<=mv.length:=jde bi.nd bi.lt
 have e:mv'.length<=(cuM (dM mv) m rs).length:=h.le
 rw[show(cuM (dM mv) m rs).length=rs.length by simp[cuM]]at e
 omega
end
theorem Paired.eqs{f:Nat->V}{l:List Nat}{xs:List V}(h:Paired (λi x=>x=f i) l xs):xs=l.map f:=by
 induction h with
 |nil=>rfl
 |cons h t ih=>rw[h,ih];rfl
def DdT(mv:List (List Nat))(m:Nat)(ys:List Bool)(u:List Nat):List Nat:=(List.range mv.length).map λr=>(mcOf mv m ys).led r u
theorem DdT.lt{mv:List (List Nat)}{m:Nat}{ys:List Bool}{u:List Nat}(ok:MvOk mv m)(hw:∀a∈u,a<m):∀x∈DdT mv m ys u,x<mv.length:=λx hx=>by
 obtain⟨r,hr,rfl⟩:=Am.mp hx
 exact Mc.led_lt (jdg (ys:=ys) ok) (At.mp hr) hw
theorem DdT.put{mv:List (List Nat)}{m:Nat}{ys:List Bool}{u v:List Nat}(ok:MvOk mv m)(hw:∀a∈u,a<m):(DdT mv m ys u).map (λx=>(DdT mv m ys v).getD x 0)=DdT mv m ys (u++v):=by
 unfold DdT
 rw[Ax]
 refine Ih λr hr=>?_
 have rl:(mcOf mv m ys).led r u<mv.length:=Mc.led_lt (jdg (ys:=ys) ok) (At.mp hr) hw
 show((List.range mv.length).map λr=>(mcOf mv m ys).led r v).getD ((mcOf mv m ys).led r u) 0=_
 rw[jc2 (Od rl),Mc.led_app']
def spDo(Pt:Addr):Sp:=λvs H Q _=>∃(p pm py:Addr)(z:Str)(us:List V)(mv:List (List Nat))(m:Nat)(ys:List Bool)(u:List Nat),vs=[.ref p,.str (tz z u)]/\MH H p z pm py us mv m ys/\z.length=m/\z.cps.toList.Nodup/\(∀a∈u,a<m)/\u.length<=1000/\TabOk H Pt LQ /\
 ∀(q:Addr)(mv1:List (List Nat))(ys1:List Bool)(H':Hp),Tl mv1 m ys1 (La mv m ys 0)->mv1.length<=mv.length->H' q=some (.tup ((DdT mv1 m ys1 u).map nV))->Kp [Pt] H H'->TabOk H' Pt LQ->Q (.ref q) H'
def spPu:Sp:=λvs H Q _=>∃(p q:Addr)(l k:List Nat),vs=[.ref p,.ref q]/\H p=some (.tup (l.map nV))/\H q=some (.tup (k.map nV))/\(∀x∈l,x<k.length)/\l.length<=1000/\∀(r:Addr)(H':Hp),H' r=some (.tup ((l.map λx=>k.getD x 0).map nV))->Kp [] H H'->Q (.ref r) H'
structure TDo(mg:Str->Option Value)(fle fld:Addr):Prop where
 n_len:mg "len"=none
 n_range:mg "range"=none
 n_tuple:mg "tuple"=none
 m1z:mg "least"=some (.ref fle)
 m_led:mg "led"=some (.ref fld)
structure TPu(mg:Str->Option Value):Prop where
 n_tuple:mg "tuple"=none
def puV(k:List Nat):V->V
 |.int t=>.int (k.getD t.toNat 0:Nat)
 |v=>v
section
variable{P:Program}{w:World}{K:PySem.W.Frag}{mg:Str->Option Value}{base:Heap}
abbrev zu:Stmt:=top 17
theorem jba:FnScope ["machine","text","lean"] ["machine","text"] (jf zu):=⟨rfl,rfl,rfl,by decide +kernel,rfl,by decide +kernel,by decide +kernel⟩
abbrev jaq:Stmt:=top 18
theorem sc_put:FnScope ["one","other"] ["one","other"] (jf jaq):=⟨rfl,rfl,rfl,by decide +kernel,rfl,by decide +kernel,by decide +kernel⟩
theorem ok_put{f:Addr}{fd:FuncData}(F:Fun K "put" "put" jaq f fd)(T:TPu mg):FnOk P w K mg base CX0 1 f fd ["one","other"] spPu:=by
 refine F.ok sc_put (λvs H Q E h=>?_) (λcdv A outer s H vs Q E hr h=>?_)
 ·obtain⟨p,q,l,k,rfl,_⟩:=h
  rfl
 ·obtain⟨p,q,l,k,rfl,hp,hq,lt,ll,kQ⟩:=h
  have hu:=hr.units
  have hsz:sizeLine=16777216:=Ia
  refine exQ (jj (j7 (ju jx (by rfl) T.n_tuple j6 (ja (kc rfl (jcd (sc:=jf jaq) (N:=["one","other"]) (Nc:=["room","other"]) (js:=[none,some 1]) (by decide +kernel)) (j9 (K:=K) (qpv 0) rfl) (λ_ _ _ _=>(jo (i:=0) (show List.Nodup [("room":Str),("other":Str)]from by decide +kernel) rfl (by first|exact Or.inl rfl|exact Or.inr rfl))) (λ_ _ _ _=>(jt ix_U (qpv 1) (qpv 0) (λ_ _=>rfl)))) jc)))) ?_
  simp! [hp]
  intro D hD
  refine jc5 (puV k) hp hD (by rw[Ac];omega) (λx hx l' Q' q'=>?_) λvv=>?_
  ·obtain⟨t,ht,rfl⟩:=Am.mp hx
   have hq':=((Kp.refl [] H).new (o:=.lst l') hD).tup _ _ hq
   simp! [nV,hq']
   exact⟨.int (k.getD t 0:Nat),jce (by rw[Ag,Ae,Aa (lt t ht)];rfl),q'⟩
  dsimp only
  have ey:(l.map nV).map (puV k)=(l.map λx=>k.getD x 0).map nV:=by rw[Ax,Ax];rfl
  rw[ey]
  exact jcf jb λr hr'=>kQ r _ jb (((Kp.refl [] H).new hD).new hr')
theorem ok_deed_of{f fle fld Pt:Addr}{fd fde fdl:FuncData}(F:Fun K "deed_of" "deed_of" zu f fd)(T:TDo mg fle fld)
  (F1z:Fun K "least" "least" jaf fle fde) (b1z:Binds K fde ["machine"] []) (G1z:FnOk P w K mg base CX0 6 fle fde ["machine"] (spLe Pt))
  (F_led:Fun K "led" "led" jax fld fdl) (b_led:Binds K fdl ["machine","room","text"] []) (G_led:FnOk P w K mg base CX0 1 fld fdl ["machine","room","text"] spLd):FnOk P w K mg base CX0 7 f fd ["machine","text"] (spDo Pt):=by
 refine F.ok jba (λvs H Q E h=>?_) (λcdv A outer s H vs Q E hr h=>?_)
 ·obtain⟨p,pm,py,z,us,mv,m,ys,u,rfl,_⟩:=h
  rfl
 ·obtain⟨p,pm,py,z,us,mv,m,ys,u,rfl,M,zm,nd,hw,ul,tb,k⟩:=h
  have hu:=hr.units
  have hsz:sizeLine=16777216:=Ia
  refine exQ (jg (jq (i:=2) jba.nd rfl (by first|exact Or.inl rfl|exact Or.inr rfl) (jr G1z (hr.mono (by decide)) rfl T.m1z F1z.kp b1z .nil jy (ja (qpv 0) jc)))
  (jj (j7 (ju jx (by rfl) T.n_tuple j6 (ja (kc rfl (jcd (sc:=jf zu) (N:=["machine","text","lean"]) (Nc:=["room","lean","text"]) (js:=[none,some 2,some 1]) (by decide +kernel)) (kg rfl T.n_range (ja (jw j4 (by rfl) T.n_len kj (ja (jt ix_U (qpv 2) jh (λ_ _=>rfl)) jc)) jc)) (λ_ _ _ _=>(jo (i:=0) (show List.Nodup [("room":Str),("lean":Str),("text":Str)]from by decide +kernel) rfl (by first|exact Or.inl rfl|exact Or.inr rfl))) (λ_ _ _ _=>(jr G_led (hr.mono (by decide)) rfl T.m_led F_led.kp b_led .nil jy (ja (qpv 1) (ja (qpv 0) (ja (qpv 2) jc)))))) jc))))) ?_
  simp!
  refine⟨p,pm,py,z,us,mv,m,ys,rfl,M.hp,M.hm,M.rw,M.ok,by rw[M.hy];rfl,M.yl,M.n1,M.n9,M.m9,tb,λq a1 a2 us1 mv1 ys1 rs G fr H1 S eq ea1 R1 ea2 k1 tb1=>?_⟩
  obtain⟨t1,l1⟩:=S.tl M.ok M.n1
  have n9:=M.n9
  have M1:MH H1 q z a1 a2 us1 mv1 m ys1:=⟨eq,ea1,R1,t1.ok,ea2,t1.yl,t1.n1,by omega,M.m9⟩
  have ul1:us1.length=mv1.length:=Il R1
  simp! [eq,ea1,ul1]
  refine⟨by omega,by omega,λD hD=>?_⟩
  rw[show((mv1.length:Int)).toNat=mv1.length by omega]
  refine jdz (λi v _=>v=nV ((mcOf mv1 m ys1).led i u)) (λ_ _ _ _ _ _ h=>h) hD (by omega) (λi H2 Q' hi k2 hq=>?_) λvv xs H2 k2 e2 pr=>?_
  ·have M2:=M1.kp k2
   simp! [Op]
   refine⟨q,a1,a2,z,us1,mv1,m,ys1,i,u,rfl,M2,zm,nd,hi,hw,ul,λH3 k3=>?_⟩
   exact hq _ _ k3 rfl
  have ex:xs=(DdT mv1 m ys1 u).map nV:=by
   unfold DdT
   rw[Ax]
   have:=Paired.eqs pr
   rw[this];rfl
  subst ex
  dsimp only
  refine jcf e2 λr hr'=>k r mv1 ys1 _ t1 l1 jb ((k1.trans (k2.mono (by simp))).new hr') (tb1.kp (k2.new hr') (by simp) (by simp))
end
theorem jkx(y:V)(f:Bool):∀m:Nat,(List.replicate m [V.bl f]).flatten=(List.replicate m f).map V.bl
 |0=>rfl
 |m+1=>by rw[List.replicate_succ,List.flatten_cons,jkx y f m,List.replicate_succ];rfl
theorem jmn:∀l:List Int,jdi (l.map PyData.int)=true
 |[]=>rfl
 |_::r=>by simp[jdi,jdy,jmn r]
def rowD(r:List Int):PyData:=.tuple (r.map PyData.int)
theorem jdr:∀l:List (List Int),jdi (l.map rowD)=true
 |[]=>rfl
 |_::r=>by simp[jdi,jdy,rowD,jmn,jdr r]
structure Mach where
 z:Str
 mv:List (List Int)
 ye:List Bool
def Mach.D(m:Mach):PyData:=.tuple [.str m.z,.tuple (m.mv.map rowD),.tuple (m.ye.map PyData.bool)]
structure Mach.Ok(m:Mach)(most:Nat):Prop where
 let4:Letters m.z 4
 n1:1<=m.mv.length
 nh:m.mv.length<=most
 yl:m.ye.length=m.mv.length
 row:∀r∈m.mv,r.length=m.z.length/\∀t∈r,0<=t/\t<(m.mv.length:Int)
def ji7:Sp:=λvs H Q _=>∃(b:Addr)(z:Str)(n:Nat)(o:HO),vs=[.ref b,.str z,.int (n:Int)]/\H b=some o/\BoxO o/\Letters z 4/\1<=n/\n<=1000 /\
 ∀p m o' H',m.z=z->Mach.Ok m n->BoxO o'->H' b=some o'->Kp [b] H H'->Rep H' (.ref p) m.D->Q (.ref p) H'
def JG(b p q D:Addr)(z:Str)(n N:Nat)(kd tn:Int)(i j:Nat)(v12:Option V)(H2:Hp):L2.St->Hp->Prop:=λσ H3=>∃(g:Int)(o3:HO),σ=[some (.ref b),some (.str z),some (.int (n:Int)),some (.int (N:Int)),some (.int kd),some (.int tn),some (.ref D),some (.ref p),some (.int (0+(i:Int))),some (.ref q),some (.int (0+(j:Int))),some (.int g),v12] /\
 0<=g/\g<(N:Int)/\H3 b=some o3/\BoxO o3/\Kp [b] H2 H3
def JY(b p:Addr)(z:Str)(n N:Nat)(kd tn:Int)(D:Addr)(rs:List V)(rows:List (List Int))(v8 v9 v10 v11:Option V)(H:Hp):L2.St->Hp->Prop:=λσ H3=>∃(Y:Addr)(ys:List Bool)(o3:HO),σ=[some (.ref b),some (.str z),some (.int (n:Int)),some (.int (N:Int)),some (.int kd),some (.int tn),some (.ref D),some (.ref p),v8,v9,v10,v11,some (.ref Y)] /\
 H3 b=some o3/\BoxO o3/\H3 p=some (.lst rs)/\Reps H3 rs (rows.map rowD)/\H3 Y=some (.lst (ys.map V.bl))/\ys.length=N/\Kp [b] H H3
structure TMachine(mg:Str->Option Value)(ft:Addr):Prop where
 n_len:mg "len"=none
 n_max:mg "max"=none
 n_range:mg "range"=none
 n_tuple:mg "tuple"=none
 m0z:mg "_law_take"=some (.ref ft)
section
variable{P:Program}{w:World}{K:PySem.W.Frag}{mg:Str->Option Value}{base:Heap}
abbrev yp:Stmt:=top 24
theorem j8:FnScope ["_law_box_here","_law_letters_here","_law_most","_law_many","_law_kind","_law_turned","_law_goals","_law_moves","_law_room","_law_row","_law_k","_law_goal","_law_yes"] ["_law_box_here","_law_letters_here","_law_most"] (jf yp):=⟨rfl,rfl,rfl,by decide +kernel,rfl,by decide +kernel,by decide +kernel⟩
theorem ok__law_machine{f ft:Addr}{fd fdt:FuncData}(F:Fun K "_law_machine" "_law_machine" yp f fd)(T:TMachine mg ft)(F0z:Fun K "_law_take" "_law_take" yd ft fdt)(b0z:Binds K fdt ["_law_box_here","_law_wide"] [])
  (G0z:FnOk P w K mg base CX0 1 ft fdt ["_law_box_here","_law_wide"] jdp):FnOk P w K mg base CX0 2 f fd ["_law_box_here","_law_letters_here","_law_most"] ji7:=by
 refine F.ok j8 (λvs H Q E h=>?_) (λcdv A outer s H vs Q E hr h=>?_)
 ·obtain⟨b,z,n,o,rfl,_⟩:=h
  rfl
 ·obtain⟨b,z,n,o,rfl,hb,ho,hz,n1,nh,k⟩:=h
  have hu:=hr.units
  have hsz:sizeLine=16777216:=Ia
  have zl:=hz.lo
  have zh:=hz.hi
  refine⟨_,(QSs.h (jg (jq (i:=3) j8.nd rfl (by first|exact Or.inl rfl|exact Or.inr rfl) (jv ki jh (jr G0z (hr.mono (by decide)) rfl T.m0z F0z.kp b0z .nil jy (ja (qpv 0) (ja (qpv 2) jc)))))
  (jg (jq (i:=4) j8.nd rfl (by first|exact Or.inl rfl|exact Or.inr rfl) (jr G0z (hr.mono (by decide)) rfl T.m0z F0z.kp b0z .nil jy (ja (qpv 0) (ja jh jc))))
  (jg (jq (i:=5) j8.nd rfl (by first|exact Or.inl rfl|exact Or.inr rfl) (jr G0z (hr.mono (by decide)) rfl T.m0z F0z.kp b0z .nil jy (ja (qpv 0) (ja (jw j4 (by rfl) T.n_len kj (ja (qpv 1) jc)) jc))))
  (jg (zf (i:=6) j8.nd rfl (by first|exact Or.inl rfl|exact Or.inr rfl) rfl (jcd (sc:=jf yp) (N:=["_law_box_here","_law_letters_here","_law_most","_law_many","_law_kind","_law_turned","_law_goals","_law_moves","_law_room","_law_row","_law_k","_law_goal","_law_yes"]) (Nc:=["_law_letter","_law_box_here","_law_many"]) (js:=[none,some 0,some 3]) (by decide +kernel)) (j9 (K:=K) (qpv 1) rfl) (λ_ _ _ _=>(jo (i:=0) (show List.Nodup [("_law_letter":Str),("_law_box_here":Str),("_law_many":Str)]from by decide +kernel) rfl (by first|exact Or.inl rfl|exact Or.inr rfl))) (λ_ _ _ _=>(jr G0z (hr.mono (by decide)) rfl T.m0z F0z.kp b0z .nil jy (ja (qpv 1) (ja (qpv 2) jc)))))
  (jg (jq (i:=7) j8.nd rfl (by first|exact Or.inl rfl|exact Or.inr rfl) (yg jc))
  (jg (ym Ic rfl (kg rfl T.n_range (ja (qpv 3) jc)) (jo (i:=8) j8.nd rfl (by first|exact Or.inl rfl|exact Or.inr rfl)) (jg (jq (i:=9) j8.nd rfl (by first|exact Or.inl rfl|exact Or.inr rfl) (yg jc))
  (jg (ym Ic rfl (kg rfl T.n_range (ja (jw j4 (by rfl) T.n_len kj (ja (qpv 1) jc)) jc)) (jo (i:=10) j8.nd rfl (by first|exact Or.inl rfl|exact Or.inr rfl)) (jg (jq (i:=11) j8.nd rfl (by first|exact Or.inl rfl|exact Or.inr rfl) (jr G0z (hr.mono (by decide)) rfl T.m0z F0z.kp b0z .nil jy (ja (qpv 0) (ja (qpv 3) jc))))
  (kn (yt (QW.pt (jcc (ku (zc hu) (qpv 4) jh (yb _)) (jb6 (ku (zc hu) (qpv 4) jh (yb _))))) (jj (jq (i:=11) j8.nd rfl (by first|exact Or.inl rfl|exact Or.inr rfl) (jw (call_maxU rfl) (by rfl) T.n_max bt_max (ja (qpv 8) (ja (qpv 11) jc))))) ya)
  (kn (yt (ku (zc hu) (qpv 4) jh (yb _)) (jj (jq (i:=11) j8.nd rfl (by first|exact Or.inl rfl|exact Or.inr rfl) (jt ix_U (yg (ja (qpv 8) (ja (jt ix_U (qpv 6) (qpv 10) (λ_ _=>rfl)) jc))) (jr G0z (hr.mono (by decide)) rfl T.m0z F0z.kp b0z .nil jy (ja (qpv 0) (ja jh jc))) (λ_ _=>rfl)))) ya)
  (kn (yt (QW.pt (qpw_and (ku (zc hu) (qpv 4) jh (yb _)) (qpw_and1 (ku (zc hu) (qpv 10) (qpv 5) (yb _))))) (jj (jq (i:=11) j8.nd rfl (by first|exact Or.inl rfl|exact Or.inr rfl) (jv zy (jv ki (qpv 8) jh) (qpv 3)))) ya)
  (jj (yh (yf Ij Ik yj (qpv 9) (ja (qpv 11) jc) jcj))))))))
  (jj (yh (yf Ij Ik yj (qpv 7) (ja (ju jx (by rfl) T.n_tuple j6 (ja (qpv 9) jc)) jc) jcj))))))
  (jg (zf (i:=12) j8.nd rfl (by first|exact Or.inl rfl|exact Or.inr rfl) rfl (jcd (sc:=jf yp) (N:=["_law_box_here","_law_letters_here","_law_most","_law_many","_law_kind","_law_turned","_law_goals","_law_moves","_law_room","_law_row","_law_k","_law_goal","_law_yes"]) (Nc:=["_law_room","_law_box_here"]) (js:=[none,some 0]) (by decide +kernel)) (kg rfl T.n_range (ja (qpv 3) jc)) (λ_ _ _ _=>(jo (i:=0) (show List.Nodup [("_law_room":Str),("_law_box_here":Str)]from by decide +kernel) rfl (by first|exact Or.inl rfl|exact Or.inr rfl))) (λ_ _ _ _=>(jac (zc hu) (jr G0z (hr.mono (by decide)) rfl T.m0z F0z.kp b0z .nil jy (ja (qpv 1) (ja jh jc))) jh (yb _))))
  (kn (yt (ku (zc hu) (jr G0z (hr.mono (by decide)) rfl T.m0z F0z.kp b0z .nil jy (ja (qpv 0) (ja jh jc))) jh (yb _)) (jj (jq (i:=12) j8.nd rfl (by first|exact Or.inl rfl|exact Or.inr rfl) (jv zp (yg (ja (jt ix_U (qpv 12) jh (λ_ _=>rfl)) jc)) (qpv 3)))) ya)
  (jj (j7 (y9 (ja (qpv 1) (ja (ju jx (by rfl) T.n_tuple j6 (ja (qpv 7) jc)) (ja (ju jx (by rfl) T.n_tuple j6 (ja (qpv 12) jc)) jc))))))))))))))),?_⟩
  simp!
  refine⟨b,(n:Int),o,rfl,hb,ho,by omega,by omega,λd o1 d0 d1 ho1=>?_⟩
  obtain⟨dn,rfl⟩:∃dn:Nat,d=(dn:Int):=⟨d.toNat,by omega⟩
  have eN:(1+(dn:Int))=((dn+1:Nat):Int):=by omega
  have ex:∀{H':Hp}{o':HO},BoxO o'->∃xs,o'=.lst xs:=λh=>let⟨_,_,e,_⟩:=h;⟨_,e⟩
  obtain⟨xs0,rfl⟩:=ex (H':=H) ho
  obtain⟨xs1,rfl⟩:=ex (H':=H) ho1
  have kp1:Kp [b] H (upd H b (.lst xs1)):=(Kp.refl [b] H).set hb (.inl (.head _))
  rw[jc4,eN]
  generalize hN:dn+1=N
  have N1:1<=N:=by omega
  have Nh:N<=n:=by omega
  simp!
  refine⟨b,5,_,rfl,jb,ho1,by omega,by omega,λkd o2 kd0 kd5 ho2=>?_⟩
  simp!
  refine⟨by omega,b,(z.length:Int),_,rfl,jb,ho2,by omega,by omega,λtn o3 tn0 tn1 ho3=>?_⟩
  simp!
  intro D hD
  obtain⟨xs3,rfl⟩:=ex (H':=H) ho3
  have kp3:Kp [b] H (upd H b (.lst xs3)):=(Kp.refl [b] H).set hb (.inl (.head _))
  have nbD:b≠D:=je jb hD
  have hD0:H D=none:=kp3.free hD
  refine jgc (λi σ' H'=>∃(v:Option V)(gs:List Int)(o':HO),σ'=[v,some (.ref b),some (.int (N:Int))]/\H' b=some o'/\BoxO o'/\H' D=some (.lst (gs.map V.int))/\gs.length=i/\(∀t∈gs,0<=t/\t<(N:Int))/\Kp [b] H H') ?_ ?_ ?_
  ·exact⟨none,[],_,rfl,by rw[jd nbD,jb],ho3,by rw[jb];rfl,rfl,(λt ht=>nomatch ht),kp3.new hD⟩
  ·rintro i c σ' H' hc ⟨v,gs,o',rfl,hb',ho',hD',hl,hg,kp⟩
   have hil:i<z.length:=by
    have:=(Ad.mp hc).1
    simpa[Str.length]using this
   obtain⟨xs',rfl⟩:=ex (H':=H) ho'
   simp! [jc0]
   refine⟨b,(N:Int),_,rfl,hb',ho',by omega,by omega,λe o4 e0 e1 ho4=>?_⟩
   have hD4:upd H' b o4 D=some (.lst (gs.map V.int)):=by rw[jd nbD.symm];exact hD'
   simp! [hD4,Ac]
   refine⟨by omega,gs++[e],o4,by rw[jd nbD,jb],ho4,by simp,by simp[hl],λt ht=>?_,(kp.set hb' (.inl (.head _))).set hD4 (.inr hD0)⟩
   rcases Au.mp ht with ht|ht
   ·exact hg t ht
   ·simp at ht;subst ht;exact⟨e0,e1⟩
  ·rintro σ' H' ⟨v,gs,o',rfl,hb',ho',hD',hl,hg,kp⟩
   refine⟨by omega,λp hp=>⟨by omega,by omega,?_⟩⟩
   rw[Int.toNat_natCast]
   have nbp:b≠p:=je hb' hp
   have nDp:D≠p:=je hD' hp
   have hp0:H p=none:=kp.free hp
   refine jcm (λi σ H'=>∃(v8 v9 v10 v11 v12:Option V)(rs:List V)(rows:List (List Int))(o':HO),σ=[some (.ref b),some (.str z),some (.int (n:Int)),some (.int (N:Int)),some (.int kd),some (.int tn),some (.ref D),some (.ref p),v8,v9,v10,v11,v12]/\H' b=some o'/\BoxO o' /\
    H' D=some (.lst (gs.map V.int))/\H' p=some (.lst rs)/\Reps H' rs (rows.map rowD)/\rows.length=i/\(∀r∈rows,r.length=z.length/\∀t∈r,0<=t/\t<(N:Int))/\Kp [b] H H') ?_ ?_ ?_
   ·refine⟨none,none,none,none,none,[],[],o',rfl,by rw[jd nbp];exact hb',ho',by rw[jd nDp];exact hD',jb,by simp[Reps],rfl,(λr hr=>nomatch hr),kp.new hp⟩
   ·rintro i σ H1 hi ⟨v8,v9,v10,v11,v12,rs,rows,o1',rfl,hb1,ho1',hD1,hp1,hrs,hrl,hrg,kp1'⟩
    simp!
    refine⟨by omega,λq hq=>⟨by omega,by omega,by omega,?_⟩⟩
    rw[Int.toNat_natCast]
    have nbq:b≠q:=je hb1 hq
    have nDq:D≠q:=je hD1 hq
    have npq:p≠q:=je hp1 hq
    have hq0:H q=none:=kp1'.free hq
    have ei:(0:Int)+(i:Int)=(i:Int):=by omega
    refine jcm (λj σ H'=>∃(v10 v11:Option V)(row:List Int)(o':HO),σ=[some (.ref b),some (.str z),some (.int (n:Int)),some (.int (N:Int)),some (.int kd),some (.int tn),some (.ref D),some (.ref p),some (.int (0+(i:Int))),some (.ref q),v10,v11,v12]/\H' b=some o'/\BoxO o' /\
     H' D=some (.lst (gs.map V.int))/\H' p=some (.lst rs)/\Reps H' rs (rows.map rowD)/\H' q=some (.lst (row.map V.int))/\row.length=j/\(∀t∈row,0<=t/\t<(N:Int))/\Kp [b] H H') ?_ ?_ ?_
    ·exact⟨v10,v11,[],o1',rfl,by rw[jd nbq];exact hb1,ho1',by rw[jd nDq];exact hD1,by rw[jd npq];exact hp1,Reps.kp ((Kp.refl [] H1).new hq) (jdr rows) hrs,jb,rfl,(λt ht=>nomatch ht),kp1'.new hq⟩
    ·rintro j σ H2 hj ⟨v10,v11,row,o2',rfl,hb2,ho2',hD2,hp2,hrs2,hq2,hrow,hgood,kp2⟩
     obtain⟨xs2,rfl⟩:=ex (H':=H) ho2'
     simp!
     refine⟨b,(N:Int),_,rfl,hb2,ho2',by omega,by omega,λg o4 g0 g1 ho4=>?_⟩
     have kpb:Kp [b] H2 (upd H2 b o4):=(Kp.refl [b] H2).set hb2 (.inl (.head _))
     refine⟨JG b p q D z n N kd tn i j v12 H2,?_,?_⟩
     ·simp!
      have mx:∀x:Int,x=(if g>0+(i:Int)then g else 0+(i:Int))->0<=x/\x<(N:Int):=λx e=>by split at e <;> omega
      exact ite2 (λ_=>⟨_,o4,rfl,(mx _ rfl).1,(mx _ rfl).2,jb,ho4,kpb⟩) λ_=>ite2 (λ_=>⟨_,o4,rfl,(mx _ rfl).1,(mx _ rfl).2,jb,ho4,kpb⟩) λ_=>⟨g,o4,rfl,g0,g1,jb,ho4,kpb⟩
     ·rintro σ H3 ⟨g,o3,rfl,g0,g1,hb3,ho3,kk⟩
      refine⟨JG b p q D z n N kd tn i j v12 H2,?_,?_⟩
      ·simp!
       refine ite2 (λ_=>?_) λ_=>⟨g,o3,rfl,g0,g1,hb3,ho3,kk⟩
       have hD3:=kk.old _ _ hD2 (by simp[nbD.symm])
       have hjg:j<gs.length:=by omega
       have hat:atI (gs.map V.int) ((0:Int)+(j:Int))=some (.int (gs.getD j 0)):=by
        refine je7 (by omega) ?_
        have:((0:Int)+(j:Int)).toNat=j:=by omega
        rw[this]
        simp[hjg]
       have hgj:=hg (gs.getD j 0) (by simp[Ae,hjg])
       refine⟨_,by rw[hD3];rfl,_,hat,by omega,λq2 hq2'=>?_⟩
       have nb2:b≠q2:=je hb3 hq2'
       obtain⟨xs5,rfl⟩:=ex (H':=H) ho3
       refine⟨b,2,_,rfl,by rw[jd nb2];exact hb3,ho3,by omega,by omega,λe o5 e0 e1 ho5=>?_⟩
       have k5:Kp [b] H2 (upd (upd H3 q2 (.lst [.int (0+(i:Int)),.int (gs.getD j 0)])) b o5):=(kk.new hq2').set (by rw[jd nb2];exact hb3) (.inl (by simp))
       have hl2:upd (upd H3 q2 (.lst [.int (0+(i:Int)),.int (gs.getD j 0)])) b o5 q2=some (.lst [.int (0+(i:Int)),.int (gs.getD j 0)]):=by rw[jd nb2.symm,jb]
       have hb5:upd (upd H3 q2 (.lst [.int (0+(i:Int)),.int (gs.getD j 0)])) b o5 b=some o5:=jb
       generalize upd (upd H3 q2 (.lst [.int (0+(i:Int)),.int (gs.getD j 0)])) b o5=H5 at k5 hl2 hb5
       rcases(by omega:e=0\/e=1)with rfl|rfl
       ·simp! [hl2]
        exact⟨_,o5,rfl,by omega,by omega,hb5,ho5,k5⟩
       ·simp! [hl2]
        exact⟨_,o5,rfl,hgj.1,hgj.2,hb5,ho5,k5⟩
      ·rintro σ H3 ⟨g,o3,rfl,g0,g1,hb3,ho3,kk⟩
       refine⟨JG b p q D z n N kd tn i j v12 H2,?_,?_⟩
       ·simp!
        exact ite2 (λ_=>ite2 (λ_=>⟨by omega,_,o3,rfl,Y0 _ (by omega),Ya _ (by omega),hb3,ho3,kk⟩) λ_=>⟨g,o3,rfl,g0,g1,hb3,ho3,kk⟩) λ_=>⟨g,o3,rfl,g0,g1,hb3,ho3,kk⟩
       ·rintro σ H3 ⟨g,o3,rfl,g0,g1,hb3,ho3,kk⟩
        have hD3:=kk.old _ _ hD2 (by simp[nbD.symm])
        have hp3:=kk.old _ _ hp2 (by simp[nbp.symm])
        have hq3:=kk.old _ _ hq2 (by simp[nbq.symm])
        simp! [hq3,Ac]
        refine⟨by omega,_,_,⟨rfl,rfl⟩,row++[g],o3,by rw[jd nbq];exact hb3,ho3,by rw[jd nDq];exact hD3,by rw[jd npq];exact hp3,?_,by simp,by simp[hrow],λt ht=>?_,(kp2.trans kk).set hq3 (.inr hq0)⟩
        ·exact Reps.kp ((Kp.refl [q] H3).set hq3 (.inl (.head _))) (jdr rows) (Reps.kp kk (jdr rows) hrs2)
        ·rcases Au.mp ht with ht|ht
         ·exact hgood t ht
         ·simp at ht;subst ht;exact⟨g0,g1⟩
    ·rintro σ H2 ⟨v10,v11,row,o2',rfl,hb2,ho2',hD2,hp2,hrs2,hq2,hrow,hgood,kp2⟩
     simp! [hp2]
     refine jcf hq2 λl hl=>?_
     have npl:p≠l:=je hp2 hl
     have nbl:b≠l:=je hb2 hl
     have nDl:D≠l:=je hD2 hl
     have hp3:upd H2 l (.tup (row.map V.int)) p=some (.lst rs):=by rw[jd npl];exact hp2
     simp! [hp3]
     have rsl:rs.length=i:=by rw[Reps.len hrs2,Ac];exact hrl
     refine⟨by omega,_,_,_,_,_,⟨rfl,rfl,rfl,rfl,rfl⟩,_,rows++[row],o2',by rw[jd nbp,jd nbl];exact hb2,ho2',by rw[jd nDp,jd nDl];exact hD2,rfl,?_,by simp[hrl],λr hr'=>?_,(kp2.new hl).set hp3 (.inr hp0)⟩
     ·have k3:Kp [p] H2 (upd (upd H2 l (.tup (row.map V.int))) p (.lst (rs++[.ref l]))):=((Kp.refl [p] H2).new hl).set hp3 (.inl (.head _))
      rw[A5]
      refine Reps.app (Reps.kp k3 (jdr rows) hrs2) ?_
      simp only[Ay,Up,Reps,Rep,rowD,and_true]
      exact⟨l,_,rfl,by rw[jd npl.symm,jb],Reps.ints _ row⟩
     ·rcases Au.mp hr' with h|h
      ·exact hrg r h
      ·simp at h;subst h;exact⟨by omega,hgood⟩
   ·rintro σ H1 ⟨v8,v9,v10,v11,v12,rs,rows,o1',rfl,hb1,ho1',hD1,hp1,hrs,hrl,hrg,kp1'⟩
    simp!
    refine⟨by omega,by omega,λY hY=>?_⟩
    rw[Int.toNat_natCast]
    have nbY:b≠Y:=je hb1 hY
    have npY:p≠Y:=je hp1 hY
    refine jcm (λi σ' H'=>∃(v:Option V)(ys:List Bool)(o':HO),σ'=[v,some (.ref b)]/\H' b=some o'/\BoxO o'/\H' Y=some (.lst (ys.map V.bl))/\ys.length=i/\Kp [b] H1 H') ?_ ?_ ?_
    ·exact⟨none,[],o1',rfl,by rw[jd nbY];exact hb1,ho1',by rw[jb];rfl,rfl,(Kp.refl [b] H1).new hY⟩
    ·rintro i σ' H2 hi ⟨v,ys,o2',rfl,hb2,ho2',hY2,hyl,kp2⟩
     obtain⟨xs2,rfl⟩:=ex (H':=H) ho2'
     simp! [jc0]
     refine⟨b,2,_,rfl,hb2,ho2',by omega,by omega,λe o4 e0 e1 ho4=>?_⟩
     have hY4:upd H2 b o4 Y=some (.lst (ys.map V.bl)):=by rw[jd nbY.symm];exact hY2
     simp! [hY4,Ac]
     exact⟨by omega,ys++[decide (e=1)],o4,by rw[jd nbY,jb],ho4,by simp,by simp[hyl],(kp2.set hb2 (.inl (.head _))).set hY4 (.inr hY)⟩
    ·rintro σ' H2 ⟨v,ys,o2',rfl,hb2,ho2',hY2,hyl,kp2⟩
     obtain⟨xs2,rfl⟩:=ex (H':=H) ho2'
     refine⟨JY b p z n N kd tn D rs rows v8 v9 v10 v11 H,?_,?_⟩
     ·simp!
      refine⟨b,8,_,rfl,hb2,ho2',by omega,by omega,λe o4 e0 e1 ho4=>?_⟩
      have kk:Kp [b] H1 (upd H2 b o4):=kp2.set hb2 (.inl (.head _))
      have hY4:upd H2 b o4 Y=some (.lst (ys.map V.bl)):=by rw[jd nbY.symm];exact hY2
      have hp4:upd H2 b o4 p=some (.lst rs):=kk.old _ _ hp1 (by simp[nbp.symm])
      simp! [hY4]
      refine ite2 (λ_=>?_) λ_=>⟨Y,ys,o4,rfl,jb,ho4,hp4,Reps.kp kk (jdr rows) hrs,hY4,hyl,kp1'.trans kk⟩
      cases ys with
      |nil=>simp at hyl;omega
      |cons y0 yr =>
       refine⟨.bl y0,by rw[Ay];exact jei _ _,by omega,λp1 hp1'=>⟨by omega,by omega,by omega,λp2 hp2'=>?_⟩⟩
       rw[jkx .non]
       have k5:Kp [b] H1 (upd (upd (upd H2 b o4) p1 (.lst [.bl y0])) p2 (.lst ((List.replicate N y0).map V.bl))):=(kk.new hp1').new hp2'
       have n1:b≠p1:=je jb hp1'
       have n2:b≠p2:=je (by rw[jd n1,jb]) hp2'
       exact⟨p2,_,o4,rfl,by rw[jd n2,jd n1,jb],ho4,k5.old _ _ hp1 (by simp[nbp.symm]),Reps.kp k5 (jdr rows) hrs,jb,by simp,kp1'.trans k5⟩
     ·rintro σ H3 ⟨Y,ys,o3',rfl,hb3,ho3',hp3,hrs3,hY3,hyl,kp3⟩
      simp!
      refine jcf hp3 λl1 hl1=>?_
      have nY1:Y≠l1:=je hY3 hl1
      refine jcf (ys:=ys.map V.bl) (by rw[jd nY1];exact hY3) λl2 hl2=>⟨by omega,λl3 hl3=>?_⟩
      have n12:l1≠l2:=je jb hl2
      have n13:l1≠l3:=je (by rw[jd n12,jb]) hl3
      have n23:l2≠l3:=je jb hl3
      have kA:Kp [] H3 (upd (upd (upd H3 l1 (.tup rs)) l2 (.tup (ys.map V.bl))) l3 (.tup [.str z,.ref l1,.ref l2])):=(((Kp.refl [] H3).new hl1).new hl2).new hl3
      refine k l3 ⟨z,rows,ys⟩ o3' _ rfl ⟨hz,by show 1<=rows.length;omega,by show rows.length<=n;omega,by show ys.length=rows.length;omega,λr hr=>?_⟩ ho3' (kA.old _ _ hb3 Af) (kp3.trans (kA.mono (λ_ h=>nomatch h))) ?_
      ·have:=hrg r hr
       exact⟨this.1,λt ht=>by have:=this.2 t ht;show 0<=t/\t<(rows.length:Int);omega⟩
      ·simp only[Mach.D,Rep]
       refine⟨l3,_,rfl,jb,?_⟩
       simp only[Reps,Rep,and_true]
       exact⟨trivial,⟨l1,rs,rfl,by rw[jd n13,jd n12,jb],Reps.kp kA (jdr rows) hrs3⟩,⟨l2,_,rfl,by rw[jd n23,jb],Reps.bools _ ys⟩⟩
end
def jow:Sp:=λvs H Q _=>∃(b:Addr)(z:Str)(m:Nat)(o:HO),vs=[.ref b,.str z,.int (m:Int)]/\H b=some o/\BoxO o/\1<=z.length/\z.length<=1000/\m<=1000 /\
 ∀u o' H',u.length<=m->(∀c∈sg u,c∈sg z)->BoxO o'->H' b=some o'->Kp [b] H H'->Q (.str u) H'
theorem jme{z:Str}:∀{xs:List V},(∀x∈xs,∃c:Nat,x=.str ⟨#[c]⟩/\c∈sg z)->∃ys:List Str,xs=ys.map V.str/\(∀y∈ys,y.length=1)/\(∀c∈(ys.map sg).flatten,c∈sg z)
 |[],_=>⟨[],rfl,(λ_ h=>nomatch h),by simp⟩
 |x::xs,h=>by
  obtain⟨c,rfl,hc⟩:=h x (.head _)
  obtain⟨ys,rfl,h1,h2⟩:=jme λy hy=>h y (.tail _ hy)
  refine⟨⟨#[c]⟩::ys,rfl,λy hy=>?_,λd hd=>?_⟩
  ·rcases Ap.mp hy with rfl|hy
   ·rfl
   ·exact h1 y hy
  ·rw[Ay,List.flatten_cons,Au]at hd
   rcases hd with hd|hd
   ·have:d=c:=by simpa[sg]using hd
    rw[this];exact hc
   ·exact h2 d hd
structure TTx(mg:Str->Option Value)(ft:Addr):Prop where
 n_len:mg "len"=none
 n_range:mg "range"=none
 m0z:mg "_law_take"=some (.ref ft)
theorem BoxO.lst7{o:HO}(h:BoxO o):∃xs,o=.lst xs:=by obtain⟨c,s,e,_⟩:=h;exact⟨_,e⟩
section
variable{P:Program}{w:World}{K:PySem.W.Frag}{mg:Str->Option Value}{base:Heap}
abbrev ze:Stmt:=top 23
theorem sc__law_text:FnScope ["_law_box_here","_law_letters_here","_law_most"] ["_law_box_here","_law_letters_here","_law_most"] (jf ze):=⟨rfl,rfl,rfl,by decide +kernel,rfl,by decide +kernel,by decide +kernel⟩
theorem ok__law_text{f ft:Addr}{fd fdt:FuncData}(F:Fun K "_law_text" "_law_text" ze f fd)(T:TTx mg ft)(F0z:Fun K "_law_take" "_law_take" yd ft fdt)(b0z:Binds K fdt ["_law_box_here","_law_wide"] [])
  (G0z:FnOk P w K mg base CX0 1 ft fdt ["_law_box_here","_law_wide"] jdp):FnOk P w K mg base CX0 2 f fd ["_law_box_here","_law_letters_here","_law_most"] jow:=by
 refine F.ok sc__law_text (λvs H Q E h=>?_) (λcdv A outer s H vs Q E hr h=>?_)
 ·obtain⟨b,z,m,o,rfl,_⟩:=h
  rfl
 ·obtain⟨b,z,m,o,rfl,hb,ho,z1,z2,hm,k⟩:=h
  have hu:=hr.units
  refine⟨_,(QSs.h (jj (j7 (jb3 PySem.F.slot_str_join PySem.F.type_str_join mt_joinU jbf (ja (kc rfl (jcd (sc:=jf ze) (N:=["_law_box_here","_law_letters_here","_law_most"]) (Nc:=["_law_k","_law_letters_here","_law_box_here"]) (js:=[none,some 1,some 0]) (by decide +kernel)) (kg rfl T.n_range (ja (jr G0z (hr.mono (by decide)) rfl T.m0z F0z.kp b0z .nil jy (ja (qpv 0) (ja (jv ki (qpv 2) jh) jc))) jc)) (λ_ _ _ _=>(jo (i:=0) (show List.Nodup [("_law_k":Str),("_law_letters_here":Str),("_law_box_here":Str)]from by decide +kernel) rfl (by first|exact Or.inl rfl|exact Or.inr rfl))) (λ_ _ _ _=>(jt ix_U (qpv 1) (jr G0z (hr.mono (by decide)) rfl T.m0z F0z.kp b0z .nil jy (ja (qpv 2) (ja (jw j4 (by rfl) T.n_len kj (ja (qpv 1) jc)) jc))) (λ_ _=>rfl)))) jc) jr0)))),?_⟩
  have hsz:sizeLine=16777216:=Ia
  have hzl:z.cps.toList.length=z.length:=by simp[Str.length]
  simp!
  refine⟨b,_,o,rfl,hb,ho,by omega,by omega,λd o1 d0 d1 ho1=>?_⟩
  obtain⟨n,rfl⟩:∃n:Nat,d=(n:Int):=⟨d.toNat,by omega⟩
  obtain⟨xs0,rfl⟩:=ho.lst7
  refine⟨_,rfl,by omega,by omega,λD hD=>?_⟩
  rw[Int.toNat_natCast]
  refine jd7 (λx=>∃c:Nat,x=.str ⟨#[c]⟩/\c∈sg z) jb ho1 hD (by omega) (λx H' o' Q' hb' ho' hq=>?_) λv xs o' hl hP ho'=>?_
  ·simp!
   refine⟨by omega,b,z.length,_,rfl,hb',ho',by omega,by omega,λe o5 e0 e1 ho5=>?_⟩
   simp!
   exact⟨by omega,z.cps.toList[e.toNat]'(by omega),je7 e0 (by simp),hq _ _ ⟨_,rfl,A7 _⟩ ho5⟩
  ·obtain⟨ys,rfl,hy2,hy3⟩:=jme hP
   rw[Ac]at hl
   have ns:(ys.map (·.length)).sum=ys.length:=by
    clear hl hP hy3
    induction ys with
    |nil=>rfl
    |cons y ys ih=>simp[hy2 y (.head _),ih λz hz=>hy2 z (.tail _ hz)];omega
   refine⟨ys,jb,by rw[ns];show ys.length+ys.length*0<=_;omega,?_⟩
   have lj:=PySem.W.KT.join_ones ys hy2
   have nbD:b≠D:=je jb hD
   obtain⟨xs1,rfl⟩:=id ho1.lst7
   refine k _ o' _ (by rw[lj];omega) (λc hc=>?_) ho' (by rw[jd nbD,jb]) ((((Kp.refl [b] H).set hb (.inl (.head _))).set jb (.inl (.head _))).new (by rw[jd nbD.symm];exact hD))
   rw[jsg]at hc
   exact hy3 c hc
end
structure MA(H:Hp)(m:Mach)(p a1 a2:Addr)(rs:List V):Prop where
 t0:H p=some (.tup [.str m.z,.ref a1,.ref a2])
 t1:H a1=some (.tup rs)
 t2:H a2=some (.tup (m.ye.map V.bl))
 rl:rs.length=m.mv.length
 rw:∀i,i<m.mv.length->∃r,rs[i]?=some (.ref r)/\H r=some (.tup ((m.mv.getD i []).map V.int))
theorem jed{H:Hp}:∀{vs:List V}{ds:List PyData}{i:Nat}{d:PyData},Reps H vs ds->ds[i]?=some d->∃v,vs[i]?=some v/\Rep H v d
 |[],[],_,_,_,e=>by simp at e
 |[],_::_,_,_,h,_=>by simp only[Reps]at h
 |_::_,[],_,_,h,_=>by simp only[Reps]at h
 |v::vs,d::ds,0,_,h,e=>by simp only[Reps]at h;simp at e;subst e;exact⟨v,rfl,h.1⟩
 |v::vs,d::ds,i+1,_,h,e=>by simp only[Reps]at h;exact jed (i:=i) h.2 (by simpa using e)
theorem jgl{H:Hp}{α:Type}{f:α->V}{g:α->PyData}(hv:∀x v,Rep H v (g x)->v=f x):∀{l:List α}{vs:List V},Reps H vs (l.map g)->vs=l.map f
 |[],[],_=>rfl
 |[],_::_,h=>by simp only[Up,Reps]at h
 |_::_,[],h=>by simp only[Ay,Reps]at h
 |x::l,v::vs,h=>by simp only[Ay,Reps]at h;rw[Ay,hv x v h.1,jgl hv h.2]
theorem v3L{C:List V->Prop}(h:∀v0 v1 v2:V,C [v0,v1,v2])(us:List V)(e:us.length=3):C us:=by
 cases us with
 |nil=>exact absurd e.symm (Iq _)
 |cons v0 us =>
  cases us with
  |nil=>exact absurd (Io (e.symm)) (Iq _)
  |cons v1 us =>
   cases us with
   |nil=>exact absurd (Io (Io (e.symm))) (Iq _)
   |cons v2 us =>
    cases us with
    |nil=>exact h v0 v1 v2
    |cons _ _=>exact absurd (Io (Io (Io (e)))) (Iq _)
theorem Mach.opened{H:Hp}{m:Mach}{p:Addr}(h:Rep H (.ref p) m.D):∃a1 a2 rs,MA H m p a1 a2 rs:=by
 simp only[Mach.D,Rep]at h
 obtain⟨a,vs,e,h0,hr⟩:=h
 cases e
 obtain⟨v0,e0,r0⟩:=jed (i:=0) hr rfl
 obtain⟨v1,e1,r1⟩:=jed (i:=1) hr rfl
 obtain⟨v2,e2,r2⟩:=jed (i:=2) hr rfl
 have hl:=Reps.len hr
 simp only[Rep]at r0 r1 r2
 subst r0
 obtain⟨a1,rs,rfl,h1,hr1⟩:=r1
 obtain⟨a2,ys,rfl,h2,hr2⟩:=r2
 have ev:vs=[.str m.z,.ref a1,.ref a2]:=by
  exact v3L (C:=λvs=>vs[0]?=some _->vs[1]?=some _->vs[2]?=some _->vs=_) (λx y w e0 e1 e2=>by simp at e0 e1 e2;rw[e0,e1,e2]) vs hl e0 e1 e2
 subst ev
 have ey:ys=m.ye.map V.bl:=jgl (f:=V.bl) (λx v h=>by simpa only[Rep]using h) hr2
 subst ey
 refine⟨a1,a2,rs,h0,h1,h2,by rw[Reps.len hr1,Ac],λi hi=>?_⟩
 obtain⟨v,ev,rv⟩:=jed (i:=i) (d:=rowD (m.mv.getD i [])) hr1 (by rw[Ag];simp[hi])
 simp only[rowD,Rep]at rv
 obtain⟨r,us,rfl,hr',hu⟩:=rv
 have eu:us=(m.mv.getD i []).map V.int:=jgl (f:=V.int) (λx v h=>by simpa only[Rep]using h) hu
 subst eu
 exact⟨r,ev,hr'⟩
def mvD(m:Mach):List (List Nat):=m.mv.map λr=>r.map Int.toNat
theorem jml{H:Hp}:∀{rs:List V}{mv:List (List Int)},rs.length=mv.length->(∀i,i<mv.length->∃r,rs[i]?=some (.ref r)/\H r=some (.tup ((mv.getD i []).map V.int)))->(∀r∈mv,∀t∈r,0<=t)->RowsM H rs (mv.map λr=>r.map Int.toNat)
 |[],[],_,_,_=>.nil
 |v::rs,r::mv,hl,h,nn=>by
  refine .cons ?_ (jml (by simpa using hl) (λi hi=>?_) λr' h'=>nn r' (.tail _ h'))
  ·obtain⟨a,e1,e2⟩:=h 0 (by simp)
   have e1:v=.ref a:=by simpa using e1
   refine⟨a,e1,?_⟩
   rw[e2,Ax]
   congr 2
   refine Ih λt ht=>?_
   have:=nn r (.head _) t (by simpa using ht)
   show V.int t=V.int ((t.toNat:Nat):Int)
   rw[Int.toNat_of_nonneg this]
  ·obtain⟨a,e1,e2⟩:=h (i+1) (by simpa using hi)
   exact⟨a,by simpa using e1,by simpa using e2⟩
theorem MA.mh{H:Hp}{m:Mach}{p a1 a2:Addr}{rs:List V}{n:Nat}(h:MA H m p a1 a2 rs)(ok:Mach.Ok m n)(n9:n<=1000):MH H p m.z a1 a2 rs (mvD m) m.z.length m.ye:=by
 have zl:m.z.length<=1000:=by have:=ok.let4.hi;omega
 refine⟨h.t0,h.t1,jml h.rl h.rw λr hr t ht=>((ok.row r hr).2 t ht).1,⟨λrow hrow=>?_,λrow hrow x hx=>?_⟩,h.t2,by rw[ok.yl];simp[mvD],by simpa[mvD]using ok.n1,by have:=ok.nh;simp[mvD];omega,zl⟩
 ·obtain⟨r,hr,rfl⟩:=Am.mp hrow
  rw[Ac];exact(ok.row r hr).1
 ·obtain⟨r,hr,rfl⟩:=Am.mp hrow
  obtain⟨t,ht,rfl⟩:=Am.mp hx
  have:=(ok.row r hr).2 t ht
  simp[mvD];omega
theorem BoxO.lst{o:HO}(h:BoxO o):∃xs,o=.lst xs:=by
 obtain⟨c,s,e,_⟩:=h
 exact⟨_,e⟩
structure SB(H:Hp)(b:Addr)(H':Hp):Prop where
 kp:Kp [b] H H'
 bx:∃o,H' b=some o/\BoxO o
theorem SB.take{H H':Hp}{b:Addr}{o1:HO}(h:SB H b H')(ho1:BoxO o1):SB H b (upd H' b o1):=by
 obtain⟨kp,o,hb,ho⟩:=h
 obtain⟨xs,rfl⟩:=ho.lst
 exact⟨kp.set hb (.inl (.head _)),o1,jb,ho1⟩
theorem SB.new{H H':Hp}{b p:Addr}{x:HO}(h:SB H b H')(hp:H' p=none):SB H b (upd H' p x):=by
 obtain⟨kp,o,hb,ho⟩:=h
 exact⟨kp.new hp,o,by rw[jd (je hb hp)];exact hb,ho⟩
theorem SB.keep{H H' H2:Hp}{b:Addr}(h:SB H b H')(k:Kp [] H' H2):SB H b H2:=by
 obtain⟨kp,o,hb,ho⟩:=h
 exact⟨kp.trans (k.mono (by simp)),o,k.old _ _ hb Af,ho⟩
theorem SB.tq{H H':Hp}{b:Addr}(h:SB H b H'){w:Int}(w0:0<w)(w1:w<1073741824){Q:VK}{E:XK}(q:∀d H2,0<=d->d<w->SB H b H2->Kp [b] H' H2->Q (.int d) H2):jdp [.ref b,.int w] H' Q E:=by
 obtain⟨o,hb,ho⟩:=h.bx
 refine⟨b,w,o,rfl,hb,ho,w0,w1,λd o' d0 d1 ho'=>q d _ d0 d1 (h.take ho') ?_⟩
 obtain⟨xs,rfl⟩:=ho.lst
 exact(Kp.refl [b] H').set hb (.inl (.head _))
theorem SB.ne{H H':Hp}{b p:Addr}(h:SB H b H')(hp:H' p=none):p≠b:=by
 obtain⟨o,hb,_⟩:=h.bx
 exact(je hb hp).symm
theorem jrk{l:List V}{M:V->Prop}(h:∀v∈l,M v){d:Int}(d0:0<=d)(d1:d<(l.length:Int)):∃v,atI l d=some v/\M v:=by
 have hd:d.toNat<l.length:=by omega
 exact⟨l[d.toNat],je7 d0 (Aa hd),h _ (A7 hd)⟩
def DM(H:Hp)(p:Addr)(z:Str)(n:Nat):Prop:=∃(a1 a2:Addr)(us:List V)(mv:List (List Nat))(ys:List Bool),MH H p z a1 a2 us mv z.length ys/\mv.length<=n
def spLo:Sp:=λvs H Q _=>∃(b:Addr)(o:HO),vs=[.ref b]/\H b=some o/\BoxO o/\∀p z o' H',Letters z 4->DM H' p z 60->BoxO o'->H' b=some o'->Kp [b] H H'->Q (.ref p) H'
structure TLo(mg:Str->Option Value)(ft fl:Addr):Prop where
 n_range:mg "range"=none
 n_tuple:mg "tuple"=none
 m0z:mg "_law_take"=some (.ref ft)
 m2z:mg "_law_letters"=some (.ref fl)
theorem Letters.up{z:Str}{m n:Nat}(h:Letters z m)(q:m<=n):Letters z n:=⟨h.lo,Iv h.hi q,h.az,h.nd⟩
theorem jf9:∀{xs:List V},(∀x∈xs,∃b:Bool,x=.bl b)->∃ys:List Bool,xs=ys.map V.bl
 |[],_=>⟨[],rfl⟩
 |x::xs,h=>by
  obtain⟨b,rfl⟩:=h x (.head _)
  obtain⟨ys,rfl⟩:=jf9 λy hy=>h y (.tail _ hy)
  exact⟨b::ys,rfl⟩
def jqc(i:Nat)(v:V)(H:Hp):Prop:=∃a,v=.ref a/\H a=some (.tup ([i+1].map nV))
theorem jhh{H:Hp}:∀{l:List Nat}{xs:List V},Paired (λi x=>jqc i x H) l xs->RowsM H xs (l.map λi=>[i+1])
 |[],_,.nil=>.nil
 |_::_,_,.cons h t=>.cons h (jhh t)
section
variable{P:Program}{w:World}{K:PySem.W.Frag}{mg:Str->Option Value}{base:Heap}
abbrev zb:Stmt:=top 29
theorem zq:FnScope ["_law_box_here","_law_letters_here","_law_many","_law_back","_law_moves","_law_yes"] ["_law_box_here"] (jf zb):=⟨rfl,rfl,rfl,by decide +kernel,rfl,by decide +kernel,by decide +kernel⟩
theorem ok__law_long{f ft fl:Addr}{fd fdt fdl:FuncData}(F:Fun K "_law_long" "_law_long" zb f fd)(T:TLo mg ft fl)
  (F0z:Fun K "_law_take" "_law_take" yd ft fdt) (b0z:Binds K fdt ["_law_box_here","_law_wide"] []) (G0z:FnOk P w K mg base CX0 1 ft fdt ["_law_box_here","_law_wide"] jdp)
  (F2z:Fun K "_law_letters" "_law_letters" yz fl fdl) (b2z:Binds K fdl ["_law_box_here","_law_most"] []) (G2z:FnOk P w K mg base CX0 2 fl fdl ["_law_box_here","_law_most"] jfj):FnOk P w K mg base CX0 3 f fd ["_law_box_here"] spLo:=by
 refine F.ok zq (λvs H Q E h=>?_) (λcdv A outer s H vs Q E hr h=>?_)
 ·obtain⟨b,o,rfl,_⟩:=h
  rfl
 ·obtain⟨b,o,rfl,hb,ho,k⟩:=h
  have hu:=hr.units
  have hsz:sizeLine=16777216:=Ia
  refine exQ (jg (jq (i:=1) zq.nd rfl (by first|exact Or.inl rfl|exact Or.inr rfl) (jr G2z (hr.mono (by decide)) rfl T.m2z F2z.kp b2z .nil jy (ja (qpv 0) (ja jh jc))))
  (jg (jq (i:=2) zq.nd rfl (by first|exact Or.inl rfl|exact Or.inr rfl) (jv ki jh (jr G0z (hr.mono (by decide)) rfl T.m0z F0z.kp b0z .nil jy (ja (qpv 0) (ja jh jc)))))
  (jg (jq (i:=3) zq.nd rfl (by first|exact Or.inl rfl|exact Or.inr rfl) (jt ix_U (yg (ja jh (ja (jv ja1 (qpv 2) jh) (ja (jr G0z (hr.mono (by decide)) rfl T.m0z F0z.kp b0z .nil jy (ja (qpv 0) (ja (qpv 2) jc))) jc)))) (jr G0z (hr.mono (by decide)) rfl T.m0z F0z.kp b0z .nil jy (ja (qpv 0) (ja jh jc))) (λ_ _=>rfl)))
  (jg (jq (i:=4) zq.nd rfl (by first|exact Or.inl rfl|exact Or.inr rfl) (ju jx (by rfl) T.n_tuple j6 (ja (jv ki (kc rfl (jcd (sc:=jf zb) (N:=["_law_box_here","_law_letters_here","_law_many","_law_back","_law_moves","_law_yes"]) (Nc:=["_law_room"]) (js:=[none]) (by decide +kernel)) (kg rfl T.n_range (ja (jv ja1 (qpv 2) jh) jc)) (λ_ _ _ _=>(jo (i:=0) (show List.Nodup [("_law_room":Str)]from by decide +kernel) rfl (by first|exact Or.inl rfl|exact Or.inr rfl))) (λ_ _ _ _=>(y9 (ja (jv ki (qpv 0) jh) jc)))) (yg (ja (y9 (ja (qpv 3) jc)) jc))) jc)))
  (jg (jq (i:=5) zq.nd rfl (by first|exact Or.inl rfl|exact Or.inr rfl) (ju jx (by rfl) T.n_tuple j6 (ja (kc rfl (jcd (sc:=jf zb) (N:=["_law_box_here","_law_letters_here","_law_many","_law_back","_law_moves","_law_yes"]) (Nc:=["_law_room","_law_box_here"]) (js:=[none,some 0]) (by decide +kernel)) (kg rfl T.n_range (ja (qpv 2) jc)) (λ_ _ _ _=>(jo (i:=0) (show List.Nodup [("_law_room":Str),("_law_box_here":Str)]from by decide +kernel) rfl (by first|exact Or.inl rfl|exact Or.inr rfl))) (λ_ _ _ _=>(jac (zc hu) (jr G0z (hr.mono (by decide)) rfl T.m0z F0z.kp b0z .nil jy (ja (qpv 1) (ja jh jc))) jh (yb _)))) jc)))
  (jj (j7 (y9 (ja (qpv 1) (ja (qpv 4) (ja (qpv 5) jc))))))))))) ?_
  simp!
  refine⟨b,1,o,rfl,hb,ho,by omega,by omega,λz o1 H1 hz ho1 hb1 k1=>?_⟩
  have sb:SB H b H1:=⟨k1,o1,hb1,ho1⟩
  have z1:z.length=1:=by have:=hz.lo;have:=hz.hi;omega
  refine sb.tq (by omega) (by omega) λd H2 d0 d1 sb2 k2=>?_
  obtain⟨dn,rfl⟩:∃dn:Nat,d=(dn:Int):=⟨d.toNat,by omega⟩
  rw[jc4]
  simp!
  refine sb2.tq (by omega) (by omega) λe H3 e0 e1 sb3 k3=>?_
  refine⟨by omega,λpl hpl=>?_⟩
  have npb:=sb3.ne hpl
  refine(sb3.new hpl).tq (by omega) (by omega) λg H4 g0 g1 sb4 k4=>?_
  have e4:=k4.old _ _ jb (by simpa using npb)
  rw[jch,e4]
  obtain⟨v,av,back,rfl,bk⟩:=jrk (l:=[V.int 0,V.int (1+(dn:Int)-1),V.int e]) (M:=λv=>∃n:Nat,v=.int (n:Int)/\n<dn+1) (λv hv=>by
   simp only[Ap,Af,Uk]at hv
   rcases hv with rfl|rfl|rfl
   ·exact⟨0,rfl,by omega⟩
   ·exact⟨dn,by congr 1;omega,by omega⟩
   ·exact⟨e.toNat,by congr 1;omega,by omega⟩) (d:=g) g0 (by simpa using g1)
  refine⟨_,rfl,_,av,by omega,by omega,λD hD=>?_⟩
  rw[show(1+(dn:Int)-1).toNat=dn by omega]
  refine jdz jqc (λi S x H1 H2 k ⟨a,e,h⟩=>⟨a,e,k.tup _ _ h⟩) hD (by omega) (λi H5 Q' hi k5 hq=>?_) λvv xs H5 k5 e5 pr=>?_
  ·simp! [Op]
   refine⟨by omega,λq hq'=>?_⟩
   refine hq _ _ ((Kp.refl [] H5).new hq') ⟨q,rfl,?_⟩
   rw[jb]
   show some (HO.tup [V.int ((i:Int)+1)])=some (HO.tup [V.int ((i+1:Nat):Int)])
   rw[show((i+1:Nat):Int)=(i:Int)+1 by omega]
  have R5:=jhh pr
  have xl:xs.length=dn:=by have:=Il pr;simpa using this.symm
  refine⟨by omega,λq hq=>⟨by omega,λq1 hq1=>?_⟩⟩
  have k6:Kp [] H5 (upd (upd H5 q (.tup [.int (back:Int)])) q1 (.lst [.ref q])):=((Kp.refl [] H5).new hq).new hq1
  have f6:upd (upd H5 q (.tup [.int (back:Int)])) q1 (.lst [.ref q]) q1=some (.lst [.ref q]):=jb
  have g6:upd (upd H5 q (.tup [.int (back:Int)])) q1 (.lst [.ref q]) q=some (.tup ([back].map nV)):=by rw[jd (je jb hq1),jb];rfl
  generalize upd (upd H5 q (.tup [.int (back:Int)])) q1 (.lst [.ref q])=H6 at k6 f6 g6⊢
  refine rAddW.lst (k6.old _ _ e5 Af) f6 (by simp;omega) λq2 hq2=>jcf jb λq3 hq3=>?_
  have k7:Kp [] H6 (upd (upd H6 q2 (.lst (xs++[.ref q]))) q3 (.tup (xs++[.ref q]))):=((Kp.refl [] H6).new hq2).new hq3
  have f7:upd (upd H6 q2 (.lst (xs++[.ref q]))) q3 (.tup (xs++[.ref q])) q3=some (.tup (xs++[.ref q])):=jb
  have R7:=((R5.kp k6).snoc g6).kp k7
  generalize upd (upd H6 q2 (.lst (xs++[.ref q]))) q3 (.tup (xs++[.ref q]))=H7 at k7 f7 R7⊢
  have sb7:SB H b H7:=((sb4.keep k5).keep k6).keep k7
  obtain⟨o7,hb7,ho7⟩:=sb7.bx
  refine⟨by omega,by omega,λD2 hD2=>?_⟩
  rw[show(1+(dn:Int)).toNat=dn+1 by omega]
  refine jd7 (λx=>∃b:Bool,x=.bl b) hb7 ho7 hD2 (by omega) (λx H' o' Q' hb' ho' hq=>?_) λv ys o' hl hP ho'=>?_
  ·simp!
   refine⟨b,2,o',rfl,hb',ho',by omega,by omega,λe o5 e0 e1 ho5=>?_⟩
   simp!
   exact hq _ _ ⟨_,rfl⟩ ho5
  obtain⟨ys,rfl⟩:=jf9 hP
  rw[Ac]at hl
  dsimp only
  obtain⟨x7,rfl⟩:=id ho7.lst
  have nbD:=je hb7 hD2
  have k8:Kp [b] H7 (upd (upd H7 b o') D2 (.lst (ys.map V.bl))):=((Kp.refl [b] H7).set hb7 (.inl (.head _))).new (by rw[jd nbD.symm];exact hD2)
  have b8:upd (upd H7 b o') D2 (.lst (ys.map V.bl)) b=some o':=by rw[jd nbD,jb]
  refine jcf jb λq4 hq4=>⟨by omega,λq5 hq5=>?_⟩
  generalize upd (upd H7 b o') D2 (.lst (ys.map V.bl))=H8 at k8 b8 hq4 hq5⊢
  have k9:Kp [] H8 (upd (upd H8 q4 (.tup (ys.map V.bl))) q5 (.tup [.str z,.ref q3,.ref q4])):=((Kp.refl [] H8).new hq4).new hq5
  have mok:MvOk ((List.range dn).map (λi=>[i+1])++[[back]]) 1:=by
   refine⟨λrow hrow=>?_,λrow hrow x hx=>?_⟩
   ·rcases Au.mp hrow with h|h
    ·obtain⟨i,_,rfl⟩:=Am.mp h;rfl
    ·cases Aj.mp h;rfl
   ·rcases Au.mp hrow with h|h
    ·obtain⟨i,hi,rfl⟩:=Am.mp h
     have:=At.mp hi
     simp at hx⊢;omega
    ·cases Aj.mp h
     simp at hx⊢;omega
  refine k q5 z o' _ (hz.up (by omega)) ⟨q3,q4,_,(List.range dn).map (λi=>[i+1])++[[back]],ys,⟨jb,k9.tup _ _ (k8.tup _ _ f7),(R7.kp k8).kp k9,by rw[z1];exact mok,?_,by simp[hl],by simp,by simp;omega,by omega⟩,by simp;omega⟩ ho' (k9.old _ _ b8 Af) ((sb7.kp.trans k8).trans (k9.mono (by simp)))
  rw[jd (je jb hq5),jb]
end
def spDb:Sp:=λvs H Q _=>∃(b p:Addr)(z:Str)(n:Nat)(o:HO),vs=[.ref b,.ref p]/\H b=some o/\BoxO o/\DM H p z n/\n<=30/\∀q o' H',DM H' q z (2*n)->BoxO o'->H' b=some o'->Kp [b] H H'->Q (.ref q) H'
structure TDb(mg:Str->Option Value)(ft:Addr):Prop where
 n_len:mg "len"=none
 n_tuple:mg "tuple"=none
 m0z:mg "_law_take"=some (.ref ft)
theorem SB.put{H H':Hp}{b D:Addr}{xs ys:List V}(h:SB H b H')(e:H' D=some (.lst xs))(h0:H D=none)(n:D≠b):SB H b (upd H' D (.lst ys)):=by
 obtain⟨kp,o,hb,ho⟩:=h
 exact⟨kp.set e (.inr h0),o,by rw[jd n.symm];exact hb,ho⟩
theorem RowsM.app{H:Hp}{us us':List V}{mv mv':List (List Nat)}(h:RowsM H us mv)(h':RowsM H us' mv'):RowsM H (us++us') (mv++mv'):=by
 unfold RowsM at h⊢
 induction h with
 |nil=>exact h'
 |cons r _ ih=>exact .cons r ih
section
variable{P:Program}{w:World}{K:PySem.W.Frag}{mg:Str->Option Value}{base:Heap}
abbrev yo:Stmt:=top 30
theorem zj:FnScope ["_law_box_here","_law_machine_here","_law_letters_here","_law_moves","_law_yes","_law_rows"] ["_law_box_here","_law_machine_here"] (jf yo):=⟨rfl,rfl,rfl,by decide +kernel,rfl,by decide +kernel,by decide +kernel⟩
theorem ok__law_doubled{f ft:Addr}{fd fdt:FuncData}(F:Fun K "_law_doubled" "_law_doubled" yo f fd)(T:TDb mg ft)
  (F0z:Fun K "_law_take" "_law_take" yd ft fdt) (b0z:Binds K fdt ["_law_box_here","_law_wide"] []) (G0z:FnOk P w K mg base CX0 1 ft fdt ["_law_box_here","_law_wide"] jdp):FnOk P w K mg base CX0 2 f fd ["_law_box_here","_law_machine_here"] spDb:=by
 refine F.ok zj (λvs H Q E h=>?_) (λcdv A outer s H vs Q E hr h=>?_)
 ·obtain⟨b,p,z,n,o,rfl,_⟩:=h
  rfl
 ·obtain⟨b,p,z,n,o,rfl,hb,ho,⟨a1,a2,us,mv,ys,M,hn⟩,n30,k⟩:=h
  have hu:=hr.units
  have hsz:sizeLine=16777216:=Ia
  have n1:=M.n1
  have m9:=M.m9
  have ul:us.length=mv.length:=Il M.rw
  have yl:=M.yl
  refine exQ (jg (jae (qpv 1) (jaj (n:=3) rfl (yu (jo (i:=2) zj.nd rfl (by first|exact Or.inl rfl|exact Or.inr rfl)) (yu (jo (i:=3) zj.nd rfl (by first|exact Or.inl rfl|exact Or.inr rfl)) (yu (jo (i:=4) zj.nd rfl (by first|exact Or.inl rfl|exact Or.inr rfl)) jad))) (K:=K) rfl))
  (jg (zf (i:=5) zj.nd rfl (by first|exact Or.inl rfl|exact Or.inr rfl) rfl (jcd (sc:=jf yo) (N:=["_law_box_here","_law_machine_here","_law_letters_here","_law_moves","_law_yes","_law_rows"]) (Nc:=["_law_row","_law_yes","_law_box_here"]) (js:=[none,some 4,some 0]) (by decide +kernel)) (j9 (K:=K) (jv ki (qpv 3) (qpv 3)) rfl) (λ_ _ _ _=>(jo (i:=0) (show List.Nodup [("_law_row":Str),("_law_yes":Str),("_law_box_here":Str)]from by decide +kernel) rfl (by first|exact Or.inl rfl|exact Or.inr rfl))) (λ_ _ _ _=>(ju jx (by rfl) T.n_tuple j6 (ja (kc rfl (jcd (sc:=jkw {kind:=.function,names:=[(".0",.local),("_law_row",.local),("tuple",.globalImplicit),("_law_box_here",.free),("_law_yes",.free)],isGenerator:=false,isCoroutine:=false} (jf yo)) (N:=["_law_row","_law_yes","_law_box_here"]) (Nc:=["_law_goal","_law_yes","_law_box_here"]) (js:=[none,some 1,some 2]) (by decide +kernel)) (j9 (K:=K) (qpv 0) rfl) (λ_ _ _ _=>(jo (i:=0) (show List.Nodup [("_law_goal":Str),("_law_yes":Str),("_law_box_here":Str)]from by decide +kernel) rfl (by first|exact Or.inl rfl|exact Or.inr rfl))) (λ_ _ _ _=>(jv ki (qpv 0) (jv zp (jw j4 (by rfl) T.n_len kj (ja (qpv 1) jc)) (jr G0z (hr.mono (by decide)) rfl T.m0z F0z.kp b0z .nil jy (ja (qpv 2) (ja jh jc))))))) jc))))
  (jj (j7 (y9 (ja (qpv 2) (ja (ju jx (by rfl) T.n_tuple j6 (ja (qpv 5) jc)) (ja (jv ki (qpv 4) (qpv 4)) jc)))))))) ?_
  simp!
  refine⟨p,_,rfl,SqT.of M.hp,rfl,⟨_,_,rfl,⟨_,_,rfl,⟨_,_,rfl,rfl,?_⟩⟩⟩⟩
  simp!
  refine rAddW.tup M.hm M.hm (by intro z;rw[z]at ul;simp at ul;omega) (by intro z;rw[z]at ul;simp at ul;omega) (by omega) λpt hpt=>?_
  dsimp only
  rw[jb]
  dsimp only
  intro D hD
  have sb0:SB H b (upd H pt (.tup (us++us))):=SB.new ⟨Kp.refl _ _,o,hb,ho⟩ hpt
  have e0:upd H pt (.tup (us++us)) pt=some (.tup (us++us)):=jb
  generalize upd H pt (.tup (us++us))=H0 at sb0 e0 hD⊢
  have nDb:=sb0.ne hD
  have RR:RowsM H0 (us++us) (mv++mv):=(M.rw.kp sb0.kp).app (M.rw.kp sb0.kp)
  refine jea (xs:=us++us) (λi σ H'=>∃(v:Option V)(xs:List V)(rows:List (List Nat)),σ=[v,some (.ref a2),some (.ref b)]/\SB H b H'/\Kp [b] H0 H'/\H' D=some (.lst xs)/\RowsM H' xs rows/\rows.length=i/\∀row∈rows,row.length=z.length/\∀t∈row,t<2*mv.length) ⟨none,[],[],rfl,sb0.new hD,(Kp.refl _ _).new hD,jb,.nil,rfl,λ_ h=>nomatch h⟩ ?_ ?_ ?_
  ·rintro i σ H' _ ⟨_,_,_,_,_,h,_⟩
   exact h.tup _ _ e0
  ·rintro i x σ H1 hx ⟨v,xs,rows,rfl,sb1,k1,e1,R1,rl,ro⟩
   have hi:i<(mv++mv).length:=by have:=(Ad.mp hx).1;simp at this⊢;omega
   have hrow:(mv++mv)[i]?=some (mv++mv)[i]:=Aa hi
   have rm:(mv++mv)[i]∈mv:=(Au.mp (A7 hi)).elim id id
   generalize(mv++mv)[i]=row at hrow rm
   obtain⟨cr,hcx,hcr⟩:=(RR.kp k1).get hrow
   obtain rfl:x=.ref cr:=by rw[hx]at hcx;exact Av hcx
   have rowl:=M.ok.ln row rm
   simp! [jc0,hcr]
   intro D2 hD2
   have nD2b:=sb1.ne hD2
   have nDD:D≠D2:=je e1 hD2
   refine jea (xs:=row.map nV) (λj σ H'=>∃(v:Option V)(gs:List Nat),σ=[v,some (.ref a2),some (.ref b)]/\SB H b H'/\Kp [b] H1 H'/\H' D2=some (.lst (gs.map nV))/\gs.length=j/\∀t∈gs,t<2*mv.length) ⟨none,[],rfl,sb1.new hD2,(Kp.refl _ _).new hD2,jb,rfl,λ_ h=>nomatch h⟩ ?_ ?_ ?_
   ·rintro j σ H' _ ⟨_,_,_,_,h,_⟩
    exact h.tup _ _ hcr
   ·rintro j x σ H2 hx2 ⟨v2,gs,rfl,sb2,k2,e2,gl,go⟩
    rw[Ag]at hx2
    obtain⟨t,ht,rfl⟩:=A3.mp hx2
    have tn:t<mv.length:=M.ok.lt row rm t (Al ht)
    have hj:j<row.length:=(Ad.mp ht).1
    have hy2:=sb2.kp.tup _ _ M.hy
    simp! [jc0,hy2,Ac,yl]
    refine sb2.tq (by omega) (by omega) λd H3 d0 d1 sb3 k3=>?_
    obtain⟨g,rfl,g2⟩:∃g:Nat,d=(g:Int)/\g<2:=⟨d.toNat,by omega,by omega⟩
    have gm:mv.length*g<=mv.length:=by
     rcases(show g=0\/g=1 by omega)with rfl|rfl <;> omega
    refine⟨.inl ⟨by omega,by omega⟩,?_⟩
    have e3:=k3.old _ _ e2 (by simpa using nD2b)
    refine(show rAddW (.int (t:Int)) (.int ((mv.length:Int)*(g:Int))) H3 _ from ?_)
    rw[jc4,e3]
    have k23:=k2.trans k3
    exact⟨_,rfl,by rw[Ac];omega,sb3.put e3 (sb1.kp.free hD2) nD2b,k23.set e3 (.inr hD2),gs++[t+mv.length*g],by
     rw[A5]
     show gs.map nV++[V.int ((t:Int)+(mv.length:Int)*(g:Int))]=gs.map nV++[V.int ((t+mv.length*g:Nat):Int)]
     rw[show((t+mv.length*g:Nat):Int)=(t:Int)+(mv.length:Int)*(g:Int)by rw[Int.natCast_add,Int.natCast_mul]],by simp[gl],λy hy=>by
     rcases Au.mp hy with hy|hy
     ·exact go y hy
     ·cases Aj.mp hy;omega⟩
   ·rintro σ H2 ⟨v2,gs,rfl,sb2,k2,e2,gl,go⟩
    rw[Ac]at gl
    have e12:=k2.old _ _ e1 (by simpa using nDb)
    simp! [jc0,e12]
    refine jcf e2 λq hq=>?_
    have kq:Kp [] H2 (upd H2 q (.tup (gs.map nV))):=(Kp.refl [] H2).new hq
    have eq:upd H2 q (.tup (gs.map nV)) q=some (.tup (gs.map nV)):=jb
    have sbq:=sb2.keep kq
    generalize upd H2 q (.tup (gs.map nV))=H3 at kq eq sbq⊢
    have e3:=kq.old _ _ e12 Af
    rw[e3]
    have kD:Kp [D] H3 (upd H3 D (.lst (xs++[.ref q]))):=(Kp.refl [D] H3).set e3 (.inl (.head _))
    have xl:xs.length<=1000:=by
     have:=Il R1
     have n9:=M.n9
     simp at hi
     omega
    refine⟨_,rfl,by omega,sbq.put e3 (sb0.kp.free hD) nDb,((k1.trans k2).trans (kq.mono (by simp))).set e3 (.inr hD),rows++[gs],(((R1.kp k2).kp kq).snoc eq).kp kD,by simp[rl],λrow' hr'=>?_⟩
    rcases Au.mp hr' with h|h
    ·exact ro row' h
    ·cases Aj.mp h;exact⟨by omega,go⟩
  ·rintro σ H1 ⟨v,xs,rows,rfl,sb1,k1,e1,R1,rl,ro⟩
   simp!
   rw[A1]at rl
   refine jcf e1 λq hq=>?_
   have kq:Kp [] H1 (upd H1 q (.tup xs)):=(Kp.refl [] H1).new hq
   have eq:upd H1 q (.tup xs) q=some (.tup xs):=jb
   generalize upd H1 q (.tup xs)=H2 at kq eq⊢
   have sb2:=sb1.keep kq
   have hy2:=sb2.kp.tup _ _ M.hy
   refine rAddW.tup hy2 hy2 (by intro z;have:=O4 List.length z;simp at this;rw[this]at yl;simp at yl;omega) (by intro z;have:=O4 List.length z;simp at this;rw[this]at yl;simp at yl;omega) (by simp;omega) λq2 hq2=>?_
   refine⟨by omega,λq3 hq3=>?_⟩
   have k3:Kp [] H2 (upd (upd H2 q2 (.tup (ys.map V.bl++ys.map V.bl))) q3 (.tup [.str z,.ref q,.ref q2])):=((Kp.refl [] H2).new hq2).new hq3
   have sb3:=sb2.keep k3
   obtain⟨o3,hb3,ho3⟩:=sb3.bx
   refine k q3 o3 _ ⟨q,q2,xs,rows,ys++ys,⟨jb,k3.tup _ _ eq,(R1.kp kq).kp k3,⟨λrow h=>(ro row h).1,λrow h x hx=>by have:=(ro row h).2 x hx;omega⟩,?_,by simp;omega,by omega,by omega,m9⟩,by omega⟩ ho3 hb3 sb3.kp
   rw[jd (je jb hq3),jb,A5]
end
def spTu:Sp:=λvs H Q _=>∃(b:Addr)(z:Str)(n:Nat)(o:HO),vs=[.ref b,.str z,.int (n:Int)]/\H b=some o/\BoxO o/\Letters z 4/\2<=n/\n<=1000/\∀q o' H',DM H' q z n->BoxO o'->H' b=some o'->Kp [b] H H'->Q (.ref q) H'
structure TTu(mg:Str->Option Value)(ft:Addr):Prop where
 n_len:mg "len"=none
 n_range:mg "range"=none
 n_tuple:mg "tuple"=none
 m0z:mg "_law_take"=some (.ref ft)
theorem jl6{n x:Nat}(hx:x<n):ixN n (x:Int)=some x:=by
 unfold ixN
 rw[Ao (by omega),Ao (by omega)]
 congr 1
theorem jr5(l:List Nat)(i x:Nat):(l.map nV).set i (nV x)=(l.set i x).map nV:=by rw[List.map_set]
theorem jr4(l:List Bool)(i:Nat)(x:Bool):(l.map V.bl).set i (.bl x)=(l.set i x).map V.bl:=by rw[List.map_set]
section
variable{P:Program}{w:World}{K:PySem.W.Frag}{mg:Str->Option Value}{base:Heap}
abbrev yq:Stmt:=top 31
theorem yv:FnScope ["_law_box_here","_law_letters_here","_law_most","_law_many","_law_turned","_law_moves","_law_room","_law_row","_law_yes","_law_odd"] ["_law_box_here","_law_letters_here","_law_most"] (jf yq):=⟨rfl,rfl,rfl,by decide +kernel,rfl,by decide +kernel,by decide +kernel⟩
theorem ok__law_turning{f ft:Addr}{fd fdt:FuncData}(F:Fun K "_law_turning" "_law_turning" yq f fd)(T:TTu mg ft)
  (F0z:Fun K "_law_take" "_law_take" yd ft fdt) (b0z:Binds K fdt ["_law_box_here","_law_wide"] []) (G0z:FnOk P w K mg base CX0 1 ft fdt ["_law_box_here","_law_wide"] jdp):FnOk P w K mg base CX0 2 f fd ["_law_box_here","_law_letters_here","_law_most"] spTu:=by
 refine F.ok yv (λvs H Q E h=>?_) (λcdv A outer s H vs Q E hr h=>?_)
 ·obtain⟨b,z,n,o,rfl,_⟩:=h
  rfl
 ·obtain⟨b,z,n,o,rfl,hb,ho,hz,n2,n9,k⟩:=h
  have hu:=hr.units
  have hsz:sizeLine=16777216:=Ia
  have z1:=hz.lo
  have z4:=hz.hi
  refine exQ (jg (jq (i:=3) yv.nd rfl (by first|exact Or.inl rfl|exact Or.inr rfl) (jv ki jh (jr G0z (hr.mono (by decide)) rfl T.m0z F0z.kp b0z .nil jy (ja (qpv 0) (ja (jv ja1 (qpv 2) jh) jc)))))
  (jg (jq (i:=4) yv.nd rfl (by first|exact Or.inl rfl|exact Or.inr rfl) (jr G0z (hr.mono (by decide)) rfl T.m0z F0z.kp b0z .nil jy (ja (qpv 0) (ja (jw j4 (by rfl) T.n_len kj (ja (qpv 1) jc)) jc))))
  (jg (jq (i:=5) yv.nd rfl (by first|exact Or.inl rfl|exact Or.inr rfl) (yg jc))
  (jg (ym Ic rfl (kg rfl T.n_range (ja (qpv 3) jc)) (jo (i:=6) yv.nd rfl (by first|exact Or.inl rfl|exact Or.inr rfl)) (jg (zf (i:=7) yv.nd rfl (by first|exact Or.inl rfl|exact Or.inr rfl) rfl (jcd (sc:=jf yq) (N:=["_law_box_here","_law_letters_here","_law_most","_law_many","_law_turned","_law_moves","_law_room","_law_row","_law_yes","_law_odd"]) (Nc:=["_law_letter","_law_box_here","_law_many"]) (js:=[none,some 0,some 3]) (by decide +kernel)) (j9 (K:=K) (qpv 1) rfl) (λ_ _ _ _=>(jo (i:=0) (show List.Nodup [("_law_letter":Str),("_law_box_here":Str),("_law_many":Str)]from by decide +kernel) rfl (by first|exact Or.inl rfl|exact Or.inr rfl))) (λ_ _ _ _=>(jr G0z (hr.mono (by decide)) rfl T.m0z F0z.kp b0z .nil jy (ja (qpv 1) (ja (qpv 2) jc)))))
  (jg (jae (jv zy (jv ki (qpv 6) jh) (qpv 3)) (jat (qpv 7) (qpv 4) jhe))
  (jj (yh (yf Ij Ik yj (qpv 5) (ja (ju jx (by rfl) T.n_tuple j6 (ja (qpv 7) jc)) jc) jcj))))))
  (jg (zf (i:=8) yv.nd rfl (by first|exact Or.inl rfl|exact Or.inr rfl) rfl (jcd (sc:=jf yq) (N:=["_law_box_here","_law_letters_here","_law_most","_law_many","_law_turned","_law_moves","_law_room","_law_row","_law_yes","_law_odd"]) (Nc:=["_law_room","_law_box_here"]) (js:=[none,some 0]) (by decide +kernel)) (kg rfl T.n_range (ja (qpv 3) jc)) (λ_ _ _ _=>(jo (i:=0) (show List.Nodup [("_law_room":Str),("_law_box_here":Str)]from by decide +kernel) rfl (by first|exact Or.inl rfl|exact Or.inr rfl))) (λ_ _ _ _=>(jac (zc hu) (jr G0z (hr.mono (by decide)) rfl T.m0z F0z.kp b0z .nil jy (ja (qpv 1) (ja jh jc))) jh (yb _))))
  (jg (jq (i:=9) yv.nd rfl (by first|exact Or.inl rfl|exact Or.inr rfl) (jr G0z (hr.mono (by decide)) rfl T.m0z F0z.kp b0z .nil jy (ja (qpv 0) (ja (qpv 3) jc))))
  (jg (jae (jb4 (jt ix_U (qpv 8) (jv zy (jv ki (qpv 9) jh) (qpv 3)) (λ_ _=>rfl))) (jat (qpv 8) (qpv 9) jhe))
  (jj (j7 (y9 (ja (qpv 1) (ja (ju jx (by rfl) T.n_tuple j6 (ja (qpv 5) jc)) (ja (ju jx (by rfl) T.n_tuple j6 (ja (qpv 8) jc)) jc))))))))))))) ?_
  simp!
  have sb:SB H b H:=⟨Kp.refl _ _,o,hb,ho⟩
  refine sb.tq (by omega) (by omega) λd H1 d0 d1 sb1 _=>?_
  obtain⟨N,eN,N2,Nn⟩:∃N:Nat,2+d=(N:Int)/\2<=N/\N<=n:=⟨(2+d).toNat,by omega,by omega,by omega⟩
  rw[jc4,eN]
  simp!
  refine⟨by omega,sb1.tq (by omega) (by omega) λt H2 t0 t1 sb2 _=>?_⟩
  obtain⟨tn,rfl,tz⟩:∃tn:Nat,t=(tn:Int)/\tn<z.length:=⟨t.toNat,by omega,by omega⟩
  refine⟨by omega,λpm hpm=>⟨by omega,by omega,?_⟩⟩
  rw[Int.toNat_natCast]
  have nb:=sb2.ne hpm
  refine jcm (λi σ H'=>∃(v6 v7:Option V)(us:List V)(mv:List (List Nat)),σ=[some (.ref b),some (.str z),some (.int (n:Int)),some (.int (N:Int)),some (.int (tn:Int)),some (.ref pm),v6,v7,none,none]/\SB H b H'/\H' pm=some (.lst us)/\RowsM H' us mv/\mv.length=i/\∀row∈mv,row.length=z.length/\∀t∈row,t<N) ⟨none,none,[],[],rfl,sb2.new hpm,jb,.nil,rfl,λ_ h=>nomatch h⟩ ?_ ?_
  ·rintro i σ H3 hi ⟨v6,v7,us,mv,rfl,sb3,e3,R3,ml,mo⟩
   simp!
   intro D hD
   have nDb:=sb3.ne hD
   have nDp:pm≠D:=je e3 hD
   refine jgc (λj σ H'=>∃(v:Option V)(gs:List Nat),σ=[v,some (.ref b),some (.int (N:Int))]/\SB H b H'/\Kp [b] H3 H'/\H' D=some (.lst (gs.map nV))/\gs.length=j/\∀t∈gs,t<N) ⟨none,[],rfl,sb3.new hD,(Kp.refl _ _).new hD,jb,rfl,λ_ h=>nomatch h⟩ ?_ ?_
   ·rintro j c σ H4 hc ⟨v,gs,rfl,sb4,k4,e4,gl,go⟩
    have hj:j<z.length:=by have:=(Ad.mp hc).1;simpa[Str.length]using this
    simp! [jc0]
    refine sb4.tq (by omega) (by omega) λe H5 e0 e1 sb5 k5=>?_
    obtain⟨g,rfl,gN⟩:∃g:Nat,e=(g:Int)/\g<N:=⟨e.toNat,by omega,by omega⟩
    have e5:=k5.old _ _ e4 (by simpa using nDb)
    rw[e5]
    exact⟨_,rfl,by rw[Ac];omega,sb5.put e5 (sb3.kp.free hD) nDb,(k4.trans k5).set e5 (.inr hD),gs++[g],by rw[A5];rfl,by simp[gl],λy hy=>by
     rcases Au.mp hy with hy|hy
     ·exact go y hy
     ·cases Aj.mp hy;exact gN⟩
   rintro σ H4 ⟨v,gs,rfl,sb4,k4,e4,gl,go⟩
   have gl:gs.length=z.length:=by rw[gl]
   have e34:=k4.old _ _ e3 (by simpa using nb)
   refine⟨by omega,_,by rw[e4];rfl,tn,by rw[Ac];exact jl6 (by omega),?_⟩
   have er:(V.int ((0+(i:Int)+1)%(N:Int)))=nV ((i+1)%N):=by
    unfold nV
    congr 1
    rw[Op,Int.natCast_emod];rfl
   rw[er,jr5]
   have sb5:SB H b (upd H4 D (.lst ((gs.set tn ((i+1)%N)).map nV))):=sb4.put e4 (sb3.kp.free hD) nDb
   have k5:Kp [D] H4 (upd H4 D (.lst ((gs.set tn ((i+1)%N)).map nV))):=(Kp.refl [D] H4).set e4 (.inl (.head _))
   have e5:upd H4 D (.lst ((gs.set tn ((i+1)%N)).map nV)) D=some (.lst ((gs.set tn ((i+1)%N)).map nV)):=jb
   have e35:=k5.old _ _ e34 (by simpa using nDp)
   generalize upd H4 D (.lst ((gs.set tn ((i+1)%N)).map nV))=H5 at sb5 k5 e5 e35⊢
   refine⟨by rw[e35];rfl,jcf e5 λq hq=>?_⟩
   have k6:Kp [] H5 (upd H5 q (.tup ((gs.set tn ((i+1)%N)).map nV))):=(Kp.refl [] H5).new hq
   have e6:upd H5 q (.tup ((gs.set tn ((i+1)%N)).map nV)) q=some (.tup ((gs.set tn ((i+1)%N)).map nV)):=jb
   generalize upd H5 q (.tup ((gs.set tn ((i+1)%N)).map nV))=H6 at k6 e6⊢
   have e36:=k6.old _ _ e35 Af
   have k7:Kp [pm] H6 (upd H6 pm (.lst (us++[.ref q]))):=(Kp.refl [pm] H6).set e36 (.inl (.head _))
   rw[e36]
   have ul:=Il R3
   refine⟨_,rfl,by omega,_,_,⟨rfl,rfl⟩,(sb5.keep k6).put e36 (sb2.kp.free hpm) nb,mv++[gs.set tn ((i+1)%N)],((((R3.kp k4).kp k5).kp k6).snoc e6).kp k7,by simp[ml],λrow hrow=>?_⟩
   rcases Au.mp hrow with h|h
   ·exact mo row h
   ·cases Aj.mp h
    refine⟨by rw[Uh];exact gl,λt ht=>?_⟩
    rcases Wa ht with h|h
    ·exact go t h
    ·rw[h];exact Yx _ (by omega)
  ·rintro σ H3 ⟨v6,v7,us,mv,rfl,sb3,e3,R3,ml,mo⟩
   simp!
   obtain⟨o3,hb3,ho3⟩:=sb3.bx
   refine⟨by omega,by omega,λD hD=>?_⟩
   rw[Int.toNat_natCast]
   have nDb:=sb3.ne hD
   refine jd7 (λx=>∃b:Bool,x=.bl b) hb3 ho3 hD (by omega) (λx H' o' Q' hb' ho' hq=>?_) λv xs o' hl hP ho'=>?_
   ·simp!
    refine⟨b,2,o',rfl,hb',ho',by omega,by omega,λe o5 e0 e1 ho5=>?_⟩
    simp!
    exact hq _ _ ⟨_,rfl⟩ ho5
   obtain⟨ys,rfl⟩:=jf9 hP
   rw[Ac]at hl
   obtain⟨x3,rfl⟩:=id ho3.lst
   have k4:Kp [b] H3 (upd (upd H3 b o') D (.lst (ys.map V.bl))):=((Kp.refl [b] H3).set hb3 (.inl (.head _))).new (by rw[jd nDb];exact hD)
   have b4:upd (upd H3 b o') D (.lst (ys.map V.bl)) b=some o':=by rw[jd nDb.symm,jb]
   have e4:upd (upd H3 b o') D (.lst (ys.map V.bl)) D=some (.lst (ys.map V.bl)):=jb
   dsimp only
   generalize upd (upd H3 b o') D (.lst (ys.map V.bl))=H4 at k4 b4 e4⊢
   have sb4:SB H b H4:=⟨sb3.kp.trans k4,o',b4,ho'⟩
   refine sb4.tq (by omega) (by omega) λd H5 d0 d1 sb5 k5=>?_
   obtain⟨od,rfl,oN⟩:∃g:Nat,d=(g:Int)/\g<N:=⟨d.toNat,by omega,by omega⟩
   have e5:=k5.old _ _ e4 (by simpa using nDb)
   have ep5:=(k4.trans k5).old _ _ e3 (by simpa using nb)
   have R5:=R3.kp (k4.trans k5)
   rw[jc4]
   refine⟨_,rfl,by omega,_,by rw[e5];rfl,.bl (ys.getD ((od+1)%N) false),?_,_,rfl,?_⟩
   ·have hm:(od+1)%N<N:=Yx _ (by omega)
    rw[show((od:Int)+1)%(N:Int)=(((od+1)%N:Nat):Int)by rw[Int.natCast_emod];rfl]
    exact jce (by rw[Ag,Ae,Aa (by omega)];rfl)
   rw[jem]
   refine⟨_,by rw[e5];rfl,od,by rw[Ac];exact jl6 (by omega),?_⟩
   rw[jr4]
   generalize hY:ys.set od (!ys.getD ((od+1)%N) false)=yE
   have yl:yE.length=N:=by rw[<-hY,Uh];omega
   have sb6:SB H b (upd H5 D (.lst (yE.map V.bl))):=sb5.put e5 (sb3.kp.free hD) nDb
   have k6:Kp [D] H5 (upd H5 D (.lst (yE.map V.bl))):=(Kp.refl [D] H5).set e5 (.inl (.head _))
   have e6:upd H5 D (.lst (yE.map V.bl)) D=some (.lst (yE.map V.bl)):=jb
   have nDp:pm≠D:=je e3 hD
   have ep6:=k6.old _ _ ep5 (by simpa using nDp)
   have R6:=R5.kp k6
   generalize upd H5 D (.lst (yE.map V.bl))=H6 at sb6 k6 e6 ep6 R6⊢
   refine jcf ep6 λq hq=>?_
   have k7:Kp [] H6 (upd H6 q (.tup us)):=(Kp.refl [] H6).new hq
   have e7:upd H6 q (.tup us) q=some (.tup us):=jb
   generalize upd H6 q (.tup us)=H7 at k7 e7⊢
   refine jcf (k7.old _ _ e6 Af) λq2 hq2=>⟨by omega,λq3 hq3=>?_⟩
   have k8:Kp [] H7 (upd (upd H7 q2 (.tup (yE.map V.bl))) q3 (.tup [.str z,.ref q,.ref q2])):=((Kp.refl [] H7).new hq2).new hq3
   have sb8:=(sb6.keep k7).keep k8
   obtain⟨o8,hb8,ho8⟩:=sb8.bx
   refine k q3 o8 _ ⟨q,q2,us,mv,yE,⟨jb,k8.tup _ _ e7,(R6.kp k7).kp k8,⟨λrow h=>(mo row h).1,λrow h x hx=>by have:=(mo row h).2 x hx;omega⟩,?_,by omega,by omega,by omega,by omega⟩,by omega⟩ ho8 hb8 sb8.kp
   rw[jd (je jb hq3),jb]
end
theorem DM.le{H:Hp}{p:Addr}{z:Str}{n n':Nat}(h:DM H p z n)(q:n<=n'):DM H p z n':=by
 obtain⟨a1,a2,us,mv,ys,M,l⟩:=h
 exact⟨a1,a2,us,mv,ys,M,by omega⟩
structure TAm(mg:Str->Option Value)(ft fl fm flo fdb ftu:Addr):Prop where
 m0z:mg "_law_take"=some (.ref ft)
 m2z:mg "_law_letters"=some (.ref fl)
 m13z:mg "_law_machine"=some (.ref fm)
 m12z:mg "_law_long"=some (.ref flo)
 m9z:mg "_law_doubled"=some (.ref fdb)
 m15z:mg "_law_turning"=some (.ref ftu)
section
variable{P:Program}{w:World}{K:PySem.W.Frag}{mg:Str->Option Value}{base:Heap}
abbrev yn:Stmt:=top 32
theorem yw:FnScope ["_law_box_here","_law_pick","_law_letters_here","_law_machine_here"] ["_law_box_here"] (jf yn):=⟨rfl,rfl,rfl,by decide +kernel,rfl,by decide +kernel,by decide +kernel⟩
theorem ok__law_any_machine{f ft fl fm flo fdb ftu:Addr}{fd fdt fdl fdm fdo fdd fdu:FuncData}(F:Fun K "_law_any_machine" "_law_any_machine" yn f fd)(T:TAm mg ft fl fm flo fdb ftu)
  (F0z:Fun K "_law_take" "_law_take" yd ft fdt) (b0z:Binds K fdt ["_law_box_here","_law_wide"] []) (G0z:FnOk P w K mg base CX0 1 ft fdt ["_law_box_here","_law_wide"] jdp)
  (F2z:Fun K "_law_letters" "_law_letters" yz fl fdl) (b2z:Binds K fdl ["_law_box_here","_law_most"] []) (G2z:FnOk P w K mg base CX0 2 fl fdl ["_law_box_here","_law_most"] jfj)
  (F13z:Fun K "_law_machine" "_law_machine" yp fm fdm) (b13z:Binds K fdm ["_law_box_here","_law_letters_here","_law_most"] []) (G13z:FnOk P w K mg base CX0 2 fm fdm ["_law_box_here","_law_letters_here","_law_most"] ji7)
  (F12z:Fun K "_law_long" "_law_long" zb flo fdo) (b12z:Binds K fdo ["_law_box_here"] []) (G12z:FnOk P w K mg base CX0 3 flo fdo ["_law_box_here"] spLo)
  (F9z:Fun K "_law_doubled" "_law_doubled" yo fdb fdd) (b9z:Binds K fdd ["_law_box_here","_law_machine_here"] []) (G9z:FnOk P w K mg base CX0 2 fdb fdd ["_law_box_here","_law_machine_here"] spDb)
  (F15z:Fun K "_law_turning" "_law_turning" yq ftu fdu) (b15z:Binds K fdu ["_law_box_here","_law_letters_here","_law_most"] []) (G15z:FnOk P w K mg base CX0 2 ftu fdu ["_law_box_here","_law_letters_here","_law_most"] spTu):FnOk P w K mg base CX0 4 f fd ["_law_box_here"] spLo:=by
 refine F.ok yw (λvs H Q E h=>?_) (λcdv A outer s H vs Q E hr h=>?_)
 ·obtain⟨b,o,rfl,_⟩:=h
  rfl
 ·obtain⟨b,o,rfl,hb,ho,k⟩:=h
  have hu:=hr.units
  have sb:SB H b H:=⟨Kp.refl _ _,o,hb,ho⟩
  refine exQ (jg (jq (i:=1) yw.nd rfl (by first|exact Or.inl rfl|exact Or.inr rfl) (jr G0z (hr.mono (by decide)) rfl T.m0z F0z.kp b0z .nil jy (ja (qpv 0) (ja jh jc))))
  (kn (yt (ku (zc hu) (qpv 1) jh (yb _)) (jj (j7 (jr G12z (hr.mono (by decide)) rfl T.m12z F12z.kp b12z .nil jy (ja (qpv 0) jc)))) ya)
  (jg (jq (i:=2) yw.nd rfl (by first|exact Or.inl rfl|exact Or.inr rfl) (jr G2z (hr.mono (by decide)) rfl T.m2z F2z.kp b2z .nil jy (ja (qpv 0) (ja jh jc))))
  (jg (jq (i:=3) yw.nd rfl (by first|exact Or.inl rfl|exact Or.inr rfl) (jr G13z (hr.mono (by decide)) rfl T.m13z F13z.kp b13z .nil jy (ja (qpv 0) (ja (qpv 2) (ja jh jc)))))
  (kn (yt (ku jas (qpv 1) jh (yb _)) (jj (jq (i:=3) yw.nd rfl (by first|exact Or.inl rfl|exact Or.inr rfl) (jr G15z (hr.mono (by decide)) rfl T.m15z F15z.kp b15z .nil jy (ja (qpv 0) (ja (qpv 2) (ja jh jc)))))) ya)
  (kn (yt (ku (zc hu) (jv zy (qpv 1) jh) jh (yb _)) (jj (jq (i:=3) yw.nd rfl (by first|exact Or.inl rfl|exact Or.inr rfl) (jr G9z (hr.mono (by decide)) rfl T.m9z F9z.kp b9z .nil jy (ja (qpv 0) (ja (qpv 3) jc))))) ya)
  (jj (j7 (qpv 3))))))))) ?_
  simp!
  refine sb.tq (by omega) (by omega) λd H1 d0 d1 sb1 _=>?_
  refine⟨λσ' H'=>σ'=[some (.ref b),some (.int d),none,none]/\SB H b H',?_,?_⟩
  ·simp!
   by_cases c:d=0
   ·rw[Ao (by simpa using c)]
    obtain⟨o1,hb1,ho1⟩:=sb1.bx
    exact⟨b,o1,rfl,hb1,ho1,λp z o' H' hz dm ho' hb' k'=>k p z o' H' hz dm ho' hb' (sb1.kp.trans k')⟩
   ·rw[An (by simpa using c)]
    exact sb1
  rintro _ H2 ⟨rfl,sb2⟩
  obtain⟨o2,hb2,ho2⟩:=sb2.bx
  simp!
  refine⟨b,3,o2,rfl,hb2,ho2,by omega,by omega,λz o3 H3 hz ho3 hb3 k3=>?_⟩
  have hz:=hz.up (show 3<=4 by omega)
  refine⟨b,z,4,o3,rfl,hb3,ho3,hz,by omega,by omega,λp mm o4 H4 ez okm ho4 hb4 k4 rp=>?_⟩
  obtain⟨a1,a2,rs,ma⟩:=Mach.opened rp
  have mh:=ma.mh okm (by omega)
  rw[ez]at mh
  have dm:DM H4 p z 4:=⟨a1,a2,rs,_,_,mh,by have:=okm.nh;simp[mvD];omega⟩
  have sb4:SB H b H4:=⟨(sb2.kp.trans k3).trans k4,o4,hb4,ho4⟩
  clear mh rp ma okm
  refine⟨λσ' H'=>∃p:Addr,σ'=[some (.ref b),some (.int d),some (.str z),some (.ref p)]/\DM H' p z 4/\SB H b H',?_,?_⟩
  ·simp!
   by_cases c:d<3
   ·rw[Ao (by simpa using c)]
    exact⟨b,z,4,o4,rfl,hb4,ho4,hz,by omega,by omega,λq o' H' dm' ho' hb' k'=>⟨q,rfl,dm',sb4.kp.trans k',o',hb',ho'⟩⟩
   ·rw[An (by simpa using c)]
    exact⟨dm,sb4⟩
  rintro _ H5 ⟨p5,rfl,dm5,sb5⟩
  obtain⟨o5,hb5,ho5⟩:=sb5.bx
  refine⟨λσ' H'=>∃p:Addr,σ'=[some (.ref b),some (.int d),some (.str z),some (.ref p)]/\DM H' p z 60/\SB H b H',?_,?_⟩
  ·simp!
   refine⟨by omega,?_⟩
   by_cases c:d%2=1
   ·rw[Ao (by simpa using c)]
    exact⟨b,p5,z,4,o5,rfl,hb5,ho5,dm5,by omega,λq o' H' dm' ho' hb' k'=>⟨q,rfl,dm'.le (by omega),sb5.kp.trans k',o',hb',ho'⟩⟩
   ·rw[An (by simpa using c)]
    exact⟨dm5.le (by omega),sb5⟩
  rintro _ H6 ⟨p6,rfl,dm6,sb6⟩
  obtain⟨o6,hb6,ho6⟩:=sb6.bx
  simp!
  exact k p6 z o6 _ hz dm6 ho6 hb6 sb6.kp
end
def spDd:Sp:=λvs H Q _=>∃(p pm py:Addr)(z:Str)(us:List V)(mv:List (List Nat))(m:Nat)(ys:List Bool)(u:List Nat),vs=[.ref p,.str (tz z u)]/\MH H p z pm py us mv m ys/\z.length=m/\z.cps.toList.Nodup/\(∀a∈u,a<m)/\u.length<=1000/\∀(q:Addr)(H':Hp),H' q=some (.tup ((DdT mv m ys u).map nV))->Kp [] H H'->Q (.ref q) H'
def spWh:Sp:=λvs H Q _=>∃i:Int,vs=[.int i]/\Q (.bl true) H
def spId:Sp:=λvs H Q _=>∃(p q:Addr)(l:List Nat),vs=[.ref p,.ref q]/\H p=some (.tup (l.map nV))/\H q=some (.tup (l.map nV))/\l.length<=1000/\∀H',Kp [] H H'->Q (.bl true) H'
structure TDd(mg:Str->Option Value)(fld:Addr):Prop where
 n_len:mg "len"=none
 n_range:mg "range"=none
 n_tuple:mg "tuple"=none
 m11z:mg "_law_led"=some (.ref fld)
structure TWh(K:PySem.W.Frag)(mg:Str->Option Value):Prop where
 n_isinstance:mg "isinstance"=none
 n_int:mg "int"=none
 n_bool:mg "bool"=none
 ii:PySem.W.kitOne K (.type "int") (.type "int")=some true
 ib:PySem.W.kitOne K (.type "int") (.type "bool")=some false
structure TId(K:PySem.W.Frag)(mg:Str->Option Value)(fw:Addr):Prop where
 n_isinstance:mg "isinstance"=none
 n_tuple:mg "tuple"=none
 n_all:mg "all"=none
 m16z:mg "_law_whole"=some (.ref fw)
 tt:PySem.W.kitOne K (.type "tuple") (.type "tuple")=some true
def nD(n:Nat):PyData:=.int (n:Int)
theorem jkc:∀l:List Nat,PyData.canLayAll0 (l.map nD)=true
 |[]=>rfl
 |x::l=>by simp[PyData.canLayAll0,PyData.canLay0,jkc l,nD]
theorem jlv:∀l:List Nat,PyData.depthAll (l.map nD)<=8
 |[]=>by simp[PyData.depthAll]
 |x::l=>by
  have:=jlv l
  simp only[Ay,PyData.depthAll,PyData.depth,nD]
  omega
theorem jq6(l:List Nat):PyData.canLay0 (.tuple (l.map nD))=true:=by simp[PyData.canLay0,jkc l]
theorem jg5(l:List Nat):SeqAt.shaped (.tuple (l.map nD))=true:=by
 have h:=jlv l
 simp[SeqAt.shaped,PyData.canLay0,jkc l,PyData.depth]
 omega
theorem Reps.nats(H:Hp):∀l:List Nat,Reps H (l.map nV) (l.map nD)
 |[]=>by simp[Reps]
 |x::r=>by simp[Reps,Rep,Reps.nats H r,nV,nD]
theorem jn2{H:Hp}{a b:Addr}{l:List Nat}{Q:VK}(ha:H a=some (.tup (l.map nV)))(hb:H b=some (.tup (l.map nV)))(q:Q (.bl true) H):rEqU (.ref a) (.ref b) H Q:=by
 rw[jgi]
 refine⟨.tuple (l.map nD),.tuple (l.map nD),?_,?_,jg5 l,jg5 l,by rw[SeqAt.eqv_refl _ (jq6 l)];exact q⟩
 ·simp only[Rep]
  exact⟨a,_,rfl,ha,Reps.nats H l⟩
 ·simp only[Rep]
  exact⟨b,_,rfl,hb,Reps.nats H l⟩
def cV(b:Bool):V->V:=λ_=>.bl b
theorem jrl(b:Bool)(l:List V):l.map (cV b)=(List.replicate l.length b).map V.bl:=by
 induction l with
 |nil=>rfl
 |cons x l ih=>rw[Ay,ih];rfl
section
variable{P:Program}{w:World}{K:PySem.W.Frag}{mg:Str->Option Value}{base:Heap}
abbrev zd:Stmt:=top 28
theorem sc__law_deed:FnScope ["_law_machine_here","_law_text_here"] ["_law_machine_here","_law_text_here"] (jf zd):=⟨rfl,rfl,rfl,by decide +kernel,rfl,by decide +kernel,by decide +kernel⟩
abbrev zg:Stmt:=top 33
theorem sc__law_whole:FnScope ["_law_found"] ["_law_found"] (jf zg):=⟨rfl,rfl,rfl,by decide +kernel,rfl,by decide +kernel,by decide +kernel⟩
abbrev yx:Stmt:=top 34
theorem sc__law_is_deed:FnScope ["_law_found","_law_due"] ["_law_found","_law_due"] (jf yx):=⟨rfl,rfl,rfl,by decide +kernel,rfl,by decide +kernel,by decide +kernel⟩
theorem ok__law_deed{f fld:Addr}{fd fdl:FuncData}(F:Fun K "_law_deed" "_law_deed" zd f fd)(T:TDd mg fld)
  (F11z:Fun K "_law_led" "_law_led" zw fld fdl) (b11z:Binds K fdl ["_law_machine_here","_law_room","_law_text_here"] []) (G11z:FnOk P w K mg base CX0 1 fld fdl ["_law_machine_here","_law_room","_law_text_here"] jqa):FnOk P w K mg base CX0 2 f fd ["_law_machine_here","_law_text_here"] spDd:=by
 refine F.ok sc__law_deed (λvs H Q E h=>?_) (λcdv A outer s H vs Q E hr h=>?_)
 ·obtain⟨p,pm,py,z,us,mv,m,ys,u,rfl,_⟩:=h
  rfl
 ·obtain⟨p,pm,py,z,us,mv,m,ys,u,rfl,M,zm,nd,hw,ul,k⟩:=h
  have hu:=hr.units
  have hsz:sizeLine=16777216:=Ia
  have n9:=M.n9
  refine exQ (jj (j7 (ju jx (by rfl) T.n_tuple j6 (ja (kc rfl (jcd (sc:=jf zd) (N:=["_law_machine_here","_law_text_here"]) (Nc:=["_law_room","_law_machine_here","_law_text_here"]) (js:=[none,some 0,some 1]) (by decide +kernel)) (kg rfl T.n_range (ja (jw j4 (by rfl) T.n_len kj (ja (jt ix_U (qpv 0) jh (λ_ _=>rfl)) jc)) jc)) (λ_ _ _ _=>(jo (i:=0) (show List.Nodup [("_law_room":Str),("_law_machine_here":Str),("_law_text_here":Str)]from by decide +kernel) rfl (by first|exact Or.inl rfl|exact Or.inr rfl))) (λ_ _ _ _=>(jr G11z (hr.mono (by decide)) rfl T.m11z F11z.kp b11z .nil jy (ja (qpv 1) (ja (qpv 0) (ja (qpv 2) jc)))))) jc)))) ?_
  simp! [M.hp,M.hy,Ac,M.yl]
  refine⟨by omega,by omega,λD hD=>?_⟩
  rw[show((mv.length:Int)).toNat=mv.length by omega]
  refine jgs (λr=>nV ((mcOf mv m ys).led r u)) (by omega) (λr hr' l Q' q=>?_) λvv=>?_
  ·have M8:=M.kp ((Kp.refl [] H).new (o:=.lst l) hD)
   simp! [Op]
   exact⟨p,pm,py,z,us,mv,m,ys,r,u,rfl,M8,zm,nd,hr',hw,ul,q⟩
  dsimp only
  refine jcf jb λq hq=>k q _ ?_ (((Kp.refl [] H).new hD).new hq)
  rw[jb]
  unfold DdT
  rw[Ax];rfl
theorem ok__law_whole{f:Addr}{fd:FuncData}(F:Fun K "_law_whole" "_law_whole" zg f fd)(T:TWh K mg):FnOk P w K mg base CX0 1 f fd ["_law_found"] spWh:=by
 refine F.ok sc__law_whole (λvs H Q E h=>?_) (λcdv A outer s H vs Q E hr h=>?_)
 ·obtain⟨i,rfl,_⟩:=h
  rfl
 ·obtain⟨i,rfl,k⟩:=h
  have hu:=hr.units
  refine exQ (jj (j7 (jbe (jw (z8 (K:=K) rfl) (by rfl) T.n_isinstance jah (ja (qpv 0) (ja (ja6 (v:=.ty "int") rfl T.n_int jbq rfl) jc))) (jb5 (jb4 (jw (z8 (K:=K) rfl) (by rfl) T.n_isinstance jah (ja (qpv 0) (ja (ja6 (v:=.ty "bool") rfl T.n_bool bt_bool rfl) jc)))))))) ?_
  simp!
  refine⟨_,TyOf.int _,true,T.ii,?_⟩
  simp!
  exact⟨_,TyOf.int _,false,T.ib,k⟩
theorem ok__law_is_deed{f fw:Addr}{fd fdw:FuncData}(F:Fun K "_law_is_deed" "_law_is_deed" yx f fd)(T:TId K mg fw)
  (F16z:Fun K "_law_whole" "_law_whole" zg fw fdw) (b16z:Binds K fdw ["_law_found"] []) (G16z:FnOk P w K mg base CX0 1 fw fdw ["_law_found"] spWh):FnOk P w K mg base CX0 2 f fd ["_law_found","_law_due"] spId:=by
 refine F.ok sc__law_is_deed (λvs H Q E h=>?_) (λcdv A outer s H vs Q E hr h=>?_)
 ·obtain⟨p,q,l,rfl,_⟩:=h
  rfl
 ·obtain⟨p,q,l,rfl,hp,hq,ll,k⟩:=h
  have hu:=hr.units
  have hsz:sizeLine=16777216:=Ia
  refine exQ (jj (j7 (jbe (jw (z8 (K:=K) rfl) (by rfl) T.n_isinstance jah (ja (qpv 0) (ja (ja6 (v:=.ty "tuple") rfl T.n_tuple j6 rfl) jc))) (jbe (jw (call_allU rfl) (by rfl) T.n_all bt_all (ja (kc rfl (jcd (sc:=jf yx) (N:=["_law_found","_law_due"]) (Nc:=["_law_room"]) (js:=[none]) (by decide +kernel)) (j9 (K:=K) (qpv 0) rfl) (λ_ _ _ _=>(jo (i:=0) (show List.Nodup [("_law_room":Str)]from by decide +kernel) rfl (by first|exact Or.inl rfl|exact Or.inr rfl))) (λ_ _ _ _=>(jr G16z (hr.mono (by decide)) rfl T.m16z F16z.kp b16z .nil jy (ja (qpv 0) jc)))) jc)) (jb5 (jac (zc hu) (qpv 0) (qpv 1) (yb _))))))) ?_
  simp!
  refine⟨_,TyOf.tup hp,true,T.tt,?_⟩
  simp! [hp]
  intro D hD
  refine jc5 (cV true) hp hD (by rw[Ac];omega) (λx hx l' Q' q'=>?_) λvv=>?_
  ·obtain⟨t,_,rfl⟩:=Am.mp hx
   simp!
   exact⟨_,rfl,q'⟩
  dsimp only
  rw[jrl]
  refine⟨_,jb,?_⟩
  rw[Ao (by simp)]
  have kD:=(Kp.refl [] H).new (o:=.lst ((List.replicate (l.map nV).length true).map V.bl)) hD
  exact jn2 (kD.tup _ _ hp) (kD.tup _ _ hq) (k _ kD)
end
def jhg(K:PySem.W.Frag)(Pt:Addr):Sp:=λvs H Q _=>∃(a:Addr)(ns:List Int),vs=[.ref a]/\SqL K H a (ns.map V.int)/\ns.length<=63/\a≠Pt/\TabOk H Pt LQ/\∀H',Q (.bl true) H'
theorem kpT{Pt p:Addr}{H H':Hp}{xs:List V}(k:Kp [Pt] H H')(t:TabOk H Pt LQ)(e:H p=some (.lst xs)):H' p=some (.lst xs):=by
 refine k.old _ _ e λm=>?_
 obtain⟨tps,hPt,_⟩:=id t
 rw[Aj.mp m,hPt]at e
 cases e
theorem jk8{z:Str}{R:List Nat->Prop}:∀{l:List Nat}{xs:List V},Paired (λ_ x=>∃u,x=V.str (tz z u)/\R u) l xs->∃uu:List (List Nat),xs=uu.map (λu=>V.str (tz z u))/\uu.length=l.length/\∀u∈uu,R u
 |[],[],_=>⟨[],rfl,rfl,λ_ h=>nomatch h⟩
 |_::_,_::_,.cons ⟨u,e,h⟩ t=>by
  obtain⟨uu,e2,l2,h2⟩:=jk8 t
  refine⟨u::uu,by rw[e,e2];rfl,by simp[l2],λv hv=>?_⟩
  rcases Ap.mp hv with rfl|hv
  ·exact h
  ·exact h2 v hv
theorem jh0{N:Nat}:∀{xs:List V},(∀x∈xs,∃n:Nat,x=nV n/\n<N)->∃l:List Nat,xs=l.map nV/\∀x∈l,x<N
 |[],_=>⟨[],rfl,λ_ h=>nomatch h⟩
 |x::xs,h=>by
  obtain⟨n,rfl,hn⟩:=h x (.head _)
  obtain⟨l,rfl,hl⟩:=jh0 λy hy=>h y (.tail _ hy)
  refine⟨n::l,rfl,λy hy=>?_⟩
  rcases Ap.mp hy with rfl|hy
  ·exact hn
  ·exact hl y hy
def Gv(H:Hp)(mv:List (List Nat))(m:Nat)(ys:List Bool)(uu:List (List Nat))(gs:List Addr):Prop:=∀(i:Nat)(u:List Nat)(g:Addr),uu[i]?=some u->gs[i]?=some g->H g=some (.tup ((DdT mv m ys u).map nV))
theorem Gv.kp{S:List Addr}{H H':Hp}{mv:List (List Nat)}{m:Nat}{ys:List Bool}{uu:List (List Nat)}{gs:List Addr}(k:Kp S H H')(h:Gv H mv m ys uu gs):Gv H' mv m ys uu gs:=λi u g h1 h2=>k.tup _ _ (h i u g h1 h2)
structure TLw(mg:Str->Option Value)(fb ft fa fx fls fdo fpu fdd fid:Addr):Prop where
 n_len:mg "len"=none
 n_range:mg "range"=none
 n_tuple:mg "tuple"=none
 n_zip:mg "zip"=none
 m4z:mg "_law_box"=some (.ref fb)
 m0z:mg "_law_take"=some (.ref ft)
 m8z:mg "_law_any_machine"=some (.ref fa)
 m14z:mg "_law_text"=some (.ref fx)
 m10z:mg "_law_least"=some (.ref fls)
 m7z:mg "deed_of"=some (.ref fdo)
 m_put:mg "put"=some (.ref fpu)
 m5z:mg "_law_deed"=some (.ref fdd)
 m3z:mg "_law_is_deed"=some (.ref fid)
section
variable{P:Program}{w:World}{K:PySem.W.Frag}{mg:Str->Option Value}{base:Heap}
abbrev zx:Stmt:=top 35
theorem zr:FnScope ["_law_script","_law_machine_here","_law_letters_here","_law_small","_law_texts","_law_given","_law_text_here","_law_deed_here","_law_at","_law_box_here","_law_many","_law_one","_law_other"] ["_law_script"] (jf zx):=⟨rfl,rfl,rfl,by decide +kernel,rfl,by decide +kernel,by decide +kernel⟩
theorem ok_law{f fb ft fa fx fls fdo fpu fdd fid Pt:Addr}{fd fdb fdt fdA fdx fds fde fdp fdq fdi:FuncData}(F:Fun K "law" "law" zx f fd)(T:TLw mg fb ft fa fx fls fdo fpu fdd fid)
  (F4z:Fun K "_law_box" "_law_box" zv fb fdb) (b4z:Binds K fdb ["_law_script","_law_k"] []) (G4z:FnOk P w K mg base CX0 1 fb fdb ["_law_script","_law_k"] (jp8 K))
  (F0z:Fun K "_law_take" "_law_take" yd ft fdt) (b0z:Binds K fdt ["_law_box_here","_law_wide"] []) (G0z:FnOk P w K mg base CX0 1 ft fdt ["_law_box_here","_law_wide"] jdp)
  (F8z:Fun K "_law_any_machine" "_law_any_machine" yn fa fdA) (b8z:Binds K fdA ["_law_box_here"] []) (G8z:FnOk P w K mg base CX0 4 fa fdA ["_law_box_here"] spLo)
  (F14z:Fun K "_law_text" "_law_text" ze fx fdx) (b14z:Binds K fdx ["_law_box_here","_law_letters_here","_law_most"] []) (G14z:FnOk P w K mg base CX0 2 fx fdx ["_law_box_here","_law_letters_here","_law_most"] jow)
  (F10z:Fun K "_law_least" "_law_least" kx fls fds) (b10z:Binds K fds ["_law_machine_here"] []) (G10z:FnOk P w K mg base CX0 2 fls fds ["_law_machine_here"] jqb)
  (F7z:Fun K "deed_of" "deed_of" zu fdo fde) (b7z:Binds K fde ["machine","text"] []) (G7z:FnOk P w K mg base CX0 7 fdo fde ["machine","text"] (spDo Pt))
  (F_put:Fun K "put" "put" jaq fpu fdp) (b_put:Binds K fdp ["one","other"] []) (G_put:FnOk P w K mg base CX0 1 fpu fdp ["one","other"] spPu)
  (F5z:Fun K "_law_deed" "_law_deed" zd fdd fdq) (b5z:Binds K fdq ["_law_machine_here","_law_text_here"] []) (G5z:FnOk P w K mg base CX0 2 fdd fdq ["_law_machine_here","_law_text_here"] spDd)
  (F3z:Fun K "_law_is_deed" "_law_is_deed" yx fid fdi) (b3z:Binds K fdi ["_law_found","_law_due"] []) (G3z:FnOk P w K mg base CX0 2 fid fdi ["_law_found","_law_due"] spId):FnOk P w K mg base CX0 9 f fd ["_law_script"] (jhg K Pt):=by
 refine F.ok zr (λvs H Q E h=>?_) (λcdv A outer s H vs Q E hr h=>?_)
 ·obtain⟨a,ns,rfl,_⟩:=h
  rfl
 ·obtain⟨a,ns,rfl,hS,hn,naP,tb,kQ⟩:=h
  have hu:=hr.units
  have hsz:sizeLine=16777216:=Ia
  refine exQ (jg (jq (i:=1) zr.nd rfl (by first|exact Or.inl rfl|exact Or.inr rfl) (jr G8z (hr.mono (by decide)) rfl T.m8z F8z.kp b8z .nil jy (ja (jr G4z (hr.mono (by decide)) rfl T.m4z F4z.kp b4z .nil jy (ja (qpv 0) (ja jh jc))) jc)))
  (jg (jq (i:=2) zr.nd rfl (by first|exact Or.inl rfl|exact Or.inr rfl) (jt ix_U (qpv 1) jh (λ_ _=>rfl)))
  (jg (jq (i:=3) zr.nd rfl (by first|exact Or.inl rfl|exact Or.inr rfl) (jr G10z (hr.mono (by decide)) rfl T.m10z F10z.kp b10z .nil jy (ja (qpv 1) jc)))
  (kn (zf (i:=4) zr.nd rfl (by first|exact Or.inl rfl|exact Or.inr rfl) rfl (jcd (sc:=jf zx) (N:=["_law_script","_law_machine_here","_law_letters_here","_law_small","_law_texts","_law_given","_law_text_here","_law_deed_here","_law_at","_law_box_here","_law_many","_law_one","_law_other"]) (Nc:=["_law_k","_law_letters_here","_law_script"]) (js:=[none,some 2,some 0]) (by decide +kernel)) (kg rfl T.n_range (ja (jv ki jh (jw j4 (by rfl) T.n_len kj (ja (qpe_slice (sl_UK (K:=K) rfl) (qpv 0) (jbv jh) (jbv jh)) jc))) jc)) (λ_ _ _ _=>(jo (i:=0) (show List.Nodup [("_law_k":Str),("_law_letters_here":Str),("_law_script":Str)]from by decide +kernel) rfl (by first|exact Or.inl rfl|exact Or.inr rfl))) (λ_ _ _ _=>(jr G14z (hr.mono (by decide)) rfl T.m14z F14z.kp b14z .nil jy (ja (jr G4z (hr.mono (by decide)) rfl T.m4z F4z.kp b4z .nil jy (ja (qpv 2) (ja (jv ki jh (qpv 0)) jc))) (ja (qpv 1) (ja jh jc))))))
  (kn (zf (i:=5) zr.nd rfl (by first|exact Or.inl rfl|exact Or.inr rfl) rfl (jcd (sc:=jf zx) (N:=["_law_script","_law_machine_here","_law_letters_here","_law_small","_law_texts","_law_given","_law_text_here","_law_deed_here","_law_at","_law_box_here","_law_many","_law_one","_law_other"]) (Nc:=["_law_text_here","_law_machine_here"]) (js:=[none,some 1]) (by decide +kernel)) (j9 (K:=K) (qpv 4) rfl) (λ_ _ _ _=>(jo (i:=0) (show List.Nodup [("_law_text_here":Str),("_law_machine_here":Str)]from by decide +kernel) rfl (by first|exact Or.inl rfl|exact Or.inr rfl))) (λ_ _ _ _=>(jr G7z (hr.mono (by decide)) rfl T.m7z F7z.kp b7z .nil jy (ja (qpv 1) (ja (qpv 0) jc)))))
  (kn (ym Ic rfl (qpi_zipL rfl T.n_zip (ja (qpv 4) (ja (qpv 5) jc))) (jaj (n:=2) rfl (yu (jo (i:=6) zr.nd rfl (by first|exact Or.inl rfl|exact Or.inr rfl)) (yu (jo (i:=7) zr.nd rfl (by first|exact Or.inl rfl|exact Or.inr rfl)) jad)) (K:=K) rfl) (jj (yt (ja3 (jak (jr G3z (hr.mono (by decide)) rfl T.m3z F3z.kp b3z .nil jy (ja (qpv 7) (ja (jr G5z (hr.mono (by decide)) rfl T.m5z F5z.kp b5z .nil jy (ja (qpv 3) (ja (qpv 6) jc))) jc))))) (jj (j7 jaa)) ya)))
  (kn (ym Ic rfl (kg rfl T.n_range (ja (jv ja1 (jw j4 (by rfl) T.n_len kj (ja (qpv 4) jc)) jh) jc)) (jo (i:=8) zr.nd rfl (by first|exact Or.inl rfl|exact Or.inr rfl)) (jj (yt (ja3 (jak (jr G3z (hr.mono (by decide)) rfl T.m3z F3z.kp b3z .nil jy (ja (jr G_put (hr.mono (by decide)) rfl T.m_put F_put.kp b_put .nil jy (ja (jt ix_U (qpv 5) (qpv 8) (λ_ _=>rfl)) (ja (jt ix_U (qpv 5) (jv ki (qpv 8) jh) (λ_ _=>rfl)) jc))) (ja (jr G5z (hr.mono (by decide)) rfl T.m5z F5z.kp b5z .nil jy (ja (qpv 3) (ja (jv ki (jt ix_U (qpv 4) (qpv 8) (λ_ _=>rfl)) (jt ix_U (qpv 4) (jv ki (qpv 8) jh) (λ_ _=>rfl))) jc))) jc))))) (jj (j7 jaa)) ya)))
  (jg (jq (i:=9) zr.nd rfl (by first|exact Or.inl rfl|exact Or.inr rfl) (jr G4z (hr.mono (by decide)) rfl T.m4z F4z.kp b4z .nil jy (ja (qpv 0) (ja jh jc))))
  (jg (jq (i:=10) zr.nd rfl (by first|exact Or.inl rfl|exact Or.inr rfl) (jv ki jh (jr G0z (hr.mono (by decide)) rfl T.m0z F0z.kp b0z .nil jy (ja (qpv 9) (ja jh jc)))))
  (jg (jq (i:=11) zr.nd rfl (by first|exact Or.inl rfl|exact Or.inr rfl) (ju jx (by rfl) T.n_tuple j6 (ja (kc rfl (jcd (sc:=jf zx) (N:=["_law_script","_law_machine_here","_law_letters_here","_law_small","_law_texts","_law_given","_law_text_here","_law_deed_here","_law_at","_law_box_here","_law_many","_law_one","_law_other"]) (Nc:=["_law_room","_law_box_here","_law_many"]) (js:=[none,some 9,some 10]) (by decide +kernel)) (kg rfl T.n_range (ja (qpv 10) jc)) (λ_ _ _ _=>(jo (i:=0) (show List.Nodup [("_law_room":Str),("_law_box_here":Str),("_law_many":Str)]from by decide +kernel) rfl (by first|exact Or.inl rfl|exact Or.inr rfl))) (λ_ _ _ _=>(jr G0z (hr.mono (by decide)) rfl T.m0z F0z.kp b0z .nil jy (ja (qpv 1) (ja (qpv 2) jc))))) jc)))
  (kn (jq (i:=12) zr.nd rfl (by first|exact Or.inl rfl|exact Or.inr rfl) (ju jx (by rfl) T.n_tuple j6 (ja (kc rfl (jcd (sc:=jf zx) (N:=["_law_script","_law_machine_here","_law_letters_here","_law_small","_law_texts","_law_given","_law_text_here","_law_deed_here","_law_at","_law_box_here","_law_many","_law_one","_law_other"]) (Nc:=["_law_room","_law_box_here","_law_many"]) (js:=[none,some 9,some 10]) (by decide +kernel)) (kg rfl T.n_range (ja (qpv 10) jc)) (λ_ _ _ _=>(jo (i:=0) (show List.Nodup [("_law_room":Str),("_law_box_here":Str),("_law_many":Str)]from by decide +kernel) rfl (by first|exact Or.inl rfl|exact Or.inr rfl))) (λ_ _ _ _=>(jr G0z (hr.mono (by decide)) rfl T.m0z F0z.kp b0z .nil jy (ja (qpv 1) (ja (qpv 2) jc))))) jc)))
  (kn (yt (ja3 (jak (jr G3z (hr.mono (by decide)) rfl T.m3z F3z.kp b3z .nil jy (ja (jr G_put (hr.mono (by decide)) rfl T.m_put F_put.kp b_put .nil jy (ja (qpv 11) (ja (qpv 12) jc))) (ja (ju jx (by rfl) T.n_tuple j6 (ja (kc rfl (jcd (sc:=jf zx) (N:=["_law_script","_law_machine_here","_law_letters_here","_law_small","_law_texts","_law_given","_law_text_here","_law_deed_here","_law_at","_law_box_here","_law_many","_law_one","_law_other"]) (Nc:=["_law_room","_law_other"]) (js:=[none,some 12]) (by decide +kernel)) (j9 (K:=K) (qpv 11) rfl) (λ_ _ _ _=>(jo (i:=0) (show List.Nodup [("_law_room":Str),("_law_other":Str)]from by decide +kernel) rfl (by first|exact Or.inl rfl|exact Or.inr rfl))) (λ_ _ _ _=>(jt ix_U (qpv 1) (qpv 0) (λ_ _=>rfl)))) jc)) jc))))) (jj (j7 jaa)) ya)
  (kn (yt (ja3 (jak (jr G3z (hr.mono (by decide)) rfl T.m3z F3z.kp b3z .nil jy (ja (jr G_put (hr.mono (by decide)) rfl T.m_put F_put.kp b_put .nil jy (ja (qpv 12) (ja (qpv 11) jc))) (ja (ju jx (by rfl) T.n_tuple j6 (ja (kc rfl (jcd (sc:=jf zx) (N:=["_law_script","_law_machine_here","_law_letters_here","_law_small","_law_texts","_law_given","_law_text_here","_law_deed_here","_law_at","_law_box_here","_law_many","_law_one","_law_other"]) (Nc:=["_law_room","_law_one"]) (js:=[none,some 11]) (by decide +kernel)) (j9 (K:=K) (qpv 12) rfl) (λ_ _ _ _=>(jo (i:=0) (show List.Nodup [("_law_room":Str),("_law_one":Str)]from by decide +kernel) rfl (by first|exact Or.inl rfl|exact Or.inr rfl))) (λ_ _ _ _=>(jt ix_U (qpv 1) (qpv 0) (λ_ _=>rfl)))) jc)) jc))))) (jj (j7 jaa)) ya)
  (jj (j7 (jac (zc hu) (jr G7z (hr.mono (by decide)) rfl T.m7z F7z.kp b7z .nil jy (ja (qpv 1) (ja (jt ix_U (qpv 4) jh (λ_ _=>rfl)) jc))) (jt ix_U (qpv 5) jh (λ_ _=>rfl)) (yb _))))))))))))))))) ?_
  simp!
  refine⟨a,0,ns,rfl,hS,by omega,by omega,λb0 o0 hb0 ho0=>?_⟩
  refine⟨b0,o0,rfl,jb,ho0,λp z o1 H1 hz dm ho1 hb1 k01=>?_⟩
  have k1:Kp [] H H1:=((Kp.refl [] H).new hb0).trans' k01 (λx hx=>.inr (by cases Aj.mp hx;exact hb0))
  obtain⟨a1,a2,us,mv,ys,M1,n60⟩:=dm
  have z1:=hz.lo
  have z4:=hz.hi
  clear k01
  dsimp only
  rw[jch,M1.hp]
  refine⟨_,rfl,.str z,jei _ _,?_⟩
  refine⟨p,a1,a2,z,us,mv,_,ys,rfl,M1,by omega,by omega,λps c1 c2 us' mvS ysS H2 l e0 e1 R e2 k2=>?_⟩
  have tS:Tl mvS z.length ysS (La mv z.length ys 0):=⟨_,l,λ_ _=>rfl⟩
  have lS:mvS.length<=mv.length:=l.h.elim λ_ l=>l.le
  have n9:=M1.n9
  have MS:MH H2 ps z c1 c2 us' mvS z.length ysS:=⟨e0,e1,R,tS.ok,e2,tS.yl,tS.n1,by omega,M1.m9⟩
  have M2:=M1.kp k2
  have k02:=k1.trans k2
  have tb2:=tb.kp k02 (by simp) (by simp)
  clear l e0 e1 R e2 M1
  refine⟨λσ' H'=>∃(pt:Addr)(uu:List (List Nat)),σ'=[some (.ref a),some (.ref p),some (.str z),some (.ref ps),some (.ref pt),none,none,none,none,none,none,none,none]/\H' pt=some (.lst (uu.map λu=>.str (tz z u)))/\(∀u∈uu,(∀a∈u,a<z.length)/\u.length<=12)/\2<=uu.length/\uu.length<=70/\Kp [] H2 H',?_,?_⟩
  ·simp!
   refine rSlU.sq (k02.seq (by simp) hS) λsl hsl=>?_
   have ks:Kp [] H2 (upd H2 sl (.lst (cutV (ns.map V.int) (some 2) (some 16)))):=(Kp.refl [] H2).new hsl
   rw[jfg,jb]
   refine⟨_,rfl,?_⟩
   rw[jc4]
   have cl:(cutV (ns.map V.int) (some 2) (some 16)).length<=ns.length:=by have:=jep (ns.map V.int) (some 2) (some 16);rw[Ac]at this;exact this
   generalize upd H2 sl (.lst (cutV (ns.map V.int) (some 2) (some 16)))=Hs at ks⊢
   generalize(cutV (ns.map V.int) (some 2) (some 16)).length=q at cl
   refine⟨_,rfl,by omega,by omega,λD hD=>?_⟩
   rw[show(2+(q:Int)).toNat=q+2 by omega]
   refine jdz (λ_ v _=>∃u,v=V.str (tz z u)/\((∀a∈u,a<z.length)/\u.length<=12)) (λ_ _ _ _ _ _ h=>h) hD (by omega) (λi H4 Q' hi k4 hq=>?_) λvv xs H4 k4 e4 pr=>?_
   ·simp! [Op]
    refine⟨a,_,ns,rfl,((k02.trans ks).trans k4).seq (by simp) hS,by omega,by omega,λb o hb ho=>?_⟩
    refine⟨b,z,12,o,rfl,jb,ho,by omega,by omega,by omega,λu o6 H6 ul uin ho6 hb6 k6=>?_⟩
    obtain⟨u,rfl,uw,ulen⟩:=jsq uin
    rw[jfl]at ul
    exact hq _ _ (((Kp.refl [] H4).new hb).trans' k6 (λx hx=>.inr (by cases Aj.mp hx;exact hb))) ⟨u,rfl,uw,ul⟩
   obtain⟨uu,rfl,ul,uok⟩:=jk8 pr
   rw[Az]at ul
   exact⟨uu,e4,uok,by omega,by omega,ks.trans k4⟩
  rintro _ H3 ⟨pt,uu,rfl,e3,uok,u2,u20,k3⟩
  have M3:=M2.kp k3
  have MS3:=MS.kp k3
  have tb3:=tb2.kp k3 (by simp) (by simp)
  have k03:=k02.trans k3
  refine⟨λσ' H'=>∃(pg:Addr)(gs:List Addr),σ'=[some (.ref a),some (.ref p),some (.str z),some (.ref ps),some (.ref pt),some (.ref pg),none,none,none,none,none,none,none]/\H' pg=some (.lst (gs.map V.ref))/\gs.length=uu.length/\Gv H' mvS z.length ysS uu gs/\Kp [Pt] H3 H'/\TabOk H' Pt LQ,?_,?_⟩
  ·simp! [e3]
   intro D hD
   have nDP:D≠Pt:=λz=>by
    obtain⟨tps,hPt,_⟩:=id tb3
    rw[z,hPt]at hD;cases hD
   have nPD:pt≠D:=je e3 hD
   refine jc9 (xs:=uu.map λu=>V.str (tz z u)) (λi σ' H'=>∃(v:Option V)(gs:List Addr),σ'=[v,some (.ref p)]/\H' D=some (.lst (gs.map V.ref))/\gs.length=i/\Gv H' mvS z.length ysS uu gs/\Kp [Pt] H3 H'/\TabOk H' Pt LQ) ⟨none,[],rfl,jb,rfl,λ_ _ _ _ h=>by simp at h,(Kp.refl _ _).new hD,tb3.kp ((Kp.refl [] H3).new hD) (by simp) (by simp)⟩ ?_ ?_ ?_
   ·rintro i σ H' _ ⟨_,_,_,_,_,_,h,_⟩
    exact kpT h tb3 e3
   ·rintro i x σ H4 hx ⟨v,gs,rfl,e4,gl,G4,k4,tb4⟩
    rw[Ag]at hx
    obtain⟨u,hu',rfl⟩:=A3.mp hx
    obtain⟨uw,ul⟩:=uok u (Al hu')
    have hi:i<uu.length:=(Ad.mp hu').1
    simp! [jc0]
    refine⟨p,a1,a2,z,us,mv,_,ys,u,rfl,M3.kp k4,rfl,hz.nd,uw,by omega,tb4,λg mv1 ys1 H5 t1 l1 eg k5 tb5=>?_⟩
    obtain⟨rfl,rfl⟩:=t1.one tS λ_ _=>rfl
    have e5:=kpT k5 tb4 e4
    rw[e5]
    have kP:Kp [D] H5 (upd H5 D (.lst ((gs++[g]).map V.ref))):=(Kp.refl [D] H5).set e5 (.inl (.head _))
    have em:gs.map V.ref++[V.ref g]=(gs++[g]).map V.ref:=by rw[A5];rfl
    refine⟨_,rfl,by rw[Ac];omega,gs++[g],em,by simp[gl],λj u' g' hu2 hg2=>?_,?_,?_⟩
    ·rw[em]
     refine kP.tup _ _ ?_
     by_cases c:j<gs.length
     ·rw[Ig c]at hg2
      exact k5.tup _ _ (G4 j u' g' hu2 hg2)
     ·rw[Ir (by omega)]at hg2
      have:j=gs.length:=by have:=(Ad.mp hg2).1;simp at this;omega
      subst this
      simp at hg2
      subst hg2
      rw[gl,hu']at hu2
      cases hu2
      exact eg
    ·exact(k4.trans k5).set e5 (.inr hD)
    ·exact tb5.kp (Kp.set (S:=[D]) (Kp.refl _ _) e5 (.inl (by simp))) (by simpa using nDP.symm) (λc o hc=>by simp;intro z;rw[z,e5]at hc;cases hc)
   ·rintro σ H4 ⟨v,gs,rfl,e4,gl,G4,k4,tb4⟩
    rw[Ac]at gl
    simp!
    exact⟨gs,e4,gl,G4,k4,tb4⟩
  rintro _ H4 ⟨pg,gs,rfl,e4,gl,G4,k4,tb4⟩
  have e34:=kpT k4 tb3 e3
  have MS4:=MS3.kp k4
  have M4:=M3.kp k4
  have mS9:=MS4.n9
  have dl:∀u,(DdT mvS z.length ysS u).length=mvS.length:=λu=>by simp[DdT]
  refine⟨λσ' H'=>∃(v6 v7:Option V),σ'=[some (.ref a),some (.ref p),some (.str z),some (.ref ps),some (.ref pt),some (.ref pg),v6,v7,none,none,none,none,none]/\Kp [] H4 H',?_,?_⟩
  ·simp!
   unfold jp1
   simp!
   refine⟨pt,pg,⟨rfl,rfl⟩,_,e34,_,e4,?_⟩
   refine jq5 (xs:=uu.map λu=>V.str (tz z u)) (ys:=gs.map V.ref) (λi σ' H'=>∃(v6 v7:Option V),σ'=[some (.ref a),some (.ref p),some (.str z),some (.ref ps),some (.ref pt),some (.ref pg),v6,v7,none,none,none,none,none]/\Kp [] H4 H') ⟨none,none,rfl,Kp.refl _ _⟩ (by simp[gl]) ?_ ?_ ?_
   ·rintro i σ H' _ ⟨_,_,_,h⟩
    exact⟨h.old _ _ e34 Af,h.old _ _ e4 Af⟩
   ·rintro i x y σ H5 Tt hx hy ⟨v6,v7,rfl,k5⟩ hTt
    rw[Ag]at hx hy
    obtain⟨u,hu',rfl⟩:=A3.mp hx
    obtain⟨g,hg',rfl⟩:=A3.mp hy
    obtain⟨uw,ul⟩:=uok u (Al hu')
    refine⟨Tt,_,rfl,SqT.of jb,rfl,⟨_,_,rfl,⟨_,_,rfl,rfl,?_⟩⟩⟩
    have kT:Kp [] H5 (upd H5 Tt (.tup [.str (tz z u),.ref g])):=(Kp.refl [] H5).new hTt
    generalize upd H5 Tt (.tup [.str (tz z u),.ref g])=H6 at kT
    have k6:=k5.trans kT
    simp!
    refine⟨ps,c1,c2,z,us',mvS,_,ysS,u,rfl,MS4.kp k6,rfl,hz.nd,uw,by omega,λq H7 eq k7=>?_⟩
    refine⟨g,q,_,rfl,k7.tup _ _ (k6.tup _ _ (G4 i u g hu' hg')),eq,by rw[dl];omega,λH8 k8=>⟨true,rfl,?_⟩⟩
    rw[An (by simp)]
    exact⟨_,_,⟨rfl,rfl⟩,(k6.trans k7).trans k8⟩
   ·rintro σ H5 ⟨v6,v7,rfl,k5⟩
    exact⟨v6,v7,rfl,k5⟩
  rintro _ H5 ⟨v6,v7,rfl,k5⟩
  have et5:=k5.old _ _ e34 Af
  have eg5:=k5.old _ _ e4 Af
  refine⟨λσ' H'=>∃(v8:Option V),σ'=[some (.ref a),some (.ref p),some (.str z),some (.ref ps),some (.ref pt),some (.ref pg),v6,v7,v8,none,none,none,none]/\Kp [] H4 H',?_,?_⟩
  ·simp! [et5,Ac]
   refine⟨by omega,by omega,?_⟩
   rw[show((uu.length:Int)-1).toNat=uu.length-1 by omega]
   refine jcm (λi σ' H'=>∃(v8:Option V),σ'=[some (.ref a),some (.ref p),some (.str z),some (.ref ps),some (.ref pt),some (.ref pg),v6,v7,v8,none,none,none,none]/\Kp [] H4 H') ⟨none,rfl,k5⟩ ?_ ?_
   ·rintro i σ H6 hi ⟨v8,rfl,k6⟩
    have et6:=k6.old _ _ e34 Af
    have eg6:=k6.old _ _ e4 Af
    have G6:=G4.kp k6
    have ui:uu[i]?=some uu[i]:=Aa (by omega)
    have uj:uu[i+1]?=some uu[i+1]:=Aa (by omega)
    have gi:gs[i]?=some gs[i]:=Aa (by omega)
    have gj:gs[i+1]?=some gs[i+1]:=Aa (by omega)
    generalize uu[i]=u at ui
    generalize uu[i+1]=v at uj
    generalize gs[i]=g at gi
    generalize gs[i+1]=g' at gj
    obtain⟨uw,ul⟩:=uok u (Al ui)
    obtain⟨vw,vl⟩:=uok v (Al uj)
    simp! [eg6,Op]
    refine⟨.ref g,jce (by rw[Ag,gi];rfl),.ref g',by rw[show(i:Int)+1=((i+1:Nat):Int)by omega];exact jce (by rw[Ag,gj];rfl),?_⟩
    refine⟨g,g',_,_,rfl,G6 i u g ui gi,G6 (i+1) v g' uj gj,λx hx=>by rw[dl];exact DdT.lt tS.ok uw x hx,by rw[dl];omega,λq H7 eq k7=>?_⟩
    have et7:=k7.old _ _ et6 Af
    dsimp only
    rw[et7]
    refine⟨_,rfl,.str (tz z u),jce (by rw[Ag,ui];rfl),_,rfl,.str (tz z v),by rw[show(i:Int)+1=((i+1:Nat):Int)by omega];exact jce (by rw[Ag,uj];rfl),?_⟩
    refine⟨by rw[jfl,jfl];omega,?_⟩
    rw[jr9]
    refine⟨ps,c1,c2,z,us',mvS,_,ysS,u++v,rfl,MS4.kp (k6.trans k7),rfl,hz.nd,λa ha=>(Au.mp ha).elim (uw a) (vw a),by rw[A1];omega,λq2 H8 eq2 k8=>?_⟩
    rw[DdT.put tS.ok uw]at eq
    refine⟨q,q2,_,rfl,k8.tup _ _ eq,eq2,by rw[dl];omega,λH9 k9=>⟨true,rfl,?_⟩⟩
    rw[An (by simp)]
    exact((k6.trans k7).trans k8).trans k9
   ·rintro σ H6 ⟨v8,rfl,k6⟩
    exact⟨v8,rfl,k6⟩
  rintro _ H6 ⟨v8,rfl,k6⟩
  have k06:Kp [Pt] H H6:=(k03.mono (by simp)).trans (k4.trans (k6.mono (by simp)))
  simp!
  refine⟨a,1,ns,rfl,k06.seq (by simpa using naP) hS,by omega,by omega,λb o hb ho=>?_⟩
  have sb:SB (upd H6 b o) b (upd H6 b o):=⟨Kp.refl _ _,o,jb,ho⟩
  have kb:Kp [] H6 (upd H6 b o):=(Kp.refl [] H6).new hb
  generalize upd H6 b o=H7 at sb kb⊢
  refine sb.tq (by omega) (by omega) λd H8 d0 d1 sb8 _=>?_
  obtain⟨N,eN,N1,N60⟩:∃N:Nat,1+d=(N:Int)/\1<=N/\N<=60:=⟨(1+d).toNat,by omega,by omega,by omega⟩
  rw[jc4,eN]
  obtain⟨o8,hb8,ho8⟩:=sb8.bx
  refine⟨_,rfl,by omega,by omega,λD hD=>?_⟩
  rw[Int.toNat_natCast]
  refine jd7 (λx=>∃n:Nat,x=nV n/\n<N) hb8 ho8 hD (by omega) (λx H' o' Q' hb' ho' hq=>?_) λv xs o' hl hP ho'=>?_
  ·simp!
   exact⟨b,N,o',rfl,hb',ho',by omega,by omega,λe o5 e0 e1 ho5=>hq _ _ ⟨e.toNat,by unfold nV;congr 1;omega,by omega⟩ ho5⟩
  obtain⟨l,rfl,lN⟩:=jh0 hP
  rw[Ac]at hl
  obtain⟨x8,rfl⟩:=id ho8.lst
  have nbD:=je hb8 hD
  have k9:Kp [b] H8 (upd (upd H8 b o') D (.lst (l.map nV))):=((Kp.refl [b] H8).set hb8 (.inl (.head _))).new (by rw[jd nbD.symm];exact hD)
  have b9:upd (upd H8 b o') D (.lst (l.map nV)) b=some o':=by rw[jd nbD,jb]
  dsimp only
  refine jcf jb λpo hpo=>?_
  generalize upd (upd H8 b o') D (.lst (l.map nV))=H9 at k9 b9 hpo⊢
  have sb9:SB H7 b H9:=⟨sb8.kp.trans k9,o',b9,ho'⟩
  have sb10:=sb9.new (x:=.tup (l.map nV)) hpo
  have e10:upd H9 po (.tup (l.map nV)) po=some (.tup (l.map nV)):=jb
  generalize upd H9 po (.tup (l.map nV))=H10 at sb10 e10⊢
  clear k9 b9 sb9 hpo
  refine⟨λσ' H'=>∃(pq:Addr)(k:List Nat),σ'=[some (.ref a),some (.ref p),some (.str z),some (.ref ps),some (.ref pt),some (.ref pg),v6,v7,v8,some (.ref b),some (.int (N:Int)),some (.ref po),some (.ref pq)]/\H' pq=some (.tup (k.map nV))/\k.length=N/\(∀x∈k,x<N)/\SB H7 b H'/\H' po=some (.tup (l.map nV)),?_,?_⟩
  ·simp!
   obtain⟨o8,hb8,ho8⟩:=sb10.bx
   refine⟨by omega,by omega,λD hD=>?_⟩
   rw[Int.toNat_natCast]
   refine jd7 (λx=>∃n:Nat,x=nV n/\n<N) hb8 ho8 hD (by omega) (λx H' o' Q' hb' ho' hq=>?_) λv xs o' hl' hP ho'=>?_
   ·simp!
    exact⟨b,N,o',rfl,hb',ho',by omega,by omega,λe o5 e0 e1 ho5=>hq _ _ ⟨e.toNat,by unfold nV;congr 1;omega,by omega⟩ ho5⟩
   obtain⟨k,rfl,kN⟩:=jh0 hP
   rw[Ac]at hl'
   obtain⟨x8,rfl⟩:=id ho8.lst
   have nbD:=je hb8 hD
   have k9:Kp [b] H10 (upd (upd H10 b o') D (.lst (k.map nV))):=((Kp.refl [b] H10).set hb8 (.inl (.head _))).new (by rw[jd nbD.symm];exact hD)
   have b9:upd (upd H10 b o') D (.lst (k.map nV)) b=some o':=by rw[jd nbD,jb]
   dsimp only
   refine jcf jb λpq hpq=>?_
   generalize upd (upd H10 b o') D (.lst (k.map nV))=H9 at k9 b9 hpq⊢
   have sb9:SB H7 b H9:=⟨sb10.kp.trans k9,o',b9,ho'⟩
   exact⟨pq,rfl,k,jb,hl',kN,sb9.new hpq,((Kp.refl [] H9).new hpq).tup _ _ (k9.tup _ _ e10)⟩
  rintro _ H11 ⟨pq,k,rfl,eq11,kl,kN,sb11,eo11⟩
  have k411:Kp [] H4 H11:=k6.trans (kb.trans' sb11.kp (λx hx=>.inr (by cases Aj.mp hx;exact hb)))
  refine⟨λσ' H'=>σ'=[some (.ref a),some (.ref p),some (.str z),some (.ref ps),some (.ref pt),some (.ref pg),v6,v7,v8,some (.ref b),some (.int (N:Int)),some (.ref po),some (.ref pq)]/\Kp [] H11 H',?_,?_⟩
  ·simp!
   refine⟨po,pq,l,k,rfl,eo11,eq11,λx hx=>by rw[kl];exact lN x hx,by omega,λr Ha er ka=>?_⟩
   have eo':=ka.tup _ _ (eo11)
   dsimp only
   rw[eo']
   intro D hD
   refine jc5 (puV k) eo' hD (by rw[Ac];omega) (λx hx l' Q' q'=>?_) λvv=>?_
   ·obtain⟨t,ht,rfl⟩:=Am.mp hx
    have hq':=((Kp.refl [] Ha).new (o:=.lst l') hD).tup _ _ (ka.tup _ _ (eq11))
    simp! [nV,hq']
    exact⟨.int (k.getD t 0:Nat),jce (by rw[Ag,Ae,Aa (by rw[kl];exact lN t ht)];rfl),q'⟩
   dsimp only
   have ey:(l.map nV).map (puV k)=(l.map λx=>k.getD x 0).map nV:=by rw[Ax,Ax];rfl
   rw[ey]
   refine jcf jb λr2 hr2=>?_
   have kr:=((Kp.refl [] Ha).new (o:=.lst ((l.map λx=>k.getD x 0).map nV)) hD).new (o:=.tup ((l.map λx=>k.getD x 0).map nV)) hr2
   refine⟨r,r2,_,rfl,kr.tup _ _ er,jb,by rw[Ac];omega,λHb kb'=>⟨true,rfl,?_⟩⟩
   rw[An (by simp)]
   exact(ka.trans kr).trans kb'
  rintro _ H12 ⟨rfl,k12⟩
  refine⟨λσ' H'=>σ'=[some (.ref a),some (.ref p),some (.str z),some (.ref ps),some (.ref pt),some (.ref pg),v6,v7,v8,some (.ref b),some (.int (N:Int)),some (.ref po),some (.ref pq)]/\Kp [] H11 H',?_,?_⟩
  ·simp!
   refine⟨pq,po,k,l,rfl,k12.tup _ _ eq11,k12.tup _ _ eo11,λx hx=>by rw[hl];exact kN x hx,by omega,λr Ha er ka=>?_⟩
   have eo':=ka.tup _ _ (k12.tup _ _ eq11)
   dsimp only
   rw[eo']
   intro D hD
   refine jc5 (puV l) eo' hD (by rw[Ac];omega) (λx hx l' Q' q'=>?_) λvv=>?_
   ·obtain⟨t,ht,rfl⟩:=Am.mp hx
    have hq':=((Kp.refl [] Ha).new (o:=.lst l') hD).tup _ _ (ka.tup _ _ (k12.tup _ _ eo11))
    simp! [nV,hq']
    exact⟨.int (l.getD t 0:Nat),jce (by rw[Ag,Ae,Aa (by rw[hl];exact kN t ht)];rfl),q'⟩
   dsimp only
   have ey:(k.map nV).map (puV l)=(k.map λx=>l.getD x 0).map nV:=by rw[Ax,Ax];rfl
   rw[ey]
   refine jcf jb λr2 hr2=>?_
   have kr:=((Kp.refl [] Ha).new (o:=.lst ((k.map λx=>l.getD x 0).map nV)) hD).new (o:=.tup ((k.map λx=>l.getD x 0).map nV)) hr2
   refine⟨r,r2,_,rfl,kr.tup _ _ er,jb,by rw[Ac];omega,λHb kb'=>⟨true,rfl,?_⟩⟩
   rw[An (by simp)]
   exact k12.trans ((ka.trans kr).trans kb')
  rintro _ H13 ⟨rfl,k13⟩
  simp!
  have k413:=k411.trans k13
  have ui:uu[0]?=some uu[0]:=Aa (by omega)
  have gi:gs[0]?=some gs[0]:=Aa (by omega)
  generalize uu[0]=u at ui
  generalize gs[0]=g at gi
  obtain⟨uw,ul⟩:=uok u (Al ui)
  refine⟨_,by rw[k413.old _ _ e34 Af];rfl,.str (tz z u),jce (j:=0) (by rw[Ag,ui];rfl),?_⟩
  have tb13:=tb4.kp k413 (by simp) (by simp)
  refine⟨p,a1,a2,z,us,mv,_,ys,u,rfl,M4.kp k413,rfl,hz.nd,uw,by omega,tb13,λq mv1 ys1 H14 t1 l1 eq k14 tb14=>?_⟩
  obtain⟨rfl,rfl⟩:=t1.one tS λ_ _=>rfl
  refine⟨_,by rw[kpT k14 tb13 (k413.old _ _ e4 Af)];rfl,.ref g,jce (j:=0) (by rw[Ag,gi];rfl),?_⟩
  exact jn2 eq (k14.tup _ _ (k413.tup _ _ (G4 0 u g ui gi))) (kQ _)
end
theorem c_of{K:PySem.W.Frag}{hh:Heap}(X:K.In hh){b c:Addr}{fd:FuncData}{oc:Value}{od:Option Addr}{osl:Array (Option Value)}(h3:PySem.W.nsIn K mainGlobals "least_from"=some (some (.ref b)))(h4:K.lookup b=some ⟨oc,od,.func fd,osl⟩)(h5:fd.code=.ref c)(h6:PySem.W.codeHdIn K c 82=true):∃c,PySem.W.CodeHd hh c 82:=⟨c,PySem.W.codeHd_of_K X h6⟩
theorem us1{C:List Value->Prop}(h:∀v0:Value,C [v0])(us:List Value)(e:us.length=1):C us:=by
 cases us with
 |nil=>exact absurd e.symm (Iq _)
 |cons v0 us =>
  cases us with
  |nil=>exact h v0
  |cons _ _=>exact absurd (Io (e)) (Iq _)
theorem us3{C:List Value->Prop}(h:∀v0 v1 v2:Value,C [v0,v1,v2])(us:List Value)(e:us.length=3):C us:=by
 cases us with
 |nil=>exact absurd e.symm (Iq _)
 |cons v0 us =>
  cases us with
  |nil=>exact absurd (Io (e.symm)) (Iq _)
  |cons v1 us =>
   cases us with
   |nil=>exact absurd (Io (Io (e.symm))) (Iq _)
   |cons v2 us =>
    cases us with
    |nil=>exact h v0 v1 v2
    |cons _ _=>exact absurd (Io (Io (Io (e)))) (Iq _)
theorem us4{C:List Value->Prop}(h:∀v0 v1 v2 v3:Value,C [v0,v1,v2,v3])(us:List Value)(e:us.length=4):C us:=by
 cases us with
 |nil=>exact absurd e.symm (Iq _)
 |cons v0 us =>
  cases us with
  |nil=>exact absurd (Io (e.symm)) (Iq _)
  |cons v1 us =>
   cases us with
   |nil=>exact absurd (Io (Io (e.symm))) (Iq _)
   |cons v2 us =>
    cases us with
    |nil=>exact absurd (Io (Io (Io (e.symm)))) (Iq _)
    |cons v3 us =>
     cases us with
     |nil=>exact h v0 v1 v2 v3
     |cons _ _=>exact absurd (Io (Io (Io (Io (e))))) (Iq _)
theorem all_mk{l:PySem.W.OpenLaw}{w:World}{K:PySem.W.Frag}{h:Heap}{mg:Str->Option Value}{fa f1 f2 f3 f4 f5 f6 f7 f8 f9 f10 f11 f12 f13 f14 f15 f16 f17 f18 f19 f20 f21 f22 f23 f24 f25 f26:Addr}(X:K.In h)(G:h.Ns mainGlobals mg)(hfa:mg "law"=some (.ref fa))
  {od1 od2 od3 od4 od5 od6 od7 od8 od9 od10 od11 od12 od13 od14 od15 od16 od17 od18 od19 od20 od21 od22 od23 od24 od25 od26 an1 an2 an3 an4 an5 an6 an7 an8 an9 an10 an11 an12 an13 an14 an15 an16 an17 an18 an19 an20 an21 an22 an23 an24 an25 an26:Option Addr}{sl1 sl2 sl3 sl4 sl5 sl6 sl7 sl8 sl9 sl10 sl11 sl12 sl13 sl14 sl15 sl16 sl17 sl18 sl19 sl20 sl21 sl22 sl23 sl24 sl25 sl26:Array (Option Value)}{oc1 kV1 dc1 pm1 cd1 ct1 oc2 kV2 dc2 pm2 cd2 ct2 oc3 kV3 dc3 pm3 cd3 ct3 oc4 kV4 dc4 pm4 cd4 ct4 oc5 kV5 dc5 pm5 cd5 ct5 oc6 kV6 dc6 pm6 cd6 ct6 oc7 kV7 dc7 pm7 cd7 ct7 oc8 kV8 dc8 pm8 cd8 ct8 oc9 kV9 dc9 pm9 cd9 ct9 oc10 kV10 dc10 pm10 cd10 ct10 oc11 kV11 dc11 pm11 cd11 ct11 oc12 kV12 dc12 pm12 cd12 ct12 oc13 kV13 dc13 pm13 cd13 ct13 oc14 kV14 dc14 pm14 cd14 ct14 oc15 kV15 dc15 pm15 cd15 ct15 oc16 kV16 dc16 pm16 cd16 ct16 oc17 kV17 dc17 pm17 cd17 ct17 oc18 kV18 dc18 pm18 cd18 ct18 oc19 kV19 dc19 pm19 cd19 ct19 oc20 kV20 dc20 pm20 cd20 ct20 oc21 kV21 dc21 pm21 cd21 ct21 oc22 kV22 dc22 pm22 cd22 ct22 oc23 kV23 dc23 pm23 cd23 ct23 oc24 kV24 dc24 pm24 cd24 ct24 oc25 kV25 dc25 pm25 cd25 ct25 oc26 kV26 dc26 pm26 cd26 ct26:Value}
  {cc fcu td:Addr}{occu kVcu dccu pmcu cdcu ctcu octd:Value}{odcu ancu odtd:Option Addr}{slcu sltd:Array (Option Value)}{tkd:Tok}{ntd:Nat}
  (a1:PySem.W.nsIn K mainGlobals "least"=some (some (.ref f1))) (l1:K.lookup f1=some ⟨oc1,od1,.func (PySem.W.fnOf "least" "least" (j3 jaf) (jz jaf) (jf jaf) .none kV1 dc1 pm1 an1 cd1 ct1),sl1⟩) (c1:PySem.W.codeIn K cd1 "least"=true) (k1:PySem.W.keepIn K (.ref f1)=true)
  (a2:PySem.W.nsIn K mainGlobals "least_from"=some (some (.ref f2))) (l2:K.lookup f2=some ⟨oc2,od2,.func (PySem.W.fnOf "least_from" "least_from" (j3 y8) (jz y8) (jf y8) .none kV2 dc2 pm2 an2 cd2 ct2),sl2⟩) (c2:PySem.W.codeIn K cd2 "least_from"=true) (k2:PySem.W.keepIn K (.ref f2)=true)
  (a3:PySem.W.nsIn K mainGlobals "merged"=some (some (.ref f3))) (l3:K.lookup f3=some ⟨oc3,od3,.func (PySem.W.fnOf "merged" "merged" (j3 zo) (jz zo) (jf zo) .none kV3 dc3 pm3 an3 cd3 ct3),sl3⟩) (c3:PySem.W.codeIn K cd3 "merged"=true) (k3:PySem.W.keepIn K (.ref f3)=true)
  (a4:PySem.W.nsIn K mainGlobals "groups_of_rooms"=some (some (.ref f4))) (l4:K.lookup f4=some ⟨oc4,od4,.func (PySem.W.fnOf "groups_of_rooms" "groups_of_rooms" (j3 j5) (jz j5) (jf j5) .none kV4 dc4 pm4 an4 cd4 ct4),sl4⟩) (c4:PySem.W.codeIn K cd4 "groups_of_rooms"=true) (k4:PySem.W.keepIn K (.ref f4)=true)
  (a5:PySem.W.nsIn K mainGlobals "led_from"=some (some (.ref f5))) (l5:K.lookup f5=some ⟨oc5,od5,.func (PySem.W.fnOf "led_from" "led_from" (j3 zi) (jz zi) (jf zi) .none kV5 dc5 pm5 an5 cd5 ct5),sl5⟩) (c5:PySem.W.codeIn K cd5 "led_from"=true) (k5:PySem.W.keepIn K (.ref f5)=true)
  (a6:PySem.W.nsIn K mainGlobals "leading_into"=some (some (.ref f6))) (l6:K.lookup f6=some ⟨oc6,od6,.func (PySem.W.fnOf "leading_into" "leading_into" (j3 y6) (jz y6) (jf y6) .none kV6 dc6 pm6 an6 cd6 ct6),sl6⟩) (c6:PySem.W.codeIn K cd6 "leading_into"=true) (k6:PySem.W.keepIn K (.ref f6)=true)
  (a7:PySem.W.nsIn K mainGlobals "cut"=some (some (.ref f7))) (l7:K.lookup f7=some ⟨oc7,od7,.func (PySem.W.fnOf "cut" "cut" (j3 jab) (jz jab) (jf jab) .none kV7 dc7 pm7 an7 cd7 ct7),sl7⟩) (c7:PySem.W.codeIn K cd7 "cut"=true) (k7:PySem.W.keepIn K (.ref f7)=true)
  (a8:PySem.W.nsIn K mainGlobals "led"=some (some (.ref f8))) (l8:K.lookup f8=some ⟨oc8,od8,.func (PySem.W.fnOf "led" "led" (j3 jax) (jz jax) (jf jax) .none kV8 dc8 pm8 an8 cd8 ct8),sl8⟩) (c8:PySem.W.codeIn K cd8 "led"=true) (k8:PySem.W.keepIn K (.ref f8)=true)
  (a9:PySem.W.nsIn K mainGlobals "deed_of"=some (some (.ref f9))) (l9:K.lookup f9=some ⟨oc9,od9,.func (PySem.W.fnOf "deed_of" "deed_of" (j3 zu) (jz zu) (jf zu) .none kV9 dc9 pm9 an9 cd9 ct9),sl9⟩) (c9:PySem.W.codeIn K cd9 "deed_of"=true) (k9:PySem.W.keepIn K (.ref f9)=true)
  (a10:PySem.W.nsIn K mainGlobals "put"=some (some (.ref f10))) (l10:K.lookup f10=some ⟨oc10,od10,.func (PySem.W.fnOf "put" "put" (j3 jaq) (jz jaq) (jf jaq) .none kV10 dc10 pm10 an10 cd10 ct10),sl10⟩) (c10:PySem.W.codeIn K cd10 "put"=true) (k10:PySem.W.keepIn K (.ref f10)=true)
  (a11:PySem.W.nsIn K mainGlobals "_law_box"=some (some (.ref f11))) (l11:K.lookup f11=some ⟨oc11,od11,.func (PySem.W.fnOf "_law_box" "_law_box" (j3 zv) (jz zv) (jf zv) .none kV11 dc11 pm11 an11 cd11 ct11),sl11⟩) (c11:PySem.W.codeIn K cd11 "_law_box"=true) (k11:PySem.W.keepIn K (.ref f11)=true)
  (a12:PySem.W.nsIn K mainGlobals "_law_take"=some (some (.ref f12))) (l12:K.lookup f12=some ⟨oc12,od12,.func (PySem.W.fnOf "_law_take" "_law_take" (j3 yd) (jz yd) (jf yd) .none kV12 dc12 pm12 an12 cd12 ct12),sl12⟩) (c12:PySem.W.codeIn K cd12 "_law_take"=true) (k12:PySem.W.keepIn K (.ref f12)=true)
  (a13:PySem.W.nsIn K mainGlobals "_law_letters"=some (some (.ref f13))) (l13:K.lookup f13=some ⟨oc13,od13,.func (PySem.W.fnOf "_law_letters" "_law_letters" (j3 yz) (jz yz) (jf yz) .none kV13 dc13 pm13 an13 cd13 ct13),sl13⟩) (c13:PySem.W.codeIn K cd13 "_law_letters"=true) (k13:PySem.W.keepIn K (.ref f13)=true)
  (a14:PySem.W.nsIn K mainGlobals "_law_text"=some (some (.ref f14))) (l14:K.lookup f14=some ⟨oc14,od14,.func (PySem.W.fnOf "_law_text" "_law_text" (j3 ze) (jz ze) (jf ze) .none kV14 dc14 pm14 an14 cd14 ct14),sl14⟩) (c14:PySem.W.codeIn K cd14 "_law_text"=true) (k14:PySem.W.keepIn K (.ref f14)=true)
  (a15:PySem.W.nsIn K mainGlobals "_law_machine"=some (some (.ref f15))) (l15:K.lookup f15=some ⟨oc15,od15,.func (PySem.W.fnOf "_law_machine" "_law_machine" (j3 yp) (jz yp) (jf yp) .none kV15 dc15 pm15 an15 cd15 ct15),sl15⟩) (c15:PySem.W.codeIn K cd15 "_law_machine"=true) (k15:PySem.W.keepIn K (.ref f15)=true)
  (a16:PySem.W.nsIn K mainGlobals "_law_led"=some (some (.ref f16))) (l16:K.lookup f16=some ⟨oc16,od16,.func (PySem.W.fnOf "_law_led" "_law_led" (j3 zw) (jz zw) (jf zw) .none kV16 dc16 pm16 an16 cd16 ct16),sl16⟩) (c16:PySem.W.codeIn K cd16 "_law_led"=true) (k16:PySem.W.keepIn K (.ref f16)=true)
  (a17:PySem.W.nsIn K mainGlobals "_law_numbered"=some (some (.ref f17))) (l17:K.lookup f17=some ⟨oc17,od17,.func (PySem.W.fnOf "_law_numbered" "_law_numbered" (j3 yc) (jz yc) (jf yc) .none kV17 dc17 pm17 an17 cd17 ct17),sl17⟩) (c17:PySem.W.codeIn K cd17 "_law_numbered"=true) (k17:PySem.W.keepIn K (.ref f17)=true)
  (a18:PySem.W.nsIn K mainGlobals "_law_least"=some (some (.ref f18))) (l18:K.lookup f18=some ⟨oc18,od18,.func (PySem.W.fnOf "_law_least" "_law_least" (j3 kx) (jz kx) (jf kx) .none kV18 dc18 pm18 an18 cd18 ct18),sl18⟩) (c18:PySem.W.codeIn K cd18 "_law_least"=true) (k18:PySem.W.keepIn K (.ref f18)=true)
  (a19:PySem.W.nsIn K mainGlobals "_law_deed"=some (some (.ref f19))) (l19:K.lookup f19=some ⟨oc19,od19,.func (PySem.W.fnOf "_law_deed" "_law_deed" (j3 zd) (jz zd) (jf zd) .none kV19 dc19 pm19 an19 cd19 ct19),sl19⟩) (c19:PySem.W.codeIn K cd19 "_law_deed"=true) (k19:PySem.W.keepIn K (.ref f19)=true)
  (a20:PySem.W.nsIn K mainGlobals "_law_long"=some (some (.ref f20))) (l20:K.lookup f20=some ⟨oc20,od20,.func (PySem.W.fnOf "_law_long" "_law_long" (j3 zb) (jz zb) (jf zb) .none kV20 dc20 pm20 an20 cd20 ct20),sl20⟩) (c20:PySem.W.codeIn K cd20 "_law_long"=true) (k20:PySem.W.keepIn K (.ref f20)=true)
  (a21:PySem.W.nsIn K mainGlobals "_law_doubled"=some (some (.ref f21))) (l21:K.lookup f21=some ⟨oc21,od21,.func (PySem.W.fnOf "_law_doubled" "_law_doubled" (j3 yo) (jz yo) (jf yo) .none kV21 dc21 pm21 an21 cd21 ct21),sl21⟩) (c21:PySem.W.codeIn K cd21 "_law_doubled"=true) (k21:PySem.W.keepIn K (.ref f21)=true)
  (a22:PySem.W.nsIn K mainGlobals "_law_turning"=some (some (.ref f22))) (l22:K.lookup f22=some ⟨oc22,od22,.func (PySem.W.fnOf "_law_turning" "_law_turning" (j3 yq) (jz yq) (jf yq) .none kV22 dc22 pm22 an22 cd22 ct22),sl22⟩) (c22:PySem.W.codeIn K cd22 "_law_turning"=true) (k22:PySem.W.keepIn K (.ref f22)=true)
  (a23:PySem.W.nsIn K mainGlobals "_law_any_machine"=some (some (.ref f23))) (l23:K.lookup f23=some ⟨oc23,od23,.func (PySem.W.fnOf "_law_any_machine" "_law_any_machine" (j3 yn) (jz yn) (jf yn) .none kV23 dc23 pm23 an23 cd23 ct23),sl23⟩) (c23:PySem.W.codeIn K cd23 "_law_any_machine"=true) (k23:PySem.W.keepIn K (.ref f23)=true)
  (a24:PySem.W.nsIn K mainGlobals "_law_whole"=some (some (.ref f24))) (l24:K.lookup f24=some ⟨oc24,od24,.func (PySem.W.fnOf "_law_whole" "_law_whole" (j3 zg) (jz zg) (jf zg) .none kV24 dc24 pm24 an24 cd24 ct24),sl24⟩) (c24:PySem.W.codeIn K cd24 "_law_whole"=true) (k24:PySem.W.keepIn K (.ref f24)=true)
  (a25:PySem.W.nsIn K mainGlobals "_law_is_deed"=some (some (.ref f25))) (l25:K.lookup f25=some ⟨oc25,od25,.func (PySem.W.fnOf "_law_is_deed" "_law_is_deed" (j3 yx) (jz yx) (jf yx) .none kV25 dc25 pm25 an25 cd25 ct25),sl25⟩) (c25:PySem.W.codeIn K cd25 "_law_is_deed"=true) (k25:PySem.W.keepIn K (.ref f25)=true)
  (a26:PySem.W.nsIn K mainGlobals "law"=some (some (.ref f26))) (l26:K.lookup f26=some ⟨oc26,od26,.func (PySem.W.fnOf "law" "law" (j3 zx) (jz zx) (jf zx) .none kV26 dc26 pm26 an26 cd26 ct26),sl26⟩) (c26:PySem.W.codeIn K cd26 "law"=true) (k26:PySem.W.keepIn K (.ref f26)=true)
  (z_len:PySem.W.nsIn K mainGlobals "len"=some none)
  (z_int:PySem.W.nsIn K mainGlobals "int"=some none)
  (z_range:PySem.W.nsIn K mainGlobals "range"=some none)
  (z_list:PySem.W.nsIn K mainGlobals "list"=some none)
  (z_tuple:PySem.W.nsIn K mainGlobals "tuple"=some none)
  (z_dict:PySem.W.nsIn K mainGlobals "dict"=some none)
  (z_enumerate:PySem.W.nsIn K mainGlobals "enumerate"=some none)
  (z_all:PySem.W.nsIn K mainGlobals "all"=some none)
  (z_max:PySem.W.nsIn K mainGlobals "max"=some none)
  (z_isinstance:PySem.W.nsIn K mainGlobals "isinstance"=some none)
  (z_sorted:PySem.W.nsIn K mainGlobals "sorted"=some none)
  (z_set:PySem.W.nsIn K mainGlobals "set"=some none)
  (z_bool:PySem.W.nsIn K mainGlobals "bool"=some none)
  (z_zip:PySem.W.nsIn K mainGlobals "zip"=some none)
  (acu:PySem.W.nsIn K mainGlobals "come_up"=some (some (.ref fcu)))
  (lcu:K.lookup fcu=some ⟨occu,odcu,.func (PySem.W.fnOf "come_up" "come_up" (j3 zt) (jz zt) (jf zt) (.ref td) kVcu dccu pmcu ancu cdcu ctcu),slcu⟩)
  (ccu:PySem.W.codeIn K cdcu "come_up"=true)
  (kcu:PySem.W.keepIn K (.ref fcu)=true)
  (ltd:K.lookup td=some ⟨octd,odtd,.seq #[.none,.int 0 tkd] ntd,sltd⟩)
  (ecd:cd2=.ref cc)
  (hcin:PySem.W.codeHdIn K cc 82=true)
  : ∃fd:FuncData,(∀(s:Shared)(v:Value),BindsTo s fd ⟨[v],[]⟩ [("_law_script",v)])/\∀base:Heap,K.In base->base.Ns mainGlobals mg->(∀t∈[82],base.BuiltinsAt mg t)->FnOk l.prog w K mg base CX0 9 fa fd ["_law_script"] (jhg K 82):=by
 have e:=hfa.symm.trans (Ib X G a26)
 cases e
 have F1z:=jck (st:=jaf) l1 c1 k1
 have m1z:=Ib X G a1
 have b1z:=F1z.binds (ps:=["machine"]) λ_ _ _ _ _ _=>us1 λ_=>rfl
 have F20z:=jck (st:=y8) l2 c2 k2
 have m20z:=Ib X G a2
 have b20z:=F20z.binds (ps:=["moves","yes","first"]) λ_ _ _ _ _ _=>us3 λ_ _ _=>rfl
 have F22z:=jck (st:=zo) l3 c3 k3
 have m22z:=Ib X G a3
 have b22z:=F22z.binds (ps:=["moves","yes","groups"]) λ_ _ _ _ _ _=>us3 λ_ _ _=>rfl
 have F18z:=jck (st:=j5) l4 c4 k4
 have m18z:=Ib X G a4
 have b18z:=F18z.binds (ps:=["moves","yes"]) λ_ _ _ _ _ _=>us2 λ_ _=>rfl
 have F21z:=jck (st:=zi) l5 c5 k5
 have m21z:=Ib X G a5
 have b21z:=F21z.binds (ps:=["moves","sign"]) λ_ _ _ _ _ _=>us2 λ_ _=>rfl
 have F19z:=jck (st:=y6) l6 c6 k6
 have m19z:=Ib X G a6
 have b19z:=F19z.binds (ps:=["part","sources","groups"]) λ_ _ _ _ _ _=>us3 λ_ _ _=>rfl
 have F_cut:=jck (st:=jab) l7 c7 k7
 have m_cut:=Ib X G a7
 have b_cut:=F_cut.binds (ps:=["parts","groups","number","share"]) λ_ _ _ _ _ _=>us4 λ_ _ _ _=>rfl
 have F_led:=jck (st:=jax) l8 c8 k8
 have m_led:=Ib X G a8
 have b_led:=F_led.binds (ps:=["machine","room","text"]) λ_ _ _ _ _ _=>us3 λ_ _ _=>rfl
 have F7z:=jck (st:=zu) l9 c9 k9
 have m7z:=Ib X G a9
 have b7z:=F7z.binds (ps:=["machine","text"]) λ_ _ _ _ _ _=>us2 λ_ _=>rfl
 have F_put:=jck (st:=jaq) l10 c10 k10
 have m_put:=Ib X G a10
 have b_put:=F_put.binds (ps:=["one","other"]) λ_ _ _ _ _ _=>us2 λ_ _=>rfl
 have F4z:=jck (st:=zv) l11 c11 k11
 have m4z:=Ib X G a11
 have b4z:=F4z.binds (ps:=["_law_script","_law_k"]) λ_ _ _ _ _ _=>us2 λ_ _=>rfl
 have F0z:=jck (st:=yd) l12 c12 k12
 have m0z:=Ib X G a12
 have b0z:=F0z.binds (ps:=["_law_box_here","_law_wide"]) λ_ _ _ _ _ _=>us2 λ_ _=>rfl
 have F2z:=jck (st:=yz) l13 c13 k13
 have m2z:=Ib X G a13
 have b2z:=F2z.binds (ps:=["_law_box_here","_law_most"]) λ_ _ _ _ _ _=>us2 λ_ _=>rfl
 have F14z:=jck (st:=ze) l14 c14 k14
 have m14z:=Ib X G a14
 have b14z:=F14z.binds (ps:=["_law_box_here","_law_letters_here","_law_most"]) λ_ _ _ _ _ _=>us3 λ_ _ _=>rfl
 have F13z:=jck (st:=yp) l15 c15 k15
 have m13z:=Ib X G a15
 have b13z:=F13z.binds (ps:=["_law_box_here","_law_letters_here","_law_most"]) λ_ _ _ _ _ _=>us3 λ_ _ _=>rfl
 have F11z:=jck (st:=zw) l16 c16 k16
 have m11z:=Ib X G a16
 have b11z:=F11z.binds (ps:=["_law_machine_here","_law_room","_law_text_here"]) λ_ _ _ _ _ _=>us3 λ_ _ _=>rfl
 have F6z:=jck (st:=yc) l17 c17 k17
 have m6z:=Ib X G a17
 have b6z:=F6z.binds (ps:=["_law_letters_here","_law_moves","_law_yes"]) λ_ _ _ _ _ _=>us3 λ_ _ _=>rfl
 have F10z:=jck (st:=kx) l18 c18 k18
 have m10z:=Ib X G a18
 have b10z:=F10z.binds (ps:=["_law_machine_here"]) λ_ _ _ _ _ _=>us1 λ_=>rfl
 have F5z:=jck (st:=zd) l19 c19 k19
 have m5z:=Ib X G a19
 have b5z:=F5z.binds (ps:=["_law_machine_here","_law_text_here"]) λ_ _ _ _ _ _=>us2 λ_ _=>rfl
 have F12z:=jck (st:=zb) l20 c20 k20
 have m12z:=Ib X G a20
 have b12z:=F12z.binds (ps:=["_law_box_here"]) λ_ _ _ _ _ _=>us1 λ_=>rfl
 have F9z:=jck (st:=yo) l21 c21 k21
 have m9z:=Ib X G a21
 have b9z:=F9z.binds (ps:=["_law_box_here","_law_machine_here"]) λ_ _ _ _ _ _=>us2 λ_ _=>rfl
 have F15z:=jck (st:=yq) l22 c22 k22
 have m15z:=Ib X G a22
 have b15z:=F15z.binds (ps:=["_law_box_here","_law_letters_here","_law_most"]) λ_ _ _ _ _ _=>us3 λ_ _ _=>rfl
 have F8z:=jck (st:=yn) l23 c23 k23
 have m8z:=Ib X G a23
 have b8z:=F8z.binds (ps:=["_law_box_here"]) λ_ _ _ _ _ _=>us1 λ_=>rfl
 have F16z:=jck (st:=zg) l24 c24 k24
 have m16z:=Ib X G a24
 have b16z:=F16z.binds (ps:=["_law_found"]) λ_ _ _ _ _ _=>us1 λ_=>rfl
 have F3z:=jck (st:=yx) l25 c25 k25
 have m3z:=Ib X G a25
 have b3z:=F3z.binds (ps:=["_law_found","_law_due"]) λ_ _ _ _ _ _=>us2 λ_ _=>rfl
 have F_law:=jck (st:=zx) l26 c26 k26
 have m_law:=Ib X G a26
 have b_law:=F_law.binds (ps:=["_law_script"]) λ_ _ _ _ _ _=>us1 λ_=>rfl
 have n_len:=Iy X G z_len
 have n_int:=Iy X G z_int
 have n_range:=Iy X G z_range
 have n_list:=Iy X G z_list
 have n_tuple:=Iy X G z_tuple
 have n_dict:=Iy X G z_dict
 have n_enumerate:=Iy X G z_enumerate
 have n_all:=Iy X G z_all
 have n_max:=Iy X G z_max
 have n_isinstance:=Iy X G z_isinstance
 have n_sorted:=Iy X G z_sorted
 have n_set:=Iy X G z_set
 have n_bool:=Iy X G z_bool
 have n_zip:=Iy X G z_zip
 refine⟨PySem.W.fnOf "law" "law" (j3 zx) (jz zx) (jf zx) .none kV26 dc26 pm26 an26 cd26 ct26,λs v=>.of_eq rfl,λbase kb _ hbt=>?_⟩
 have hd:PySem.W.CodeHd base cc 82:=PySem.W.codeHd_of_K kb hcin
 have m17z:=Ib X G acu
 have F17z:=jqs (st:=zt) lcu ccu kcu
 have b17z:Binds K _ ["first","signs","step","most","at"] [.none,.int 0 tkd]:=F17z.binds ltd rfl λ_ _ _ _ _ _ us hl=>by obtain⟨_,_,_,rfl⟩:=us3 (C:=λus=>∃a b c,us=[a,b,c]) (λa b c=>⟨a,b,c,rfl⟩) us (by simpa using hl);exact⟨_,rfl,rfl⟩
 have h_come_up:Vals [.non,.int 0] [.none,.int 0 tkd]:=.cons rfl (.cons ⟨_,rfl⟩ .nil)
 have g17z:=ok_come_up (P:=l.prog) (w:=w) (base:=base)  F17z ⟨n_len,n_tuple,n_range⟩
 have g0z:=ok__law_take (P:=l.prog) (w:=w) (mg:=mg) (base:=base) F0z
 have g4z:=ok__law_box (P:=l.prog) (w:=w) (base:=base)  F4z ⟨n_len,n_int⟩
 have g2z:=ok__law_letters (P:=l.prog) (w:=w) (base:=base)  F2z ⟨n_len,n_list,n_range,m0z⟩ F0z b0z g0z
 have g13z:=ok__law_machine (P:=l.prog) (w:=w) (base:=base)  F13z ⟨n_len,n_max,n_range,n_tuple,m0z⟩ F0z b0z g0z
 have g_cut:=ok_cut (P:=l.prog) (w:=w) (base:=base)  F_cut ⟨n_len,n_dict⟩
 have g19z:=ok_leading_into (P:=l.prog) (w:=w) (mg:=mg) (base:=base) F19z
 have g21z:=ok_led_from (P:=l.prog) (w:=w) (base:=base)  F21z ⟨n_enumerate⟩
 have g18z:=ok_groups_of_rooms (P:=l.prog) (w:=w) (base:=base)  F18z ⟨n_len,n_list,n_range,n_dict,m_cut,m21z,m19z⟩ F_cut b_cut g_cut F21z b21z g21z F19z b19z g19z
 have g22z:=ok_merged (P:=l.prog) (w:=w) (base:=base)  F22z ⟨n_len,n_tuple,n_enumerate⟩
 have g20z:=ok_least_from (P:=l.prog) (w:=w) (base:=base) (Pt:=82) F20z ⟨n_len,m17z,m22z,m18z,rfl,hd,hbt 82 (.head _)⟩ ecd F17z b17z h_come_up g17z F22z b22z g22z F18z b18z g18z
 have g1z:=ok_least (P:=l.prog) (w:=w) (base:=base)  F1z ⟨m20z⟩ F20z b20z g20z
 have g_led:=ok_led (P:=l.prog) (w:=w) (base:=base)  F_led ⟨n_enumerate⟩
 have g7z:=ok_deed_of (P:=l.prog) (w:=w) (base:=base)  F7z ⟨n_len,n_range,n_tuple,m1z,m_led⟩ F1z b1z g1z F_led b_led g_led
 have g_put:=ok_put (P:=l.prog) (w:=w) (base:=base)  F_put ⟨n_tuple⟩
 have g14z:=ok__law_text (P:=l.prog) (w:=w) (base:=base)  F14z ⟨n_len,n_range,m0z⟩ F0z b0z g0z
 have g11z:=ok__law_led (P:=l.prog) (w:=w) (mg:=mg) (base:=base) F11z
 have g6z:=ok__law_numbered (P:=l.prog) (w:=w) (base:=base)  F6z ⟨n_len,n_tuple⟩
 have g10z:=ok__law_least (P:=l.prog) (w:=w) (base:=base)  F10z ⟨n_range,n_tuple,n_len,n_sorted,n_int,n_set,m6z⟩ F6z b6z g6z
 have g5z:=ok__law_deed (P:=l.prog) (w:=w) (base:=base)  F5z ⟨n_len,n_range,n_tuple,m11z⟩ F11z b11z g11z
 have g12z:=ok__law_long (P:=l.prog) (w:=w) (base:=base)  F12z ⟨n_range,n_tuple,m0z,m2z⟩ F0z b0z g0z F2z b2z g2z
 have g9z:=ok__law_doubled (P:=l.prog) (w:=w) (base:=base)  F9z ⟨n_len,n_tuple,m0z⟩ F0z b0z g0z
 have g15z:=ok__law_turning (P:=l.prog) (w:=w) (base:=base)  F15z ⟨n_len,n_range,n_tuple,m0z⟩ F0z b0z g0z
 have g8z:=ok__law_any_machine (P:=l.prog) (w:=w) (base:=base)  F8z ⟨m0z,m2z,m13z,m12z,m9z,m15z⟩ F0z b0z g0z F2z b2z g2z F13z b13z g13z F12z b12z g12z F9z b9z g9z F15z b15z g15z
 have g16z:=ok__law_whole (P:=l.prog) (w:=w) (base:=base)  F16z ⟨n_isinstance,n_int,n_bool,Ao (by simp),by unfold PySem.W.kitOne;rw[An (by decide)];unfold PySem.W.kitCls;rfl⟩
 have g3z:=ok__law_is_deed (P:=l.prog) (w:=w) (base:=base)  F3z ⟨n_isinstance,n_tuple,n_all,m16z,Ao (by simp)⟩ F16z b16z g16z
 exact ok_law F_law ⟨n_len,n_range,n_tuple,n_zip,m4z,m0z,m8z,m14z,m10z,m7z,m_put,m5z,m3z⟩ F4z b4z g4z F0z b0z g0z F8z b8z g8z F14z b14z g14z F10z b10z g10z F7z b7z g7z F_put b_put g_put F5z b5z g5z F3z b3z g3z
theorem jsn{K:PySem.W.Frag}{H:Hp}{a t:Addr}{xs:List V}{ps:Array Value}(hS:SqL K H a xs)(hT:H t=some (.tbl ps))(hK:K.lookup t=none):a≠t:=by
 rintro rfl
 rcases hS with(h|⟨o,h⟩)|⟨o,its,n,h,_⟩
 ·rw[hT]at h;cases h
 ·rw[hT]at h;cases h
 ·rw[hK]at h;cases h
theorem walk{l:PySem.W.OpenLaw}{q:Program}{loose:List Str}{XP:(Str->Option Value)->Heap->Prop}{YP:World->Heap->Prop}{d:DefRec}{K:Params->PySem.W.Frag}(hn:l.most=some 63)(hdf:d.params.defaults=[])
  (hY:∀(w:World)(h:Heap),YP w h->(K w.params).In h) (hT:∀(w:World)(h:Heap),YP w h->∀t∈[82],h.get? t=some (PySem.W.tabObj #[]))
  (hC:∀(w:World)(h:Heap),(K w.params).In h->∀t∈[82],∃c,PySem.W.CodeHd h c t) (hN:∀w:World,∀t∈[82],(K w.params).lookup t=none)
  (F:∀(w:World)(mg:Str->Option Value)(fa:Addr)(h:Heap),(K w.params).In h->h.Ns mainGlobals mg->mg d.name=some (.ref fa) ->
   ∃fd:FuncData,(∀(s:Shared)(u:Value),BindsTo s fd ⟨[u],[]⟩ [("_law_script",u)])/\∀base:Heap,(K w.params).In base->base.Ns mainGlobals mg->(∀t∈[82],base.BuiltinsAt mg t)->FnOk l.prog w (K w.params) mg base CX0 9 fa fd ["_law_script"] (jhg (K w.params) 82)) :
  PySem.W.WalkO q loose XP YP l.row.toRowW d [] (λf vs=>PySem.call f vs) :=
 L2.walk_ofT (n:=63) (k:=9) (x:="_law_script") (ts:=[82]) (CX:=λ_=>CX0) (sp:=λw=>jhg (K w.params) 82) hn (by decide) hdf ⟨rfl,by decide,by decide,rfl⟩ hY hT hC hN F (λw _ a ns hl hS hT=>⟨a,ns,rfl,hS,hl,jsn hS (hT 82 (.head _)) (hN w 82 (.head _)),⟨#[],hT 82 (.head _),trivial,λp cv e=>by cases e⟩,λ_=>rfl⟩) λ_ _ _ _ _ z=>z
end My
theorem PySem.W.Fast.tw17083972538200919262:True:=trivial
theorem PySem.W.Fast.tw6549144197492302865:True:=trivial
theorem PySem.W.Fast.tw4731132916845641251:True:=trivial
theorem PySem.W.Fast.tw1877701379126512123:True:=trivial
theorem PySem.W.Fast.tw623470690740891829:True:=trivial
theorem PySem.W.Fast.tw15451594513522110756:True:=trivial
theorem PySem.W.Fast.tw16755382409856376821:True:=trivial
theorem PySem.W.Fast.tw17078273872992116811:True:=trivial
theorem PySem.W.Fast.tw857118981113135226:True:=trivial
theorem PySem.W.Fast.tw2970631995156828513:True:=trivial
theorem PySem.W.Fast.tw9877570693417661427:True:=trivial
theorem PySem.W.Fast.tw9479830072141781252:True:=trivial
theorem PySem.W.Fast.tw13083659919298565860:True:=trivial
theorem PySem.W.Fast.tw5751454616175066614:True:=trivial
theorem PySem.W.Fast.tw8095503142849689585:True:=trivial
theorem PySem.W.Fast.tw6667411010295721596:True:=trivial
theorem PySem.W.Fast.tw2587917888418083775:True:=trivial
theorem PySem.W.Fast.tw18162374628041302560:True:=trivial
theorem PySem.W.Fast.tw1921181986942348416:True:=trivial
theorem PySem.W.Fast.tw4493708687327490161:True:=trivial
theorem PySem.W.Fast.tw13595589801892120418:True:=trivial
theorem PySem.W.Fast.tw2928926843928835342:True:=trivial
theorem PySem.W.Fast.tw12617934393282925706:True:=trivial
theorem PySem.W.Fast.tw4279329353903858478:True:=trivial
theorem PySem.W.Fast.tw15196900921381538915:True:=trivial
theorem PySem.W.Fast.tw10300111311399192840:True:=trivial
theorem PySem.W.Fast.tw2640930894651602963:True:=trivial
theorem PySem.W.Fast.tw12152374048980400116:True:=trivial
theorem PySem.W.Fast.tw16970146073025323467:True:=trivial
theorem PySem.W.Fast.tw6306884533471120345:True:=trivial
theorem PySem.W.Fast.tw14216960781830869532:True:=trivial
theorem PySem.W.Fast.tw8052696338479924864:True:=trivial
theorem PySem.W.Fast.tw21035640145272819:True:=trivial
theorem PySem.W.Fast.tw2236318461967250784:True:=trivial
theorem PySem.W.Fast.tw6295989464507546843:True:=trivial
theorem PySem.W.Fast.tw8160360784273432758:True:=trivial
theorem PySem.W.Fast.tw17832630646020499896:True:=trivial
theorem PySem.W.Fast.tw1403077775154005822:True:=trivial
theorem PySem.W.Fast.tw10457026838051678704:True:=trivial
theorem PySem.W.Fast.tw545249507359914662:True:=trivial
theorem PySem.W.Fast.tw9029345318746887539:True:=trivial
theorem PySem.W.Fast.tw968915138069537184:True:=trivial
theorem PySem.W.Fast.tw11968492569147118559:True:=trivial
theorem PySem.W.Fast.tw11974748257902668311:True:=trivial
theorem PySem.W.Fast.tw2434065669294259020:True:=trivial
theorem PySem.W.Fast.tw9657947757257868118:True:=trivial
theorem PySem.W.Fast.tw11191903770861081202:True:=trivial
theorem PySem.W.Fast.tw3321712412091266403:True:=trivial
theorem PySem.W.Fast.tw2201428412311708874:True:=trivial
theorem PySem.W.Fast.tw15541259704324862925:True:=trivial
theorem PySem.W.Fast.tw6735530292969990913:True:=trivial
theorem PySem.W.Fast.tw12887381538613085025:True:=trivial
theorem PySem.W.Fast.tw7105570238467508856:True:=trivial
theorem PySem.W.Fast.tw4821222600408932899:True:=trivial
theorem PySem.W.Fast.tw16149744800168109023:True:=trivial
theorem PySem.W.Fast.tw794048710157233798:True:=trivial
theorem PySem.W.Fast.tw16087708277636929503:True:=trivial
theorem PySem.W.Fast.tw16333931326708779040:True:=trivial
theorem PySem.W.Fast.tw2257149073564483094:True:=trivial
theorem PySem.W.Fast.tw15962150474692967394:True:=trivial
theorem PySem.W.Fast.tw5805081785355909509:True:=trivial
theorem PySem.W.Fast.tw16649780004493960785:True:=trivial
theorem PySem.W.Fast.tw16949051098333895770:True:=trivial
theorem PySem.W.Fast.tw9268275993137833709:True:=trivial
theorem PySem.W.Fast.tw10642541137865234546:True:=trivial
theorem PySem.W.Fast.tw14150613979301836306:True:=trivial
theorem PySem.W.Fast.tw17234037505599116862:True:=trivial
theorem PySem.W.Fast.tw3406601333833365109:True:=trivial
theorem PySem.W.Fast.tw9296921375866380927:True:=trivial
theorem PySem.W.Fast.tw17564618155527672526:True:=trivial
theorem PySem.W.Fast.tw7389484630183132254:True:=trivial
theorem PySem.W.Fast.tw12834345479131732235:True:=trivial
theorem PySem.W.Fast.tw5468257552773693119:True:=trivial
theorem PySem.W.Fast.tw10141747640758061120:True:=trivial
theorem PySem.W.Fast.tw17372406026537120649:True:=trivial
theorem PySem.W.Fast.tw9404479429505633747:True:=trivial
theorem PySem.W.Fast.tw6543110616694034290:True:=trivial
theorem PySem.W.Fast.tw4049762927013922162:True:=trivial
theorem PySem.W.Fast.tw9344959465965968152:True:=trivial
theorem PySem.W.Fast.tw6804808779607496971:True:=trivial
theorem PySem.W.Fast.tw8746363124731579483:True:=trivial
theorem PySem.W.Fast.tw1133609094028928266:True:=trivial
theorem PySem.W.Fast.tw4907132128570306060:True:=trivial
theorem PySem.W.Fast.tw3279144202906576725:True:=trivial
theorem PySem.W.Fast.tw17364538632215934515:True:=trivial
theorem PySem.W.Fast.tw4599381255074406339:True:=trivial
theorem PySem.W.Fast.tw17072876093080792912:True:=trivial
theorem PySem.W.Fast.tw16736039862053467333:True:=trivial
theorem PySem.W.Fast.tw13212894545609382069:True:=trivial
theorem PySem.W.Fast.tw2957530941679636406:True:=trivial
theorem PySem.W.Fast.tw16848795946547358537:True:=trivial
theorem PySem.W.Fast.tw7170200248850412293:True:=trivial
theorem PySem.W.Fast.tw256522489242025759:True:=trivial
theorem PySem.W.Fast.tw17846815230181248978:True:=trivial
theorem PySem.W.Fast.tw8767381503686554824:True:=trivial
theorem PySem.W.Fast.tw8219213655155945306:True:=trivial
theorem PySem.W.Fast.tw10938687096736384207:True:=trivial
theorem PySem.W.Fast.tw6870355554286965039:True:=trivial
theorem PySem.W.Fast.tw12060492602338672804:True:=trivial
theorem PySem.W.Fast.tw14861605491320068701:True:=trivial
theorem PySem.W.Fast.tw5591478429479845772:True:=trivial
theorem PySem.W.Fast.tw7379457839012602341:True:=trivial
theorem PySem.W.Fast.tw12285405443861800083:True:=trivial
theorem PySem.W.Fast.tw7612235807696777071:True:=trivial
theorem PySem.W.Fast.tw4594787703856168063:True:=trivial
theorem PySem.W.Fast.tw5960172163581475741:True:=trivial
theorem PySem.W.Fast.tw16079061171476714740:True:=trivial
theorem PySem.W.Fast.tw14486997705946165587:True:=trivial
theorem PySem.W.Fast.tw1661040640932319801:True:=trivial
theorem PySem.W.Fast.tw16757698527498734394:True:=trivial
theorem PySem.W.Fast.tw12385718186256794202:True:=trivial
theorem PySem.W.Fast.tw3063641507982438295:True:=trivial
theorem PySem.W.Fast.tw16948581044296452713:True:=trivial
theorem PySem.W.Fast.tw15576418823814661381:True:=trivial
theorem PySem.W.Fast.tw10725028163412743553:True:=trivial
theorem PySem.W.Fast.tw6934178867849622971:True:=trivial
theorem PySem.W.Fast.tw3423055368184687065:True:=trivial
theorem PySem.W.Fast.tw14314278125267532125:True:=trivial
theorem PySem.W.Fast.tw4645051365851082195:True:=trivial
theorem PySem.W.Fast.tw6282083367750997741:True:=trivial
theorem PySem.W.Fast.tw9483736706068837649:True:=trivial
theorem PySem.W.Fast.tw7620599920102990677:True:=trivial
theorem PySem.W.Fast.tw15980532437807174545:True:=trivial
theorem PySem.W.Fast.tw11064933477730045985:True:=trivial
theorem PySem.W.Fast.tw6873432079052885025:True:=trivial
theorem PySem.W.Fast.tw4298890877860330952:True:=trivial
theorem PySem.W.Fast.tw16332932485839742875:True:=trivial
theorem PySem.W.Fast.tw12808540782499196680:True:=trivial
theorem PySem.W.Fast.tw14189343840959183840:True:=trivial
theorem PySem.W.Fast.tw8350839444106673046:True:=trivial
theorem PySem.W.Fast.tw9014266495240747334:True:=trivial
theorem PySem.W.Fast.tw4210026942548317355:True:=trivial
theorem PySem.W.Fast.tw14265564544949617692:True:=trivial
theorem PySem.W.Fast.tw12297691134572897861:True:=trivial
theorem PySem.W.Fast.tw5803187994648085534:True:=trivial
theorem PySem.W.Fast.tw7883093987790281327:True:=trivial
theorem PySem.W.Fast.tw11747399646242119594:True:=trivial
theorem PySem.W.Fast.tw2928744404351342265:True:=trivial
theorem PySem.W.Fast.tw15464786570449033950:True:=trivial
theorem PySem.W.Fast.tw17808735827401091488:True:=trivial
theorem PySem.W.Fast.tw14792844343346852692:True:=trivial
theorem PySem.W.Fast.tw16307509037938943447:True:=trivial
theorem PySem.W.Fast.tw13333815600393723117:True:=trivial
theorem PySem.W.Fast.tw13362739754697319016:True:=trivial
theorem PySem.W.Fast.tw9261640195746949512:True:=trivial
theorem PySem.W.Fast.tw12789891667502603954:True:=trivial
theorem PySem.W.Fast.tw10440291685269890371:True:=trivial
theorem PySem.W.Fast.tw706476364383164271:True:=trivial
theorem PySem.W.Fast.tw5980265851536214370:True:=trivial
theorem PySem.W.Fast.tw11474673400376592708:True:=trivial
theorem PySem.W.Fast.tw16855767015342940390:True:=trivial
theorem PySem.W.Fast.tw6370062292329546579:True:=trivial
theorem PySem.W.Fast.tw31275757131417541:True:=trivial
theorem PySem.W.Fast.tw14238627436676439850:True:=trivial
theorem PySem.W.Fast.tw17170853607053742766:True:=trivial
theorem PySem.W.Fast.tw14484041338320882886:True:=trivial
theorem PySem.W.Fast.tw10693348754459799164:True:=trivial
theorem PySem.W.Fast.tw8956857967064327827:True:=trivial
theorem PySem.W.Fast.tw8778179304547917793:True:=trivial
theorem PySem.W.Fast.tw8444346376676449101:True:=trivial
open PySem PySem.W PyProof.Rows
set_option maxRecDepth 100000 in
set_option maxHeartbeats 0 in
theorem PySem.Challenge.cw_calmword_k53_deeds_put_holds : PySem.Challenge.rw_calmword_k53_deeds_put.Holds := by
 w_on;o_law;k_head;(case hw=>w_witness2)
 k_fill
 refine My.walk (l:=PySem.Challenge.rw_calmword_k53_deeds_put) rfl rfl (λw h Y=>PySem.W.km_in_of Y) (λw h Y=>PySem.W.km_tabs_of Y) ?cC ?cN ?F
 case cC=>intro w h X t ht;cases Aj.mp ht;refine' My.c_of X ?h3 ?h4 ?h5 ?h6;(case h3=>k_is);(case h4=>k_is);(case h5=>rfl);(case h6=>kernel_rfl)
 case cN=>exact λw t ht=>by cases Aj.mp ht;rfl
 case F =>
  intro w mg fa h KX G hmg
  refine' My.all_mk KX G hmg ?a1 ?l1 ?c1 ?k1 ?a2 ?l2 ?c2 ?k2 ?a3 ?l3 ?c3 ?k3 ?a4 ?l4 ?c4 ?k4 ?a5 ?l5 ?c5 ?k5 ?a6 ?l6 ?c6 ?k6 ?a7 ?l7 ?c7 ?k7 ?a8 ?l8 ?c8 ?k8 ?a9 ?l9 ?c9 ?k9 ?a10 ?l10 ?c10 ?k10 ?a11 ?l11 ?c11 ?k11 ?a12 ?l12 ?c12 ?k12 ?a13 ?l13 ?c13 ?k13 ?a14 ?l14 ?c14 ?k14 ?a15 ?l15 ?c15 ?k15 ?a16 ?l16 ?c16 ?k16 ?a17 ?l17 ?c17 ?k17 ?a18 ?l18 ?c18 ?k18 ?a19 ?l19 ?c19 ?k19 ?a20 ?l20 ?c20 ?k20 ?a21 ?l21 ?c21 ?k21 ?a22 ?l22 ?c22 ?k22 ?a23 ?l23 ?c23 ?k23 ?a24 ?l24 ?c24 ?k24 ?a25 ?l25 ?c25 ?k25 ?a26 ?l26 ?c26 ?k26 ?z_len ?z_int ?z_range ?z_list ?z_tuple ?z_dict ?z_enumerate ?z_all ?z_max ?z_isinstance ?z_sorted ?z_set ?z_bool ?z_zip ?acu ?lcu ?ccu ?kcu ?ltd ?ecd ?hcin
  (case a1=>k_is)
  (case l1=>k_is)
  (case c1=>k_is)
  (case k1=>k_is)
  (case a2=>k_is)
  (case l2=>k_is)
  (case c2=>k_is)
  (case k2=>k_is)
  (case a3=>k_is)
  (case l3=>k_is)
  (case c3=>k_is)
  (case k3=>k_is)
  (case a4=>k_is)
  (case l4=>k_is)
  (case c4=>k_is)
  (case k4=>k_is)
  (case a5=>k_is)
  (case l5=>k_is)
  (case c5=>k_is)
  (case k5=>k_is)
  (case a6=>k_is)
  (case l6=>k_is)
  (case c6=>k_is)
  (case k6=>k_is)
  (case a7=>k_is)
  (case l7=>k_is)
  (case c7=>k_is)
  (case k7=>k_is)
  (case a8=>k_is)
  (case l8=>k_is)
  (case c8=>k_is)
  (case k8=>k_is)
  (case a9=>k_is)
  (case l9=>k_is)
  (case c9=>k_is)
  (case k9=>k_is)
  (case a10=>k_is)
  (case l10=>k_is)
  (case c10=>k_is)
  (case k10=>k_is)
  (case a11=>k_is)
  (case l11=>k_is)
  (case c11=>k_is)
  (case k11=>k_is)
  (case a12=>k_is)
  (case l12=>k_is)
  (case c12=>k_is)
  (case k12=>k_is)
  (case a13=>k_is)
  (case l13=>k_is)
  (case c13=>k_is)
  (case k13=>k_is)
  (case a14=>k_is)
  (case l14=>k_is)
  (case c14=>k_is)
  (case k14=>k_is)
  (case a15=>k_is)
  (case l15=>k_is)
  (case c15=>k_is)
  (case k15=>k_is)
  (case a16=>k_is)
  (case l16=>k_is)
  (case c16=>k_is)
  (case k16=>k_is)
  (case a17=>k_is)
  (case l17=>k_is)
  (case c17=>k_is)
  (case k17=>k_is)
  (case a18=>k_is)
  (case l18=>k_is)
  (case c18=>k_is)
  (case k18=>k_is)
  (case a19=>k_is)
  (case l19=>k_is)
  (case c19=>k_is)
  (case k19=>k_is)
  (case a20=>k_is)
  (case l20=>k_is)
  (case c20=>k_is)
  (case k20=>k_is)
  (case a21=>k_is)
  (case l21=>k_is)
  (case c21=>k_is)
  (case k21=>k_is)
  (case a22=>k_is)
  (case l22=>k_is)
  (case c22=>k_is)
  (case k22=>k_is)
  (case a23=>k_is)
  (case l23=>k_is)
  (case c23=>k_is)
  (case k23=>k_is)
  (case a24=>k_is)
  (case l24=>k_is)
  (case c24=>k_is)
  (case k24=>k_is)
  (case a25=>k_is)
  (case l25=>k_is)
  (case c25=>k_is)
  (case k25=>k_is)
  (case a26=>k_is)
  (case l26=>k_is)
  (case c26=>k_is)
  (case k26=>k_is)
  (case z_len=>k_is)
  (case z_int=>k_is)
  (case z_range=>k_is)
  (case z_list=>k_is)
  (case z_tuple=>k_is)
  (case z_dict=>k_is)
  (case z_enumerate=>k_is)
  (case z_all=>k_is)
  (case z_max=>k_is)
  (case z_isinstance=>k_is)
  (case z_sorted=>k_is)
  (case z_set=>k_is)
  (case z_bool=>k_is)
  (case z_zip=>k_is)
  (case acu=>k_is)
  (case lcu=>k_is)
  (case ccu=>k_is)
  (case kcu=>k_is)
  (case ltd=>k_is)
  (case ecd=>rfl)
  (case hcin=>kernel_rfl)