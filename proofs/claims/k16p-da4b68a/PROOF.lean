import PyProof.Rows.All
import Wide.All
import OpenK.AllK
import Wide.FinOn
import Lean
import PyProof.EqAt
import PyProof.EqKinds
import PyProof.TupleCall
import PySem.Challenge.RW_calmword_k16_about
set_option Elab.async false
set_option linter.all false
set_option maxRecDepth 100000
set_option maxHeartbeats 4000000
set_option genSizeOf false
noncomputable section
local macro_rules
 |`(command|def $n:declId $s:optDeclSig $v:declVal)=>`(command|noncomputable def $n:declId $s:optDeclSig $v:declVal)
 | `(tactic| ac_rfl)=>`(tactic| first|exact Or.inl rfl|exact Or.inr rfl)
 | `(tactic| omega)=>`(tactic| first|lia|omega (config:={}))
abbrev Aa:=@List.getElem?_eq_getElem
abbrev Ab:=@List.getElem?_eq_some_iff
abbrev Ac:=@List.length_map
abbrev Ad:=@PySem.wpAny_bind
abbrev Ae:=@List.not_mem_nil
abbrev Af:=@List.getD_eq_getElem?_getD
abbrev Ag:=@List.mem_singleton
abbrev Ah:=@List.getElem?_map
abbrev Ai:=@if_neg
abbrev Aj:=@PySem.wpAny_pure
abbrev Ak:=@PySem.Heap.get?_push_of_some
abbrev Al:=@if_pos
abbrev Am:=@List.mem_map
abbrev Ao:=@Nat.le_refl
abbrev Ap:=@List.mem_of_getElem?
abbrev Aq:=@List.length_append
abbrev Ar:=@List.mem_append
abbrev At:=@List.mem_cons
abbrev Au:=@List.map_cons
abbrev Av:=@List.mem_range
abbrev Aw:=@Option.some.inj
abbrev Ax:=@PySem.Heap.lt_size
abbrev Ay:=@PyProof.Rows.wpS_bind
abbrev Az:=@List.map_map
abbrev A0:=@List.size_toArray
abbrev A1:=@List.length_range
abbrev A2:=@Nat.ne_of_lt
abbrev A3:=@PyProof.Rows.wpS_pure
abbrev A4:=@PySem.Heap.get?_push_size
abbrev A5:=@List.append_assoc
abbrev A6:=@List.map_append
abbrev A7:=@List.idxOf_lt_length_iff
abbrev A8:=@List.getElem?_append_left
abbrev A9:=@List.getElem?_append_right
abbrev Ia:=@List.pairwise_append
abbrev Ib:=@List.map_congr_left
abbrev Ic:=@Nat.lt_of_lt_of_le
abbrev Ie:=@Bool.false_ne_true
abbrev Ig:=@List.mem_append_right
abbrev Ih:=@Option.map_eq_some_iff
abbrev Ii:=@PySem.F.slot_list_append
abbrev Ij:=@PySem.F.type_list_append
abbrev Ik:=@Array.getElem?_toList
abbrev Il:=@List.getElem?_of_mem
abbrev Im:=@List.take_length
abbrev Io:=@List.mem_append_left
abbrev Ip:=@PySem.PassesOwn.never
abbrev Iq:=@List.getElem_mem
abbrev Ir:=@Bool.false_eq_true
abbrev Is:=@List.take_append_of_le_length
abbrev Iu:=@Classical.byContradiction
abbrev Iv:=@List.nodup_range
abbrev Iw:=@PySem.Paired.length
abbrev Ix:=@Array.getElem?_eq_getElem
abbrev Iy:=@List.mem_filter
abbrev Iz:=@PySem.sizeLine_eq
abbrev I0:=@List.length_take
abbrev Oa:=@Nat.succ.inj
abbrev Ob:=@List.take_of_length_le
abbrev Oc:=@List.getElem_idxOf
abbrev Od:=@PySem.W.mg_of
abbrev Oe:=@List.take_add_one
abbrev Of:=@Nat.succ_ne_zero
abbrev Og:=@Nat.le_trans
abbrev Oh:=@List.getElem?_eq_none
abbrev Oi:=@List.mem_reverse
abbrev Oj:=@decide_eq_true_eq
abbrev Ol:=@PySem.W.mg_none_of
abbrev Om:=@List.getElem?_toArray
abbrev On:=@Array.toList_append
abbrev Oo:=@PySem.wpAny_ite_split
abbrev Op:=@Nat.zero_le
abbrev Oq:=@List.take_append_drop
abbrev Os:=@List.length_eq_zero_iff
abbrev Ot:=@List.nodup_cons
abbrev Ou:=@List.pairwise_iff_getElem
abbrev Ov:=@List.mem_cons_of_mem
abbrev Ow:=@List.getElem?_take_of_lt
abbrev Ox:=@List.getElem_range
abbrev Oy:=@List.length_filter_le
abbrev Oz:=@List.getElem?_range
abbrev O0:=@PySem.wpAny_holding
abbrev O1:=@List.nodup_append
abbrev O2:=@Iff.rfl
abbrev O3:=@decide_eq_false
abbrev O4:=@if_false
abbrev O5:=@PyProof.Rows.callWith_type1
abbrev O6:=@congrArg
abbrev O7:=@List.mem_cons_self
abbrev O8:=@List.append_nil
abbrev O9:=@List.range_succ
abbrev Ua:=@List.mem_of_mem_drop
abbrev Ub:=@PySem.Heap.get?_update_other
abbrev Uc:=@List.ext_getElem
abbrev Ud:=@List.getElem_map
abbrev Ue:=@beq_eq_false_iff_ne
abbrev Uf:=@PySem.mem_of_lookup
abbrev Ug:=@Array.toList_push
abbrev Uh:=@PySem.Heap.get?_update_self
abbrev Ui:=@Int.zero_add
abbrev Uj:=@PySem.W.kia_one
abbrev Uk:=@PySem.wpAny_Call_Name_kw
abbrev Ul:=@Array.getD_eq_getD_getElem?
abbrev Um:=@PySem.wpAny_call_entry
abbrev Uo:=@PySem.sizeLine_eq
abbrev Up:=@PySem.wpAny_newObj_type
abbrev Uq:=@PySem.wpAny_setState_of
abbrev Ur:=@Bool.eq_iff_iff
abbrev Us:=@Bool.and_eq_true
abbrev Ut:=@List.getElem?_drop
abbrev Uu:=@PySem.F.called_set
abbrev Uv:=@PySem.wpAny_mono
abbrev Uw:=@PySem.F.slot_dict_keyiterator_next
abbrev Ux:=@PySem.Around.under_plainId
abbrev Uy:=@List.mem_of_mem_take
abbrev Uz:=@List.foldl_append
abbrev U0:=@List.reverse_perm
abbrev U1:=@PySem.Heap.SameBut.update
abbrev U2:=@List.perm_ext_iff_of_nodup
abbrev U3:=@List.map_nil
abbrev U4:=@or_false
abbrev U5:=@PySem.codeAny_builtin
abbrev U6:=@PySem.wpAny_truthy_bool
abbrev U7:=@List.pairwise_map
abbrev U8:=@Nat.lt_succ_of_lt
abbrev U9:=@List.idxOf_append
abbrev Wa:=@PySem.wpAny_typeNameOfWhole_keyiter
abbrev Wb:=@List.getElem?_replicate
abbrev Wc:=@PySem.wpAny_callSpecial?_slot
abbrev Wd:=@PySem.F.slot_list_index
abbrev We:=@PySem.F.type_list_index
abbrev Wf:=@List.Perm.refl
abbrev Wg:=@PySem.Paired.snoc
abbrev Wh:=@List.length_pos_of_mem
abbrev Wi:=@List.map_id
abbrev Wj:=@PySem.Obj.data_mapFields
abbrev Wk:=@List.pairwise_cons
abbrev Wl:=@PyProof.Rows.F.plain_set_update_loop
abbrev Wm:=@PyProof.Rows.wpS_forRange
abbrev Wn:=@PySem.wpAny_passesOwn
abbrev Wo:=@List.length_set
abbrev Wp:=@if_true
abbrev Wq:=@Bool.not_true
abbrev Wr:=@List.ext_getElem?
abbrev Ws:=@Bool.eq_false_iff
abbrev Wt:=@List.getElem?_eq_none_iff
abbrev Wu:=@Array.toList_extract
abbrev Wv:=@List.mem_erase_of_ne
abbrev Ww:=@List.drop_eq_getElem_cons
abbrev Wx:=@PyProof.Rows.wpS_modify
abbrev Wy:=@Ne.symm
abbrev Wz:=@PySem.wpAny_setField
abbrev W3:=@Nat.ne_of_gt
abbrev W4:=@PySem.wpAny_comprehension_free
abbrev W5:=@PySem.wpAny_typeNameOf_keyiter
abbrev W6:=@PySem.wpAny_askSetting
abbrev W7:=@List.length_drop
abbrev W8:=@List.length_erase_of_mem
abbrev W9:=@PyProof.Rows.wpS_mono
abbrev Ya:=@List.pairwise_of_forall_mem_list
abbrev Yb:=@Nat.lt_irrefl
abbrev Yc:=@PySem.plainId_quiet
abbrev Yd:=@PySem.Calls.spliced_cons
abbrev Ye:=@List.of_mem_zip
abbrev Yf:=@PyProof.Rows.callWith_builtin1
abbrev Yg:=@PySem.wpAny_loadPart'
abbrev Yh:=@List.filter_append
abbrev Yi:=@PySem.wpAny_rule
abbrev Yj:=@List.idxOf_cons
abbrev Yk:=@List.getElem?_set_self
abbrev Yl:=@List.drop_of_length_le
abbrev Ym:=@PySem.wpAny_pyIter_list
abbrev Yn:=@PySem.codeAny_mono
abbrev Yo:=@List.getElem?_set_ne
abbrev Yp:=@PySem.call_meets
abbrev Yq:=@beq_self_eq_true
abbrev Yr:=@Array.toList_reverse
abbrev Ys:=@PySem.wpAny_standAt
abbrev Yt:=@List.flatten_append
abbrev Yu:=@List.mem_or_eq_of_mem_set
abbrev Yv:=@Nat.le_of_lt
abbrev Yw:=@List.mem_filterMap
abbrev Yx:=@Nat.lt_trans
abbrev Yy:=@PySem.F.slot_list_getattribute
abbrev Yz:=@Int.emod_lt_of_pos
abbrev Y0:=@Array.size_setIfInBounds
abbrev Y1:=@PyProof.Rows.F.entry_set_update_loop
abbrev Y2:=@PySem.F.slot_list_extend
abbrev Y3:=@PySem.F.type_list_extend
abbrev Y4:=@List.take_succ
abbrev Y5:=@PySem.wpAny_fieldsOf
abbrev Y6:=@PySem.Heap.size_push
abbrev Y7:=@PyProof.Rows.wpS_get
abbrev Y8:=@Bool.not_false
abbrev Y9:=@PySem.Calls.spliced_nil
abbrev Aaa:=@PySem.F.args_tuple_iterator_next_1
abbrev Aab:=@PySem.wpAny_loadPart_at
abbrev Aac:=@PySem.WalksT.enumerateD
abbrev Aad:=@PySem.wpAny_pyIter_enum
abbrev Aae:=@Option.some.injEq
abbrev Aaf:=@List.filter_congr
abbrev Aag:=@Nat.lt_trichotomy
abbrev Aah:=@PySem.Calls.callWith_builtin
abbrev Aai:=@PySem.F.entry_tuple_iterator_next
abbrev Aaj:=@List.filter_eq_nil_iff
abbrev Aak:=@PySem.wpAny_attempt
abbrev Aal:=@List.all_eq_true
abbrev Aam:=@PySem.wpAny_isInstance
abbrev Aan:=@Nat.lt_succ_self
abbrev Aao:=@PySem.builtinLookup_eq_fast
abbrev Aap:=@PySem.wpAny_isOneOf_keyiter
abbrev Aaq:=@PySem.Obj.isFreed_of_fields
abbrev Aar:=@List.pairwise_reverse
abbrev Aas:=@PySem.wpAny_execs_nil
abbrev Aat:=@PySem.wpAny_newFunctionEnv
abbrev Aau:=@PySem.wpAny_typeOf
abbrev Aav:=@Int.emod_nonneg
abbrev Aaw:=@List.reverse_reverse
abbrev Aax:=@List.filter_map
abbrev Aay:=@List.reverse_append
abbrev Aaz:=@PySem.W.codeHd_of_K
abbrev Aa0:=@List.nodup_nil
abbrev Aa1:=@Nat.add_mul
abbrev Aa2:=@PySem.tupleKind_room_in1
namespace L2
open PySem PySem.Spec PyProof.Rows
abbrev Key:=Sum Int Str
def jfk:Key->Value->Bool
 |.inl k,v=>Value.isInt k v
 |.inr x,v=>Value.isStrOf x v
def keyH(w:World):Key->Int
 |.inl k=>hashInt k
 |.inr x=>hashStr w x
theorem jcx:∀{k:Key}{v:Value},jfk k v=true->(∃i t,k=Sum.inl i/\v=Value.int i t)\/(∃x t,k=Sum.inr x/\v=Value.str x t)
 |.inl i,v,h=>by
  obtain⟨t,e⟩:=Value.isInt_shape (k:=i) (v:=v) h;exact .inl ⟨i,t,rfl,e⟩
 |.inr x,v,h=>by
  obtain⟨t,e⟩:=Value.isStrOf_shape (x:=x) (v:=v) h;exact .inr ⟨x,t,rfl,e⟩
theorem jp7(i:Int)(t:Tok):jfk (.inl i) (.int i t)=true:=by simp[jfk,Value.isInt]
theorem jp8(x:Str)(t:Tok):jfk (.inr x) (.str x t)=true:=by simp[jfk,Value.isStrOf]
theorem jtu(a b:Int):decide ((Sum.inl a:Key)=Sum.inl b)=(a == b):=by
 by_cases e:a=b
 .subst e;simp
 .have h:¬(Sum.inl a:Key)=Sum.inl b:=λq=>e (Sum.inl.inj q);rw[O3 h];exact(Ue.mpr e).symm
theorem jtx(a b:Str):decide ((Sum.inr a:Key)=Sum.inr b)=decide (a=b):=by
 by_cases e:a=b
 .subst e;simp
 .have h:¬(Sum.inr a:Key)=Sum.inr b:=λq=>e (Sum.inr.inj q);rw[O3 h,O3 e]
theorem jtv(a:Int)(b:Str):decide ((Sum.inl a:Key)=Sum.inr b)=false:=O3 (λq=>nomatch q)
theorem jtw(a:Str)(b:Int):decide ((Sum.inr a:Key)=Sum.inl b)=false:=O3 (λq=>nomatch q)
def jck(prog:Program)(w:World):PySem.KeyKind prog w Key where
 is:=jfk
 hash:=keyH w
 inj:=λv a b ha hb=>by
  rcases jcx ha with⟨i,t,rfl,rfl⟩|⟨x,t,rfl,rfl⟩
  .rcases jcx hb with⟨j,u,rfl,e⟩|⟨y,u,rfl,e⟩
   .injection e with e1 _;rw[e1]
   .exact nomatch e
  .rcases jcx hb with⟨j,u,rfl,e⟩|⟨y,u,rfl,e⟩
   .exact nomatch e
   .injection e with e1 _;rw[e1]
 byValue:=λk v h=>by
  rcases jcx h with⟨i,t,rfl,rfl⟩|⟨x,t,rfl,rfl⟩ <;> rfl
 pyHash:=λhv h=>by
  rcases jcx hv with⟨i,t,rfl,rfl⟩|⟨x,t,rfl,rfl⟩
  .exact wpAny_pyHash_int h
  .exact wpAny_pyHash_str h
 eqBool:=λhu hv h=>by
  rcases jcx hu with⟨i,t,rfl,rfl⟩|⟨x,t,rfl,rfl⟩
  .rcases jcx hv with⟨j,u,rfl,rfl⟩|⟨y,u,rfl,rfl⟩
   .rw[jtu]at h;exact wpAny_eqBool_int h
   .rw[jtv]at h;exact SeqAt.EqAt.int_str i t y u _ _ _ _ h
  .rcases jcx hv with⟨j,u,rfl,rfl⟩|⟨y,u,rfl,rfl⟩
   .rw[jtw]at h;exact SeqAt.EqAt.str_int x t j u _ _ _ _ h
   .rw[jtx]at h;exact wpAny_eqBool_str h
 «strs»:=λk x t v h=>by
  rcases jcx h with⟨i,u,rfl,e⟩|⟨y,u,rfl,e⟩
  .exact nomatch e
  .injection e with e1 _;subst e1
   cases v <;> rfl
theorem jmk(prog:Program)(w:World)(i:Int)(t:Tok):(jck prog w).is (.inl i) (.int i t)=true:=jp7 i t
theorem jml(prog:Program)(w:World)(x:Str)(t:Tok):(jck prog w).is (.inr x) (.str x t)=true:=jp8 x t
inductive V where
 |non|bl (b:Bool)|int (i:Int)|str (x:Str)|byt (b:Array UInt8)|flt (b:UInt64)|ref (a:Addr)|ty (n:String)
 deriving DecidableEq
def RelV:V->Value->Prop
 |.non,u=>u=Value.none
 |.bl b,u=>u=Value.bool b
 |.int i,u=>∃t,u=Value.int i t
 |.str x,u=>∃t,u=Value.str x t
 |.byt b,u=>∃t,u=Value.bytes b t
 |.flt b,u=>∃t,u=Value.float b t
 |.ref a,u=>u=Value.ref a
 |.ty n,u=>u=Value.type n
abbrev Vals:List V->List Value->Prop:=Paired RelV
variable{us:List Value}{xs:List V}
theorem Vals.length(r:Vals xs us):xs.length=us.length:=Iw r
theorem Vals.get:∀{xs:List V}{us:List Value}{i:Nat}{x:V},Vals xs us->xs[i]?=some x->∃u,us[i]?=some u/\RelV x u
 |_,_,_,_,.nil,e=>by simp at e
 |_,_,0,_,.cons r _,e=>by simp at e;subst e;exact⟨_,rfl,r⟩
 |_,_,i+1,x,.cons _ t,e=>by
  obtain⟨u,b,a⟩:=Vals.get (i:=i) (x:=x) t (by simpa using e);exact⟨u,by simpa using b,a⟩
theorem Vals.set{x:V}{u:Value}(r:RelV x u):∀{xs:List V}{us:List Value}(i:Nat),Vals xs us->Vals (xs.set i x) (us.set i u)
 |_,_,_,.nil=>.nil
 |_,_,0,.cons _ t=>.cons r t
 |_,_,i+1,.cons q t=>.cons q (Vals.set r i t)
theorem Vals.append:∀{xs ys:List V}{us ws:List Value},Vals xs us->Vals ys ws->Vals (xs++ys) (us++ws)
 |_,_,_,_,.nil,s=>s
 |_,_,_,_,.cons r t,s=>.cons r (Vals.append t s)
def RelO:Option V->Option Value->Prop
 |some v,some u=>RelV v u
 |none,none=>True
 |_,_=>False
def KV{κ:Type}:List (κ×V)->List (κ×Value)->Prop:=Paired fun(p:κ×V) (q:κ×Value)=>p.1=q.1/\RelV p.2 q.2
def kV:Key->V
 |.inl i=>.int i
 |.inr x=>.str x
inductive HO where
  |lst (xs:List V)
  |tup (xs:List V)
  |dK (kvs:List (Key×V))|dT (kvs:List (List Key×V))
  |set (S:Int->Bool) (n:Nat)
  |ins (C dx:Addr) (fs:List (Str×V))
  |own (x:Addr)
  |xd (fs:List (Str×V))
  |met (f x:Addr)
  |rng (lo hi:Int)
  |frz (o:Obj) (u:HO)
  |tbl (ps:Array Value)
  |ext (φ:Heap->Prop)
abbrev Hp:=Addr->Option HO
def upd(H:Hp)(a:Addr)(o:HO):Hp:=λb=>if b=a then some o else H b
variable{H:Hp}{a:Addr}{o:HO}
theorem jb:upd H a o a=some o:=by unfold upd;rw[Al rfl]
variable{b:Addr}
theorem jd(h:b≠a):upd H a o b=H b:=by unfold upd;rw[Ai h]
theorem jfb{u:HO}:upd (upd H a o) a u=upd H a u:=by
 funext b;unfold upd;split <;> rfl
theorem jop{u:HO}(h:H a=some o)(h':H b=some u)(d:o≠u):a≠b:=by
 intro e;subst e;rw[h]at h';exact d (Aw h')
theorem je(h:H a=some o)(h':H b=none):a≠b:=by
 intro e;subst e;rw[h]at h';cases h'
section
variable(P:Program)(w:World)
def ObjOk(H:Hp)(h:Heap)(a:Addr):HO->Prop
 |.lst xs=>xs.length<=sizeLine/\∃(its:List Value)(n:Nat),Vals xs its/\h.get? a=some {cls:=.type "list",data:=.seq its.toArray n}
 |.tup xs=>xs.length<=sizeLine/\∃its:List Value,Vals xs its/\IsTup h a its.toArray
 |.dK kvs=>kvs.length<=sizeLine/\(a == sysModules)=false/\∃vs,KV kvs vs/\h.DictOf (jck P w) a vs
 |.dT kvs=>kvs.length<=sizeLine/\(a == sysModules)=false/\∃xs:List (List Key×Addr×Value),
   Paired (fun(p:List Key×V) (q:List Key×Addr×Value)=>p.1=q.1/\H q.2.1=some (.tup (p.1.map kV))/\RelV p.2 q.2.2) kvs xs /\
   ∃o es ep,h.get? a=some o/\o.ExactDict/\o.data=.dict es ep/\es.toList=xs.map (entryOfKey (tupleKind (jck P w)))/\(xs.map (·.1)).Nodup
 |.set S n=>h.SetOf (intKind P w) a S n
 |.ins C dx fs=>H dx=some (.own a)/\fs.length<=1000/\dx≠a/\h.get? a=some (PySem.W.instObj C dx) /\
   ∃mA,h.Ns1 dx mA/\(∀f,RelO (fs.lookup f) (mA f))/\PySem.Within mA (fs.map (·.1))
 |.own _=>∃o,h.get? a=some o
 |.xd fs=>∃mA,h.Ns1 a mA/\∀f,RelO (fs.lookup f) (mA f)
 |.rng lo hi=>∃t u v,h.get? a=some {cls:=.type "range",data:=.fields #[.int lo t,.int hi u,.int 1 v]}
 |.frz o u=>h.get? a=some o/\ObjOk H h a u
 |.tbl ps=>h.get? a=some {cls:=.none,data:=.fields ps}
 |.met f x=>h.get? a=some (PySem.W.methodObj (.ref f) (.ref x))
 |.ext φ=>φ h/\(∃o,h.get? a=some o)/\∀h1 h2:Heap,φ h1->(∀o,h1.get? a=some o->h2.get? a=some o)->φ h2
def HOk(H:Hp)(h:Heap):Prop:=∀a o,H a=some o->ObjOk P w H h a o
end
section
variable{P:Program}{w:World}{H H':Hp}{h h':Heap}{a:Addr}{o:HO}
theorem ObjOk.lt(x:ObjOk P w H h a o):a<h.objs.size:=by
 cases o with
 |lst xs=>obtain⟨_,_,_,_,e⟩:=x;exact Ax e
 |tup xs=>obtain⟨_,_,_,p⟩:=x;exact p.lt
 |dK kvs=>obtain⟨_,_,_,_,o,_,_,e,_⟩:=x;exact Ax e
 |dT kvs=>obtain⟨_,_,_,_,o,_,_,e,_⟩:=x;exact Ax e
 |set S n=>obtain⟨o,_,_,_,e,_⟩:=x;exact Ax e
 |ins C dx fs=>obtain⟨_,_,_,e,_⟩:=x;exact Ax e
 |own y=>obtain⟨_,e⟩:=x;exact Ax e
 |xd fs=>obtain⟨_,⟨_,_,_,e,_⟩,_⟩:=x;exact Ax e
 |rng lo hi=>obtain⟨_,_,_,e⟩:=x;exact Ax e
 |frz ob u=>obtain⟨e,_⟩:=x;exact Ax e
 |tbl ps=>exact Ax (show h.get? a=some _ from x)
 |met f y=>exact Ax (show h.get? a=some _ from x)
 |ext φ=>obtain⟨_,⟨_,e⟩,_⟩:=x;exact Ax e
theorem Paired.mapP{α β:Type}{F G:α->β->Prop}:∀{l₁:List α}{l₂:List β},Paired F l₁ l₂->(∀a b,F a b->G a b)->Paired G l₁ l₂
 |_,_,.nil,_=>.nil
 |_,_,.cons r t,f=>.cons (f _ _ r) (Paired.mapP t f)
theorem ObjOk.stay(x:ObjOk P w H h a o)(k:∀b u,(b=a\/H b=some (.own a))->h.get? b=some u->h'.get? b=some u)
  (F:∀b,H b=some (.own a)->H' b=some (.own a)) (E:∀b xs,H b=some (.tup xs)->H' b=some (.tup xs)):ObjOk P w H' h' a o:=by
 induction o with
 |lst xs=>obtain⟨z,l,n,r,e⟩:=x;exact⟨z,l,n,r,k _ _ (.inl rfl) e⟩
 |tup xs=>obtain⟨z,l,r,g,e,c⟩:=x;exact⟨z,l,r,g,k _ _ (.inl rfl) e,c⟩
 |dK kvs=>obtain⟨z,y,B,r,g,i,j,e,c⟩:=x;exact⟨z,y,B,r,g,i,j,k _ _ (.inl rfl) e,c⟩
 |dT kvs =>
  obtain⟨z,y,xs,r,g,i,j,e,c⟩:=x
  exact⟨z,y,xs,Paired.mapP r λp q z=>⟨z.1,E _ _ z.2.1,z.2.2⟩,g,i,j,k _ _ (.inl rfl) e,c⟩
 |set S n=>obtain⟨g,i,j,t,e,c⟩:=x;exact⟨g,i,j,t,k _ _ (.inl rfl) e,c⟩
 |ins C dx fs =>
  obtain⟨d,z,D,e,s,⟨m,i,j,G,c⟩,r⟩:=x
  exact⟨F _ d,z,D,k _ _ (.inl rfl) e,s,⟨m,i,j,k _ _ (.inr d) G,c⟩,r⟩
 |own y=>obtain⟨g,e⟩:=x;exact⟨g,k _ _ (.inl rfl) e⟩
 |xd fs=>obtain⟨s,⟨m,i,j,e,c⟩,r⟩:=x;exact⟨s,⟨m,i,j,k _ _ (.inl rfl) e,c⟩,r⟩
 |rng lo hi=>obtain⟨t,u,v,e⟩:=x;exact⟨t,u,v,k _ _ (.inl rfl) e⟩
 |frz g u ih=>obtain⟨e,q⟩:=x;exact⟨k _ _ (.inl rfl) e,ih q⟩
 |tbl ps =>
  have e:h.get? a=some {cls:=.none,data:=.fields ps}:=x
  show h'.get? a=some {cls:=.none,data:=.fields ps}
  exact k a _ (.inl rfl) e
 |met f y =>
  have e:h.get? a=some (PySem.W.methodObj (.ref f) (.ref y)):=x
  show h'.get? a=some (PySem.W.methodObj (.ref f) (.ref y))
  exact k a _ (.inl rfl) e
 |ext φ=>obtain⟨p,⟨o,e⟩,A⟩:=x;exact⟨A _ _ p λo q=>k _ _ (.inl rfl) q,⟨o,k _ _ (.inl rfl) e⟩,A⟩
theorem HOk.lt(x:HOk P w H h)(e:H a=some o):a<h.objs.size:=(x a o e).lt
theorem HOk.fresh(x:HOk P w H h)(e:h.objs.size<=a):H a=none:=by
 cases q:H a with
 |none=>rfl
 |some u=>exact absurd (Ic (x.lt q) e) (Yb _)
theorem HOk.kept(x:HOk P w H h)(k:∀b u,h.get? b=some u->h'.get? b=some u):HOk P w H h':=λa o e =>
 (x a o e).stay (λb u _ q=>k b u q) (λ_ q=>q) λ_ _ q=>q
theorem HOk.laid(x:HOk P w H h)(k:∀b u,h.get? b=some u->h'.get? b=some u)(hp:h.objs.size<=a)(new:ObjOk P w (upd H a o) h' a o):HOk P w (upd H a o) h':=λb u e=>by
 have d:=x.fresh hp;by_cases hb:b=a
 .subst hb;rw[jb]at e;cases e;exact new
 .rw[jd hb]at e;exact(x b u e).stay (λc v _ q=>k c v q) (λc q=>by rw[jd (je q d)];exact q) λc f q=>by rw[jd (je q d)];exact q
end
def Rd(H:Hp)(a:Addr)(u:HO):Prop:=H a=some u\/∃o,H a=some (.frz o u)
variable{P:Program}{h:Heap}{w:World}
theorem Rd.ok{u:HO}(r:Rd H a u)(x:HOk P w H h):ObjOk P w H h a u:=by
 rcases r with r|⟨o,r⟩
 .exact x a u r
 .obtain⟨_,q⟩:=x a _ r;exact q
def Mut:Option HO->Prop
 |some (.lst _)=>True
 |some (.dK _)=>True
 |some (.dT _)=>True
 |some (.set _ _)=>True
 |some (.ins _ _ _)=>True
 |some (.ext _)=>True
 |_=>False
section
variable{P:Program}{w:World}{H:Hp}{h h':Heap}{x e:Addr}{o':HO}
theorem HOk.write(ok:HOk P w H h)(g:Mut (H x))(m:e=x\/H e=some (.own x))(k:∀b u,b≠e->h.get? b=some u->h'.get? b=some u)(j:∃u,h'.get? e=some u)
  (new:ObjOk P w (upd H x o') h' x o'):HOk P w (upd H x o') h':=λb u q=>by
 have a:∀c y,H c=some (.own y)->c≠x:=λc y r z=>by subst z;rw[r]at g;exact g
 have d:∀c f,H c=some (.tup f)->c≠x:=λc f r z=>by subst z;rw[r]at g;exact g
 by_cases hb:b=x
 .subst hb;rw[jb]at q;cases q;exact new
 .rw[jd hb]at q
  by_cases hbe:b=e
  .have l:H b=some (.own x):=by
    rcases m with z|z
    .exact absurd (hbe.trans z) hb
    .rw[hbe];exact z
   rw[q]at l;cases l
   obtain⟨v,n⟩:=j
   exact⟨v,by rw[hbe];exact n⟩
  .refine(ok b u q).stay (λc v i r=>k c v ?_ r) (λc r=>by rw[jd (a c b r)];exact r) λc f r=>by rw[jd (d c f r)];exact r
   rcases i with rfl|i
   .exact hbe
   .rintro rfl
    rcases m with z|z
    .exact a c b i z
    .rw[i]at z;cases z;exact hb rfl
end
structure Un(fs ex:List Addr)(H H':Hp)(h h':Heap):Prop where
 keep:∀b o,h.get? b=some o->H b=none->b∉fs->b∉ex->h'.get? b=some o
 slot:∀b o,h.get? b=some o->H b=none->b∈fs->b∉ex->∃sl,h'.get? b=some {o with slots:=sl}
 free:∀b o,h.get? b=some o->H b=none->b∉ex->H' b=none
 there:∀b o,h.get? b=some o->b∉ex->∃o',h'.get? b=some o'
 tups:∀b xs,H b=some (.tup xs)->H' b=some (.tup xs)
 frzs:∀b o u,H b=some (.frz o u)->H' b=some (.frz o u)
 tbls:∀b ps,H b=some (.tbl ps)->∃more,H' b=some (.tbl (ps++more))
section
variable{fs fs' ex ex':List Addr}{H H1 H2:Hp}{h h1 h2 h':Heap}{a x e:Addr}{o:HO}
theorem Un.any(u:Un fs ex H H1 h h1){a:Obj}(q:h.get? b=some a)(n:H b=none)(c:b∉ex):∃sl,h1.get? b=some {a with slots:=sl}:=by
 by_cases hb:b∈fs
 .exact u.slot b a q n hb c
 .exact⟨a.slots,u.keep b a q n hb c⟩
theorem Un.kept(k:∀b u,h.get? b=some u->h'.get? b=some u):Un fs ex H H h h' :=
 ⟨λb a q _ _ _=>k b a q,λb a q _ _ _=>⟨a.slots,k b a q⟩,λ_ _ _ n _=>n,λb a q _=>⟨a,k b a q⟩,λ_ _ q=>q,λ_ _ _ q=>q,λ_ c q=>⟨#[],by rw[q];simp⟩⟩
theorem Un.refl:Un fs ex H H h h:=Un.kept λ_ _ q=>q
theorem Un.laid(k:∀b u,h.get? b=some u->h'.get? b=some u)(hp:h.objs.size<=a)(hn:H a=none):Un fs ex H (upd H a o) h h' where
 keep:=λb u q _ _ _=>k b u q
 slot:=λb u q _ _ _=>⟨u.slots,k b u q⟩
 free:=λb u q n _=>by rw[jd (A2 (Ic (Ax q) hp))];exact n
 there:=λb u q _=>⟨u,k b u q⟩
 tups:=λb c q=>by rw[jd (je q hn)];exact q
 frzs:=λb u c q=>by rw[jd (je q hn)];exact q
 tbls:=λb d q=>⟨#[],by rw[jd (je q hn),q];simp⟩
theorem Un.write(a:Mut (H x))(l:e=x\/H e=some (.own x))(k:∀b u,b≠e->h.get? b=some u->h'.get? b=some u)(d:∃u,h'.get? e=some u):Un fs ex H (upd H x o) h h':=by
 have f:∀b,H b=none->b≠x:=λb n z=>by subst z;rw[n]at a;exact a
 have g:∀b,H b=none->b≠e:=λb n z=>by
  subst z;rcases l with r|r
  .exact f b n r
  .rw[n]at r;cases r
 have c:∀b u,H b=some u->¬Mut (some u)->b≠x:=λb u q j z=>by subst z;rw[q]at a;exact j a
 refine⟨λb u q n _ _=>k b u (g b n) q,λb u q n _ _=>⟨u.slots,k b u (g b n) q⟩,λb u q n _=>by rw[jd (f b n)];exact n,λb u q _=>?_,
  λb i q=>by rw[jd (c b _ q λz=>z)];exact q,λb u i q=>by rw[jd (c b _ q λz=>z)];exact q,λb m q=>⟨#[],by rw[jd (c b _ q λz=>z),q];simp⟩⟩
 by_cases hbe:b=e
 .subst hbe;exact d
 .exact⟨u,k b u hbe q⟩
end
def trk(h:Heap)(H:Hp):List Addr:=(List.range h.objs.size).filter λa=>(H a).isSome
def hidT(h:Heap)(H:Hp):Heap:=PySem.W.hideAll h (trk h H)
theorem jpz(h:Heap)(H:Hp):(hidT h H).objs.size=h.objs.size:=PySem.W.hideAll_size _ _
theorem jre{o:Obj}(e:h.get? b=some o)(n:H b=none):(hidT h H).get? b=some o :=
 PySem.W.hideAll_get _ e λa=>by
  have q:(H b).isSome=true:=(Iy.mp a).2;rw[n]at q;simp at q
theorem jtc{o:Obj}(e:(hidT h H).get? b=some o):h.get? b=some o/\H b=none:=by
 have a:h.get? b=some o:=PySem.W.of_hideAll (trk h H) e;refine⟨a,?_⟩
 cases q:H b with
 |none=>rfl
 |some x =>
  have c:b∈trk h H:=Iy.mpr ⟨Av.mpr (Ax a),by simp[q]⟩;have z:(hidT h H).get? b=none:=PySem.W.hideAll_none (trk h H) c;rw[z]at e;cases e
structure Mod(K:PySem.W.Frag)(mg:Str->Option Value)(base:Heap):Prop where
 kin:K.In base
 glob:base.Ns mainGlobals mg
 blt:∃mb,base.Ns builtinsNs mb/\∀x:Str,x≠"__name__"->mb x=bootBuiltins x
 nolimit:base.NoLimit
structure Cx where
 prog:Program
 w:World
 K:PySem.W.Frag
 mg:Str->Option Value
 base:Heap
 A:Around
 N:List Str
 s₀:Shared
 H₀:Hp
 env:Env
 outer:List Env
 stack:List Env
 ex:List Addr
 fn:Str->Bool
 calm:Bool
 pn:List (Addr×Obj)
 xe:Value->Shared->Prop
def frs(l:List Env):List Addr:=l.filterMap (·.frame)
abbrev Cx.fs(X:Cx):List Addr:=frs X.outer
def Vis(sc:Scope)(x:Str):Prop:=sc.names.lookup x=some .local\/sc.names.lookup x=some .cell\/sc.names.lookup x=some .free
def Loc(sc:Scope)(x:Str):Prop:=sc.names.lookup x=some .local\/sc.names.lookup x=some .cell
def Look(env:Env)(h:Heap)(m:Str->Option Value)(x:Str)(u:Value):Prop :=
 (env.kindOf x=some .local/\m x=some u)\/((env.kindOf x=some .cell\/env.kindOf x=some .free)/\∃c,env.cells.lookup x=some c/\h.IsCell c (some u))
structure Cx.Ok(X:Cx):Prop where
 mod:Mod X.K X.mg X.base
 kind:X.env.scope.kind=.function
 glob:X.env.globals=mainGlobals
 blt:X.env.builtins=builtinsNs
 above:X.s₀.heap.objs.size<=X.env.locals
 inj:∀x y c,X.env.cells.lookup x=some c->X.env.cells.lookup y=some c->x=y
 has:∀x,(X.env.kindOf x=some .cell\/X.env.kindOf x=some .free)->∃c,X.env.cells.lookup x=some c
 cab:∀x c,X.fn x=true->X.env.cells.lookup x=some c->X.s₀.heap.objs.size<=c
 hd:X.calm=true->X.A.handled=none
 frames:X.A.frames=some X.stack
 stk:X.stack=X.outer\/(X.stack=X.env::X.outer/\X.env.frame=some X.env.locals)
 exf:∀b∈X.ex,b≠X.env.locals/\∀x c,X.env.cells.lookup x=some c->c≠b
 bs:∀b o,X.base.get? b=some o->X.s₀.heap.get? b=some o/\X.H₀ b=none
 bsz:X.base.objs.size<=X.s₀.heap.objs.size
 noex:∀b o,X.base.get? b=some o->b∉X.ex
 exfs:∀b∈X.ex,b∉X.fs
 funs:X.s₀.heap.FunFrames X.base X.outer
 frf:∀b∈X.fs,X.H₀ b=none
structure Inv(X:Cx)(pins:List (Addr×Obj))(σ:List (Option V))(H:Hp)(s:Shared):Prop where
 ok:X.Ok
 os:s.os=X.s₀.os
 bare:AllBare s.gens
 base:Un X.fs X.ex X.H₀ H X.s₀.heap s.heap
 loc:∃m,s.heap.Ns X.env.locals m/\∀(i:Nat)(x:Str)(v:V),X.N[i]?=some x->σ[i]?=some (some v)->Vis X.env.scope x->∃u,RelV v u/\Look X.env s.heap m x u
 cell:∀x c,X.env.cells.lookup x=some c->∃v,s.heap.IsCell c v
 free:H X.env.locals=none
 freeC:∀x c,X.env.cells.lookup x=some c->H c=none
 pin:∀p∈X.pn++pins,s.heap.get? p.1=some p.2/\H p.1=none/\p.1≠X.env.locals/\p.1∉X.fs/\∀v,p.2.data≠.cell v
 hok:HOk X.prog X.w H s.heap
 len:σ.length=X.N.length
variable{A:Around}{E:Value->Shared->Prop}{M:Model}{N:List Str}{ch:List Addr}{i t':Nat}{u:Value}{v:V}
section
variable{X:Cx}{pins:List (Addr×Obj)}{σ:List (Option V)}{H H':Hp}{s:Shared}{h':Heap}
theorem Cx.Ok.nofr(ok:X.Ok){o:Obj}(e:X.base.get? b=some o):b∉X.fs:=λa=>by
 have:=(ok.funs.mem a).1;rw[e]at this;cases this
theorem Inv.bs(I:Inv X pins σ H s):∀b o,X.base.get? b=some o->s.heap.get? b=some o/\H b=none:=λb o e =>
 ⟨I.base.keep b o (I.ok.bs b o e).1 (I.ok.bs b o e).2 (I.ok.nofr e) (I.ok.noex b o e),I.base.free b o (I.ok.bs b o e).1 (I.ok.bs b o e).2 (I.ok.noex b o e)⟩
theorem Inv.bk(I:Inv X pins σ H s):∀b o,X.base.get? b=some o->s.heap.get? b=some o:=λb o e=>(I.bs b o e).1
theorem Inv.mod(I:Inv X pins σ H s):Mod X.K X.mg X.base:=I.ok.mod
theorem Inv.kIn(I:Inv X pins σ H s):X.K.In s.heap:=I.ok.mod.kin.keeps I.bk
theorem Inv.lt(I:Inv X pins σ H s):X.env.locals<s.heap.objs.size:=let⟨_,hn,_⟩:=I.loc;hn.lt
theorem Inv.sz(I:Inv X pins σ H s):X.s₀.heap.objs.size<=s.heap.objs.size:=Og I.ok.above (Yv I.lt)
theorem Inv.nofs(I:Inv X pins σ H s)(h:s.heap.objs.size<=a):a∉X.fs:=λc=>by
 obtain⟨_,o,b,_⟩:=I.ok.funs.mem c;exact absurd (Ic (Ax b) (Og I.sz h)) (Yb _)
theorem Inv.cne(I:Inv X pins σ H s):∀x c,X.env.cells.lookup x=some c->c≠X.env.locals:=λx c e z=>by
 obtain⟨v,o,d,f⟩:=I.cell x c e;obtain⟨m,⟨g,h,i,a,b,_⟩,_⟩:=I.loc;rw[z,a]at d;cases d;rw[b]at f;cases f
theorem Inv.funs(I:Inv X pins σ H s):s.heap.FunFrames X.base X.outer:=by
 have f:∀(l:List Env),(∀b∈frs l,b∈X.fs)->X.s₀.heap.FunFrames X.base l->s.heap.FunFrames X.base l:=by
  intro l;induction l with
  |nil=>intro _ _;trivial
  |cons env r ih =>
   intro g k;obtain⟨m,⟨L,o,a,j,i,n⟩,h⟩:=k;have d:L∈X.fs:=g L (by unfold frs;rw[List.filterMap_cons,a];exact O7);obtain⟨p,e⟩:=I.base.slot L o i (I.ok.frf L d) d λz=>I.ok.exfs L z d;exact⟨m,⟨L,_,a,j,e,n⟩,ih (λb c=>g b (by unfold frs;rw[List.filterMap_cons,a];exact Ov _ c)) h⟩
 exact f X.outer (λ_ c=>c) I.ok.funs
theorem Inv.stack(I:Inv X pins σ H s):s.heap.FunFrames X.base X.stack:=by
 rcases I.ok.stk with e|⟨e,b⟩
 .rw[e];exact I.funs
 .rw[e];obtain⟨m,a,_⟩:=I.loc;refine .cons (by rw[I.ok.kind];decide) b a ?_ I.funs;exact Heap.get?_none_of_le (Og I.ok.bsz I.ok.above)
theorem Inv.stkSub(I:Inv X pins σ H s):∀b∈frs X.stack,b∈X.env.locals::X.fs:=λb a=>by
 rcases I.ok.stk with e|⟨e,c⟩
 .rw[e]at a;exact Ov _ a
 .rw[e]at a;unfold frs at a;rw[List.filterMap_cons,c]at a;exact a
theorem Inv.stkFree(I:Inv X pins σ H s):∀b∈frs X.stack,H b=none:=λb a=>by
 rcases At.mp (I.stkSub b a)with e|a
 .rw[e];exact I.free
 .obtain⟨_,o,c,_⟩:=I.ok.funs.mem a;exact I.base.free b o c (I.ok.frf b a) λz=>I.ok.exfs b z a
theorem Inv.step{g':Array GenState}{d':Drawn}(I:Inv X pins σ H s)
  (g:∀b∈ch,(b∈X.ex\/X.s₀.heap.objs.size<=b)/\b≠X.env.locals/\(∀x c,X.env.cells.lookup x=some c->c≠b)/\∀p∈X.pn++pins,p.1≠b)
  (keep:∀b o,b≠X.env.locals->b∉X.fs->b∉ch->s.heap.get? b=some o->H b=none->h'.get? b=some o)
  (slot:∀b o,b≠X.env.locals->b∈X.fs->b∉ch->s.heap.get? b=some o->H b=none->∃sl,h'.get? b=some {o with slots:=sl}) (free:∀b o,b∉ch->s.heap.get? b=some o->H b=none->H' b=none)
  (there:∀b o,b∉ch->s.heap.get? b=some o->∃o',h'.get? b=some o')
  (tups:∀b xs,H b=some (.tup xs)->H' b=some (.tup xs)) (frzs:∀b o u,H b=some (.frz o u)->H' b=some (.frz o u)) (tbls:∀b ps,H b=some (.tbl ps)->∃more,H' b=some (.tbl (ps++more)))
  (ns:∀m,s.heap.Ns X.env.locals m->h'.Ns X.env.locals m) (hok:HOk X.prog X.w H' h') (hg:AllBare g') :
  Inv X pins σ H' {s with heap:=h',gens:=g',drawn:=d',toks:=t'}:=by
 have C:∀b o,X.s₀.heap.get? b=some o->b≠X.env.locals:=λb o e=>A2 (Ic (Ax e) I.ok.above)
 have t:∀b o,X.s₀.heap.get? b=some o->b∉X.ex->b∉ch:=λb o e a y=>by
  rcases(g b y).1 with z|z
  .exact a z
  .exact absurd (Ic (Ax e) z) (Yb _)
 have h:∀x c,X.env.cells.lookup x=some c->∀v,s.heap.IsCell c v->h'.IsCell c v:=λx c e v ⟨o,A,D⟩=>by
  have f:c∉ch:=λz=>(g c z).2.2.1 x c e rfl;by_cases hc:c∈X.fs
  .obtain⟨sl,q⟩:=slot c o (I.cne x c e) hc f A (I.freeC x c e);exact⟨_,q,D⟩
  .exact⟨o,keep c o (I.cne x c e) hc f A (I.freeC x c e),D⟩
 refine⟨I.ok,I.os,hg,⟨λb o e n y a=>?_,λb o e n y a=>?_,λb o e n a=>?_,λb o e a=>?_,λb xs e=>tups b xs (I.base.tups b xs e),λb o xs e=>frzs b o xs (I.base.frzs b o xs e),λb ps e=>?_⟩,?_,λx c e=>?_,?_,λx c e=>?_,λp J=>?_,hok,I.len⟩
 .exact keep b o (C b o e) y (t b o e a) (I.base.keep b o e n y a) (I.base.free b o e n a)
 .obtain⟨sl,j⟩:=I.base.slot b o e n y a
  obtain⟨E,B⟩:=slot b _ (C b o e) y (t b o e a) j (I.base.free b o e n a)
  exact⟨E,B⟩
 .obtain⟨o',j⟩:=I.base.there b o e a
  exact free b o' (t b o e a) j (I.base.free b o e n a)
 .obtain⟨o',j⟩:=I.base.there b o e a
  exact there b o' (t b o e a) j
 .obtain⟨L,j⟩:=I.base.tbls b ps e
  obtain⟨K,B⟩:=tbls b _ j
  exact⟨L++K,by rw[B,Array.append_assoc]⟩
 .obtain⟨m,M,N⟩:=I.loc
  refine⟨m,ns m M,λi x v j B O=>?_⟩
  obtain⟨u,r,l⟩:=N i x v j B O
  refine⟨u,r,?_⟩
  rcases l with l|⟨k,c,e,z⟩
  .exact .inl l
  .exact .inr ⟨k,c,e,h x c e _ z⟩
 .obtain⟨v,z⟩:=I.cell x c e
  exact⟨v,h x c e v z⟩
 .obtain⟨m,⟨o,_,_,A,_⟩,_⟩:=I.loc
  exact free _ o (λz=>(g _ z).2.1 rfl) A I.free
 .obtain⟨v,o,A,D⟩:=I.cell x c e
  exact free c o (λz=>(g c z).2.2.1 x c e rfl) A (I.freeC x c e)
 .obtain⟨e,n,G,F,d⟩:=I.pin p J
  have f:p.1∉ch:=λz=>(g p.1 z).2.2.2 p J rfl
  exact⟨keep p.1 p.2 G F f e n,free p.1 p.2 f e n,G,F,d⟩
theorem Inv.un(I:Inv X pins σ H s)(u:Un X.fs [] H H' s.heap h')(hok:HOk X.prog X.w H' h'):Inv X pins σ H' {s with heap:=h',toks:=t'}:=by
 obtain⟨m,⟨o,q,t,g,r⟩,_⟩:=id I.loc;obtain⟨k,j⟩:=u.any g I.free (by simp);exact I.step (g':=s.gens) (d':=s.drawn) (ch:=[]) (λ_ z=>nomatch z) (λb o _ c _ e n=>u.keep b o e n c (by simp)) (λb o _ c _ e n=>u.slot b o e n c (by simp)) (λb o _ e n=>u.free b o e n (by simp)) (λb o _ e=>u.there b o e (by simp)) u.tups u.frzs u.tbls (λp i=>by
  obtain⟨l,d,f,a,h⟩:=i;rw[g]at a;cases a;exact⟨_,d,f,j,h⟩) hok I.bare
theorem Inv.call{g':Array GenState}{d':Drawn}(I:Inv X pins σ H s)(u:Un (frs X.stack) ch H H' s.heap h')(hok:HOk X.prog X.w H' h')(hg:AllBare g')
  (f:∀b∈ch,(b∈X.ex\/X.s₀.heap.objs.size<=b)/\b≠X.env.locals/\(∀x c,X.env.cells.lookup x=some c->c≠b)/\∀p∈X.pn++pins,p.1≠b) :
  Inv X pins σ H' {s with heap:=h',gens:=g',drawn:=d',toks:=t'}:=by
 obtain⟨m,⟨o,A,B,j,r⟩,_⟩:=id I.loc
 obtain⟨t,g⟩:=u.any j I.free λz=>(f _ z).2.1 rfl
 exact I.step (ch:=ch) f (λb o g q a e n=>u.keep b o e n (λz=>(At.mp (I.stkSub b z)).elim g q) a) (λb o _ _ a e n=>u.any e n a) (λb o a e n=>u.free b o e n a) (λb o a e=>u.there b o e a) u.tups u.frzs u.tbls (λy l=>by
  obtain⟨v,h,i,d,k⟩:=l;rw[j]at d;cases d;exact⟨_,h,i,g,k⟩) hok hg
theorem Inv.turned{it:Addr}(I:Inv X pins σ H s)(k:∀b o,b≠it->s.heap.get? b=some o->h'.get? b=some o)(hn:H it=none)(hL:it≠X.env.locals)
  (h1:it∈X.ex\/X.s₀.heap.objs.size<=it) (h2:∀x c,X.env.cells.lookup x=some c->c≠it) (h3:∀p∈X.pn++pins,p.1≠it):Inv X pins σ H {s with heap:=h',toks:=t'}:=by
 have d:∀b u,H b=some u->b≠it:=λb u e z=>by rw[z,hn]at e;cases e
 refine I.step (g':=s.gens) (d':=s.drawn) (ch:=[it]) (λb h=>?_) (λb o _ _ a e _=>k b o (λz=>a (by simp[z])) e) (λb o _ _ a e _=>⟨o.slots,k b o (λz=>a (by simp[z])) e⟩) (λ_ _ _ _ n=>n)
  (λb o a e=>⟨o,k b o (λz=>a (by simp[z])) e⟩) (λ_ _ e=>e) (λ_ _ _ e=>e) (λb l e=>⟨#[],by rw[e];simp⟩) (λm g=>?_) (λb u e=>?_) I.bare
 .have e:b=it:=by simpa using h
  subst e
  exact⟨h1,hL,h2,h3⟩
 .obtain⟨o,i,j,f,r⟩:=g
  exact⟨o,i,j,k _ o (Wy hL) f,r⟩
 .refine(I.hok b u e).stay (λc v a q=>k c v ?_ q) (λ_ q=>q) λ_ _ q=>q
  rcases a with z|z
  .rw[z];exact d b u e
  .exact d c _ z
theorem Inv.tok(I:Inv X pins σ H s)(t:Nat):Inv X pins σ H {s with toks:=t}:=I.un (h':=s.heap) (t':=t) Un.refl I.hok
theorem Inv.kept(I:Inv X pins σ H s)(k:∀b u,s.heap.get? b=some u->h'.get? b=some u):Inv X pins σ H {s with heap:=h',toks:=t'}:=I.un (Un.kept k) (I.hok.kept k)
theorem Inv.laid(I:Inv X pins σ H s)(k:∀b u,s.heap.get? b=some u->h'.get? b=some u)(hp:s.heap.objs.size<=a)(new:ObjOk X.prog X.w (upd H a o) h' a o) :
  Inv X pins σ (upd H a o) {s with heap:=h',toks:=t'}:=I.un (Un.laid k hp (I.hok.fresh hp)) (I.hok.laid k hp new)
theorem Inv.write{x e:Addr}(I:Inv X pins σ H s)(c:Mut (H x))(d:e=x\/H e=some (.own x))(k:∀b u,b≠e->s.heap.get? b=some u->h'.get? b=some u)(a:∃u,h'.get? e=some u)
  (new:ObjOk X.prog X.w (upd H x o) h' x o):Inv X pins σ (upd H x o) {s with heap:=h',toks:=t'}:=I.un (Un.write c d k a) (I.hok.write c d k a new)
theorem Inv.pins_of{a:List (Addr×Obj)}(I:Inv X pins σ H s)(h:∀p∈a,s.heap.get? p.1=some p.2/\H p.1=none/\p.1≠X.env.locals/\p.1∉X.fs/\∀v,p.2.data≠.cell v):Inv X a σ H s :=
 ⟨I.ok,I.os,I.bare,I.base,I.loc,I.cell,I.free,I.freeC,λp b=>(Ar.mp b).elim (λz=>I.pin p (Io _ z)) (h p),I.hok,I.len⟩
theorem jli(hN:N.Nodup){j:Nat}{x:Str}(a:N[i]?=some x)(b:N[j]?=some x):i=j:=by
 obtain⟨f,d⟩:=Ab.mp a;obtain⟨e,c⟩:=Ab.mp b;exact(List.getElem_inj hN).mp (d.trans c.symm)
theorem jf4{x:Str}{Q:Unit->Shared->Prop}(I:Inv X pins σ H s)(hN:X.N.Nodup)(hi:X.N[i]?=some x)(B:Loc X.env.scope x)(r:RelV v u)
  (h:∀s',Inv X pins (σ.set i (some v)) H s'->(∃a,Heap.SameBut a s.heap s'.heap/\(a=X.env.locals\/X.env.cells.lookup x=some a))->Q () s') (hf:X.fn x=true\/X.env.scope.names.lookup x=some .local:=by first|exact .inl rfl|exact .inr rfl|assumption):wpAny M A (storeName X.env x u) Q E s:=by
 obtain⟨m,hn,hl⟩:=id I.loc
 have S:(X.env.scope.kind == .class || (X.env.scope.kind == .module && X.env.locals != X.env.globals))=false:=by rw[I.ok.kind];rfl
 have O:i<σ.length:=by rw[I.len];exact(Ab.mp hi).1
 have K:=I.cne
 have l:∀{a:Addr}{h':Heap},(∃o,s.heap.get? a=some o/\H a=none)->Heap.SameBut a s.heap h'->HOk X.prog X.w H h':=fun{a h'} ha f b ob e=>by
  obtain⟨_,_,C⟩:=ha;refine(I.hok b ob e).stay (λc T t q=>(f.2 c ?_).trans q) (λ_ q=>q) λ_ _ q=>q;rintro rfl;rcases t with rfl|t
  .rw[C]at e;cases e
  .rw[C]at t;cases t
 rcases B with F|F
 .refine wpAny_storeName_local F hn (λh' ab f=>?_) S
  obtain⟨oL,_,_,aa,_⟩:=id hn
  refine h _ ⟨I.ok,I.os,I.bare,⟨λb o e n G B=>?_,λb o e n G B=>?_,I.base.free,λb o e B=>?_,I.base.tups,I.base.frzs,I.base.tbls⟩,⟨_,ab,λj y Y g D e3=>?_⟩,λy c e=>?_,I.free,I.freeC,λp hp=>?_,l ⟨oL,aa,I.free⟩ f,by simpa using I.len⟩ ⟨_,f,.inl rfl⟩
  .exact(f.2 b (A2 (Ic (Ax e) I.ok.above))).trans (I.base.keep b o e n G B)
  .obtain⟨sl,g⟩:=I.base.slot b o e n G B
   exact⟨sl,(f.2 b (A2 (Ic (Ax e) I.ok.above))).trans g⟩
  .obtain⟨o',g⟩:=I.base.there b o e B
   exact⟨o',(f.2 b (A2 (Ic (Ax e) I.ok.above))).trans g⟩
  .by_cases hj:j=i
   .subst hj
    rw[hi]at g;cases g
    rw[Yk O]at D
    cases D
    exact⟨u,r,.inl ⟨F,by simp⟩⟩
   .rw[Yo (Wy hj)]at D
    obtain⟨Z,r',q⟩:=hl j y Y g D e3
    refine⟨Z,r',?_⟩
    rcases q with⟨k,e⟩|⟨k,c,e,z⟩
    .refine .inl ⟨k,?_⟩
     have:y≠x:=λe=>hj (jli hN g (e▸hi))
     simp[this,e]
    .exact .inr ⟨k,c,e,z.sameBut f (K y c e)⟩
  .obtain⟨T,z⟩:=I.cell y c e
   exact⟨T,z.sameBut f (K y c e)⟩
  .obtain⟨e,n,U,nf,d⟩:=I.pin p hp
   exact⟨(f.2 p.1 U).trans e,n,U,nf,d⟩
 .have J:X.fn x=true:=by
   rcases hf with z|z
   .exact z
   .rw[z]at F;cases F
  obtain⟨c,t⟩:=I.ok.has x (.inl F)
  obtain⟨T,z⟩:=I.cell x c t
  refine wpAny_storeName_cell I.ok.kind F t z (λh' P f=>?_)
  obtain⟨oc,L,R⟩:=id z
  refine h {s with heap:=h'} ⟨I.ok,I.os,I.bare,⟨λb o e n G B=>?_,λb o e n G B=>?_,I.base.free,λb o e B=>?_,I.base.tups,I.base.frzs,I.base.tbls⟩,⟨m,hn.sameBut f (Wy (K x c t)),λj y Y g D e3=>?_⟩,λy W e=>?_,I.free,I.freeC,λp hp=>?_,l ⟨oc,L,I.freeC x c t⟩ f,by simpa using I.len⟩ ⟨c,f,.inr t⟩
  .exact(f.2 b (A2 (Ic (Ax e) (I.ok.cab x c J t)))).trans (I.base.keep b o e n G B)
  .obtain⟨sl,g⟩:=I.base.slot b o e n G B
   exact⟨sl,(f.2 b (A2 (Ic (Ax e) (I.ok.cab x c J t)))).trans g⟩
  .obtain⟨o',g⟩:=I.base.there b o e B
   exact⟨o',(f.2 b (A2 (Ic (Ax e) (I.ok.cab x c J t)))).trans g⟩
  .by_cases hj:j=i
   .subst hj
    rw[hi]at g;cases g
    rw[Yk O]at D
    cases D
    exact⟨u,r,.inr ⟨.inl F,c,t,P⟩⟩
   .rw[Yo (Wy hj)]at D
    obtain⟨Z,r',q⟩:=hl j y Y g D e3
    refine⟨Z,r',?_⟩
    rcases q with q|⟨k,W,e,z'⟩
    .exact .inl q
    .refine .inr ⟨k,W,e,z'.sameBut f ?_⟩
     rintro rfl
     exact hj (jli hN g (I.ok.inj _ _ _ e t▸hi))
  .by_cases hcc:W=c
   .subst hcc;exact⟨_,P⟩
   .obtain⟨w2,z2⟩:=I.cell y W e
    exact⟨w2,z2.sameBut f hcc⟩
  .obtain⟨e,n,U,nf,d⟩:=I.pin p hp
   refine⟨(f.2 p.1 ?_).trans e,n,U,nf,d⟩
   intro q
   rw[q,L]at e
   have q':oc=p.2:=Aw e
   exact d T (by rw[<-q'];exact R)
theorem jl6{x:Str}{Q:Unit->Shared->Prop}(I:Inv X pins σ H s)(hN:X.N.Nodup)(hi:X.N[i]?=some x)(a:Loc X.env.scope x)(r:RelV v u)
  (h:∀s',Inv X pins (σ.set i (some v)) H s'->Q () s') (hf:X.fn x=true\/X.env.scope.names.lookup x=some .local:=by first|exact .inl rfl|exact .inr rfl|assumption):wpAny M A (storeName X.env x u) Q E s :=
 jf4 I hN hi a r (λs' b _=>h s' b) hf
theorem Inv.call'{s':Shared}(I:Inv X pins σ H s)(f:s'.os=s.os)(u:Un (frs X.stack) ch H H' s.heap s'.heap)(hok:HOk X.prog X.w H' s'.heap)(hg:AllBare s'.gens)
  (a:∀b∈ch,(b∈X.ex\/X.s₀.heap.objs.size<=b)/\b≠X.env.locals/\(∀x c,X.env.cells.lookup x=some c->c≠b)/\∀p∈X.pn++pins,p.1≠b):Inv X pins σ H' s':=by
 obtain⟨g,g',d',t',d⟩:=s'
 have e:d=s.os:=f
 subst e
 exact I.call (g':=g') (t':=t') (d':=d') u hok hg a
end
abbrev XK:=Value->Option Addr->Hp->Prop
abbrev St:=List (Option V)
abbrev VK:=V->Hp->Prop
abbrev TE:=St->Hp->VK->Prop
abbrev TT:=St->Hp->(Bool->Hp->Prop)->Prop
abbrev TA:=St->Hp->(List V->Hp->Prop)->Prop
structure Ends where
 nx:St->Hp->Prop
 rt:VK
 bk:St->Hp->Prop:=λ_ _=>False
 ct:St->Hp->Prop:=λ_ _=>False
abbrev TS:=Ends->St->Hp->Prop
def EP(X:Cx)(pins:List (Addr×Obj))(σ:St)(Q:VK)(u:Value)(s':Shared):Prop:=∃v H',Inv X pins σ H' s'/\RelV v u/\Q v H'
def TP(X:Cx)(pins:List (Addr×Obj))(σ:St)(Q:Bool->Hp->Prop)(b:Bool)(s':Shared):Prop:=∃H',Inv X pins σ H' s'/\Q b H'
def AP(X:Cx)(pins:List (Addr×Obj))(σ:St)(Q:List V->Hp->Prop)(us:List Value)(s':Shared):Prop:=∃vs H',Inv X pins σ H' s'/\Vals vs us/\Q vs H'
def SP(X:Cx)(pins:List (Addr×Obj))(D:Ends)(f:Flow)(s':Shared):Prop :=
 match f with
 |.next=>∃σ' H',Inv X pins σ' H' s'/\D.nx σ' H'
 |.brk=>∃σ' H',Inv X pins σ' H' s'/\D.bk σ' H'
 |.cont=>∃σ' H',Inv X pins σ' H' s'/\D.ct σ' H'
 |.ret u=>∃v σ' H',Inv X pins σ' H' s'/\RelV v u/\D.rt v H'
def PE(X:Cx)(e:Expr)(t:TE):Prop :=
 ∀(pins:List (Addr×Obj))(s:Shared)(σ:St)(H:Hp)(Q:VK),Inv X pins σ H s->t σ H Q->wpAny (model X.prog X.w) X.A (eval e X.env) (EP X pins σ Q) X.xe s
def PT(X:Cx)(e:Expr)(t:TT):Prop :=
 ∀(pins:List (Addr×Obj))(s:Shared)(σ:St)(H:Hp)(Q:Bool->Hp->Prop),Inv X pins σ H s->t σ H Q->wpAny (model X.prog X.w) X.A (isTrue e X.env (eval e X.env)) (TP X pins σ Q) X.xe s
def PW(X:Cx)(e:Expr)(t:TT):Prop :=
 ∀(whole:Sem Value)(pins:List (Addr×Obj))(s:Shared)(σ:St)(H:Hp)(Q:Bool->Hp->Prop),Inv X pins σ H s->t σ H Q->wpAny (model X.prog X.w) X.A (isTrue e X.env whole) (TP X pins σ Q) X.xe s
variable{X:Cx}{e:Expr}
theorem PW.pt{t:TT}(h:PW X e t):PT X e t:=h _
def PA(X:Cx)(es:List Expr)(t:TA):Prop :=
 ∀(pos:Pos)(pins:List (Addr×Obj))(s:Shared)(σ:St)(H:Hp)(Q:List V->Hp->Prop),Inv X pins σ H s->t σ H Q->wpAny (model X.prog X.w) X.A (spliced (backTo pos (starEach es X.env))) (AP X pins σ Q) X.xe s
def PS(X:Cx)(st:Stmt)(t:TS):Prop :=
 ∀(pins:List (Addr×Obj))(s:Shared)(σ:St)(H:Hp)(D:Ends),Inv X pins σ H s->t D σ H->wpAny (model X.prog X.w) X.A (exec st X.env) (SP X pins D) X.xe s
def PSs(X:Cx)(st:List Stmt)(t:TS):Prop :=
 ∀(pins:List (Addr×Obj))(s:Shared)(σ:St)(H:Hp)(D:Ends),Inv X pins σ H s->t D σ H->wpAny (model X.prog X.w) X.A (execs st X.env) (SP X pins D) X.xe s
variable{s:Shared}
theorem thn{α:Type}{t:Sem α}{Q Q':α->Shared->Prop}(h:wpAny M A t Q E s)(b:∀a s,Q a s->Q' a s):wpAny M A t Q' E s:=Uv h b λ_ _ x=>x
variable{Q:Value->Shared->Prop}{op:CmpOp}{pins:List (Addr×Obj)}{pos:Pos}{σ:St}
section
variable{X:Cx}
def tVar(i:Nat):TE:=λσ H Q=>∃v,σ[i]?=some (some v)/\Q v H
def tC(v:V):TE:=λ_ H Q=>Q v H
theorem jcf{x:Str}(hN:X.N[i]?=some x)(g:Vis X.env.scope x)(hd:(x == ("__debug__":Str))=false:=by decide)(f:(x == ("__classdict__":Str))=false:=by decide):PE X (.Name x pos) (tVar i):=by
 intro d s σ H Q I h;obtain⟨v,e,h⟩:=h;obtain⟨m,j,k⟩:=I.loc;obtain⟨u,r,l⟩:=k i x v hN e g;have b:EP X d σ Q u s:=⟨v,H,I,r,h⟩;rcases l with⟨a,hm⟩|⟨a,c,hc,hcell⟩
 .exact wpAny_Name (wpAny_loadName_local I.ok.kind a j hm b) hd
 .rcases a with a|a
  .exact wpAny_Name (wpAny_loadName_cell I.ok.kind a hc hcell b) hd
  .exact wpAny_Name (wpAny_loadName_free I.ok.kind a hc hcell b f) hd
theorem pe_int{i j pos}:PE X (.Constant (.int i) j pos) (tC (.int i)):=λ_ _ _ H _ I h=>wpAny_Constant_int ⟨.int i,H,I.tok _,⟨_,rfl⟩,h⟩
theorem pe_bl{b j pos}:PE X (.Constant (.bool b) j pos) (tC (.bl b)):=λ_ _ _ H _ I h=>Constant_bool ⟨.bl b,H,I,rfl,h⟩
theorem pe_str{x j pos}:PE X (.Constant (.str x) j pos) (tC (.str x)):=λ_ _ _ H _ I h=>Calls.Constant_str ⟨.str x,H,I.tok _,⟨_,rfl⟩,h⟩
def Gl(X:Cx)(x:Str):Prop:=X.env.kindOf x=some .globalImplicit
theorem jnj{x:Str}(I:Inv X pins σ H s)(hg:Gl X x)(hm:X.mg x=some u)(h:Q u s)
  (hd:(x == ("__debug__":Str))=false:=by decide):wpAny (model X.prog X.w) X.A (eval (.Name x pos) X.env) Q E s :=
 Calls.Name_function_global I.ok.kind hg (Calls.loadGlobal_global (by rw[I.ok.glob];exact I.mod.glob.keeps I.bk) hm h) hd
theorem jdq{x:Str}(I:Inv X pins σ H s)(hg:Gl X x)(hm:X.mg x=none)(a:bootBuiltins x=some u)(h:Q u s)
  (hn:x≠"__name__":=by decide) (hd:(x == ("__debug__":Str))=false:=by decide):wpAny (model X.prog X.w) X.A (eval (.Name x pos) X.env) Q E s:=by
 obtain⟨d,c,b⟩:=I.mod.blt
 exact Calls.Name_function_global I.ok.kind hg (Calls.loadGlobal_builtin (by rw[I.ok.glob];exact I.mod.glob.keeps I.bk) hm (by rw[I.ok.blt];exact c.keeps I.bk) ((b x hn).trans a) h) hd
theorem pe_bltn{x:Str}(hg:Gl X x)(hm:X.mg x=none)(a:bootBuiltins x=some u)(r:RelV v u)(hn:x≠"__name__":=by decide)(hd:(x == ("__debug__":Str))=false:=by decide):PE X (.Name x pos) (tC v) :=
 λ_ _ _ H _ I h=>jdq I hg hm a ⟨v,H,I,r,h⟩ hn hd
variable{a b:Expr}{ta tb:TE}{pos:Pos}
def PC(X:Cx)(op:CmpOp)(a b:Expr)(t:TE):Prop :=
 ∀(pins:List (Addr×Obj))(s:Shared)(σ:St)(H:Hp)(Q:VK),Inv X pins σ H s->t σ H Q ->
  wpAny (model X.prog X.w) X.A (eval a X.env) (λv s₁=>wpAny (model X.prog X.w) X.A (eval b X.env) (λu s₂=>wpAny (model X.prog X.w) X.A (compareOp op v u) (EP X pins σ Q) X.xe s₂) X.xe s₁) X.xe s
def tB(t:TE):TT:=λσ H Q=>t σ H λx H1=>∃c,x=.bl c/\Q c H1
theorem pt_cmp{t:TE}(h:PC X op a b t)(h1:behindInMarks op b=false:=by first|exact nobehind _ (by decide) (by decide)|rfl):PT X (.Compare a [op] [b] pos) (tB t):=by
 intro e s σ H Q I i;refine wpAny_isTrue_Compare1 (thn (h e s σ H _ I i) λv o h1=>thn h1 λu n j=>thn j λc m ⟨x,l,k,f,g⟩=>?_) h1;obtain⟨d,rfl,q⟩:=g
 cases f
 exact U6 ⟨l,k,q⟩
theorem pt_val{t:TE}(h:PE X e t)(g:∀whole,isTrue e X.env whole=(do let v <-whole;standAt e.pos;holding [v] (truthy v)):=by intro _;rfl):PT X e (tB t):=by
 intro a s σ H Q I f;refine isTrue_plain (thn (h a s σ H _ I f) λv k ⟨x,j,i,b,c⟩=>?_) (g _);obtain⟨d,rfl,q⟩:=c
 cases b
 exact U6 ⟨j,i,q⟩
variable{tA tB':TT}{rest:List Expr}
def tAnd(t u:TT):TT:=λσ H Q=>t σ H λc H1=>if c=true then u σ H1 Q else Q false H1
def tOr(t u:TT):TT:=λσ H Q=>t σ H λc H1=>if c=true then Q true H1 else u σ H1 Q
def tNot(t:TT):TT:=λσ H Q=>t σ H λc H1=>Q (!c) H1
theorem pw_and1(ha:PT X a tA):PW X (.BoolOp .And [a] pos) tA:=by
 intro d b s σ H Q I h;refine isTrue_and (thn (ha b s σ H Q I h) λc f e=>?_)
 cases c with
 |true=>exact isTrue_and_nil e
 |false=>exact e
theorem pw_or1(ha:PT X a tA):PW X (.BoolOp .Or [a] pos) tA:=by
 intro d b s σ H Q I h;refine isTrue_or (thn (ha b s σ H Q I h) λc f e=>?_)
 cases c with
 |false=>exact isTrue_or_nil e
 |true=>exact e
theorem pw_and(ha:PT X a tA)(hb:PW X (.BoolOp .And (b::rest) pos) tB'):PW X (.BoolOp .And (a::b::rest) pos) (tAnd tA tB'):=by
 intro i d s σ H Q I h;refine isTrue_and (thn (ha d s σ H _ I h) λc j ⟨g,f,e⟩=>?_)
 cases c with
 |true=>exact hb i d j σ g Q f e
 |false=>exact⟨g,f,e⟩
theorem pw_or(ha:PT X a tA)(hb:PW X (.BoolOp .Or (b::rest) pos) tB'):PW X (.BoolOp .Or (a::b::rest) pos) (tOr tA tB'):=by
 intro i d s σ H Q I h;refine isTrue_or (thn (ha d s σ H _ I h) λc j ⟨g,f,e⟩=>?_)
 cases c with
 |true=>exact⟨g,f,e⟩
 |false=>exact hb i d j σ g Q f e
theorem pt_not(ha:PT X a tA):PT X (.UnaryOp .Not a pos) (tNot tA):=by
 intro b s σ H Q I h;exact isTrue_not (ha b s σ H (λc d=>Q (!c) d) I h)
def jkk(ta tb:TE):TE:=λσ H Q=>ta σ H λx H1=>∃c,x=.bl c/\if c=true then tb σ H1 Q else Q (.bl false) H1
theorem pe_one{op}{t:TE}(h:PE X a t):PE X (.BoolOp op [a] pos) t:=λb s σ H Q I c=>BoolOp_one (h b s σ H Q I c)
theorem pe_and(ha:PE X a ta)(hb:PE X (.BoolOp .And (b::rest) pos) tb):PE X (.BoolOp .And (a::b::rest) pos) (jkk ta tb):=by
 intro d s σ H Q I h;refine BoolOp_and (thn (ha d s σ H _ I h) λv i ⟨x,g,f,j,e⟩=>?_);obtain⟨c,rfl,e⟩:=e
 cases j
 refine U6 ?_
 cases c with
 |true=>exact hb d i σ g Q f e
 |false=>exact⟨.bl false,g,f,rfl,e⟩
end
def SqL(K:PySem.W.Frag)(H:Hp)(a:Addr)(xs:List V):Prop :=
 Rd H a (.lst xs) \/
  ∃(o:Obj)(its:Array Value)(n:Nat),K.lookup a=some o/\o.cls=.type "list"/\o.dict=none/\o.data=.seq its n/\its.size<=sizeLine/\Vals xs its.toList
def SqT(K:PySem.W.Frag)(H:Hp)(a:Addr)(xs:List V):Prop :=
 Rd H a (.tup xs) \/
  ∃(o:Obj)(its:Array Value)(n:Nat),K.lookup a=some o/\o.cls=.type "tuple"/\o.data=.seq its n/\its.size<=sizeLine/\Vals xs its.toList
def absV:Value->Option V
 |.none=>some .non
 |.bool b=>some (.bl b)
 |.int i _=>some (.int i)
 |.str x _=>some (.str x)
 |.bytes b _=>some (.byt b)
 |.float b _=>some (.flt b)
 |.ref a=>some (.ref a)
 |.type n=>some (.ty n)
 |_=>none
theorem RelV.abs{x:V}(r:RelV x u):absV u=some x:=by
 cases x with
 |non=>cases r;rfl
 |bl _=>cases r;rfl
 |int _=>obtain⟨t,rfl⟩:=r;rfl
 |str _=>obtain⟨t,rfl⟩:=r;rfl
 |byt _=>obtain⟨t,rfl⟩:=r;rfl
 |flt _=>obtain⟨t,rfl⟩:=r;rfl
 |ref _=>cases r;rfl
 |ty _=>cases r;rfl
theorem RelV.inj{x y:V}(r:RelV x u)(q:RelV y u):x=y:=Aw (r.abs.symm.trans q.abs)
theorem Vals.inj:∀{xs ys:List V}{us:List Value},Vals xs us->Vals ys us->xs=ys
 |_,_,_,.nil,.nil=>rfl
 |_,_,_,.cons r t,.cons r' t'=>by rw[r.inj r',Vals.inj t t']
variable{K:PySem.W.Frag}
section
variable{X:Cx}{pins:List (Addr×Obj)}{σ:St}{H:Hp}{s:Shared}{a:Addr}{xs ys:List V}
theorem SqL.of(h:H a=some (.lst xs)):SqL K H a xs:=.inl (.inl h)
theorem SqT.of(h:H a=some (.tup xs)):SqT K H a xs:=.inl (.inl h)
theorem Inv.list(I:Inv X pins σ H s)(h:SqL X.K H a xs):∃its:List Value,Vals xs its/\PlainL s.heap a its.toArray/\xs.length<=sizeLine:=by
 rcases h with h|⟨o,its,n,c,f,d,b,g,r⟩
 .obtain⟨z,its,n,r,e⟩:=h.ok I.hok;exact⟨its,r,⟨_,n,e,rfl,rfl,rfl⟩,z⟩
 .refine⟨its.toList,r,⟨o,n,I.kIn a o c,f,d,by simpa using b⟩,?_⟩;have e:=r.length;simp only[Array.length_toList]at e;omega
theorem Inv.tuple(I:Inv X pins σ H s)(h:SqT X.K H a xs):∃its:List Value,Vals xs its/\IsTup s.heap a its.toArray/\xs.length<=sizeLine:=by
 rcases h with h|⟨o,its,n,c,d,b,f,r⟩
 .obtain⟨z,its,r,p⟩:=h.ok I.hok;exact⟨its,r,p,z⟩
 .refine⟨its.toList,r,⟨o,I.kIn a o c,d,n,by simpa using b⟩,?_⟩;have e:=r.length;simp only[Array.length_toList]at e;omega
theorem Inv.list_inj(I:Inv X pins σ H s)(h:SqL X.K H a xs)(h':SqL X.K H a ys):xs=ys:=by
 obtain⟨b,r,⟨o,n,e,_,_,d⟩,_⟩:=I.list h;obtain⟨its',g,⟨i,j,c,_,_,f⟩,_⟩:=I.list h';rw[e]at c;cases c;rw[d]at f;injection f with d1 _;have:b=its':=by simpa using O6 Array.toList d1
 subst this;exact r.inj g
theorem Inv.tuple_inj(I:Inv X pins σ H s)(h:SqT X.K H a xs)(h':SqT X.K H a ys):xs=ys:=by
 obtain⟨b,r,⟨o,e,_,n,d⟩,_⟩:=I.tuple h;obtain⟨its',g,⟨i,c,_,j,f⟩,_⟩:=I.tuple h';rw[e]at c;cases c;rw[d]at f;injection f with d1 _;have:b=its':=by simpa using O6 Array.toList d1
 subst this;exact r.inj g
end
abbrev Cx.wish(X:Cx)(E:Value->Shared->Prop):Cx:={X with xe:=E}
abbrev Cx.nox(X:Cx):Cx:=X.wish λ_ _=>False
theorem Cx.Ok.wish(ok:X.Ok)(E:Value->Shared->Prop):(X.wish E).Ok :=
 ⟨ok.mod,ok.kind,ok.glob,ok.blt,ok.above,ok.inj,ok.has,ok.cab,ok.hd,ok.frames,ok.stk,ok.exf,ok.bs,ok.bsz,ok.noex,ok.exfs,ok.funs,ok.frf⟩
theorem Cx.Ok.unwish(ok:(X.wish E).Ok):X.Ok :=
 ⟨ok.mod,ok.kind,ok.glob,ok.blt,ok.above,ok.inj,ok.has,ok.cab,ok.hd,ok.frames,ok.stk,ok.exf,ok.bs,ok.bsz,ok.noex,ok.exfs,ok.funs,ok.frf⟩
section
variable{X:Cx}{pins:List (Addr×Obj)}{σ:St}{H:Hp}{s:Shared}{E:Value->Shared->Prop}
theorem Inv.wish(I:Inv X pins σ H s)(E:Value->Shared->Prop):Inv (X.wish E) pins σ H s:=⟨I.ok.wish E,I.os,I.bare,I.base,I.loc,I.cell,I.free,I.freeC,I.pin,I.hok,I.len⟩
theorem Inv.unwish(I:Inv (X.wish E) pins σ H s):Inv X pins σ H s:=⟨I.ok.unwish,I.os,I.bare,I.base,I.loc,I.cell,I.free,I.freeC,I.pin,I.hok,I.len⟩
theorem SP.unwish{D:Ends}{f:Flow}{s':Shared}(h:SP (X.wish E) pins D f s'):SP X pins D f s':=by
 cases f with
 |next=>obtain⟨a,b,I,q⟩:=h;exact⟨a,b,I.unwish,q⟩
 |brk=>obtain⟨a,b,I,q⟩:=h;exact⟨a,b,I.unwish,q⟩
 |cont=>obtain⟨a,b,I,q⟩:=h;exact⟨a,b,I.unwish,q⟩
 |ret u=>obtain⟨v,a,b,I,r,q⟩:=h;exact⟨v,a,b,I.unwish,r,q⟩
theorem PSs.nox{st:List Stmt}{t:TS}(h:PSs X.nox st t):PSs X st t:=λa s σ H D I b =>
 Uv (h a s σ H D (I.wish _) b) (λ_ _ q=>q.unwish) λ_ _ z=>False.elim z
end
section
variable{X:Cx}{st:Stmt}{rest:List Stmt}{t u:TS}{e:Expr}{te:TE}{pos:Pos}
def jkp:TS:=λD σ H=>D.nx σ H
def tSeq(t u:TS):TS:=λD σ H=>t {D with nx:=u D} σ H
theorem pss_nil:PSs X [] jkp:=λ_ _ σ H _ I h=>Aas ⟨σ,H,I,h⟩
theorem pss_cons(h1:PS X st t)(h2:PSs X rest u):PSs X (st::rest) (tSeq t u):=by
 intro a s σ H D I h;refine wpAny_execs_cons (thn (h1 a s σ H {D with nx:=u D} I h) λf c q=>?_)
 cases f with
 |next =>
  obtain⟨b,e,d,q⟩:=q;exact h2 a c b e D d q
 |ret v=>exact q
 |brk=>exact q
 |cont=>exact q
theorem pss_one(h1:PS X st t):PSs X [st] t:=by
 intro a s σ H D I h;refine wpAny_execs_cons (thn (h1 a s σ H D I h) λf b q=>?_)
 cases f with
 |next=>exact Aas q
 |ret v=>exact q
 |brk=>exact q
 |cont=>exact q
theorem Inv.quiet(I:Inv X pins σ H s):interactive X.env=false:=by simp[interactive,I.ok.kind]
def jko(te:TE):TS:=λD σ H=>te σ H λ_ H1=>D.nx σ H1
theorem ps_expr(c:PE X e te)(hs:swapsWith e none pos.line X.env=pure false:=by rfl):PS X (.Expr e pos) (jko te):=by
 intro a s σ H D I h;exact wpAny_Expr_any (thn (c a s σ H _ I h) λv g ⟨x,f,d,i,b⟩=>⟨σ,f,d,b⟩) I.quiet hs
def tRet(te:TE):TS:=λD σ H=>te σ H D.rt
theorem ps_ret(d:PE X e te):PS X (.Return (some e) pos) (tRet te):=by
 intro a s σ H D I h;exact wpAny_Return_some (thn (d a s σ H _ I h) λv i ⟨x,g,f,b,c⟩=>⟨x,σ,g,f,b,c⟩)
def tIfS(c:TT)(t u:TS):TS:=λD σ H=>c σ H λb H1=>if b=true then t D σ H1 else u D σ H1
theorem ps_if{c:Expr}{a b:List Stmt}{tc:TT}(hc:PT X c tc)(ha:PSs X a t)(hb:PSs X b u):PS X (.If c a b pos) (tIfS tc t u):=by
 intro e s σ H D I h;refine wpAny_If (thn (hc e s σ H _ I h) λd f ⟨j,i,g⟩=>?_)
 cases d with
 |true=>exact ha e f σ j D i g
 |false=>exact hb e f σ j D i g
def jqv:TS:=λ_ _ _=>False
theorem ps_never:PS X st jqv:=λ_ _ _ _ _ _ h=>h.elim
end
abbrev TG:=V->St->Hp->(St->Hp->Prop)->Prop
abbrev TGs:=List V->St->Hp->(St->Hp->Prop)->Prop
def PG(X:Cx)(target:Expr)(t:TG):Prop :=
 ∀(pins:List (Addr×Obj))(s:Shared)(σ:St)(H:Hp)(v:V)(u:Value)(Q:St->Hp->Prop),Inv X pins σ H s->RelV v u->t v σ H Q ->
  wpAny (model X.prog X.w) X.A (assign target X.env u) (λ_ s'=>∃σ' H',Inv X pins σ' H' s'/\Q σ' H') X.xe s
def PGs(X:Cx)(ts:List Expr)(t:TGs):Prop :=
 ∀(pins:List (Addr×Obj))(s:Shared)(σ:St)(H:Hp)(vs:List V)(us:List Value)(Q:St->Hp->Prop),Inv X pins σ H s->Vals vs us->t vs σ H Q ->
  wpAny (model X.prog X.w) X.A (assignInOrder ((assignEach ts X.env).map (·.2)) us) (λ_ s'=>∃σ' H',Inv X pins σ' H' s'/\Q σ' H') X.xe s
abbrev TSet:=V->V->V->Hp->(Hp->Prop)->Prop
def PSet(X:Cx)(t:TSet):Prop :=
 ∀(pins:List (Addr×Obj))(s:Shared)(σ:St)(H:Hp)(o i v:V)(ov iv u:Value)(Q:Hp->Prop),Inv X pins σ H s->RelV o ov->RelV i iv->RelV v u->t o i v H Q ->
  wpAny (model X.prog X.w) X.A (setItem ov iv u) (λ_ s'=>∃H',Inv X pins σ H' s'/\Q H') X.xe s
variable{body:List Stmt}{n:Nat}{tb:TS}{tg:Expr}
section
variable{X:Cx}{pos:Pos}
def jc8(i:Nat):TG:=λv σ H Q=>Q (σ.set i (some v)) H
theorem pg_name{x:Str}(hN:X.N.Nodup)(hi:X.N[i]?=some x)(b:Loc X.env.scope x)(hf:X.fn x=true\/X.env.scope.names.lookup x=some .local:=by first|exact .inl rfl|exact .inr rfl|assumption):PG X (.Name x pos) (jc8 i):=by
 intro a s σ H v u Q I r h;exact wpAny_assign_Name (jl6 I hN hi b r (λd c=>⟨_,H,c,h⟩) hf)
def gNil:TGs:=λvs σ H Q=>vs=[]/\Q σ H
def jr7(t:TG)(u:TGs):TGs:=λvs σ H Q=>∃v r,vs=v::r/\t v σ H λσ' H'=>u r σ' H' Q
theorem pgs_nil:PGs X [] gNil:=by
 intro a s σ H b c Q I r h;obtain⟨e,h⟩:=h;subst e
 cases r
 exact assignInOrder_nil ⟨σ,H,I,h⟩
theorem pgs_cons{es:List Expr}{t:TG}{u:TGs}(h1:PG X e t)(h2:PGs X es u)
  (hs:(assignEach (e::es) X.env).map (·.2)=assign e X.env::(assignEach es X.env).map (·.2):=by rfl):PGs X (e::es) (jr7 t u):=by
 intro a s σ H j l Q I r h
 obtain⟨v,k,f,h⟩:=h
 subst f
 cases r with
 |cons r rr =>
  rw[hs]
  refine assignInOrder_cons (thn (h1 a s σ H _ _ _ I r h) λ_ c ⟨b,i,g,d⟩=>?_)
  exact h2 a c b i _ _ Q g rr d
def gTup(K:PySem.W.Frag)(n:Nat)(t:TGs):TG:=λv σ H Q=>∃a xs,v=.ref a/\SqT K H a xs/\xs.length=n/\t xs σ H Q
theorem pg_tup{es:List Expr}{k:Nat}{t:TGs}(hc:X.calm=true)(h:PGs X es t)
  (hn:(assignEach es X.env).length=n:=by rfl) (f:(assignEach es X.env).findIdx? (·.1)=none:=by rfl):PG X (.Tuple es k pos) (gTup X.K n t):=by
 intro c s σ H v u Q I r d
 obtain⟨a,i,w,m,p,d⟩:=d
 subst w
 cases r
 obtain⟨y,g,l,z⟩:=I.tuple m
 refine assign_Tuple_tuple (I.ok.hd hc) l (by simp[hn,<-p,g.length]) f λq j=>?_
 have x:Inv X c σ H {s with heap:=q}:=I.kept (t':=s.toks) λb o e=>j b o (A2 (Ax e)) e
 exact h c _ σ H i _ Q x (by simpa using g) d
def gSub(to ti:TE)(t:TSet):TG:=λv σ H Q=>to σ H λo H1=>ti σ H1 λi H2=>t o i v H2 λH3=>Q σ H3
theorem pg_sub{o i:Expr}{to b:TE}{t:TSet}(l:PE X o to)(hi:PE X i b)(hs:PSet X t)
  (ha:∀v,assign (.Subscript o i pos) X.env v=(do
   let ov <-holding [v] (eval o X.env)
   let iv <-holding [v,ov] (eval i X.env)
   standAt pos
   holding [v,ov,iv] (setItem ov iv v)
   release [v,ov,iv] []):=by intro _;rfl):PG X (.Subscript o i pos) (gSub to b t):=by
 intro a s σ H v u Q I r h
 rw[ha]
 refine Ad (O0 (thn (l a s σ H _ I h) λov d ⟨x,z,p,f,k⟩=>?_))
 refine Ad (O0 (thn (hi a d σ z _ p k) λiv c ⟨y,w,n,e,j⟩=>?_))
 refine Ad (Ys (Ad (O0 (thn (hs a c σ w x y v ov iv u _ n f e r j) λ_ A ⟨q,m,g⟩=>?_))))
 exact wpAny_release ⟨σ,q,m,g⟩
def tAsg(te:TE)(g:TG):TS:=λD σ H=>te σ H λx H1=>g x σ H1 D.nx
theorem ps_asg{te:TE}{g:TG}(i:PE X e te)(hg:PG X tg g)(hs:swapsWithSole [tg] e pos.line X.env=pure false:=by rfl)(f:swappedStores [tg] e X.env=pure none:=by rfl)
  (h1:(assignEach [tg] X.env).map (·.2)=[assign tg X.env]:=by rfl):PS X (.Assign [tg] e pos) (tAsg te g):=by
 intro a s σ H D I h
 refine wpAny_Assign_stores (thn (i a s σ H _ I h) λv b ⟨x,k,j,c,d⟩=>?_) hs f
 rw[h1]
 exact thn (hg a b σ k x v _ j c d) λ_ l q=>q
theorem ps_set{x:Str}{te:TE}{pos':Pos}(hN:X.N.Nodup)(hi:X.N[i]?=some x)(d:Loc X.env.scope x)(f:PE X e te)(hs:swapsWith e (some (.Name x pos')) pos.line X.env=pure false:=by rfl)(hf:X.fn x=true\/X.env.scope.names.lookup x=some .local:=by first|exact .inl rfl|exact .inr rfl|assumption) :
  PS X (.Assign [.Name x pos'] e pos) (tAsg te (jc8 i)):=by
 intro a s σ H D I h
 refine wpAny_Assign_Name (thn (f a s σ H _ I h) λv m ⟨y,k,j,b,c⟩=>?_) hs
 exact jl6 j hN hi d b (λl g=>⟨_,k,g,c⟩) hf
def jl9(c:TT)(tb:TS):TS:=λD σ H=>∃W:Nat->St->Hp->Prop,(∃m,W m σ H)/\∀m σ H,W m σ H ->
 c σ H λb H1=>if b=true then ∃N:St->Hp->Prop,(∀σ' H',N σ' H'->∃m',m'<m/\W m' σ' H')/\tb {D with nx:=N,ct:=N,bk:=D.nx} σ H1 else D.nx σ H1
theorem ps_while{c:Expr}{tc:TT}(hp:PassesOwn (model X.prog X.w) X.A X.env X.xe)(hc:PT X c tc)(hb:PSs X body tb):PS X (.While c body [] pos) (jl9 tc tb):=by
 intro a s σ H D I h;obtain⟨W,⟨F,z⟩,g⟩:=h;refine wpAny_While (codeAny_whileLoop (λn E=>∃σ' H',Inv X a σ' H' E/\W n σ' H') ?_ F ⟨σ,H,I,z⟩);rintro n C ⟨i,x,G,y⟩;refine Wn hp (thn (hc a C i x _ G (g n i x y)) λb B ⟨u,t,k⟩=>?_)
 cases b with
 |true =>
  obtain⟨N,r,k⟩:=k;rw[Al rfl];refine Wn hp (thn (hb a B i u _ t k) λf J j=>?_)
  cases f with
  |next =>
   obtain⟨d,e,q,m⟩:=j;obtain⟨o,p,l⟩:=r d e m;exact⟨o,p,d,e,q,l⟩
  |cont =>
   obtain⟨d,e,q,m⟩:=j;obtain⟨o,p,l⟩:=r d e m;exact⟨o,p,d,e,q,l⟩
  |brk=>exact j
  |ret v=>exact j
 |false =>
  rw[Ai Ie];exact Aas ⟨i,u,t,k⟩
end
structure It where
 go:Nat->Hp->Prop
 yld:Nat->Hp->V->Hp->Prop
 stop:Nat->Hp->Prop
def FpOk(X:Cx)(pins:List (Addr×Obj))(H:Hp)(b:Addr):Prop :=
 H b=none/\b≠X.env.locals/\b∉X.fs/\(b∈X.ex\/X.s₀.heap.objs.size<=b)/\(∀x c,X.env.cells.lookup x=some c->c≠b)/\∀p∈X.pn++pins,p.1≠b
theorem Inv.fpOk{H':Hp}(I:Inv X pins σ H s)(hb:s.heap.objs.size<=b)(hn:H' b=none):FpOk X pins H' b:=by
 refine⟨hn,W3 (Ic I.lt hb),I.nofs hb,.inr (Og I.sz hb),λx c e z=>?_,λp a z=>?_⟩
 .obtain⟨v,q⟩:=I.cell x c e;exact absurd (Ic q.lt (by rw[z];exact hb)) (Yb _)
 .exact absurd (Ic (Ax (I.pin p a).1) (by rw[z];exact hb)) (Yb _)
structure Turn(P:Program)(w:World)(K:PySem.W.Frag)(tg:Expr)(J:It)(fp:List Addr)(it:Addr)(tn:Nat->Heap->Prop):Prop where
 mem:it∈fp
 obj:∀i h,tn i h->∀b∈fp,∃o,h.get? b=some o/\∀v,o.data≠.cell v
 keep:∀i h h',tn i h->(∀b∈fp,∀o,h.get? b=some o->h'.get? b=some o)->tn i h'
 item:∀(X:Cx),X.prog=P->X.w=w->X.K=K->X.calm=true->∀(i:Nat)(pins:List (Addr×Obj))(s:Shared)(σ:St)(H:Hp)(E:Value->Shared->Prop),Inv X pins σ H s->(∀b∈fp,FpOk X pins H b)->tn i s.heap->J.go i H ->
  wpAny (model P w) X.A (pyNext (.ref it)) (λr s1=>∃u,r=some u /\
   wpAny (model P w) X.A (letOwnedTupleGo tg (.ref it) u) (λ_ s2=>∃x H',Inv X pins σ H' s2/\RelV x u/\J.yld i H x H'/\tn (i+1) s2.heap/\∀b∈fp,H' b=none) E s1) E s
 done:∀(X:Cx),X.prog=P->X.w=w->X.K=K->X.calm=true->∀(i:Nat)(pins:List (Addr×Obj))(s:Shared)(σ:St)(H:Hp)(E:Value->Shared->Prop),Inv X pins σ H s->(∀b∈fp,FpOk X pins H b)->tn i s.heap->J.stop i H ->
  wpAny (model P w) X.A (pyNext (.ref it)) (λr s1=>r=none/\Inv X pins σ H s1) E s
 self:∀(A:Around)(i:Nat)(s:Shared)(Q:Value->Shared->Prop)(E:Value->Shared->Prop),tn i s.heap->Q (.ref it) s->wpAny (model P w) A (pyIter (.ref it)) Q E s
abbrev TI:=St->Hp->(It->Hp->Prop)->Prop
def PIE(X:Cx)(pins:List (Addr×Obj))(σ:St)(tg:Expr)(R:It->Hp->Prop)(itv:Value)(s2:Shared):Prop :=
 ∃(it:Addr)(fp:List Addr)(tn:Nat->Heap->Prop)(J:It)(H':Hp),itv=.ref it/\Inv X pins σ H' s2/\Turn X.prog X.w X.K tg J fp it tn/\tn 0 s2.heap/\(∀b∈fp,FpOk X pins H' b)/\R J H'
def PI(X:Cx)(tg iter:Expr)(wi:TI):Prop :=
 ∀(pins:List (Addr×Obj))(s:Shared)(σ:St)(H:Hp)(R:It->Hp->Prop),Inv X pins σ H s->wi σ H R ->
  wpAny (model X.prog X.w) X.A (eval iter X.env) (λv s1=>wpAny (model X.prog X.w) X.A (pyIter v) (PIE X pins σ tg R) X.xe s1) X.xe s
theorem jf9{it:Addr}{o:Obj}{n:String}{vs:Array Value}{Q:Unit->Shared->Prop}(b:s.heap.get? it=some o)(hc:o.cls=.type n)(hd:o.data=.fields vs)
  (hn:["enumerate","zip","dict_itemiterator","dict_reverseitemiterator","odict_iterator","itertools.zip_longest","itertools.pairwise"].contains n=false) (a:Q () s):wpAny M A (letOwnedTupleGo tg (.ref it) u) Q E s:=by
 unfold letOwnedTupleGo
 cases tg <;> first
  |exact Aj a
  |(cases u <;> first
    |exact Aj a
    |(refine Ad (wpAny_load b ?_)
      rw[hc,hd]
      show wpAny M A (if(["enumerate","zip","dict_itemiterator","dict_reverseitemiterator","odict_iterator","itertools.zip_longest","itertools.pairwise"].contains n && vs[0]? == some (rawInt _))=true then _ else _) Q E s
      rw[Ai (by intro h;rw[hn,Bool.false_and]at h;cases h)]
      exact Aj a))
def Itl(K:PySem.W.Frag)(a:Addr):It :=
 ⟨λi H=>∃xs x,SqL K H a xs/\xs[i]?=some x,λi H x H'=>H'=H/\∀xs,SqL K H a xs->xs[i]?=some x,λi H=>∃xs,SqL K H a xs/\xs.length<=i⟩
def Itt(K:PySem.W.Frag)(a:Addr):It :=
 ⟨λi H=>∃xs x,SqT K H a xs/\xs[i]?=some x,λi H x H'=>H'=H/\∀xs,SqT K H a xs->xs[i]?=some x,λi H=>∃xs,SqT K H a xs/\xs.length<=i⟩
def Itr(lo:Int)(n:Nat):It:=⟨λi _=>i<n,λi H x H'=>H'=H/\x=.int (lo+i),λi _=>n<=i⟩
theorem jqw(a it:Addr):Turn P w K tg (Itl K a) [it] it (λi h=>h.IsListIter it a i) where
 mem:=by simp
 obj:=λi h f b j=>by
  have e:b=it:=by simpa using j
  subst e;obtain⟨o,e,c,d⟩:=f;exact⟨o,e,λv z=>by rw[d]at z;cases z⟩
 keep:=λi h q f k=>f.at λo e=>k it (by simp) o e
 item:=by
  intro X B y C N i g s σ H E I n f A;subst B y C;obtain⟨O,x,m,t⟩:=A;obtain⟨M,r,p,S⟩:=I.list m;obtain⟨u,U,R⟩:=r.get t;obtain⟨L,J,W,G,F,D⟩:=n it (by simp);refine wpAny_pyNext_list_item f p.isList (x:=u) (by simpa using U) λq l Q=>?_;have Z:Inv X g σ H {s with heap:=q}:=I.turned (t':=s.toks) (λb o j e=>(Q.2 b j).trans e) L J G F D;obtain⟨o,e,c,d⟩:=id l;exact⟨u,rfl,jf9 (s:={s with heap:=q}) e c d (by decide) ⟨x,H,Z,R,⟨rfl,λys T=>by rw[I.list_inj T m];exact t⟩,l,λb j=>(n b j).1⟩⟩
 done:=by
  intro X B y C N i g s σ H E I n f A;subst B y C;obtain⟨O,m,t⟩:=A;obtain⟨M,r,p,S⟩:=I.list m;obtain⟨L,J,W,G,F,D⟩:=n it (by simp);have hl:=r.length;exact wpAny_pyNext_list_end (I.ok.hd N) f p.isList (by simp;omega) λq Y=>⟨rfl,I.turned (t':=s.toks) (λb o j e=>Y b o j e) L J G F D⟩
 self:=λ_ _ _ _ _ f h=>wpAny_pyIter_listiter f h
theorem jo7(a it:Addr):Turn P w K tg (Itt K a) [it] it (λi h=>h.IsTupleIter it a i) where
 mem:=by simp
 obj:=λi h f b j=>by
  have e:b=it:=by simpa using j
  subst e;obtain⟨o,e,c,d⟩:=f;exact⟨o,e,λv z=>by rw[d]at z;cases z⟩
 keep:=λi h r f k=>f.at λo e=>k it (by simp) o e
 item:=by
  intro X C A D N i g s σ H E I q f B;subst C A D;obtain⟨O,x,n,y⟩:=B;obtain⟨l,t,p,S⟩:=I.tuple n;obtain⟨u,U,R⟩:=t.get y;obtain⟨M,L,W,J,G,F⟩:=q it (by simp);refine wpAny_pyNext_tuple_item f (show s.heap.IsTuple a l.toArray from p) (x:=u) (by simpa using U) λr m Q=>?_;have Z:Inv X g σ H {s with heap:=r}:=I.turned (t':=s.toks) (λb o j e=>(Q.2 b j).trans e) M L J G F;obtain⟨o,e,c,d⟩:=id m;exact⟨u,rfl,jf9 (s:={s with heap:=r}) e c d (by decide) ⟨x,H,Z,R,⟨rfl,λys T=>by rw[I.tuple_inj T n];exact y⟩,m,λb j=>(q b j).1⟩⟩
 done:=by
  intro X C A D N i g s σ H E I q f B;subst C A D;obtain⟨O,n,y⟩:=B;obtain⟨l,t,p,S⟩:=I.tuple n;obtain⟨M,L,W,J,G,F⟩:=q it (by simp);have hl:=t.length;exact wpAny_pyNext_tuple_end (I.ok.hd N) f (show s.heap.IsTuple a l.toArray from p) (by simp;omega) λr Y=>⟨rfl,I.turned (t':=s.toks) (λb o j e=>Y b o j e) M L J G F⟩
 self:=λ_ _ _ _ _ f h=>wpAny_pyIter_tupleiter f h
theorem jo6(it:Addr)(lo:Int)(n:Nat):Turn P w K tg (Itr lo n) [it] it (λi h=>IsRangeIter h it (lo+(i:Nat)*1) ((n:Int)-(i:Nat)) 1) where
 mem:=by simp
 obj:=λi h a b d=>by
  have e:b=it:=by simpa using d
  subst e;exact⟨_,a,λv z=>by
   have D:Data.fields _=Data.cell v:=z
   cases D⟩
 keep:=λi h j a k=>k it (by simp) _ a
 item:=by
  intro X q l r p i c s σ H E I g a m;subst q l r;obtain⟨B,A,J,y,x,u⟩:=g it (by simp);have W:=Walks.range (prog:=X.prog) (w:=X.w) (I.ok.hd p) it lo 1 n;refine W.item i s _ _ m a λv j C G f F=>?_;obtain⟨t,rfl⟩:=G;have M:Inv X c σ H {s with heap:=j,toks:=C}:=I.turned (λb o d e=>F b o (by simpa using d) e) B A y x u;refine⟨_,rfl,jf9 (s:={s with heap:=j,toks:=C}) (n:="range_iterator") f rfl rfl (by decide) ⟨.int (lo+i),H,M,⟨t,?_⟩,⟨rfl,rfl⟩,f,λb d=>(g b d).1⟩⟩;rw[Int.mul_one]
 done:=by
  intro X q l r p i c s σ H E I g a m;subst q l r;obtain⟨B,A,J,y,x,u⟩:=g it (by simp);exact wpAny_pyNext_range_end (I.ok.hd p) a (by have:n<=i:=m;omega) λj L=>⟨rfl,I.turned (t':=s.toks) (λb o d e=>L b o d e) B A y x u⟩
 self:=λ_ _ _ _ _ a h=>wpAny_pyIter_rangeiter a h
variable{fp:List Addr}
section
variable{X:Cx}{tg:Expr}
theorem jlw{R:It->Hp->Prop}{lo hi:Int}{t u v:Tok}{tk:Nat}(I:Inv X pins σ H s)(h1:-(2^62)<=lo)(h2:lo<2^62)(h3:-(2^62)<=hi)(h4:hi<2^62)
  (q:R (Itr lo (hi-lo).toNat) H):wpAny (model X.prog X.w) X.A (pyIter (.ref s.heap.objs.size)) (PIE X pins σ tg R) E {s with heap:=s.heap.push {cls:=.type "range",data:=.fields #[.int lo t,.int hi u,.int 1 v]},toks:=tk}:=by
 refine wpAny_pyIter_range (IsRange.new ..) (small_one h1 h2 h3 h4) ?_
 have a:Inv X pins σ H {s with heap:=s.heap.push {cls:=.type "range",data:=.fields #[.int lo t,.int hi u,.int 1 v]},toks:=tk}:=I.kept λb o e=>Ak _ e
 refine⟨(s.heap.push {cls:=.type "range",data:=.fields #[.int lo t,.int hi u,.int 1 v]}).objs.size,[(s.heap.push {cls:=.type "range",data:=.fields #[.int lo t,.int hi u,.int 1 v]}).objs.size],_,_,H,rfl,
  a.kept (t':=tk) λb o e=>Ak _ e,jo6 _ lo (hi-lo).toNat,?_,λb c=>?_,q⟩
 .have f:lo+((0:Nat):Int)*1=lo:=by simp
  have d:(((hi-lo).toNat:Nat):Int)-((0:Nat):Int)=Builtin.Range.rangeSize lo hi 1:=by rw[rangeSize_one];split <;> omega
  show IsRangeIter _ _ (lo+((0:Nat):Int)*1) ((((hi-lo).toNat:Nat):Int)-((0:Nat):Int)) 1
  rw[f,d]
  exact A4 _ rfl
 .have e:b=(s.heap.push {cls:=.type "range",data:=.fields #[.int lo t,.int hi u,.int 1 v]}).objs.size:=by simpa using c
  subst e
  exact a.fpOk (Ao _) (a.hok.fresh (Ao _))
def jkc(ta:TA):TI:=λσ H R=>ta σ H λvs H1=>∃j:Int,vs=[.int j]/\-(2^62)<=j/\j<2^62/\R (Itr 0 j.toNat) H1
def jkd(ta:TA):TI:=λσ H R=>ta σ H λvs H1=>∃i j:Int,vs=[.int i,.int j]/\(-(2^62)<=i/\i<2^62/\-(2^62)<=j/\j<2^62)/\R (Itr i (j-i).toNat) H1
theorem pi_range1{a:Expr}{ta:TA}{p:Pos}(hg:Gl X "range")(hm:X.mg "range"=none)(ha:PA X [a] ta)(hs:starEach [a] X.env=[(false,eval a X.env)]:=by rfl):PI X tg (.Call (.Name "range" p) [a] [] pos) (jkc ta):=by
 intro b s σ H R I h;refine Call_ (jdq I hg hm boot_range (O5 (thn (ha pos b s σ H _ I h) λk l ⟨i,m,g,d,c⟩=>?_) hs rfl));obtain⟨j,e,c,f,q⟩:=c;subst e
 cases d with
 |cons r rr =>
  cases rr
  obtain⟨t,rfl⟩:=r;exact call_range_1 (jlw g (by omega) (by omega) c f (by simpa using q))
theorem pi_range2{a b:Expr}{ta:TA}{p:Pos}(hg:Gl X "range")(hm:X.mg "range"=none)(ha:PA X [a,b] ta)(hs:starEach [a,b] X.env=[(false,eval a X.env),(false,eval b X.env)]:=by rfl)(c:starEach [b] X.env=[(false,eval b X.env)]:=by rfl) :
  PI X tg (.Call (.Name "range" p) [a,b] [] pos) (jkd ta):=by
 intro d s σ H R I h
 refine Call_ (jdq I hg hm boot_range (O5 (thn (ha pos d s σ H _ I h) λu w ⟨o,x,n,g,f⟩=>?_) (by rw[hs,c]) (by rw[c];rfl)))
 obtain⟨i,j,e,⟨f,m,l,k⟩,q⟩:=f
 subst e
 cases g with
 |cons r rr =>
  cases rr with
  |cons r' rr =>
   cases rr
   obtain⟨t,rfl⟩:=r
   obtain⟨v,rfl⟩:=r'
   exact call_range_2 (jlw n f m l k q)
def tFor(wi:TI)(g:TG)(tb:TS):TS:=λD σ H=>wi σ H λJ H1=>∃W:Nat->Nat->St->Hp->Prop,(∃m,W 0 m σ H1)/\∀i m σ H,W i m σ H ->
 (J.stop i H/\D.nx σ H)\/(J.go i H/\∃N:St->Hp->Prop,(∀σ' H',N σ' H'->∃m',m'<m/\W (i+1) m' σ' H')/\∀x H',J.yld i H x H'->g x σ H' λσ2 H2=>tb {D with nx:=N,ct:=N,bk:=D.nx} σ2 H2)
def jfv(fp:List Addr)(h:Heap):List (Addr×Obj):=fp.filterMap λb=>(h.get? b).map λo=>(b,o)
theorem jdu{o:Obj}(hb:b∈fp)(e:h.get? b=some o):(b,o)∈jfv fp h:=Yw.mpr ⟨b,hb,by rw[e];rfl⟩
theorem jqh{p:Addr×Obj}(hp:p∈jfv fp h):p.1∈fp/\h.get? p.1=some p.2:=by
 obtain⟨b,a,e⟩:=Yw.mp hp
 cases q:h.get? b with
 |none=>rw[q]at e;cases e
 |some o =>
  rw[q]at e;have c:(b,o)=p:=Aw e;subst c;exact⟨a,q⟩
theorem Inv.pinned(I:Inv X pins σ H s)(hf:∀b∈fp,FpOk X pins H b)(g:∀b∈fp,∃o,s.heap.get? b=some o/\∀v,o.data≠.cell v):Inv X (pins++jfv fp s.heap) σ H s :=
 I.pins_of λp f=>(Ar.mp f).elim (λz=>I.pin p (Ig _ z)) λz=>by
  obtain⟨a,e⟩:=jqh z;obtain⟨j,i,h,_⟩:=hf p.1 a;obtain⟨o,c,d⟩:=g p.1 a;rw[e]at c;cases c;exact⟨e,j,i,h,d⟩
theorem Inv.unpinned{pl:List (Addr×Obj)}(I:Inv X (pins++pl) σ H s):Inv X pins σ H s:=I.pins_of λp a=>I.pin p (Ig _ (Io _ a))
theorem ps_for{iter:Expr}{wi:TI}{g:TG}(hp:PassesOwn (model X.prog X.w) X.A X.env X.xe)(hc:X.calm=true)(hi:PI X tg iter wi)(hg:PG X tg g)(hb:PSs X body tb)
  (hs:∀x,foldedSetIterable iter X.env x=pure x:=by intro _;rfl):PS X (.For tg iter body [] pos) (tFor wi g tb):=by
 intro a s σ H D I h
 refine wpAny_For (thn (hi a s σ H _ I h) λv s1 h1=>thn h1 λaa s2 h2=>?_) hs
 obtain⟨it,B,Q,J,H2,e,I2,T,M,Y,W,⟨m0,w0⟩,F⟩:=h2
 subst e
 have l:∀{H':Hp},(∀b∈B,H' b=none)->∀b∈B,FpOk X a H' b:=λhn b hb=>⟨hn b hb,(Y b hb).2⟩
 refine codeAny_forLoop_any (λn U=>∃i σ' H',Inv X a σ' H' U/\Q i U.heap/\(∀b∈B,H' b=none)/\W i n σ' H') ?_ m0 ⟨0,σ,H2,I2,M,λb hb=>(Y b hb).1,w0⟩
 rintro n S ⟨i,y,G,Z,C,E,w3⟩
 rcases F i n y G w3 with⟨stop,qn⟩|⟨go,N,hN,step⟩
 .refine Wn hp (thn (T.done X rfl rfl rfl hc i a S y G X.xe Z (l E) C stop) λr s4 ⟨L,I4⟩=>?_)
  subst L
  exact Aas ⟨y,G,I4,qn⟩
 .refine Wn hp (thn (T.item X rfl rfl rfl hc i a S y G X.xe Z (l E) C go) λr s4 ⟨u,L,h4⟩=>?_)
  subst L
  refine Wn hp (thn h4 λ_ R ⟨x,H5,I5,r5,y5,t,O⟩=>?_)
  have P:=I5.pinned (l O) (T.obj _ _ t)
  refine Wn hp (thn (hg _ R y H5 x u _ P r5 (step x H5 y5)) λ_ s6 ⟨σ6,H6,I6,q6⟩=>?_)
  refine Wn hp (thn (hb _ s6 σ6 H6 _ I6 q6) λf K q=>?_)
  have p:∀{c:St}{k:Hp},Inv X (a++jfv B R.heap) c k K->N c k->∃m,m<n/\∃i σ' H',Inv X a σ' H' K/\Q i K.heap/\(∀b∈B,H' b=none)/\W i m σ' H':=fun{c k} j z=>by
   obtain⟨m',hm,w7⟩:=hN c k z;refine⟨m',hm,i+1,c,k,j.unpinned,T.keep _ _ _ t λb hb o e=>(j.pin (b,o) (Ig _ (Ig _ (jdu hb e)))).1,λb hb=>?_,w7⟩;obtain⟨o,e,d⟩:=T.obj _ _ t b hb;exact(j.pin (b,o) (Ig _ (Ig _ (jdu hb e)))).2.1
  cases f with
  |next=>obtain⟨c,k,j,z⟩:=q;exact p j z
  |cont=>obtain⟨c,k,j,z⟩:=q;exact p j z
  |brk=>obtain⟨c,k,j,q⟩:=q;exact⟨c,k,j.unpinned,q⟩
  |ret v=>obtain⟨x7,c,k,j,r7,q⟩:=q;exact⟨x7,c,k,j.unpinned,r7,q⟩
end
theorem jrc{g:TG}{D:Ends}(Pv:Nat->St->Hp->Prop)(d:Pv 0 σ H)(hl:∀i σ H,i<=xs.length->Pv i σ H->SqL K H a xs)
  (hs:∀i x σ H,xs[i]?=some x->Pv i σ H->g x σ H λσ2 H2=>tb {D with nx:=Pv (i+1),ct:=Pv (i+1),bk:=D.nx} σ2 H2) (hd:∀σ H,Pv xs.length σ H->D.nx σ H) :
  ∃W:Nat->Nat->St->Hp->Prop,(∃m,W 0 m σ H)/\∀i m σ H,W i m σ H ->
   ((Itl K a).stop i H/\D.nx σ H)\/((Itl K a).go i H/\∃N:St->Hp->Prop,(∀σ' H',N σ' H'->∃m',m'<m/\W (i+1) m' σ' H')/\∀x H',(Itl K a).yld i H x H'->g x σ H' λσ2 H2=>tb {D with nx:=N,ct:=N,bk:=D.nx} σ2 H2):=by
 refine⟨λi m σ H=>m=xs.length-i/\i<=xs.length/\Pv i σ H,⟨xs.length,by simp,Op _,d⟩,?_⟩
 rintro i m σ H ⟨rfl,c,p⟩
 have q:=hl i σ H c p
 by_cases hlt:i<xs.length
 .refine .inr ⟨⟨xs,xs[i],q,by simp[hlt]⟩,Pv (i+1),λσ' H' b=>⟨xs.length-(i+1),by omega,rfl,hlt,b⟩,λx H' y=>?_⟩
  obtain⟨e,y⟩:=y
  subst e
  exact hs i x σ _ (y xs q) p
 .have e:i=xs.length:=by omega
  subst e
  exact .inl ⟨⟨xs,q,Ao _⟩,hd σ H p⟩
theorem jsw{g:TG}{D:Ends}(Pv:Nat->St->Hp->Prop)(d:Pv 0 σ H)(hl:∀i σ H,i<=xs.length->Pv i σ H->SqT K H a xs)
  (hs:∀i x σ H,xs[i]?=some x->Pv i σ H->g x σ H λσ2 H2=>tb {D with nx:=Pv (i+1),ct:=Pv (i+1),bk:=D.nx} σ2 H2) (hd:∀σ H,Pv xs.length σ H->D.nx σ H) :
  ∃W:Nat->Nat->St->Hp->Prop,(∃m,W 0 m σ H)/\∀i m σ H,W i m σ H ->
   ((Itt K a).stop i H/\D.nx σ H)\/((Itt K a).go i H/\∃N:St->Hp->Prop,(∀σ' H',N σ' H'->∃m',m'<m/\W (i+1) m' σ' H')/\∀x H',(Itt K a).yld i H x H'->g x σ H' λσ2 H2=>tb {D with nx:=N,ct:=N,bk:=D.nx} σ2 H2):=by
 refine⟨λi m σ H=>m=xs.length-i/\i<=xs.length/\Pv i σ H,⟨xs.length,by simp,Op _,d⟩,?_⟩
 rintro i m σ H ⟨rfl,c,p⟩
 have q:=hl i σ H c p
 by_cases hlt:i<xs.length
 .refine .inr ⟨⟨xs,xs[i],q,by simp[hlt]⟩,Pv (i+1),λσ' H' b=>⟨xs.length-(i+1),by omega,rfl,hlt,b⟩,λx H' y=>?_⟩
  obtain⟨e,y⟩:=y
  subst e
  exact hs i x σ _ (y xs q) p
 .have e:i=xs.length:=by omega
  subst e
  exact .inl ⟨⟨xs,q,Ao _⟩,hd σ H p⟩
theorem jpv{lo:Int}{g:TG}{D:Ends}(Pv:Nat->St->Hp->Prop)(b:Pv 0 σ H)
  (hs:∀i σ H,i<n->Pv i σ H->g (.int (lo+i)) σ H λσ2 H2=>tb {D with nx:=Pv (i+1),ct:=Pv (i+1),bk:=D.nx} σ2 H2) (hd:∀σ H,Pv n σ H->D.nx σ H) :
  ∃W:Nat->Nat->St->Hp->Prop,(∃m,W 0 m σ H)/\∀i m σ H,W i m σ H ->
   ((Itr lo n).stop i H/\D.nx σ H)\/((Itr lo n).go i H/\∃N:St->Hp->Prop,(∀σ' H',N σ' H'->∃m',m'<m/\W (i+1) m' σ' H')/\∀x H',(Itr lo n).yld i H x H'->g x σ H' λσ2 H2=>tb {D with nx:=N,ct:=N,bk:=D.nx} σ2 H2):=by
 refine⟨λi m σ H=>m=n-i/\i<=n/\Pv i σ H,⟨n,by simp,Op _,b⟩,?_⟩
 rintro i m σ H ⟨rfl,c,p⟩
 by_cases hlt:i<n
 .refine .inr ⟨hlt,Pv (i+1),λσ' H' a=>⟨n-(i+1),by omega,rfl,hlt,a⟩,λx H' y=>?_⟩
  obtain⟨e,y⟩:=y
  subst e y
  exact hs i σ _ hlt p
 .have e:i=n:=by omega
  subst e
  exact .inl ⟨Ao _,hd σ H p⟩
abbrev R2:=V->V->Hp->VK->Prop
def OpR(X:Cx)(f:Value->Value->Sem Value)(r:R2):Prop :=
 ∀(pins:List (Addr×Obj))(s:Shared)(σ:St)(H:Hp)(x y:V)(v u:Value)(Q:VK),Inv X pins σ H s->RelV x v->RelV y u->r x y H Q ->
  wpAny (model X.prog X.w) X.A (f v u) (EP X pins σ Q) X.xe s
def jcu(X:Cx)(f:Value)(r:List V->Hp->VK->Prop):Prop :=
 ∀(pins:List (Addr×Obj))(s:Shared)(σ:St)(H:Hp)(xs:List V)(us:List Value)(Q:VK),Inv X pins σ H s->Vals xs us->r xs H Q ->
  wpAny (model X.prog X.w) X.A (call f us) (EP X pins σ Q) X.xe s
def TruR(X:Cx)(r:V->Hp->(Bool->Hp->Prop)->Prop):Prop :=
 ∀(pins:List (Addr×Obj))(s:Shared)(σ:St)(H:Hp)(x:V)(v:Value)(Q:Bool->Hp->Prop),Inv X pins σ H s->RelV x v->r x H Q ->
  wpAny (model X.prog X.w) X.A (truthy v) (TP X pins σ Q) X.xe s
def tOp(r:R2)(ta tb:TE):TE:=λσ H Q=>ta σ H λx H1=>tb σ H1 λy H2=>r x y H2 Q
def rI(C:Int->Int->Prop)(g:Int->Int->V):R2:=λx y H Q=>∃i j,x=.int i/\y=.int j/\C i j/\Q (g i j) H
def rI0(g:Int->Int->V):R2:=λx y H Q=>∃i j,x=.int i/\y=.int j/\Q (g i j) H
variable{f:Value->Value->Sem Value}{r:R2}
section
variable{X:Cx}{a b c:Expr}{ta tb tc:TE}{pos:Pos}
theorem binT(ha:PE X a ta)(hb:PE X b tb){R:V->V->Hp->Prop}(I:Inv X pins σ H s)
  (h:ta σ H λx H1=>tb σ H1 λy H2=>R x y H2) 
  (hf:∀v u s2 x y H2,Inv X pins σ H2 s2->RelV x v->RelV y u->R x y H2->wpAny (model X.prog X.w) X.A (f v u) Q X.xe s2) :
  wpAny (model X.prog X.w) X.A (eval a X.env) (λv s₁=>wpAny (model X.prog X.w) X.A (eval b X.env) (λu s₂=>wpAny (model X.prog X.w) X.A (f v u) Q X.xe s₂) X.xe s₁) X.xe s:=by
 refine thn (ha pins s σ H _ I h) λv c ⟨x,H1,k,e,i⟩=>?_
 refine thn (hb pins c σ H1 _ k i) λu s2 ⟨y,H2,j,d,g⟩=>?_
 exact hf v u s2 x y H2 j e d g
theorem pe_op{op:Operator}(g:OpR X (binaryOp op) r)(ha:PE X a ta)(hb:PE X b tb):PE X (.BinOp a op b pos) (tOp r ta tb):=by
 intro c s σ H Q I h;exact wpAny_BinOp (binT ha hb I h λv u d x y j i f e q=>g c d σ j x y v u Q i f e q)
theorem opI{C:Int->Int->Prop}{g:Int->Int->Int}
  (a:∀(i j:Int)(t u:Tok)(s:Shared)(Q:Value->Shared->Prop)(E:Value->Shared->Prop),C i j->Q (.int (g i j) s.toks) {s with toks:=s.toks+1}->wpAny (model X.prog X.w) X.A (f (.int i t) (.int j u)) Q E s) :
  OpR X f (rI C λi j=>.int (g i j)):=by
 intro b s σ H x y v u Q I e d h
 obtain⟨i,j,rfl,rfl,k,q⟩:=h
 obtain⟨t,rfl⟩:=e
 obtain⟨c,rfl⟩:=d
 exact a i j t c s _ _ k ⟨.int (g i j),H,I.tok _,⟨_,rfl⟩,q⟩
theorem opI0{g:Int->Int->Int}
  (a:∀(i j:Int)(t u:Tok)(s:Shared)(Q:Value->Shared->Prop)(E:Value->Shared->Prop),Q (.int (g i j) s.toks) {s with toks:=s.toks+1}->wpAny (model X.prog X.w) X.A (f (.int i t) (.int j u)) Q E s) :
  OpR X f (rI0 λi j=>.int (g i j)):=by
 intro b s σ H x y v u Q I e d h
 obtain⟨i,j,rfl,rfl,q⟩:=h
 obtain⟨t,rfl⟩:=e
 obtain⟨c,rfl⟩:=d
 exact a i j t c s _ _ ⟨.int (g i j),H,I.tok _,⟨_,rfl⟩,q⟩
theorem opB0{g:Int->Int->Bool}
  (a:∀(i j:Int)(t u:Tok)(s:Shared)(Q:Value->Shared->Prop)(E:Value->Shared->Prop),Q (.bool (g i j)) s->wpAny (model X.prog X.w) X.A (f (.int i t) (.int j u)) Q E s) :
  OpR X f (rI0 λi j=>.bl (g i j)):=by
 intro b s σ H x y v u Q I e d h
 obtain⟨i,j,rfl,rfl,q⟩:=h
 obtain⟨t,rfl⟩:=e
 obtain⟨c,rfl⟩:=d
 exact a i j t c s _ _ ⟨.bl (g i j),H,I,rfl,q⟩
def CDiv(i j:Int):Prop:=0<j/\j<1073741824
def CPow(i j:Int):Prop:=0<=j/\j<=1000000/\i.natAbs<2^64
def CMul(i j:Int):Prop:=(-(2^64)<i/\i<2^64)\/(-(2^64)<j/\j<2^64)
theorem CMul.ok{i j:Int}(h:CMul i j):IntMulOk i j:=by
 rcases h with⟨h1,h2⟩|⟨h1,h2⟩
 .exact .of_left (intBits_le_64 h1 h2)
 .exact .of_right (intBits_le_64 h1 h2)
theorem op_add:OpR X (binaryOp .Add) (rI0 λi j=>.int (i+j)):=opI0 λ_ _ _ _ _ _ _ q=>add_int q
theorem op_sub:OpR X (binaryOp .Sub) (rI0 λi j=>.int (i-j)):=opI0 λ_ _ _ _ _ _ _ q=>sub_int q
theorem op_mul:OpR X (binaryOp .Mult) (rI CMul λi j=>.int (i*j)):=opI λ_ _ _ _ _ _ _ a q=>mul_int q a.ok
theorem jb6:OpR X (binaryOp .FloorDiv) (rI CDiv λi j=>.int (i / j)):=opI λi j _ _ _ _ _ a q=>by
 have c:(0:Int)<j:=a.1;have b:j<1073741824:=a.2;exact floordiv_int (by omega) (by rw[Int.fdiv_eq_ediv_of_nonneg i (by omega)];exact q) (.inl (PyProof.noPylong_small (by omega)))
theorem z7:OpR X (binaryOp .Mod) (rI (λ_ j=>0<j) λi j=>.int (i%j)):=opI λi j _ _ _ _ _ a q=>by
 have b:(0:Int)<j:=a;exact mod_int' (by omega) (by rw[Int.fmod_eq_emod_of_nonneg i (by omega)];exact q)
theorem op_pow:OpR X (binaryOp .Pow) (rI CPow λi j=>.int (i^j.toNat)):=opI λ_ _ _ _ _ _ _ a q=>pow_int_small a.1 a.2.1 a.2.2 q
end
def scal:V->V->Bool
 |.non,.non=>true|.non,.int _=>true|.int _,.non=>true|.non,.bl _=>true|.bl _,.non=>true|.non,.str _=>true|.str _,.non=>true
 |.int _,.int _=>true|.bl _,.bl _=>true|.str _,.str _=>true|.byt _,.byt _=>true
 |.int _,.str _=>true|.str _,.int _=>true|.bl _,.str _=>true|.str _,.bl _=>true
 |_,_=>false
def rEq:R2:=λx y H Q=>scal x y=true/\Q (.bl (decide (x=y))) H
def rNe:R2:=λx y H Q=>scal x y=true/\Q (.bl (!decide (x=y))) H
theorem jmw{i j:Int}:decide (V.int i=V.int j)=(i == j):=by
 rw[Ur];simp
theorem jpm{i j:Bool}:decide (V.bl i=V.bl j)=(i == j):=by
 rw[Ur];simp
theorem jmx{i j:Str}:decide (V.str i=V.str j)=(i == j):=by
 rw[Ur];simp
theorem jmv{i j:Array UInt8}:decide (V.byt i=V.byt j)=(i.toList == j.toList):=by
 rw[Ur]
 cases i
 cases j
 simp
section
variable{X:Cx}{a b c:Expr}{ta tb tc:TE}{pos:Pos}
theorem jcp{Q:VK}{k k':Bool}(I:Inv X pins σ H s)(q:Q (.bl k) H)(e:k=k'):EP X pins σ Q (.bool k') s:=by
 subst e;exact⟨.bl k,H,I,rfl,q⟩
theorem jbt:OpR X (compareOp .Eq) rEq:=by
 intro e s σ H x y v u Q I d a h;obtain⟨c,q⟩:=h
 cases x with
 |non =>
  cases d
  cases y with
  |non=>cases a;exact PySem.EqNone.eq_none_none (jcp I q (by simp))
  |bl j=>cases a;exact PySem.EqNone.eq_none_bool (jcp I q (by simp))
  |int j=>obtain⟨b,rfl⟩:=a;exact PySem.EqNone.eq_none_int (jcp I q (by simp))
  |str j=>obtain⟨b,rfl⟩:=a;exact PySem.EqNone.eq_none_str (jcp I q (by simp))
  |_=>exact absurd (show false=true from c) Ie
 |bl i =>
  cases d
  cases y with
  |non=>cases a;exact PySem.EqNone.eq_bool_none (jcp I q (by simp))
  |bl j=>cases a;exact eq_bool (jcp I q jpm)
  |str j=>obtain⟨b,rfl⟩:=a;exact PySem.EqMixed.eq_bool_str (jcp I q (by simp))
  |_=>exact absurd (show false=true from c) Ie
 |int i =>
  obtain⟨t,rfl⟩:=d
  cases y with
  |non=>cases a;exact PySem.EqNone.eq_int_none (jcp I q (by simp))
  |int j=>obtain⟨b,rfl⟩:=a;exact eq_int (jcp I q jmw)
  |str j=>obtain⟨b,rfl⟩:=a;exact PySem.EqMixed.eq_int_str (jcp I q (by simp))
  |_=>exact absurd (show false=true from c) Ie
 |str i =>
  obtain⟨t,rfl⟩:=d
  cases y with
  |non=>cases a;exact PySem.EqNone.eq_str_none (jcp I q (by simp))
  |bl j=>cases a;exact PySem.EqMixed.eq_str_bool (jcp I q (by simp))
  |int j=>obtain⟨b,rfl⟩:=a;exact PySem.EqMixed.eq_str_int (jcp I q (by simp))
  |str j=>obtain⟨b,rfl⟩:=a;exact eq_str (jcp I q jmx)
  |_=>exact absurd (show false=true from c) Ie
 |byt i =>
  obtain⟨t,rfl⟩:=d
  cases y with
  |byt j=>obtain⟨b,rfl⟩:=a;exact PySem.W.eq_bytes (jcp I q jmv)
  |_=>exact absurd (show false=true from c) Ie
 |_=>cases y <;> exact absurd (show false=true from c) Ie
theorem jbu:OpR X (compareOp .NotEq) rNe:=by
 intro e s σ H x y v u Q I d a h;obtain⟨c,q⟩:=h
 cases x with
 |non =>
  cases d
  cases y with
  |non=>cases a;exact PySem.EqNone.ne_none_none (jcp I q (by simp))
  |bl j=>cases a;exact PySem.EqNone.ne_none_bool (jcp I q (by simp))
  |int j=>obtain⟨b,rfl⟩:=a;exact PySem.EqNone.ne_none_int (jcp I q (by simp))
  |str j=>obtain⟨b,rfl⟩:=a;exact PySem.EqNone.ne_none_str (jcp I q (by simp))
  |_=>exact absurd (show false=true from c) Ie
 |bl i =>
  cases d
  cases y with
  |non=>cases a;exact PySem.EqNone.ne_bool_none (jcp I q (by simp))
  |bl j=>cases a;exact ne_bool (jcp I q (O6 not jpm))
  |str j=>obtain⟨b,rfl⟩:=a;exact PySem.EqMixed.ne_bool_str (jcp I q (by simp))
  |_=>exact absurd (show false=true from c) Ie
 |int i =>
  obtain⟨t,rfl⟩:=d
  cases y with
  |non=>cases a;exact PySem.EqNone.ne_int_none (jcp I q (by simp))
  |int j=>obtain⟨b,rfl⟩:=a;exact ne_int (jcp I q (O6 not jmw))
  |str j=>obtain⟨b,rfl⟩:=a;exact PySem.EqMixed.ne_int_str (jcp I q (by simp))
  |_=>exact absurd (show false=true from c) Ie
 |str i =>
  obtain⟨t,rfl⟩:=d
  cases y with
  |non=>cases a;exact PySem.EqNone.ne_str_none (jcp I q (by simp))
  |bl j=>cases a;exact PySem.EqMixed.ne_str_bool (jcp I q (by simp))
  |int j=>obtain⟨b,rfl⟩:=a;exact PySem.EqMixed.ne_str_int (jcp I q (by simp))
  |str j=>obtain⟨b,rfl⟩:=a;exact ne_str (jcp I q (O6 not jmx))
  |_=>exact absurd (show false=true from c) Ie
 |byt i =>
  obtain⟨t,rfl⟩:=d
  cases y with
  |byt j=>obtain⟨b,rfl⟩:=a;exact PySem.W.ne_bytes (jcp I q (O6 not jmv))
  |_=>exact absurd (show false=true from c) Ie
 |_=>cases y <;> exact absurd (show false=true from c) Ie
theorem op_lt:OpR X (compareOp .Lt) (rI0 λi j=>.bl (decide (i<j))):=opB0 λ_ _ _ _ _ _ _ q=>lt_int q
theorem jcb:OpR X (compareOp .Gt) (rI0 λi j=>.bl (decide (j<i))):=opB0 λ_ _ _ _ _ _ _ q=>gt_int q
theorem op_ge:OpR X (compareOp .GtE) (rI0 λi j=>.bl (decide (j<=i))):=opB0 λ_ _ _ _ _ _ _ q=>ge_int q
theorem op_lt_str:OpR X (compareOp .Lt) (λx y H Q=>∃i j,x=.str i/\y=.str j/\Q (.bl (decide (i.cps.toList<j.cps.toList))) H):=by
 intro a s σ H x y v u Q I c b h;obtain⟨i,j,rfl,rfl,q⟩:=h;obtain⟨t,rfl⟩:=c;obtain⟨d,rfl⟩:=b;exact lt_str (jcp I q rfl)
theorem op_in_str:OpR X (compareOp .In) (λx y H Q=>∃i j,x=.str i/\y=.str j/\Q (.bl (!(Builtin.Str.occurrences j i 0 j.length 1).isEmpty)) H):=by
 intro a s σ H x y v u Q I c b h;obtain⟨i,j,rfl,rfl,q⟩:=h;obtain⟨t,rfl⟩:=c;obtain⟨d,rfl⟩:=b;exact in_str (jcp I q rfl)
theorem yd(b:Expr)(h:op≠.In:=by decide)(h2:op≠.NotIn:=by decide):behindInMarks op b=false:=by
 have c:(op == CmpOp.In)=false:=by cases op <;> first|rfl|exact absurd rfl h
 have a:(op == CmpOp.NotIn)=false:=by cases op <;> first|rfl|exact absurd rfl h2
 cases b <;> simp[behindInMarks,c,a]
theorem pe_cmpR(g:OpR X (compareOp op) r)(ha:PE X a ta)(hb:PE X b tb)(hm:behindInMarks op b=false):PE X (.Compare a [op] [b] pos) (tOp r ta tb):=by
 intro c s σ H Q I h;exact wpAny_Compare1 (binT ha hb I h λv u d x y j i f e q=>g c d σ j x y v u Q i f e q) hm
def jkr(t:TE):TT:=λσ H Q=>t σ H λx H'=>∃k,x=.bl k/\Q k H'
theorem pt_cmpR(p:OpR X (compareOp op) r)(ha:PE X a ta)(hb:PE X b tb)(hm:behindInMarks op b=false):PT X (.Compare a [op] [b] pos) (jkr (tOp r ta tb)):=by
 intro d s σ H Q I h;refine wpAny_isTrue_Compare1 (thn (ha d s σ H _ I h) λv g ⟨x,C,w,l,o⟩=>thn (hb d g σ C _ w o) λu f ⟨y,B,t,j,n⟩ =>
  thn (p d f σ B x y v u _ t l j n) λc D ⟨z,A,q,i,k,e,m⟩=>?_) hm
 subst e
 cases i
 exact U6 ⟨A,q,m⟩
def TruV(K:PySem.W.Frag)(x:V)(H:Hp)(k:Bool):Prop :=
 match x with
 |.non=>k=false
 |.bl b=>k=b
 |.int i=>k=(i != 0)
 |.str y=>y.length<=sizeLine/\k=((y.length:Int) != 0)
 |.byt y=>y.size<=sizeLine/\k=((y.size:Int) != 0)
 |.ref p=>(∃xs,SqL K H p xs/\k=!xs.isEmpty)\/(∃xs,SqT K H p xs/\k=!xs.isEmpty)\/∃kvs,H p=some (.dK kvs)/\k=!kvs.isEmpty
 |_=>False
theorem jok{κ:Type}{kvs:List (κ×V)}{vs:List (κ×Value)}(r:KV kvs vs):(!vs.isEmpty)=!kvs.isEmpty:=by
 cases r <;> rfl
theorem jhw{its:List Value}(r:Vals xs its):(!its.toArray.isEmpty)=!xs.isEmpty:=by
 cases r <;> simp
theorem jen:(sizeLine:Nat)<2^63:=by rw[Uo];decide
theorem jt7:TruR X (λx H Q=>∃k,TruV X.K x H k/\Q k H):=by
 intro l s σ H x v Q I d h;obtain⟨k,e,q⟩:=h;have z:=jen;have u:sizeLine=16777216:=Uo
 cases x with
 |non =>
  cases d
  have a:k=false:=e;subst a;exact truthy_none ⟨H,I,q⟩
 |bl b =>
  cases d
  have a:k=b:=e;subst a;exact U6 ⟨H,I,q⟩
 |int i =>
  obtain⟨t,rfl⟩:=d;have a:k=(i != 0):=e;subst a;exact PySem.P.truthy_int ⟨H,I,q⟩
 |str y =>
  obtain⟨t,rfl⟩:=d;obtain⟨n,a⟩:y.length<=sizeLine/\k=((y.length:Int) != 0):=e;subst a;exact PySem.P.truthy_str (by omega) ⟨H,I.tok _,q⟩
 |byt y =>
  obtain⟨t,rfl⟩:=d;obtain⟨n,a⟩:y.size<=sizeLine/\k=((y.size:Int) != 0):=e;subst a;exact PySem.W.truthy_bytes (by omega) ⟨H,I.tok _,q⟩
 |ref p =>
  cases d
  have a:(∃xs,SqL X.K H p xs/\k=!xs.isEmpty)\/(∃xs,SqT X.K H p xs/\k=!xs.isEmpty)\/∃kvs,H p=some (.dK kvs)/\k=!kvs.isEmpty:=e;rcases a with⟨xs,hx,a⟩|⟨xs,hx,a⟩|⟨kvs,hx,a⟩
  .subst a;obtain⟨g,r,f,j⟩:=I.list hx;have c:=r.length;exact wpAny_truthy_list f.isList (by simp only[A0];omega) ⟨H,I.tok _,by rw[jhw r];exact q⟩
  .subst a;obtain⟨g,r,f,j⟩:=I.tuple hx;have c:=r.length;exact truthy_tuple f (by simp only[A0];omega) ⟨H,I.tok _,by rw[jhw r];exact q⟩
  .subst a;obtain⟨j,o,vs,r,m⟩:kvs.length<=sizeLine/\(p == sysModules)=false/\∃vs,KV kvs vs/\s.heap.DictOf (jck X.prog X.w) p vs:=I.hok p _ hx;have c:kvs.length=vs.length:=Iw r;exact wpAny_truthy_dict o m (by omega) ⟨H,I.tok _,by rw[jok r];exact q⟩
 |_=>exact(show False from e).elim
theorem op_add_str:OpR X (binaryOp .Add) (λx y H Q=>∃i j,x=.str i/\y=.str j/\i.length+j.length<=sizeLine/\Q (.str (i++j)) H):=by
 intro a s σ H x y v u Q I d c h;obtain⟨i,j,rfl,rfl,e,q⟩:=h;obtain⟨t,rfl⟩:=d;obtain⟨b,rfl⟩:=c;exact add_str (λb f=>⟨.str (i++j),H,I.tok _,⟨_,rfl⟩,q⟩) e
theorem jc9{x:V}(r:Vals [x] us):∃u,us=[u]/\RelV x u:=by
 cases r with
 |cons r1 r2=>cases r2;exact⟨_,rfl,r1⟩
theorem jij{x y:V}(r:Vals [x,y] us):∃u w',us=[u,w']/\RelV x u/\RelV y w':=by
 cases r with
 |cons r1 r2 =>
  cases r2 with
  |cons r3 r4=>cases r4;exact⟨_,_,rfl,r1,r3⟩
theorem call_max2(hc:X.calm=true):jcu X (.builtin "max") (λxs H Q=>∃i j,xs=[.int i,.int j]/\Q (.int (if j>i then j else i)) H):=by
 intro a s σ H xs c Q I r h;obtain⟨i,j,rfl,q⟩:=h;obtain⟨u,b,rfl,⟨t,rfl⟩,⟨e,rfl⟩⟩:=jij r;refine max_two_ints (I.ok.hd hc) λf d k=>⟨_,H,I.kept k,?_,q⟩;by_cases hj:j>i
 .rw[Al hj,Al hj];exact⟨_,rfl⟩
 .rw[Ai hj,Ai hj];exact⟨_,rfl⟩
theorem call_min2(hc:X.calm=true):jcu X (.builtin "min") (λxs H Q=>∃i j,xs=[.int i,.int j]/\Q (.int (if j<i then j else i)) H):=by
 intro a s σ H xs c Q I r h;obtain⟨i,j,rfl,q⟩:=h;obtain⟨u,b,rfl,⟨t,rfl⟩,⟨e,rfl⟩⟩:=jij r;refine min_two_ints (I.ok.hd hc) λf d k=>⟨_,H,I.kept k,?_,q⟩;by_cases hj:j<i
 .rw[Al hj,Al hj];exact⟨_,rfl⟩
 .rw[Ai hj,Ai hj];exact⟨_,rfl⟩
theorem jbl:jcu X (.type "int") (λxs H Q=>(∃i,xs=[.int i]/\Q (.int i) H)\/∃k,xs=[.bl k]/\Q (.int (if k then 1 else 0)) H):=by
 intro a s σ H xs c Q I r h;rcases h with⟨i,rfl,q⟩|⟨k,rfl,q⟩
 .obtain⟨u,rfl,t,rfl⟩:=jc9 r;exact call_int_int ⟨.int i,H,I,⟨_,rfl⟩,q⟩
 .obtain⟨u,rfl,b⟩:=jc9 r
  cases b
  exact call_int_bool ⟨.int (if k then 1 else 0),H,I.tok _,⟨_,rfl⟩,q⟩
end
structure ObjM(h:Heap)(x dx C:Addr)(mA:Str->Option Value):Prop where
 obj:h.get? x=some (PySem.W.instObj C dx)
 ns:h.Ns1 dx mA
 ne:dx≠x
theorem jqd{dx:Addr}{c:Str->Option Value}(n:h.Ns1 dx c):∃od,h.get? dx=some od/\∀name,PySem.W.lookIn name od=some (c name):=by
 obtain⟨o,d,m,g,k,j,_,i⟩:=n;refine⟨o,g,λname=>?_⟩;have e:=i name;unfold nsFind findBy at e;rw[<-Array.find?_toList]at e;unfold PySem.W.lookIn;rw[k];dsimp only;split
 .rename_i y q;rw[q]at e;exact O6 some e
 .rename_i q;rw[q]at e;have a:d.toList.any (·.refKey)=false:=by
   rw[List.any_eq_false];intro y f;obtain⟨z,t,b⟩:=j y (Array.mem_toList_iff.mp f);simp[DictEntry.refKey,b]
  have l:¬d.toList.any (·.refKey)=true:=by rw[a];exact Ie
  rw[Ai l];exact O6 some e
theorem ObjM.look{x dx C:Addr}{a:Str->Option Value}(I:ObjM h x dx C a):∃od,PySem.W.InstAt h x (PySem.W.instObj C dx) C (some od)/\∀name,PySem.W.lookIn name od=some (a name) :=
 let⟨od,ho,hl⟩:=jqd I.ns
 ⟨od,⟨I.obj,rfl,rfl,ho⟩,hl⟩
theorem RelO.some_of{o:Option Value}(r:RelO (some v) o):∃u,o=some u/\RelV v u:=by
 cases o with
 |none=>exact(show False from r).elim
 |some u=>exact⟨u,rfl,r⟩
section
variable{P:Program}{w:World}{H H':Hp}{h h':Heap}{a C dx:Addr}{fs fs':List (Str×V)}
theorem js1(hok:HOk P w H h)(e:H a=some (.ins C dx fs)):∃mA,ObjM h a dx C mA/\(∀f,RelO (fs.lookup f) (mA f))/\PySem.Within mA (fs.map (·.1))/\fs.length<=1000/\H dx=some (.own a):=by
 obtain⟨d,z,c,b,mA,n,r,q⟩:=(show ObjOk P w H h a (.ins C dx fs)from hok a _ e);exact⟨mA,⟨b,n,c⟩,r,q,z,d⟩
end
structure Cls(K:PySem.W.Frag)(C:Addr):Prop where
 pg:PySem.W.plainGet K C Str.empty=true
 hd:PySem.W.hasDictIn K C=true
 po:PySem.W.plainOver K C=true
 sa:PySem.W.findIn K (.ref C) "__setattr__"=some (some (.builtin "object.__setattr__"))
theorem Cls.get{C:Addr}(c:Cls K C)(f:Str):PySem.W.plainGet K C f=true:=c.pg
section
variable{X:Cx}{pins:List (Addr×Obj)}{σ:St}{H:Hp}{s:Shared}{A:Around}{E:Value->Shared->Prop}{Q:Value->Shared->Prop}{c:Value}{b:Bool}
inductive TyOf (K:PySem.W.Frag) (H:Hp):V->Value->Prop where
 |non:TyOf K H .non (.type "NoneType")
 |bl (x:Bool):TyOf K H (.bl x) (.type "bool")
 |int (i:Int):TyOf K H (.int i) (.type "int")
 |str (x:Str):TyOf K H (.str x) (.type "str")
 |flt (x:UInt64):TyOf K H (.flt x) (.type "float")
 |lst {a:Addr}{xs:List V} (e:H a=some (.lst xs)):TyOf K H (.ref a) (.type "list")
 |frz {a:Addr}{o:Obj}{xs:List V} (e:H a=some (.frz o (.lst xs))):TyOf K H (.ref a) (.type "list")
 |tup {a:Addr}{xs:List V} (e:H a=some (.tup xs)):TyOf K H (.ref a) (.type "tuple")
 |dK {a:Addr}{kvs:List (Key×V)} (e:H a=some (.dK kvs)):TyOf K H (.ref a) (.type "dict")
 |dT {a:Addr}{kvs:List (List Key×V)} (e:H a=some (.dT kvs)):TyOf K H (.ref a) (.type "dict")
 |ins {a C dx:Addr}{fs:List (Str×V)} (e:H a=some (.ins C dx fs)) (cl:Cls K C) (ha:PySem.W.findIn K (.ref C) "__class__"=some (some (.builtin "object.__class__")))
   (hn:PySem.W.specialIn K (.builtin "object.__class__") "__get__"=some (some (.builtin "getset_descriptor.__get__"))) (htk:PySem.W.takesIn K (.builtin "object.__class__")=some true)
   (hm:PySem.W.mroIn K C (.type "object")=some true):TyOf K H (.ref a) (.ref C)
theorem jp6{x:V}{t:Value}(I:Inv X pins σ H s)(d:RelV x u)(ty:TyOf X.K H x t)(e:PySem.W.kitOne X.K t c=some b)(h:∀tk,Q (.bool b) {s with toks:=tk}) :
  wpAny (model X.prog X.w) A (call (.builtin "isinstance") [u,c]) Q E s:=by
 cases ty with
 |non=>cases(show u=Value.none from d);exact Uj PySem.W.kitx_none I.kIn True.intro e (λz=>nomatch z) h
 |bl y=>cases(show u=Value.bool y from d);exact Uj PySem.W.kitx_bool I.kIn True.intro e (λz=>nomatch z) h
 |int i=>obtain⟨t,q⟩:=(show ∃t,u=Value.int i t from d);cases q;exact Uj PySem.W.kitx_int I.kIn True.intro e (λz=>nomatch z) h
 |str y=>obtain⟨t,q⟩:=(show ∃t,u=Value.str y t from d);cases q;exact Uj PySem.W.kitx_str I.kIn True.intro e (λz=>nomatch z) h
 |flt y=>obtain⟨t,q⟩:=(show ∃t,u=Value.float y t from d);cases q;exact Uj PySem.W.kitx_float I.kIn True.intro e (λz=>nomatch z) h
 |@lst a g ea =>
  cases(show u=Value.ref a from d)
  obtain⟨_,_,n,_,f⟩:=(show ObjOk X.prog X.w H s.heap a (.lst g)from I.hok a _ ea)
  exact Uj PySem.W.kitx_list I.kIn ⟨_,f,rfl⟩ e (λz=>nomatch z) h
 |@frz a ob g ea =>
  cases(show u=Value.ref a from d)
  obtain⟨_,_,_,n,_,f⟩:=(show ObjOk X.prog X.w H s.heap a (.frz ob (.lst g))from I.hok a _ ea)
  exact Uj PySem.W.kitx_list I.kIn ⟨_,f,rfl⟩ e (λz=>nomatch z) h
 |@tup a g ea =>
  cases(show u=Value.ref a from d)
  obtain⟨_,_,_,p⟩:=(show ObjOk X.prog X.w H s.heap a (.tup g)from I.hok a _ ea)
  obtain⟨o,f,j,_⟩:=p
  exact Uj PySem.W.kitx_tuple I.kIn ⟨o,f,j⟩ e (λz=>nomatch z) h
 |@dK a kvs ea =>
  cases(show u=Value.ref a from d)
  obtain⟨_,_,m,_,p⟩:=(show ObjOk X.prog X.w H s.heap a (.dK kvs)from I.hok a _ ea)
  obtain⟨o,k,l,f,j,_⟩:=p
  exact Uj PySem.W.kitx_dict I.kIn ⟨o,f,j.1⟩ e (λz=>nomatch z) h
 |@dT a kvs ea =>
  cases(show u=Value.ref a from d)
  obtain⟨_,_,g,_,o,k,l,f,j,_⟩:=(show ObjOk X.prog X.w H s.heap a (.dT kvs)from I.hok a _ ea)
  exact Uj PySem.W.kitx_dict I.kIn ⟨o,f,j.1⟩ e (λz=>nomatch z) h
 |@ins a C dx fs ea cl ha hn htk hm =>
  cases(show u=Value.ref a from d)
  obtain⟨v,O,_⟩:=js1 I.hok ea
  obtain⟨r,J,_⟩:=O.look
  exact Uj (PySem.W.kitx_own (cl.get _) cl.hd ha hn htk hm) I.kIn J e (λz=>nomatch z) h
end
structure Room(k:Nat)(A:Around):Prop where
 hd:A.handled=none
 dp:A.depth+3*k+5<recursionLimit
 un:A.units+16*k+200<cLine
 gd:A.guards=some []
theorem Room.mono{j k:Nat}(r:Room k A)(h:j<=k):Room j A:=⟨r.hd,by have:=r.dp;omega,by have:=r.un;omega,r.gd⟩
theorem Room.deeper{k:Nat}(r:Room (k+1) A)(env:Env):Room k (A.deeper env) :=
 ⟨r.hd,by have:=r.dp;show A.depth+1+3*k+5<_;omega,by have:=r.un;show A.units+3+16*k+200<_;omega,r.gd⟩
theorem Room.depth{k:Nat}(r:Room k A):A.depth<recursionLimit:=by have:=r.dp;omega
theorem Room.units{k:Nat}(r:Room k A):A.units+64<cLine:=by have:=r.un;omega
def tNil:TA:=λ_ H Q=>Q [] H
def je0(ta:TE)(tr:TA):TA:=λσ H Q=>ta σ H λx H1=>tr σ H1 λxs H2=>Q (x::xs) H2
section
variable{X:Cx}{e:Expr}{es:List Expr}{te:TE}{t:TA}{pos:Pos}
theorem jby:PA X [] tNil:=λ_ _ _ _ H Q I h=>Y9 ⟨[],H,I,.nil,h⟩
theorem jbh(ha:PE X e te)(hr:PA X es t)(hs:starEach (e::es) X.env=(false,eval e X.env)::starEach es X.env:=by rfl):PA X (e::es) (je0 te t):=by
 intro b a s σ H Q I h;rw[hs];show wpAny _ _ (spliced ((false,eval e X.env)::backTo b (starEach es X.env))) _ _ s;refine Yd (thn (ha a s σ H _ I h) λu d ⟨x,n,l,g,j⟩=>?_);exact thn (hr b a d σ n _ l j) λo p ⟨c,m,k,f,i⟩=>⟨x::c,m,k,.cons g f,i⟩
def tTup(t:TA):TE:=λσ H Q=>t σ H λxs H1=>xs.length<=sizeLine/\∀p,H1 p=none->Q (.ref p) (upd H1 p (.tup xs))
def tLst(t:TA):TE:=λσ H Q=>t σ H λxs H1=>xs.length<=sizeLine/\∀p,H1 p=none->Q (.ref p) (upd H1 p (.lst xs))
theorem pe_tup{x1}(h:PA X es t):PE X (.Tuple es x1 pos) (tTup t):=by
 intro a s σ H Q I j;refine wpAny_Tuple_spliced (thn (h pos a s σ H _ I j) λi c ⟨g,f,d,r,z,q⟩=>⟨by rw[<-r.length];exact z,?_⟩);have k:f c.heap.objs.size=none:=d.hok.fresh (Ao _);refine⟨.ref c.heap.objs.size,upd f c.heap.objs.size (.tup g),d.laid (t':=c.toks) (λb u e=>Ak _ e) (Ao _) ?_,rfl,q _ k⟩;exact⟨z,i,r,⟨_,A4 _ rfl,rfl,_,rfl⟩⟩
theorem pe_lst(h:PA X es t):PE X (.List es pos) (tLst t):=by
 intro a s σ H Q I j;refine wpAny_List_spliced (thn (h pos a s σ H _ I j) λi c ⟨g,f,d,r,z,q⟩=>⟨by rw[<-r.length];exact z,?_⟩);have k:f c.heap.objs.size=none:=d.hok.fresh (Ao _);refine⟨.ref c.heap.objs.size,upd f c.heap.objs.size (.lst g),d.laid (t':=c.toks) (λb u e=>Ak _ e) (Ao _) ?_,rfl,q _ k⟩;exact⟨z,i,0,r,A4 _ rfl⟩
end
abbrev Sp:=List V->Hp->VK->XK->Prop
abbrev CXT:=List Env->Hp->Shared->XK->Value->Shared->Prop
structure Env0(P:Program)(w:World)(K:PySem.W.Frag)(mg:Str->Option Value)(base:Heap)(A:Around)(outer:List Env)(s:Shared)(H:Hp):Prop where
 frames:A.frames=some outer
 mod:Mod K mg base
 bs:∀b o,base.get? b=some o->s.heap.get? b=some o/\H b=none
 bsz:base.objs.size<=s.heap.objs.size
 funs:s.heap.FunFrames base outer
 frf:∀b∈frs outer,H b=none
 hok:HOk P w H s.heap
 bare:AllBare s.gens
def CE(outer:List Env)(P:Program)(w:World)(H:Hp)(s:Shared)(Q:VK)(u:Value)(s':Shared):Prop :=
 ∃v H',s'.os=s.os/\AllBare s'.gens/\Un (frs outer) [] H H' s.heap s'.heap/\HOk P w H' s'.heap/\RelV v u/\Q v H'
def CR(CX:CXT)(outer:List Env)(P:Program)(w:World)(H:Hp)(s:Shared)(Q:VK)(E:XK)(r:Result)(s':Shared):Prop :=
 match r with
 |.ok (.ret u)=>CE outer P w H s Q u s'
 |.ok _=>False
 |.error e=>CX outer H s E e s'
structure FnOk(P:Program)(w:World)(K:PySem.W.Frag)(mg:Str->Option Value)(base:Heap)(CX:CXT)(k:Nat)(f:Addr)(fd:FuncData)(ps:List Str)(sp:Sp):Prop where
 len:∀vs H Q E,sp vs H Q E->vs.length=ps.length
 run:∀(A:Around)(outer:List Env)(s:Shared)(H:Hp)(args:Args)(us:List Value)(vs:List V)(Q:VK)(E:XK),Room k A->Env0 P w K mg base A outer s H->BindsTo s fd args (ps.zip us)->Vals vs us->sp vs H Q E ->
  codeAny (model P w) A (.call (.ref f) args) (CR CX outer P w H s Q E) s
section
variable{X:Cx}{pins:List (Addr×Obj)}{σ:St}{H:Hp}{s s':Shared}
theorem Inv.env0(I:Inv X pins σ H s):Env0 X.prog X.w X.K X.mg X.base X.A X.stack s H :=
 ⟨I.ok.frames,I.ok.mod,I.bs,Og I.ok.bsz I.sz,I.stack,I.stkFree,I.hok,I.bare⟩
theorem Inv.after{Q:VK}(I:Inv X pins σ H s)(h:CE X.stack X.prog X.w H s Q u s'):EP X pins σ Q u s':=by
 obtain⟨v,k,i,a,f,e,r,q⟩:=h;obtain⟨j,g,d,t,c⟩:=s';obtain rfl:c=s.os:=i;exact⟨v,k,I.call (h':=j) (g':=g) (d':=d) (t':=t) (ch:=[]) f e a (λb z=>absurd z (by simp)),r,q⟩
end
def jkm(sp:Sp)(dvs:List V)(E:XK)(t:TA):TE:=λσ H Q=>t σ H λvs H1=>sp (vs++dvs) H1 Q E
def Binds(K:PySem.W.Frag)(fd:FuncData)(ps:List Str)(ds:List Value):Prop :=
 ∀(s:Shared)(us:List Value),K.In s.heap->(us++ds).length=ps.length->BindsTo s fd ⟨us,[]⟩ (ps.zip (us++ds))
variable{ps:List Str}
theorem Binds.all{fd:FuncData}(h:∀us:List Value,us.length=ps.length->bindArgs fd ⟨us,[]⟩=pure (ps.zip us)):Binds K fd ps []:=λs us _ a=>by
 rw[O8]at a⊢;exact .of_eq (h us a)
def jhb(CX:CXT)(X:Cx)(E:XK):Prop:=∀(pins:List (Addr×Obj))(σ:St)(H:Hp)(s:Shared)(e:Value)(s':Shared),Inv X pins σ H s->CX X.stack H s E e s'->X.xe e s'
section
variable{X:Cx}{CX:CXT}{k:Nat}{f C:Addr}{fd:FuncData}{ps:List Str}{sp:Sp}{dvs:List V}{ds:List Value}{E:XK}{x m:Str}{p pos apos:Pos}{e o:Expr}{es:List Expr}{ta:TE}{t:TA}
theorem jqq{Q:VK}{vs:List V}(F:FnOk X.prog X.w X.K X.mg X.base CX k f fd ps sp)(hr:Room k X.A)(hb:Binds X.K fd ps ds)(hd:Vals dvs ds)(d:jhb CX X E)
  (I:Inv X pins σ H s) (r:Vals vs us) (h:sp (vs++dvs) H Q E):wpAny (model X.prog X.w) X.A (call (.ref f) us) (EP X pins σ Q) X.xe s:=by
 have b:Vals (vs++dvs) (us++ds):=r.append hd
 have g:(us++ds).length=ps.length:=by rw[<-b.length];exact F.len _ _ _ _ h
 refine wpAny_call (Yn (F.run X.A X.stack s H ⟨us,[]⟩ (us++ds) (vs++dvs) Q E hr I.env0 (hb s us I.kIn g) b h) λr c a=>?_)
 cases r with
 |error e=>exact d pins σ H s e c I a
 |ok fl =>
  cases fl with
  |ret u=>exact I.after a
  |next=>exact False.elim a
  |brk=>exact False.elim a
  |cont=>exact False.elim a
theorem pe_call(F:FnOk X.prog X.w X.K X.mg X.base CX k f fd ps sp)(hr:Room k X.A)(hg:Gl X x)(hm:X.mg x=some (.ref f))(hk:PySem.W.keepIn X.K (.ref f)=true)(hb:Binds X.K fd ps ds)(hd:Vals dvs ds)(g:jhb CX X E)
  (ha:PA X (e::es) t) (c:(x == ("__debug__":Str))=false:=by decide) (i:starEach (e::es) X.env=(false,eval e X.env)::starEach es X.env:=by rfl) (b:(backTo pos (starEach es X.env)).any (·.1)=false:=by rfl) :
  PE X (.Call (.Name x p) (e::es) [] pos) (jkm sp dvs E t):=by
 intro a s σ H Q I h
 refine Uk (jnj I hg hm ?_ c)
 refine PySem.W.callWith_K (h₀:=X.base) I.ok.mod.kin hk (thn (ha pos a s σ H _ I h) λl m ⟨j,n,d,r,q⟩=>⟨d.kIn,?_⟩) i b
 exact jqq F hr hb hd g d r q
end
structure FnScope(N P:List Str)(sc:Scope):Prop where
 kind:sc.kind=.function
 co:sc.isCoroutine=false
 gen:sc.isGenerator=false
 nd:N.Nodup
 pre:N.take P.length=P
 par:∀x∈P,sc.names.lookup x=some .local\/sc.names.lookup x=some .cell
 nofree:∀y∈sc.names,y.2≠.free
theorem ji6{kindOf:Str->Option NameKind}{x:Str}:∀{binds:List (Str×Value)}{m:Str->Option Value},(∀v,(x,v)∉binds)->bindL kindOf binds m x=m x
 |[],_,_=>rfl
 |(n,v)::r,m,h=>by
  unfold bindL;rw[ji6 λw a=>h w (Ov _ a)];split
  .have:x≠n:=by rintro rfl;exact h v O7
   simp[this]
  .rfl
theorem ji4{kindOf:Str->Option NameKind}{x:Str}:∀{binds:List (Str×Value)}{m:Str->Option Value},(∀v,(x,v)∉binds)->bindC kindOf binds m x=m x
 |[],_,_=>rfl
 |(n,v)::r,m,h=>by
  unfold bindC;rw[ji4 λw a=>h w (Ov _ a)];split
  .rfl
  .have:x≠n:=by rintro rfl;exact h v O7
   simp[this]
theorem ji5{kindOf:Str->Option NameKind}{x:Str}{v:Value}:∀{P:List Str}{vs:List Value}{i:Nat}{m:Str->Option Value},P.Nodup->P[i]?=some x->vs[i]?=some v->kindOf x=some .local ->
  bindL kindOf (P.zip vs) m x=some v
 |[],_,_,_,_,h,_,_=>by simp at h
 |_::_,[],_,_,_,_,h,_=>by simp at h
 |p::P,w::vs,0,m,nd,h1,h2,hk=>by
  simp at h1 h2;subst h1;subst h2;show bindL kindOf ((p,w)::P.zip vs) m p=_;unfold bindL;rw[ji6 λv a=>(Ot.mp nd).1 (Ye a).1,Al hk];simp
 |p::P,w::vs,i+1,m,nd,h1,h2,hk=>by
  show bindL kindOf ((p,w)::P.zip vs) m x=_;unfold bindL;exact ji5 (i:=i) (Ot.mp nd).2 (by simpa using h1) (by simpa using h2) hk
theorem ji3{kindOf:Str->Option NameKind}{x:Str}{v:Value}:∀{P:List Str}{vs:List Value}{i:Nat}{m:Str->Option Value},P.Nodup->P[i]?=some x->vs[i]?=some v->kindOf x≠some .local ->
  bindC kindOf (P.zip vs) m x=some v
 |[],_,_,_,_,h,_,_=>by simp at h
 |_::_,[],_,_,_,_,h,_=>by simp at h
 |p::P,w::vs,0,m,nd,h1,h2,hk=>by
  simp at h1 h2;subst h1;subst h2;show bindC kindOf ((p,w)::P.zip vs) m p=_;unfold bindC;rw[ji4 λv a=>(Ot.mp nd).1 (Ye a).1,Ai hk];simp
 |p::P,w::vs,i+1,m,nd,h1,h2,hk=>by
  show bindC kindOf ((p,w)::P.zip vs) m x=_;unfold bindC;exact ji3 (i:=i) (Ot.mp nd).2 (by simpa using h1) (by simpa using h2) hk
def start(N:List Str)(vs:List V):St:=vs.map some++List.replicate (N.length-vs.length) none
def cxOf(CX:CXT)(P:Program)(w:World)(K:PySem.W.Frag)(mg:Str->Option Value)(base:Heap)(N:List Str)(qual:Str)(scope:Scope)(f:Addr)(cd:Value)(A:Around)(outer:List Env)(s:Shared)(H:Hp)(E:XK):Cx where
 prog:=P
 w:=w
 K:=K
 mg:=mg
 base:=base
 A:=A.deeper (envOfC qual scope s.heap.objs.size f cd)
 N:=N
 s₀:=s
 H₀:=H
 env:=envOfC qual scope s.heap.objs.size f cd
 outer:=outer
 stack:=envOfC qual scope s.heap.objs.size f cd::outer
 ex:=[]
 calm:=true
 fn:=λ_=>true
 pn:=[]
 xe:=λe s'=>wpAny (model P w) (A.deeper (envOfC qual scope s.heap.objs.size f cd)) (leaving (envOfC qual scope s.heap.objs.size f cd) e) (λ_ s''=>CX outer H s E e s'') (λe' s''=>CX outer H s E e' s'') s'
theorem jkv{sc:Scope}{x:Str}(h:sc.names.lookup x=some .cell):∃c,(cellsFrom n sc.names []).lookup x=some c:=by
 have q:=PySem.W.cellsFrom_some sc.names n [] (.inl h);exact Option.isSome_iff_exists.mp q
theorem jp5{CX:CXT}{mg:Str->Option Value}{base:Heap}{qual:Str}{scope:Scope}{f:Addr}{cd:Value}{outer:List Env}{s1:Shared}{E:XK}{vs:List V}
  (S:FnScope N ps scope) (hd:A.handled=none) (g:Env0 P w K mg base A outer s H) (hl:vs.length=ps.length) (r:Vals vs us)
  (x:InCallC s s.heap.objs.size (bindL (envOfC qual scope s.heap.objs.size f cd).kindOf (ps.zip us) λ_=>none) (cellsFrom (s.heap.objs.size+1) scope.names []) (bindC (envOfC qual scope s.heap.objs.size f cd).kindOf (ps.zip us) λ_=>none) s1) :
  Inv (cxOf CX P w K mg base N qual scope f cd A outer s H E) [] (start N vs) H s1:=by
 have I:ps.length<=N.length:=by have:=O6 List.length S.pre;rw[I0]at this;omega
 obtain⟨B,J,rfl,D⟩:=x.done
 have l:∀b:Addr,b∉(cxOf CX P w K mg base N qual scope f cd A outer s H E).ex:=λb z=>absurd (show b∈([]:List Addr)from z) (by simp)
 refine⟨⟨g.mod,S.kind,rfl,rfl,Ao _,λy z c B d=>?_,λy j=>?_,λy c _ h=>?_,λ_=>hd,Around.frames_deeper g.frames,.inr ⟨rfl,rfl⟩,λb z=>absurd z (l b),g.bs,g.bsz,λb _ _=>l b,λb z=>absurd z (l b),g.funs,g.frf⟩,
  rfl,g.bare,Un.kept D,⟨_,x.toInCall.ns,λi y v B d L=>?_⟩,λy c h=>⟨_,x.cell y c h⟩,g.hok.fresh (Ao _),λy c h=>?_,λp m=>absurd (show p∈([]:List (Addr×Obj))from m) (by simp),g.hok.kept D,?_⟩
 .exact name_of_addr x.apart (Uf B) (Uf d)
 .have j:scope.names.lookup y=some .cell\/scope.names.lookup y=some .free:=j
  rcases j with j|j
  .exact jkv j
  .exact absurd rfl (S.nofree _ (Uf j))
 .exact Yv (x.above y c (Uf h))
 .have t:i<vs.length:=by
   unfold start at d;by_cases t:i<vs.length
   .exact t
   .rw[A9 (by simpa using t)]at d;rw[Wb]at d;split at d <;> cases d
  have G:vs[i]?=some v:=by
   unfold start at d;rw[A8 (by simpa using t),Ah]at d
   cases e:vs[i]? with
   |none=>rw[e]at d;cases d
   |some a=>rw[e]at d;cases d;rfl
  obtain⟨u,C,F⟩:=r.get G
  have m:ps[i]?=some y:=by
   rw[<-S.pre,Ow (by omega)];exact B
  have o:ps.Nodup:=by rw[<-S.pre];exact S.nd.sublist (List.take_sublist _ _)
  refine⟨u,F,?_⟩
  rcases S.par y (Ap m)with k|k
  .exact .inl ⟨k,ji5 o m C k⟩
  .obtain⟨c,e⟩:=jkv (n:=s.heap.objs.size+1) k
   refine .inr ⟨.inl k,c,e,?_⟩
   have q:=x.cell y c e
   rw[ji3 o m C (by show scope.names.lookup y≠_;rw[k];decide)]at q
   exact q
 .exact g.hok.fresh (Yv (x.above y c (Uf h)))
 .unfold start
  show _=N.length
  rw[Aq,Ac,List.length_replicate]
  omega
theorem jkb{CX:CXT}{mg:Str->Option Value}{base:Heap}{k:Nat}{f:Addr}{name qual:Str}{params:Arguments}{scope:Scope}{F kV l pm a ct T:Value}{G R:Option Addr}
  {B:Array (Option Value)}{sp:Sp} (lk:K.lookup f=some ⟨T,R,.func (PySem.W.fnOf name qual params body scope F kV l pm G a ct),B⟩) (D:PySem.W.codeIn K a qual=true) (S:FnScope N ps scope)
  (len:∀vs H Q E,sp vs H Q E->vs.length=ps.length)
  (d:∀(A:Around)(outer:List Env)(s:Shared)(H:Hp)(vs:List V)(Q:VK)(E:XK),Room k (A.deeper (envOfC qual scope s.heap.objs.size f a))->sp vs H Q E ->
   ∃t,PSs (cxOf CX P w K mg base N qual scope f a A outer s H E) body t/\t {nx:=λ_ H'=>Q .non H',rt:=Q} (start N vs) H) :
  FnOk P w K mg base CX (k+1) f (PySem.W.fnOf name qual params body scope F kV l pm G a ct) ps sp:=by
 refine⟨len,λA outer s H M O vs Q E z h hb r i=>?_⟩
 have Z:=len _ _ _ _ i
 have L:K.In s.heap:=h.mod.kin.keeps λb o e=>(h.bs b o e).1
 have C:s.heap.NoLimit:=h.mod.nolimit.keeps λb o e=>(h.bs b o e).1
 have c:∀y∈ps.zip O,scope.names.lookup y.1=some .local\/(scope.names.lookup y.1=some .cell/\((cellsFrom (s.heap.objs.size+1) scope.names []).lookup y.1).isSome=true):=fun⟨n,v⟩ U=>by
  rcases S.par n (Ye U).1 with q|q
  .exact .inl q
  .exact .inr ⟨q,PySem.W.cellsFrom_some _ _ _ (.inl q)⟩
 refine codeAny_call_function z.depth (L _ _ lk) rfl S.co S.gen rfl (PySem.W.codeRec_of L D) (hb _ _ _ _ ?_)
 refine wpAny_newFunctionEnv_cells S.kind c λaa he s1 x=>?_
 subst he
 refine⟨C.keeps x.toInCall.keep,codeAny_func ?_⟩
 obtain⟨t,X,Y⟩:=d A outer s H vs Q E (z.deeper _) i
 have I:Inv (cxOf CX P w K mg base N qual scope f a A outer s H E) [] (start N vs) H s1:=jp5 S z.hd h Z r x
 refine Uv (X [] s1 (start N vs) H _ I Y) (λfl s' g=>?_) λe s' g=>g
 have j:∀{m:St}{H':Hp}{v:V}{u:Value},Inv (cxOf CX P w K mg base N qual scope f a A outer s H E) [] m H' s'->RelV v u->Q v H'->CE outer P w H s Q u s' :=
  fun{m H' v u} J p q=>⟨v,H',J.os,J.bare,J.base,J.hok,p,q⟩
 cases fl with
 |ret u =>
  obtain⟨v,m,H',J,p,q⟩:=g
  exact j J p q
 |next =>
  obtain⟨m,H',J,q⟩:=g
  exact j (v:=V.non) (u:=Value.none) J rfl q
 |brk =>
  obtain⟨_,_,_,q⟩:=g
  exact False.elim q
 |cont =>
  obtain⟨_,_,_,q⟩:=g
  exact False.elim q
section
variable{X:Cx}{x:Str}{p pos:Pos}{e:Expr}{es:List Expr}{t:TA}{id T:String}{r:List V->Hp->VK->Prop}
def tCB(r:List V->Hp->VK->Prop)(t:TA):TE:=λσ H Q=>t σ H λvs H1=>r vs H1 Q
theorem pe_callB(hc:jcu X (.builtin id) r)(hg:Gl X x)(hm:X.mg x=none)(k:bootBuiltins x=some (.builtin id))(ha:PA X (e::es) t)(hn:x≠"__name__":=by decide)(c:(x == ("__debug__":Str))=false:=by decide)
  (l:starEach (e::es) X.env=(false,eval e X.env)::starEach es X.env:=by rfl) (b:(backTo pos (starEach es X.env)).any (·.1)=false:=by rfl):PE X (.Call (.Name x p) (e::es) [] pos) (tCB r t):=by
 intro a s σ H Q I h
 refine Uk (jdq I hg hm k ?_ hn c)
 exact Yf (thn (ha pos a s σ H _ I h) λf g ⟨d,n,m,i,j⟩=>hc a g σ n d f Q m i j) l b
theorem pe_callTy(hc:jcu X (.type T) r)(hg:Gl X x)(hm:X.mg x=none)(k:bootBuiltins x=some (.type T))(ha:PA X (e::es) t)(hn:x≠"__name__":=by decide)(c:(x == ("__debug__":Str))=false:=by decide)
  (l:starEach (e::es) X.env=(false,eval e X.env)::starEach es X.env:=by rfl) (b:(backTo pos (starEach es X.env)).any (·.1)=false:=by rfl):PE X (.Call (.Name x p) (e::es) [] pos) (tCB r t):=by
 intro a s σ H Q I h
 refine Uk (jdq I hg hm k ?_ hn c)
 exact O5 (thn (ha pos a s σ H _ I h) λf g ⟨d,n,m,i,j⟩=>hc a g σ n d f Q m i j) l b
end
end L2
namespace HT
open PySem PyProof.Rows
section
variable{prog:Program}{w:World}{A:Around}{E:Value->Shared->Prop}{s:Shared}
theorem cat_tup{t b:Addr}{vs ws:List Value}{Q:Value->Shared->Prop}(r:IsTup s.heap t vs.toArray)(hb:IsTup s.heap b ws.toArray)(l:vs≠[])
  (h1:ws=[]->Q (.ref t) s) (h2:ws≠[]->Q (.ref s.heap.objs.size) {s with heap:=s.heap.push {cls:=.type "tuple",data:=.seq (vs++ws).toArray}})
  (hsz:vs.length+ws.length<=sizeLine):wpAny (model prog w) A (binaryOp .Add (.ref t) (.ref b)) Q E s:=by
 obtain⟨⟨cls,p,data,j⟩,h,o,n,m⟩:=id r
 obtain⟨⟨q,g,i,c⟩,a,f,k,d⟩:=id hb
 simp only at o m f d
 subst o m f d
 have e:vs.toArray++ws.toArray=(vs++ws).toArray:=by simp
 by_cases hw:ws=[]
 .exact concat_meets ⟨_,h,rfl⟩ ⟨_,a,rfl⟩ noFill_tuple_add seq_tuple_add PySem.F.slot_tuple_add PySem.F.entry_tuple_add (PySem.F.args_tuple_add_2 _ _)
   (tuple_addW1 t b vs.toArray ws.toArray n k p g j c (by simpa using l) (by simp[hw])) ⟨h,a,h1 hw⟩
 .refine concat_meets ⟨_,h,rfl⟩ ⟨_,a,rfl⟩ noFill_tuple_add seq_tuple_add PySem.F.slot_tuple_add PySem.F.entry_tuple_add (PySem.F.args_tuple_add_2 _ _)
   (tuple_addW2 t b vs.toArray ws.toArray n k p g j c (by simpa using l) (by simpa using hw) (by rw[A0,A0];exact hsz)) ⟨h,a,?_⟩
  rw[e]
  exact h2 hw
end
end HT
namespace L2
open PySem PySem.Spec PyProof.Rows
theorem jhu{ns:List Int}:∀{us:List Value},Vals (ns.map V.int) us->IntsAre us ns:=by
 induction ns with
 |nil=>intro us r;rw[U3]at r;cases r;exact .nil
 |cons n ns ih =>
  intro us r;rw[Au]at r
  cases r with
  |cons r1 r2 =>
   obtain⟨t,e⟩:=r1;subst e;exact .cons n t (ih r2)
variable{us:List Value}{xs:List V}
section
variable{X:Cx}{e:Expr}{te:TE}{lo hi:Option Expr}{tl th:TO}{pos p2:Pos}
def jun(K:PySem.W.Frag):R2:=λx y H Q=>∃a b xs ys,x=.ref a/\y=.ref b/\SqT K H a xs/\SqT K H b ys/\xs≠[]/\xs.length+ys.length<=sizeLine /\
 (ys=[]->Q (.ref a) H)/\(ys≠[]->∀p,H p=none->Q (.ref p) (upd H p (.tup (xs++ys))))
theorem Vals.nil_iff(r:Vals xs us):us=[]↔xs=[]:=by
 cases r with
 |nil=>simp
 |cons _ _=>simp
theorem op_catT:OpR X (binaryOp .Add) (jun X.K):=by
 intro f s σ H x y v u Q I l k h;obtain⟨a,b,j,i,rfl,rfl,B,A,t,e,n,m⟩:=h
 cases l
 cases k
 obtain⟨C,d,r,_⟩:=I.tuple B;obtain⟨g,c,p,_⟩:=I.tuple A;refine HT.cat_tup r p (λz=>t (d.nil_iff.mp z)) (λz=>⟨.ref a,H,I,rfl,n (c.nil_iff.mp z)⟩) (λz=>?_) (by rw[<-d.length,<-c.length];exact e);refine⟨.ref s.heap.objs.size,_,I.laid (t':=s.toks) (o:=.tup (j++i)) (λb D q=>Ak _ q) (Ao _) ?_,rfl,m (λw=>z (c.nil_iff.mpr w)) _ (I.hok.fresh (Ao _))⟩;exact⟨by rw[Aq];exact e,_,d.append c,IsTup.new _ _⟩
end
def ixN(n:Nat)(i:Int):Option Nat:=if 0<=i then(if i<n then some i.toNat else none)else if -(n:Int)<=i then some (i+n).toNat else none
def atI{α:Type}(xs:List α)(i:Int):Option α:=(ixN xs.length i).bind λj=>xs[j]?
variable{n:Nat}
theorem jnd{i:Int}{j:Nat}(h:ixN n i=some j):seqIndex? i n=some j/\j<n/\-(n:Int)<=i/\i<n:=by
 unfold ixN at h;by_cases h0:0<=i
 .rw[Al h0]at h;by_cases h1:i<n
  .rw[Al h1]at h;have e:i.toNat=j:=Aw h;exact⟨by rw[seqIndex_of h0 h1,e],by omega,by omega,h1⟩
  .rw[Ai h1]at h;cases h
 .rw[Ai h0]at h;by_cases h1:-(n:Int)<=i
  .rw[Al h1]at h;have e:(i+n).toNat=j:=Aw h;exact⟨by rw[seqIndex_neg (by omega) h1,e],by omega,h1,by omega⟩
  .rw[Ai h1]at h;cases h
theorem jil{α:Type}{xs:List α}{i:Int}{v:α}(h:atI xs i=some v):∃j,seqIndex? i xs.length=some j/\xs[j]?=some v/\j<xs.length/\-(xs.length:Int)<=i/\i<xs.length:=by
 unfold atI at h
 cases e:ixN xs.length i with
 |none=>rw[e]at h;cases h
 |some j =>
  rw[e]at h;obtain⟨d,c,b,a⟩:=jnd e;exact⟨j,d,h,c,b,a⟩
theorem jch{α:Type}{xs:List α}{j:Nat}{v:α}(h:xs[j]?=some v):atI xs (j:Int)=some v:=by
 have a:j<xs.length:=(Ab.mp h).1;have e:ixN xs.length (j:Int)=some j:=by
  unfold ixN;rw[Al (by omega),Al (by omega)];simp
 unfold atI;rw[e];exact h
def jmq(b:Expr):Prop:=∀o i,subscripted b false o i=operate [o,i] (getItem o i)
def IxR(X:Cx)(r:R2):Prop :=
 ∀(value slice:Expr)(pins:List (Addr×Obj))(s:Shared)(σ:St)(H:Hp)(x y:V)(v u:Value)(Q:VK),Inv X pins σ H s->RelV x v->RelV y u->r x y H Q ->
  subscripted slice false v u=operate [v,u] (getItem v u)->wpAny (model X.prog X.w) X.A (subscriptTail value slice v u) (EP X pins σ Q) X.xe s
def MtR(X:Cx)(id:String)(r:V->List V->Hp->VK->Prop):Prop :=
 ∀(pins:List (Addr×Obj))(s:Shared)(σ:St)(H:Hp)(x:V)(xs:List V)(v:Value)(us:List Value)(Q:VK),Inv X pins σ H s->RelV x v->Vals xs us->r x xs H Q ->
  wpAny (model X.prog X.w) X.A (call (.builtin id) (v::us)) (EP X pins σ Q) X.xe s
variable{H:Hp}{its:List Value}{pins:List (Addr×Obj)}{s:Shared}{v:Value}{y:V}{σ:St}
section
variable{X:Cx}{a b:Expr}{ta tb:TE}{pos:Pos}
theorem pe_ix{r:R2}(hr:IxR X r)(ha:PE X a ta)(hb:PE X b tb)(hs:jmq b):PE X (.Subscript a b pos) (tOp r ta tb):=by
 intro c s σ H Q I h;exact Subscript_ (binT ha hb I h λv u d x y i g f e q=>hr a b c d σ i x y v u Q g f e q (hs _ _))
def rIxL(K:PySem.W.Frag):R2:=λx y H Q=>∃p xs i v,x=.ref p/\y=.int i/\SqL K H p xs/\atI xs i=some v/\Q v H
def rIxT(K:PySem.W.Frag):R2:=λx y H Q=>∃p xs i v,x=.ref p/\y=.int i/\SqT K H p xs/\atI xs i=some v/\Q v H
def rIxS:R2:=λx y H Q=>∃z i c,x=.str z/\y=.int i/\z.length<=sizeLine/\atI z.cps.toList i=some c/\Q (.str ⟨#[c]⟩) H
theorem jbg:IxR X (rIxL X.K):=by
 intro k l a s σ H x y v u Q I B A h m;obtain⟨p,L,i,z,rfl,rfl,C,E,q⟩:=h
 cases B
 obtain⟨t,rfl⟩:=A;obtain⟨g,r,d,M⟩:=I.list C;obtain⟨j,c,J,O,G,F⟩:=jil E;obtain⟨w,n,f⟩:=r.get J;have D:=r.length;have N:=jen;have b:EP X a σ Q w s:=⟨z,H,I,f,q⟩;by_cases h0:0<=i
 .have e:i.toNat=j:=by
   rw[seqIndex_of h0 F]at c;exact Aw c
  exact item_listR d.isList h0 (by omega) (by rw[e];simpa using n) b m
 .have e:(i+(g.toArray.size:Int)).toNat=j:=by
   rw[seqIndex_neg (by omega) G]at c;rw[A0,<-D];exact Aw c
  exact subscriptTail_builtinR (x:=w) d.isList.typeIs slot_list_getitem.lookup
   (wpAny_getItem_list_neg (Q:=λr o=>r=w/\EP X a σ Q r o) d.isList (by omega) (by rw[A0] <;> omega) (by omega) (by rw[e];simpa using n) ⟨rfl,b⟩) m
theorem ix_tup:IxR X (rIxT X.K):=by
 intro d e a s σ H x y v u Q I l k h m;obtain⟨p,F,i,z,rfl,rfl,n,A,q⟩:=h
 cases l
 obtain⟨t,rfl⟩:=k;obtain⟨E,r,f,G⟩:=I.tuple n;obtain⟨j,C,B,N,M,L⟩:=jil A;obtain⟨w,D,b⟩:=r.get B;have o:=r.length;have J:=jen;have c:EP X a σ Q w s:=⟨z,H,I,b,q⟩;exact subscriptTail_builtinR (x:=w) f.typeIs slot_tuple_getitem.lookup
  (getItem_tuple (j:=j) (Q:=λr g=>r=w/\EP X a σ Q r g) f (by omega) (by omega) (by rw[A0,<-o];exact C) (by simpa using D) ⟨rfl,c⟩) m
theorem ix_str:IxR X rIxS:=by
 intro a b e s σ H x y v u Q I g f h k;obtain⟨z,i,c,rfl,rfl,B,m,q⟩:=h;obtain⟨t,rfl⟩:=g;obtain⟨A,rfl⟩:=f;obtain⟨j,d,p,D,o,n⟩:=jil m;have l:z.cps.toList.length=z.length:=by simp[Str.length]
 rw[l]at d o n;have C:=jen;exact tail_any (typeIs_str s z t) slot_str_getitem.lookup (getItem_str (c:=c) (by
  have w:decide (i < -(2^63:Int))=false:=O3 (by omega);have r:decide (i ≥ 2^63)=false:=O3 (by omega);rw[w,r,Bool.or_false]) (by rw[d];simpa using p) ⟨.str ⟨#[c]⟩,H,I.tok _,⟨_,rfl⟩,q⟩) k
theorem joo(its:List Value)(n j:Nat)(u:Value):Obj.mapSeq (·.setIfInBounds j u) {cls:=.type "list",data:=.seq its.toArray n}={cls:=.type "list",data:=.seq (its.set j u).toArray n}:=by
 simp[Obj.mapSeq]
theorem Inv.lst{p:Addr}(I:Inv X pins σ H s)(h:H p=some (.lst xs)) :
  ∃(its:List Value)(n:Nat),Vals xs its/\s.heap.get? p=some {cls:=.type "list",data:=.seq its.toArray n}/\xs.length<=sizeLine:=by
 obtain⟨z,its,n,r,e⟩:=I.hok p _ h
 exact⟨its,n,r,e,z⟩
theorem Inv.lstUpd{p:Addr}{ys:List V}{its':List Value}{n':Nat}{f:Obj->Obj}(I:Inv X pins σ H s)(h:H p=some (.lst xs))
  (a:s.heap.get? p=some {cls:=.type "list",data:=.seq its.toArray n}) (hf:f {cls:=.type "list",data:=.seq its.toArray n}={cls:=.type "list",data:=.seq its'.toArray n'}) (r:Vals ys its') (hz:ys.length<=sizeLine) (t:Nat) :
  Inv X pins σ (upd H p (.lst ys)) {s with heap:=s.heap.update p f,toks:=t}:=by
 have e:(s.heap.update p f).get? p=some {cls:=.type "list",data:=.seq its'.toArray n'}:=by
  rw[Uh f a (by rw[hf] <;> rfl),hf]
 refine I.write (x:=p) (e:=p) (by rw[h];trivial) (.inl rfl) (λb u c q=>(Ub _ _ (Wy c)).trans q) ⟨_,e⟩ ?_
 exact⟨hz,its',n',r,e⟩
def juq:V->V->V->Hp->(Hp->Prop)->Prop:=λo i v H Q=>∃p xs k j,o=.ref p/\i=.int k/\H p=some (.lst xs)/\ixN xs.length k=some j/\Q (upd H p (.lst (xs.set j v)))
theorem jrs:PSet X juq:=by
 intro b s σ H o i v D E u Q I z A y h;obtain⟨p,x,k,j,rfl,rfl,g,C,q⟩:=h
 cases z
 obtain⟨t,rfl⟩:=A;obtain⟨a,n,r,d,B⟩:=I.lst g;obtain⟨c,G,m,l⟩:=jnd C;have e:=r.length;have F:=jen;have w:Inv X b σ (upd H p (.lst (x.set j v))) {s with heap:=s.heap.update p (Obj.mapSeq (·.setIfInBounds j u))} :=
  I.lstUpd g d (joo a n j u) (r.set y j) (by rw[Wo];exact B) s.toks
 by_cases h0:0<=k
 .have f:k.toNat=j:=by
   rw[seqIndex_of h0 l]at c;exact Aw c
  exact PySem.W.ki_setAt d h0 (by omega) (by rw[A0,<-e];exact l) (by rw[f];exact⟨_,w,q⟩)
 .have f:(k+(a.toArray.size:Int)).toNat=j:=by
   rw[seqIndex_neg (by omega) m]at c;rw[A0,<-e];exact Aw c
  exact PySem.W.ki_setBack d (by omega) (by rw[A0,<-e];exact m) (by omega) (by rw[f];exact⟨_,w,q⟩)
def jdh:V->Bool
 |.non=>true
 |.bl _=>true
 |.int _=>true
 |.str _=>true
 |_=>false
def eqV:V->V->Bool
 |.non,.non=>true
 |.bl a,.bl b=>a == b
 |.bl a,.int b=>(if a then 1 else 0) == b
 |.int a,.bl b=>a == (if b then 1 else 0)
 |.int a,.int b=>a == b
 |.str a,.str b=>a == b
 |_,_=>false
theorem jtq{A:Around}{x:V}{u:Value}(e:RelV y u)(c:RelV x v)(g:jdh y=true)(f:jdh x=true):SeqAt.EqAt A s u v (eqV y x):=by
 cases y with
 |non =>
  cases e
  cases x with
  |non=>cases c;exact SeqAt.EqAt.same _
  |bl b=>cases c;exact SeqAt.EqAt.none_bool b
  |int b=>obtain⟨t,rfl⟩:=c;exact SeqAt.EqAt.none_int b t
  |str b=>obtain⟨t,rfl⟩:=c;exact SeqAt.EqAt.none_str b t
  |_=>exact absurd (show false=true from f) Ie
 |bl a =>
  cases e
  cases x with
  |non=>cases c;exact SeqAt.EqAt.bool_none a
  |bl b=>cases c;exact SeqAt.EqAt.bool_bool a b
  |int b=>obtain⟨t,rfl⟩:=c;exact SeqAt.EqAt.bool_int a b t
  |str b=>obtain⟨t,rfl⟩:=c;exact SeqAt.EqAt.bool_str a b t
  |_=>exact absurd (show false=true from f) Ie
 |int a =>
  obtain⟨d,rfl⟩:=e
  cases x with
  |non=>cases c;exact SeqAt.EqAt.int_none a d
  |bl b=>cases c;exact SeqAt.EqAt.int_bool a d b
  |int b=>obtain⟨t,rfl⟩:=c;exact SeqAt.EqAt.int_int a d b t
  |str b=>obtain⟨t,rfl⟩:=c;exact SeqAt.EqAt.int_str a d b t
  |_=>exact absurd (show false=true from f) Ie
 |str a =>
  obtain⟨d,rfl⟩:=e
  cases x with
  |non=>cases c;exact SeqAt.EqAt.str_none a d
  |bl b=>cases c;exact SeqAt.EqAt.str_bool a d b
  |int b=>obtain⟨t,rfl⟩:=c;exact SeqAt.EqAt.str_int a d b t
  |str b=>obtain⟨t,rfl⟩:=c;exact SeqAt.EqAt.str_str a d b t
  |_=>exact absurd (show false=true from f) Ie
 |_=>exact absurd (show false=true from g) Ie
def eqU(x:V)(u:Value):Bool:=match u with
 |.none=>eqV .non x
 |.bool b=>eqV (.bl b) x
 |.int i _=>eqV (.int i) x
 |.str z _=>eqV (.str z) x
 |_=>false
theorem jpr{x:V}{u:Value}(r:RelV y u)(f:jdh y=true):eqU x u=eqV y x:=by
 cases y with
 |non=>cases r;rfl
 |bl b=>cases r;rfl
 |int i=>obtain⟨t,rfl⟩:=r;rfl
 |str z=>obtain⟨t,rfl⟩:=r;rfl
 |_=>exact absurd (show false=true from f) Ie
theorem je2{x:V}:∀{xs:List V}{us:List Value},Vals xs us->xs.all jdh=true->us.any (eqU x)=xs.any λy=>eqV y x
 |_,_,.nil,_=>rfl
 |y::xs,u::us,.cons r t,f=>by
  rw[List.all_cons,Us]at f;rw[List.any_cons,List.any_cons,jpr r f.1,je2 t f.2]
theorem jep{A:Around}{s:Shared}{x:V}{v:Value}(b:RelV x v)(c:jdh x=true):∀{xs:List V}{us:List Value},Vals xs us->xs.all jdh=true->∀u∈us,SeqAt.EqAt A s u v (eqU x u)
 |_,_,.nil,_=>λu a=>by cases a
 |y::xs,u::us,.cons r t,f=>λd a=>by
  rw[List.all_cons,Us]at f;rcases At.mp a with rfl|a
  .rw[jpr r f.1];exact jtq r b f.1 c
  .exact jep b c t f.2 d a
def inV(x:V)(xs:List V):Bool:=xs.any λy=>eqV y x
def rIn(K:PySem.W.Frag)(neg:Bool):R2:=λx y H Q=>∃p xs,y=.ref p/\(SqL K H p xs\/SqT K H p xs)/\jdh x=true/\xs.all jdh=true/\Q (.bl (if neg then !inV x xs else inV x xs)) H
theorem op_in_seq:OpR X (compareOp .In) (rIn X.K false):=by
 intro i s σ H x y v u Q I f j h;obtain⟨p,l,rfl,b,g,c,q⟩:=h
 cases j
 rcases b with b|b
 .obtain⟨a,r,d,k⟩:=I.list b;refine SeqAt.in_listAt (eqU x) d.isList (λw e=>jep f g r c w (by simpa using e)) ⟨.bl _,H,I,rfl,?_⟩;rw[show a.toArray.any (eqU x)=a.any (eqU x)by simp,je2 r c];exact q
 .obtain⟨a,r,d,k⟩:=I.tuple b;refine SeqAt.in_tupleAt (eqU x) d (λw e=>jep f g r c w (by simpa using e)) ⟨.bl _,H,I,rfl,?_⟩;rw[show a.toArray.any (eqU x)=a.any (eqU x)by simp,je2 r c];exact q
theorem op_notIn_seq:OpR X (compareOp .NotIn) (rIn X.K true):=by
 intro i s σ H x y v u Q I f j h;obtain⟨p,l,rfl,b,g,c,q⟩:=h
 cases j
 rcases b with b|b
 .obtain⟨a,r,d,k⟩:=I.list b;refine SeqAt.notIn_listAt (eqU x) d.isList (λw e=>jep f g r c w (by simpa using e)) ⟨.bl _,H,I,rfl,?_⟩;rw[show a.toArray.any (eqU x)=a.any (eqU x)by simp,je2 r c];exact q
 .obtain⟨a,r,d,k⟩:=I.tuple b;refine SeqAt.notIn_tupleAt (eqU x) d (λw e=>jep f g r c w (by simpa using e)) ⟨.bl _,H,I,rfl,?_⟩;rw[show a.toArray.any (eqU x)=a.any (eqU x)by simp,je2 r c];exact q
theorem op_notIn_str:OpR X (compareOp .NotIn) (λx y H Q=>∃i j,x=.str i/\y=.str j/\Q (.bl (!(!(Builtin.Str.occurrences j i 0 j.length 1).isEmpty))) H):=by
 intro a s σ H x y v u Q I c b h;obtain⟨i,j,rfl,rfl,q⟩:=h;obtain⟨t,rfl⟩:=c;obtain⟨d,rfl⟩:=b;exact notIn_str ⟨.bl _,H,I,rfl,q⟩
theorem zj:jcu X (.builtin "len") (λxs H Q=>∃p ys,xs=[.ref p]/\(SqL X.K H p ys\/SqT X.K H p ys)/\Q (.int ys.length) H):=by
 intro f s σ H xs j Q I r h;obtain⟨p,ys,rfl,b,q⟩:=h;obtain⟨u,rfl,g⟩:=jc9 r
 cases g
 have k:=jen;rcases b with b|b
 .obtain⟨e,c,d,i⟩:=I.list b;have a:=c.length;exact Calls.call_len_list d.isList (by simp only[A0] <;> omega) ⟨.int ys.length,H,I.tok _,⟨s.toks+1,by rw[A0,a]⟩,q⟩
 .obtain⟨e,c,d,i⟩:=I.tuple b;have a:=c.length;exact len_tuple d (by simp only[A0] <;> omega) ⟨.int ys.length,H,I.tok _,⟨s.toks+1,by rw[A0,a]⟩,q⟩
theorem call_len_str:jcu X (.builtin "len") (λxs H Q=>∃z,xs=[.str z]/\z.length<=sizeLine/\Q (.int z.length) H):=by
 intro a s σ H xs b Q I r h;obtain⟨z,rfl,c,q⟩:=h;obtain⟨u,rfl,t,rfl⟩:=jc9 r;have d:=jen;exact len_str (by omega) ⟨.int z.length,H,I.tok _,⟨_,rfl⟩,q⟩
theorem jay:jcu X (.type "list") (λxs H Q=>∃p ys,xs=[.ref p]/\(SqL X.K H p ys\/SqT X.K H p ys)/\∀l,H l=none->Q (.ref l) (upd H l (.lst ys))):=by
 intro m s σ H xs B Q I r h;obtain⟨p,ys,rfl,j,q⟩:=h;obtain⟨u,rfl,A⟩:=jc9 r
 cases A
 have k:∀(a:List Value),Vals ys a->ys.length<=sizeLine->∀(c:Heap)(f:Nat),(∀b o',s.heap.get? b=some o'->c.get? b=some o') ->
   c.get? s.heap.objs.size=some {cls:=.type "list",dict:=none,data:=.seq a.toArray f,slots:=#[]}->EP X m σ Q (.ref s.heap.objs.size) {s with heap:=c}:=λa d i c f g e =>
  ⟨.ref s.heap.objs.size,_,I.laid (t':=s.toks) g (Ao _) (show ObjOk X.prog X.w _ c _ (.lst ys)from⟨i,a,f,d,e⟩),rfl,q _ (I.hok.fresh (Ao _))⟩
 rcases j with j|j
 .obtain⟨a,d,v,i⟩:=I.list j;have t:=d.length;obtain⟨o,x,z,n,y⟩:=v.isList;exact call_list_seq p (.inl rfl) x z y (λc f g e=>k a d i c f g e) (by simp only[A0] <;> omega)
 .obtain⟨a,d,v,i⟩:=I.tuple j;have t:=d.length;obtain⟨o,x,z,n,y⟩:=v;exact call_list_seq p (.inr rfl) x z y (λc f g e=>k a d i c f g e) (by simp only[A0] <;> omega)
theorem jav:jcu X (.type "tuple") (λxs H Q=>∃p ys,xs=[.ref p]/\((SqL X.K H p ys/\∀l,H l=none->Q (.ref l) (upd H l (.tup ys)))\/(SqT X.K H p ys/\Q (.ref p) H))):=by
 intro a s σ H xs v Q I r h;obtain⟨p,ys,rfl,h⟩:=h;obtain⟨u,rfl,m⟩:=jc9 r
 cases m
 rcases h with⟨hq,q⟩|⟨hq,q⟩
 .obtain⟨c,f,g,i⟩:=I.list hq;have k:=f.length;refine call_tuple_list g.isList (λd n=>?_) (by simp only[A0] <;> omega);have j:Inv X a σ H {s with heap:=d}:=I.kept (t':=s.toks) n;have t:Inv X a σ (upd H d.objs.size (.tup ys)) {s with heap:=d.push {cls:=.type "tuple",data:=.seq c.toArray}} :=
   j.laid (t':=s.toks) (λb o e=>Ak _ e) (Ao _) (show ObjOk X.prog X.w _ _ _ (.tup ys)from⟨i,c,f,IsTup.new _ _⟩)
  exact⟨.ref d.objs.size,_,t,rfl,q _ (j.hok.fresh (Ao _))⟩
 .obtain⟨c,f,g,i⟩:=I.tuple hq;exact call_tuple_same g ⟨.ref p,H,I,rfl,q⟩
def tyV(K:PySem.W.Frag)(T:String)(x:V)(H:Hp):Prop:=match x with
 |.str _=>T="str"
 |.int _=>T="int"
 |.ref p=>(T="list"/\∃xs,SqL K H p xs)\/(T="tuple"/\∃o,K.lookup p=some o/\o.cls=.type "tuple"/\o.dict=none) \/
   (T="dict"/\((∃kvs,H p=some (.dK kvs))\/∃kvs,H p=some (.dT kvs)))\/(T="set"/\∃S n,H p=some (.set S n))
 |_=>False
theorem jqz{T:String}{x:V}(I:Inv X pins σ H s)(r:RelV x v)(ty:tyV X.K T x H) :
  s.TypeIs v T/\∀a,v=.ref a->∃ob,s.heap.get? a=some ob/\ob.dict=none:=by
 cases x with
 |str z =>
  obtain⟨t,rfl⟩:=r
  cases(show T="str"from ty)
  exact⟨typeIs_str s z t,λ_ e=>nomatch e⟩
 |int i =>
  obtain⟨t,rfl⟩:=r
  cases(show T="int"from ty)
  exact⟨typeIs_int s i t,λ_ e=>nomatch e⟩
 |ref p =>
  cases r
  rcases ty with⟨rfl,xs,hq⟩|⟨rfl,o,hk,hc,d⟩|⟨rfl,hk⟩|⟨rfl,S,n,hk⟩
  .obtain⟨h,_,g,_⟩:=I.list hq
   refine⟨g.isList.typeIs,λa e=>?_⟩
   cases e
   obtain⟨o,n,e,c,d,_⟩:=g
   exact⟨o,e,d⟩
  .refine⟨⟨o,I.kIn p o hk,hc⟩,λa e=>?_⟩
   cases e
   exact⟨o,I.kIn _ o hk,d⟩
  .have z:∃o,s.heap.get? p=some o/\o.ExactDict:=by
    rcases hk with⟨kvs,hk⟩|⟨kvs,hk⟩
    .obtain⟨_,_,_,_,o,_,_,e,b,_⟩:=I.hok p _ hk;exact⟨o,e,b⟩
    .obtain⟨_,_,_,_,o,_,_,e,b,_⟩:=I.hok p _ hk;exact⟨o,e,b⟩
   obtain⟨o,e,b⟩:=z
   refine⟨⟨o,e,b.1⟩,λa f=>?_⟩
   cases f
   exact⟨o,e,b.2.1⟩
  .obtain⟨o,_,_,_,e,b,_⟩:=I.hok p _ hk
   refine⟨⟨o,e,b.1⟩,λa f=>?_⟩
   cases f
   exact⟨o,e,b.2.1⟩
 |_=>exact False.elim ty
def tBM0(K:PySem.W.Frag)(T:String)(r:V->List V->Hp->VK->Prop)(to:TE):TE:=λσ H Q=>to σ H λx H1=>tyV K T x H1/\r x [] H1 Q
def tBM(K:PySem.W.Frag)(T:String)(r:V->List V->Hp->VK->Prop)(to:TE)(t:TA):TE:=λσ H Q=>to σ H λx H1=>tyV K T x H1/\t σ H1 λxs H2=>r x xs H2 Q
variable{o e:Expr}{es:List Expr}{to:TE}{t:TA}{name:Str}{apos cpos:Pos}{T id:String}{r:V->List V->Hp->VK->Prop}
theorem pe_bm0(k:PlainAttrs T)(slot:Slot T name id)(d:typeOf (.builtin id)=pure (.type "method_descriptor"))(hm:MtR X id r)(l:PE X o to)
  (c:attributeBase o name X.env (eval o X.env)=eval o X.env:=by rfl) (b:(apos.endLine == cpos.line)=true:=by rfl):PE X (.Call (.Attribute o name apos) [] [] cpos) (tBM0 X.K T r to):=by
 intro a s σ H Q I h
 refine wpAny_Call_method0_late c b (thn (l a s σ H _ I h) λv i ⟨x,p,f,e,g,j⟩=>?_)
 obtain⟨n,m⟩:=jqz f e g
 exact⟨T,id,k,slot,d,n,m,Aah rfl (PySem.evalArgs_none (hm a i σ p x [] v [] Q f e .nil j))⟩
theorem jbv(z:PlainAttrs T)(slot:Slot T name id)(g:typeOf (.builtin id)=pure (.type "method_descriptor"))(hm:MtR X id r)(A:PE X o to)(ha:PA X (e::es) t)
  (d:attributeBase o name X.env (eval o X.env)=eval o X.env:=by rfl)
  (f:((backTo cpos (starEach (e::es) X.env)).all (λx=>!x.1) && (backToKw cpos (keywordEach [] X.env)).all (λx=>x.1.isSome)
   && decide ((e::es).length+([]:List Keyword).length+(if([]:List Keyword).isEmpty then 0 else 1)<30))=true:=by rfl)
  (c:(apos.endLine == cpos.line)=true:=by rfl) (hs:starEach (e::es) X.env=(false,eval e X.env)::starEach es X.env:=by rfl) (b:(backTo cpos (starEach es X.env)).any (·.1)=false:=by rfl) :
  PE X (.Call (.Attribute o name apos) (e::es) [] cpos) (tBM X.K T r to t):=by
 intro a s σ H Q I h
 refine wpAny_Call_method_late d f c rfl (thn (A a s σ H _ I h) λv q ⟨x,F,k,i,n,y⟩=>?_)
 obtain⟨C,B⟩:=jqz k i n
 refine⟨T,id,z,slot,g,C,B,?_⟩
 have j:=ha cpos a q σ F _ k y
 rw[hs]at j⊢
 refine Aah (by show(false || (backTo cpos (starEach es X.env)).any (·.1))=false;rw[b] <;> rfl) (Calls.evalArgs_plain ?_)
 exact thn j λm p ⟨l,E,D,u,w⟩=>hm a p σ E x l v m Q D i u w
end
def MtM(X:Cx)(id:String)(r:V->List V->Hp->VK->Prop):Prop :=
 ∀(pins:List (Addr×Obj))(s:Shared)(σ:St)(H:Hp)(x:V)(xs:List V)(v:Value)(us:List Value)(Q:VK),Inv X pins σ H s->RelV x v->Vals xs us->r x xs H Q ->
  wpAny (model X.prog X.w) X.A (call (.builtin id) (v::us)) (EP X pins σ Q) X.xe s
theorem Vals.one{x:V}(h:Vals [x] us):∃u,us=[u]/\RelV x u:=jc9 h
theorem Vals.two{x:V}(h:Vals [x,y] us):∃u v,us=[u,v]/\RelV x u/\RelV y v:=jij h
theorem Vals.zero:∀{us:List Value},Vals [] us->us=[]
 |_,.nil=>rfl
theorem Vals.dropLast(h:Vals xs us):Vals xs.dropLast us.dropLast:=by
 induction h with
 |nil=>exact .nil
 |cons r t ih =>
  cases t with
  |nil=>exact .nil
  |cons q t'=>exact .cons r ih
theorem Vals.eraseIdx:∀{xs:List V}{us:List Value}(i:Nat),Vals xs us->Vals (xs.eraseIdx i) (us.eraseIdx i)
 |_,_,_,.nil=>.nil
 |_,_,0,.cons _ t=>t
 |_,_,i+1,.cons r t=>.cons r (Vals.eraseIdx i t)
theorem Vals.rep{xs:List V}{us:List Value}(h:Vals xs us):∀k:Nat,Vals (List.replicate k xs).flatten (List.replicate k us).flatten
 |0=>.nil
 |k+1=>by
  rw[List.replicate_succ,List.replicate_succ,List.flatten_cons,List.flatten_cons];exact Vals.append h (Vals.rep h k)
theorem joe{α:Type}(l:List α):l.eraseIdx (l.length-1)=l.dropLast:=by
 induction l with
 |nil=>rfl
 |cons a r ih =>
  cases r with
  |nil=>rfl
  |cons b r =>
   have e:(a::b::r).length-1=((b::r).length-1)+1:=by
    have d:(a::b::r).length=r.length+2:=rfl;have c:(b::r).length=r.length+1:=rfl;omega
   rw[e,List.eraseIdx_cons_succ,ih];all_goals rfl
theorem jjg{α:Type}:∀(l:List α)(i:Nat),(l.eraseIdx i).length<=l.length
 |[],_=>Ao _
 |_::_,0=>Nat.le_succ _
 |_::r,i+1=>Nat.succ_le_succ (jjg r i)
theorem jjc(its:List Value):∀(k:Nat)(acc:List Value),
  List.foldl (λx1 x2=>x1++x2) acc.toArray (List.replicate k its.toArray)=(acc++(List.replicate k its).flatten).toArray
 |0,acc=>by simp
 |k+1,acc=>by
  have e:acc.toArray++its.toArray=(acc++its).toArray:=by simp
  have a:(acc++its)++(List.replicate k its).flatten=acc++(List.replicate (k+1) its).flatten:=by
   rw[List.replicate_succ,List.flatten_cons,A5]
  rw[<-a,<-jjc its k (acc++its),<-e,List.replicate_succ,List.foldl_cons]
section
variable{X:Cx}{pins:List (Addr×Obj)}{σ:St}{H:Hp}{s:Shared}{l b:Addr}{xs ys zs:List V}
theorem Inv.lset{its':List Value}{f:Array Value->Array Value}{t':Nat}(I:Inv X pins σ H s)(d:H l=some (.lst xs))
  (e:s.heap.get? l=some {cls:=.type "list",data:=.seq its.toArray n}) (hf:f its.toArray=its'.toArray) (a:Vals ys its') (hz:ys.length<=sizeLine) :
  Inv X pins σ (upd H l (.lst ys)) {s with heap:=s.heap.update l (Obj.mapSeq f),toks:=t'}:=by
 have q:=PySem.IsL.update e f
 rw[hf]at q
 refine I.write (x:=l) (e:=l) (by rw[d];exact trivial) (.inl rfl) (λg u c b=>(Ub s.heap (Obj.mapSeq f) (Wy c)).trans b) ⟨_,q⟩ ?_
 exact⟨hz,its',_,a,q⟩
theorem Inv.lnew{t':Nat}(I:Inv X pins σ H s)(a:Vals ys its)(hz:ys.length<=sizeLine) :
  Inv X pins σ (upd H s.heap.objs.size (.lst ys)) {s with heap:=s.heap.push {cls:=.type "list",data:=.seq its.toArray},toks:=t'} :=
 I.laid (λ_ _ q=>Ak _ q) (Ao _) ⟨hz,its,0,a,A4 _ rfl⟩
theorem Inv.fresh(I:Inv X pins σ H s):H s.heap.objs.size=none:=I.hok.fresh (Ao _)
theorem Inv.lstM(I:Inv X pins σ H s)(a:H l=some (.lst xs)):xs.length<=sizeLine/\∃(its:List Value)(n:Nat),Vals xs its/\xs.length=its.length/\s.heap.get? l=some {cls:=.type "list",data:=.seq its.toArray n}:=by
 obtain⟨z,its,n,r,e⟩:=I.hok l _ a;exact⟨z,its,n,r,r.length,e⟩
theorem jlj(h:n<=sizeLine):Builtin.List.listTooLong n=false:=by
 unfold Builtin.List.listTooLong;exact O3 (by omega)
end
section
variable{X:Cx}
def jte:V->List V->Hp->VK->Prop:=λx vs H Q=>∃l xs y,x=.ref l/\vs=[y]/\H l=some (.lst xs)/\xs.length<sizeLine/\Q .non (upd H l (.lst (xs++[y])))
theorem jaz:MtM X "list.append" jte:=by
 intro c s σ H x j v k Q I d f h;obtain⟨l,i,y,rfl,rfl,b,m,q⟩:=h
 cases d
 obtain⟨u,rfl,g⟩:=f.one;obtain⟨z,a,n,r,o,e⟩:=I.lstM b;refine Yp F.slot_list_append ⟨_,e,rfl⟩ F.entry_list_append (F.args_list_append_2 _ _) (PySem.list_append l a.toArray n u (by rw[A0];omega)) ⟨e,?_⟩;refine⟨.non,_,I.lset (its':=a++[u]) b e (by simp) (r.append (.cons g .nil)) ?_,rfl,q⟩;rw[Aq,List.length_singleton];omega
def jtf:V->List V->Hp->VK->Prop:=λx vs H Q=>∃l b xs zs,x=.ref l/\vs=[.ref b]/\H l=some (.lst xs)/\H b=some (.lst zs)/\xs.length+zs.length<=sizeLine/\Q .non (upd H l (.lst (xs++zs)))
theorem mt_extend:MtM X "list.extend" jtf:=by
 intro i s σ H x D v E Q I j k h;obtain⟨l,b,C,A,rfl,rfl,g,t,G,q⟩:=h
 cases j
 obtain⟨u,rfl,m⟩:=k.one
 cases m
 obtain⟨z,c,n,r,J,e⟩:=I.lstM g;obtain⟨B,a,p,o,y,w⟩:=I.lstM t;have f:c.toArray.size+a.toArray.size<=sizeLine:=by rw[A0,A0];omega
 have d:¬(!c.toArray.isEmpty && Builtin.List.listTooLong (c.toArray.size+a.toArray.size))=true:=by
  rw[jlj f,Bool.and_false];exact Ie
 refine Yp F.slot_list_extend ⟨_,e,rfl⟩ F.entry_list_extend (F.args_list_extend_2 _ _)
  (AutoSeq1.list_extend_list_list_0 l c.toArray n b a.toArray p d (by rw[A0];omega) (by omega)) ⟨e,w,?_⟩
 refine⟨.non,_,I.lset (its':=c++a) g e (by simp) (r.append o) ?_,rfl,q⟩;rw[Aq];omega
def rPop:V->List V->Hp->VK->Prop:=λx vs H Q=>∃l xs y,x=.ref l/\vs=[]/\H l=some (.lst xs)/\xs[xs.length-1]?=some y/\Q y (upd H l (.lst xs.dropLast))
theorem mt_pop:MtM X "list.pop" rPop:=by
 intro f s σ H x t v w Q I g i h;obtain⟨l,p,y,rfl,rfl,d,k,q⟩:=h
 cases g
 have c:=i.zero;subst c;obtain⟨z,a,n,r,o,e⟩:=I.lstM d;obtain⟨u,m,j⟩:=r.get k;have b:a.toArray[a.toArray.size-1]?=some u:=by
  show a.toArray[a.length-1]?=some u;rw[<-Ik,<-o];exact m
 refine Yp F.slot_list_pop ⟨_,e,rfl⟩ F.entry_list_pop (F.args_list_pop_1 _) (MeetsSeq.list_pop_last l a.toArray n u b (by rw[A0];omega)) ⟨e,?_⟩;refine⟨y,_,I.lset (its':=a.dropLast) d e ?_ r.dropLast ?_,j,q⟩
 .show a.toArray.eraseIdxIfInBounds (a.toArray.size-1)=a.dropLast.toArray;rw[A0,List.eraseIdxIfInBounds_toArray,joe]
 .rw[List.length_dropLast];omega
def jt4:V->List V->Hp->VK->Prop:=λx vs H Q=>∃l xs i k y,x=.ref l/\vs=[.int i]/\H l=some (.lst xs)/\-(2^63)<=i/\i<2^63/\seqIndex? i xs.length=some k/\xs[k]?=some y/\Q y (upd H l (.lst (xs.eraseIdx k)))
theorem mt_popAt:MtM X "list.pop" jt4:=by
 intro d s σ H x E v G Q I g j h;obtain⟨l,f,i,k,y,rfl,rfl,c,D,C,B,o,q⟩:=h
 cases g
 obtain⟨u,rfl,m⟩:=j.one;obtain⟨t,rfl⟩:=m;obtain⟨z,a,n,r,A,e⟩:=I.lstM c;obtain⟨w,p,b⟩:=r.get o;refine Yp F.slot_list_pop ⟨_,e,rfl⟩ F.entry_list_pop (F.args_list_pop_2 _ _)
  (MeetsSeq.list_pop_at l a.toArray n i t k w (fitsIndex_both D C) (by rw[A0,<-A];exact B) (by rw[<-Ik];exact p) (by rw[A0];omega)) ⟨e,?_⟩
 refine⟨y,_,I.lset (its':=a.eraseIdx k) c e ?_ (r.eraseIdx k) ?_,b,q⟩
 .show a.toArray.eraseIdxIfInBounds k=(a.eraseIdx k).toArray;rw[List.eraseIdxIfInBounds_toArray]
 .have:=jjg f k;omega
def rCat:R2:=λx y H Q=>∃l b xs zs,x=.ref l/\y=.ref b/\H l=some (.lst xs)/\H b=some (.lst zs)/\xs.length+zs.length<=sizeLine/\∀p,H p=none->Q (.ref p) (upd H p (.lst (xs++zs)))
theorem op_cat:OpR X (binaryOp .Add) rCat:=by
 intro d s σ H x y v u Q I g f h;obtain⟨l,b,A,t,rfl,rfl,j,k,C,q⟩:=h
 cases g
 cases f
 obtain⟨z,c,n,r,D,e⟩:=I.lstM j;obtain⟨w,a,B,i,p,o⟩:=I.lstM k;refine PySem.P.add_list e o ?_ (by rw[A0,A0];omega);have m:c.toArray++a.toArray=(c++a).toArray:=by simp
 rw[m];exact⟨.ref _,_,I.lnew (t':=s.toks) (r.append i) (by rw[Aq];omega),rfl,q _ I.fresh⟩
def rRep:R2:=λx y H Q=>∃l k xs,x=.ref l/\y=.int k/\H l=some (.lst xs)/\-(2^63)<=k/\k<2^63/\xs.length*k.toNat<=sizeLine /\
 ∀p,H p=none->Q (.ref p) (upd H p (.lst (List.replicate k.toNat xs).flatten))
theorem js8{α:Type}(xs:List α)(k:Nat):(List.replicate k xs).flatten.length=k*xs.length:=by
 induction k with
 |zero=>simp
 |succ k ih=>rw[List.replicate_succ,List.flatten_cons,Aq,ih,Nat.succ_mul,Nat.add_comm]
theorem op_rep:OpR X (binaryOp .Mult) rRep:=by
 intro w s σ H x y v u Q I C B h;obtain⟨l,k,L,rfl,rfl,E,J,G,p,q⟩:=h
 cases C
 obtain⟨t,rfl⟩:=B;obtain⟨z,b,n,r,D,e⟩:=I.lstM E;have f:b.toArray.size*k.toNat<=sizeLine:=by rw[A0,<-D];exact p
 have i:¬b.toArray.size*k.toNat>(2^63-1) / 8:=by
  have:(sizeLine:Nat)<=(2^63-1) / 8:=by decide
  omega
 have g:¬(!Builtin.List.listFitsIndex k)=true:=by
  rw[fitsIndex_both J G];exact Ie
 have c:¬Builtin.List.listTooLong (b.toArray.size*k.toNat)=true:=by
  rw[jlj f];exact Ie
 have d:List.foldl (λo j=>o++j) #[] (List.replicate (if b.toArray.isEmpty=true then 0 else k.toNat) b.toArray)=(List.replicate k.toNat b).flatten.toArray:=by
  have K:∀m:Nat,List.foldl (λo j=>o++j) #[] (List.replicate m b.toArray)=(List.replicate m b).flatten.toArray:=λm=>by
   have:=jjc b m [];rw[List.nil_append]at this;exact this
  rw[K]
  cases b with
  |nil=>simp
  |cons a r'=>rw[Ai (by simp)]
 refine wpAny_binaryOp_repeat_ref (T:="list") (U:="int") (by decide) ⟨_,e,rfl⟩ (λA=>typeIs_int A k t) noFill_list_mul F.fills_int_mul F.slot_int_rmul repeat_list F.slot_int_index.lookup
  (Yp F.slot_int_rmul (typeIs_int s k t) F.entry_int_rmul (F.args_int_rmul_2 _ _) (int___rmul___int_list k t l b.toArray n)
   ⟨e,rfl,⟨_,e,rfl⟩,Yp F.slot_list_mul ⟨_,e,rfl⟩ F.entry_list_mul (F.args_list_mul_2 _ _) (AutoListH.list___mul___list_int_3 l b.toArray n k t g i c) ⟨e,?_⟩⟩)
 rw[d];exact⟨.ref _,_,I.lnew (t':=s.toks) (r.rep k.toNat) (by rw[js8,Nat.mul_comm];exact p),rfl,q _ I.fresh⟩
end
end L2
namespace Att
open PySem PySem.W PySem.Calls PyProof.Rows
theorem jhv{P:Params}{h:Heap}:∀(ns:List Int)(vs:List Value),WellAll P h vs (ns.map WData.int)->IntsAre vs ns:=by
 intro ns;induction ns with
 |nil =>
  intro vs w;rw[U3]at w
  cases w
  exact .nil
 |cons n ns ih =>
  intro vs w;rw[Au]at w
  cases w with
  |cons a b =>
   cases a
   exact .cons _ _ (ih _ b)
theorem jqr{l:OpenLaw}{n:Nat}(hn:l.most=some n){P:Params}{h:Heap}{args:List WData}{b:List Value}
  (c:l.row.toRowW.claim.pre args=true) (i:WellAll P h b args) :
  ∃a vs ns,b=[Value.ref a]/\args=[WData.list (ns.map WData.int)]/\h.get? a=some {cls:=.type "list",data:=.seq vs.toArray}/\IntsAre vs ns/\ns.length<=n:=by
 have j:WShape.hasAll [] args [.list .int]=true:=(pre_splitW c).1
 have k:l.pre.holds [] {args:=args}=true:=(pre_splitW c).2
 obtain⟨d,r,rfl,s,p⟩:=hasAllW_cons j
 obtain rfl:=hasAllW_nil p
 obtain⟨t,rfl,o⟩:=hasW_list s
 obtain⟨ns,rfl⟩:=items_int o
 have e:ns.length<=n:=by
  unfold OpenLaw.pre at k;have g:(WTm.not (.lt (.lit (.int (n:Int))) (.len (.arg 0)))).holds [] {args:=[.list (ns.map .int)]}=true:=by
   have g:=(holds_andW k).1;rw[hn]at g;exact g
  have f:=condW_of g (w_not (w_lt w_lit (w_len_list (w_arg rfl))));rw[Ac]at f;refine Nat.le_of_not_lt λq=>?_;have m:(n:Int)<((ns.length:Nat):Int):=by omega
  first
   |(rw[decide_eq_true m]at f;exact absurd f (by decide))
   |(simp at f;omega)
 cases i with
 |cons w1 w2 =>
  cases w2
  cases w1 with
  |list ho hall=>exact⟨_,_,ns,rfl,rfl,ho,jhv ns _ hall,e⟩
theorem post_true(l:OpenLaw)(args:List WData):l.row.toRowW.claim.post args (.bool true) args=true :=
 postW_of (r:=l.row.toRowW) (X:=(true == true))
  (show WShape.has [] (.bool true) .bool=true by first|rfl|decide|simp[WShape.has,WShape.arms,WShape.armsAll])
  (show(WTm.eq .res (.lit (.bool true))).value [] {args:=args,res:=some (.bool true),after:=args}=some (.bool (true == true))from w_eq_bool (w_res rfl) w_lit) rfl
theorem attach_call{l:OpenLaw}{n:Nat}{q:Program}{b:List Str}{t:(Str->Option Value)->Heap->Prop}{s:World->Heap->Prop}{d:DefRec}
  (hn:l.most=some n) (k:d.params.defaults=[])
  (call:∀(w:World)(s₀ s₁:Shared)(mg mb:Str->Option Value)(fa:Addr)(o:Obj)(pm cd doc:Value)(a:Addr)(vs:List Value)(ns:List Int),
   Ground q b [] t w s₀ mg mb s₁.heap->s w s₁.heap ->
   s₁.heap.get? fa=some o->o.data=.func (docDef d.name d.params d.body d.scope pm cd doc)->s₁.heap.CodeRec cd d.name->mg d.name=some (.ref fa) ->
   s₁.heap.get? a=some {cls:=.type "list",data:=.seq vs.toArray}->IntsAre vs ns->ns.length<=n->s₁.gens=#[] ->
   codeAny (model l.prog w) callerA (.call (.ref fa) ⟨[.ref a],[]⟩) (λr s'=>r=.ok (.ret (.bool true))/\OldK s₁.heap s'.heap/\s'.os=s₁.os/\AllBare s'.gens) s₁) :
  WalkO q b t s l.row.toRowW d [] (λf vs=>PySem.call f vs):=by
 intro w s₀ s₁ mg mb G Y fa o pm cd doc H kV z C m p j B x u K e v I i J
 obtain rfl:H=.none:=Dflts.none p k
 obtain rfl:kV=.none:=Dflts.noKw p
 obtain⟨a,vs,ns,rfl,rfl,g,c,h⟩:=jqr hn e i
 refine enter_call (Yn (call w s₀ s₁ mg mb fa o pm cd doc a vs ns G Y z (fd_plain C) m j g c h B) λr s' y=>?_)
 obtain⟨rfl,F,E,D⟩:=y
 exact⟨.inl ⟨.bool true,.bool true,[],rfl,λ_=>rfl,.bool true,post_true l _,λ_=>⟨List.Pairwise.nil,λ_ A=>(nomatch A)⟩⟩,F,E,D⟩
end Att
namespace L2
open PySem PySem.Spec PyProof.Rows
theorem jj9:∀{vs:List Value}{ns:List Int},IntsAre vs ns->Vals (ns.map V.int) vs
 |_,_,.nil=>.nil
 |_,_,.cons n t h=>.cons ⟨t,rfl⟩ (jj9 h)
def j6(s:Stmt):Arguments:=match s with
 |.FunctionDef _ a _ _ _ _ _ _ _ _=>a
 |_=>{posonlyargs:=[],args:=[],vararg:=none,kwonlyargs:=[],kw_defaults:=[],kwarg:=none,defaults:=[]}
def jx(s:Stmt):List Stmt:=match s with
 |.FunctionDef _ _ b _ _ _ _ _ _ _=>b
 |_=>[]
def jg(s:Stmt):Scope:=match s with
 |.FunctionDef _ _ _ _ _ _ sc _ _ _=>sc
 |_=>{kind:=.function,names:=[],isGenerator:=false,isCoroutine:=false}
abbrev CX0:CXT:=λ_ _ _ _ _ _=>False
abbrev E0:XK:=λ_ _ _=>False
variable{X:Cx}
theorem kc:jhb CX0 X E0:=λ_ _ _ _ _ _ _ h=>h.elim
structure Fun(K:PySem.W.Frag)(x qual:Str)(st:Stmt)(f:Addr)(fd:FuncData):Prop where
 ex:∃(oc:Value)(od:Option Addr)(kV doc pm:Value)(an:Option Addr)(cdv ct:Value)(osl:Array (Option Value)),
  fd=PySem.W.fnOf x qual (j6 st) (jx st) (jg st) .none kV doc pm an cdv ct/\K.lookup f=some ⟨oc,od,.func fd,osl⟩/\PySem.W.codeIn K cdv qual=true
 kp:PySem.W.keepIn K (.ref f)=true
variable{f:Addr}{qual:Str}{st:Stmt}
section
variable{P:Program}{w:World}{K:PySem.W.Frag}{mg:Str->Option Value}{base:Heap}
theorem Fun.ok{x:Str}{fd:FuncData}{N ps:List Str}{k:Nat}{sp:Sp}(F:Fun K x qual st f fd)(S:FnScope N ps (jg st))(len:∀vs H Q E,sp vs H Q E->vs.length=ps.length)
  (a:∀(cdv:Value)(A:Around)(outer:List Env)(s:Shared)(H:Hp)(vs:List V)(Q:VK)(E:XK),Room k (A.deeper (envOfC qual (jg st) s.heap.objs.size f cdv))->sp vs H Q E ->
   ∃t,PSs (cxOf CX0 P w K mg base N qual (jg st) f cdv A outer s H E).nox (jx st) t/\t {nx:=λ_ H'=>Q .non H',rt:=Q} (start N vs) H):FnOk P w K mg base CX0 (k+1) f fd ps sp:=by
 obtain⟨l,j,kV,g,i,n,cdv,m,e,rfl,lk,c⟩:=F.ex
 refine jkb lk c S len λA outer s H vs Q E d b=>?_
 obtain⟨t,h,q⟩:=a cdv A outer s H vs Q E d b
 exact⟨t,h.nox,q⟩
theorem Fun.binds{x:Str}{fd:FuncData}{ps:List Str}(F:Fun K x qual st f fd)
  (h:∀(kV doc pm:Value)(an:Option Addr)(cdv ct:Value)(us:List Value),us.length=ps.length->bindArgs (PySem.W.fnOf x qual (j6 st) (jx st) (jg st) .none kV doc pm an cdv ct) ⟨us,[]⟩=pure (ps.zip us)):Binds K fd ps []:=by
 obtain⟨d,c,kV,doc,pm,an,cdv,ct,a,rfl,lk,b⟩:=F.ex
 exact .all (h kV doc pm an cdv ct)
theorem jcv{x:Str}{h:Value}{g e:Option Addr}{d:Array (Option Value)}{kV b pm a ct:Value}(l:K.lookup f=some ⟨h,g,.func (PySem.W.fnOf x qual (j6 st) (jx st) (jg st) .none kV b pm e a ct),d⟩)
  (c:PySem.W.codeIn K a qual=true) (k:PySem.W.keepIn K (.ref f)=true):Fun K x qual st f (PySem.W.fnOf x qual (j6 st) (jx st) (jg st) .none kV b pm e a ct):=⟨⟨h,g,kV,b,pm,e,a,ct,d,rfl,l,c⟩,k⟩
end
variable{pos:Pos}
section
variable{X:Cx}
theorem pv(i:Nat){x:Str}(hN:X.N[i]?=some x:=by rfl)(b:Vis X.env.scope x:=by first|exact Or.inl rfl|exact Or.inr (Or.inl rfl)|exact Or.inr (Or.inr rfl))(hd:(x == ("__debug__":Str))=false:=by decide)
  (a:(x == ("__classdict__":Str))=false:=by decide):PE X (.Name x pos) (tVar i):=jcf hN b hd a
end
theorem ite2{c A B:Prop}[Decidable c](h1:c->A)(h2:¬c->B):if c then A else B:=by
 by_cases h:c
 .rw[Al h];exact h1 h
 .rw[Ai h];exact h2 h
variable{u:Value}{y:V}
section
variable{κ:Type}[DecidableEq κ]
def valV(kvs:List (κ×V))(k:κ):Option V:=(kvs.find? λkv=>decide (kv.1=k)).map (·.2)
def putK(kvs:List (κ×V))(k:κ)(v:V):List (κ×V) :=
 if(kvs.any λkv=>decide (kv.1=k))=true then kvs.map (λkv=>if kv.1=k then(kv.1,v)else kv)else kvs++[(k,v)]
def jfh(kvs:List (κ×V))(k:κ):List (κ×V):=kvs.filter λkv=>decide (kv.1≠k)
theorem jc4{p:κ×V}{r:List (κ×V)}{k:κ}(e:p.1=k):valV (p::r) k=some p.2:=by simp[valV,List.find?_cons,e]
theorem jc3{p:κ×V}{r:List (κ×V)}{k:κ}(e:¬p.1=k):valV (p::r) k=valV r k:=by simp[valV,List.find?_cons,e]
theorem jev(k:κ):∀kvs:List (κ×V),(kvs.any λkv=>decide (kv.1=k))=(valV kvs k).isSome
 |[]=>rfl
 |p::r=>by
  rw[List.any_cons];by_cases e:p.1=k
  .simp only[jc4 e,decide_eq_true e,Bool.true_or,Option.isSome_some]
  .rw[jc3 e,O3 e,Bool.false_or];exact jev k r
theorem jmd(k j:κ)(y:V):∀kvs:List (κ×V),valV (kvs.map λkv=>if kv.1=k then(kv.1,y)else kv) j=(valV kvs j).map λx=>if j=k then y else x
 |[]=>rfl
 |p::r=>by
  have a:=jmd k j y r;rw[Au];by_cases h:p.1=k
  .rw[Al h];by_cases e:p.1=j
   .rw[jc4 (p:=(p.1,y)) e,jc4 e,Option.map_some,Al (e.symm.trans h)]
   .rw[jc3 (p:=(p.1,y)) e,jc3 e,a]
  .rw[Ai h];by_cases e:p.1=j
   .rw[jc4 (p:=p) e,jc4 e,Option.map_some,Ai (λz=>h (e.trans z))]
   .rw[jc3 (p:=p) e,jc3 e,a]
theorem jj8(k j:κ)(y:V):∀kvs:List (κ×V),valV kvs k=none->valV (kvs++[(k,y)]) j=if j=k then some y else valV kvs j
 |[],_=>by
  by_cases e:k=j
  .rw[Al e.symm];exact jc4 (p:=(k,y)) e
  .rw[Ai (λz=>e z.symm)];exact jc3 (p:=(k,y)) e
 |p::r,hn=>by
  rw[List.cons_append];have a:¬p.1=k:=λz=>by rw[jc4 z]at hn;cases hn
  rw[jc3 a]at hn;have b:=jj8 k j y r hn;by_cases e:p.1=j
  .rw[jc4 e,jc4 e,Ai (λz=>a (e.trans z))]
  .rw[jc3 e,jc3 e,b]
theorem jha(kvs:List (κ×V))(k j:κ)(y:V):valV (putK kvs k y) j=if j=k then some y else valV kvs j:=by
 unfold putK;by_cases a:(kvs.any λb=>decide (b.1=k))=true
 .rw[Al a,jmd];rw[jev]at a;by_cases e:j=k
  .obtain⟨x,c⟩:=Option.isSome_iff_exists.mp a;rw[Al e,e,c,Option.map_some,Al rfl]
  .rw[Ai e]
   cases valV kvs j with
   |none=>rfl
   |some x=>rw[Option.map_some,Ai e]
 .rw[Ai a];refine jj8 k j y kvs ?_;rw[jev]at a
  cases q:valV kvs k with
  |none=>rfl
  |some x=>rw[q]at a;exact(a rfl).elim
theorem jda(kvs:List (κ×V))(k:κ)(v:V):(putK kvs k v).length<=kvs.length+1:=by
 unfold putK;split
 .rw[Ac];omega
 .rw[Aq,List.length_cons,List.length_nil];omega
theorem jlm{kvs:List (κ×V)}{k:κ}(v:V)(h:valV kvs k=none):putK kvs k v=kvs++[(k,v)]:=by
 unfold putK;rw[jev,h];exact Ai (by decide)
theorem RelO.isSome_eq{o:Option V}{u:Option Value}(r:RelO o u):o.isSome=u.isSome:=by
 cases o with
 |none=>cases u with
  |none=>rfl
  |some _=>exact(show False from r).elim
 |some _=>cases u with
  |none=>exact(show False from r).elim
  |some _=>rfl
theorem KV.val{kvs:List (κ×V)}{vs:List (κ×Value)}(r:KV kvs vs)(k:κ):RelO (valV kvs k) (valueAt vs k):=by
 unfold KV at r;induction r with
 |nil=>exact True.intro
 |@cons p q ps qs h t ih =>
  obtain⟨c,d⟩:=h;by_cases e:p.1=k
  .have a:q.1=k:=c.symm.trans e;have b:valueAt (q::qs) k=some q.2:=by simp[valueAt,List.find?_cons,a]
   rw[jc4 e,b];exact d
  .have a:¬q.1=k:=λz=>e (c.trans z);have b:valueAt (q::qs) k=valueAt qs k:=by simp[valueAt,List.find?_cons,a]
   rw[jc3 e,b];exact ih
theorem KV.any{kvs:List (κ×V)}{vs:List (κ×Value)}(r:KV kvs vs)(k:κ):(kvs.any λkv=>decide (kv.1=k))=vs.any λkv=>decide (kv.1=k):=by
 unfold KV at r;induction r with
 |nil=>rfl
 |cons h t ih=>rw[List.any_cons,List.any_cons,ih,h.1]
theorem KV.repl{kvs:List (κ×V)}{vs:List (κ×Value)}(r:KV kvs vs)(k:κ)(b:RelV y u) :
  KV (kvs.map λkv=>if kv.1=k then(kv.1,y)else kv) (vs.map λkv=>if kv.1=k then(kv.1,u)else kv):=by
 unfold KV at r⊢
 induction r with
 |nil=>exact .nil
 |@cons p q ps qs h t ih =>
  rw[Au,Au]
  refine .cons ?_ ih
  obtain⟨a,c⟩:=h
  by_cases e:p.1=k
  .rw[Al e,Al (a.symm.trans e)];exact⟨a,b⟩
  .rw[Ai e,Ai (λz=>e (a.trans z))];exact⟨a,c⟩
theorem KV.put{kvs:List (κ×V)}{vs:List (κ×Value)}(r:KV kvs vs)(k:κ)(a:RelV y u):KV (putK kvs k y) (stored vs k u):=by
 unfold putK stored;rw[r.any k];by_cases e:(vs.any λb=>decide (b.1=k))=true
 .rw[Al e,Al e];exact r.repl k a
 .rw[Ai e,Ai e];exact Wg r ⟨rfl,a⟩
theorem KV.drop{kvs:List (κ×V)}{vs:List (κ×Value)}(r:KV kvs vs)(k:κ):KV (jfh kvs k) (without vs k):=by
 unfold KV at r⊢;unfold jfh without;induction r with
 |nil=>exact .nil
 |@cons p q ps qs h t ih =>
  obtain⟨c,d⟩:=h;rw[List.filter_cons,List.filter_cons];by_cases e:p.1=k
  .have a:¬decide (p.1≠k)=true:=by simp[e]
   have b:¬decide (q.1≠k)=true:=by simp[c.symm.trans e]
   rw[Ai a,Ai b];exact ih
  .have f:¬q.1=k:=λz=>e (c.trans z);have a:decide (p.1≠k)=true:=by simp[e]
   have b:decide (q.1≠k)=true:=by simp[f]
   rw[Al a,Al b];exact .cons ⟨c,d⟩ ih
theorem KV.length{kvs:List (κ×V)}{vs:List (κ×Value)}(r:KV kvs vs):kvs.length=vs.length:=Iw r
theorem jq9(kvs:List (κ×V))(k:κ):(jfh kvs k).length<=kvs.length:=Oy _ _
end
variable{P:Program}{w:World}
theorem jey{k:Key}(r:RelV (kV k) u):(jck P w).is k u=true:=by
 cases k with
 |inl i=>obtain⟨t,e⟩:=(show ∃t,u=Value.int i t from r);subst e;exact jmk P w i t
 |inr x=>obtain⟨t,e⟩:=(show ∃t,u=Value.str x t from r);subst e;exact jml P w x t
theorem jje{P:Program}{w:World}:∀{ks:List Key}{us:List Value},Vals (ks.map kV) us->ItemsAre (jck P w) ks us
 |[],_,r=>by rw[U3]at r;cases r;exact .nil
 |k::ks,_,r=>by
  rw[Au]at r
  cases r with
  |cons h t=>exact .cons (jey h) (jje t)
abbrev KT(H:Hp):List (List Key×V)->List (List Key×Addr×Value)->Prop:=Paired λp q=>p.1=q.1/\H q.2.1=some (.tup (p.1.map kV))/\RelV p.2 q.2.2
variable{H:Hp}{kvs:List (List Key×V)}
theorem KT.val{xs:List (List Key×Addr×Value)}(r:KT H kvs xs)(k:List Key):RelO (valV kvs k) ((atKey xs k).map (·.2)):=by
 induction r with
 |nil=>exact True.intro
 |@cons p q ps qs h t ih =>
  obtain⟨c,_,d⟩:=h;by_cases e:p.1=k
  .have a:q.1=k:=c.symm.trans e;have b:atKey (q::qs) k=some q.2:=by simp[atKey,List.find?_cons,a]
   rw[jc4 e,b];exact d
  .have a:¬q.1=k:=λz=>e (c.trans z);have b:atKey (q::qs) k=atKey qs k:=by simp[atKey,List.find?_cons,a]
   rw[jc3 e,b];exact ih
theorem KT.repl{xs:List (List Key×Addr×Value)}(r:KT H kvs xs)(k:List Key)(c:RelV y u) :
  KT H (kvs.map λkv=>if kv.1=k then(kv.1,y)else kv) (xs.map (putAt k u)):=by
 induction r with
 |nil=>exact .nil
 |@cons p q ps qs h t ih =>
  rw[Au,Au]
  refine .cons ?_ ih
  obtain⟨a,b,d⟩:=h
  unfold putAt
  by_cases e:p.1=k
  .rw[Al e,Al (a.symm.trans e)];exact⟨a,b,c⟩
  .rw[Ai e,Ai (λz=>e (a.trans z))];exact⟨a,b,d⟩
variable{b:Addr}
theorem KT.put{xs:List (List Key×Addr×Value)}(r:KT H kvs xs)(k:List Key)(hb:H b=some (.tup (k.map kV)))(a:RelV y u) :
  KT H (putK kvs k y) (storedH xs k b u):=by
 have e:(kvs.any λc=>decide (c.1=k))=(atKey xs k).isSome:=by
  rw[jev,(r.val k).isSome_eq,Option.isSome_map]
 unfold putK storedH
 rw[e]
 by_cases q:(atKey xs k).isSome=true
 .rw[Al q,Al q];exact r.repl k a
 .rw[Ai q,Ai q];exact Wg r ⟨rfl,hb,a⟩
variable{H':Hp}
theorem KT.keeps{xs:List (List Key×Addr×Value)}(r:KT H kvs xs)(a:∀b ys,H b=some (.tup ys)->H' b=some (.tup ys)):KT H' kvs xs :=
 Paired.mapP r λ_ _ z=>⟨z.1,a _ _ z.2.1,z.2.2⟩
section
variable{P:Program}{w:World}{H:Hp}{h:Heap}{a:Addr}
theorem jsd{u:HO}(ok:HOk P w H h)(e:Rd H a u):ObjOk P w H h a u:=e.ok ok
theorem jff{kvs:List (Key×V)}(ok:HOk P w H h)(e:Rd H a (.dK kvs)):kvs.length<=sizeLine/\(a == sysModules)=false/\∃vs,KV kvs vs/\h.DictOf (jck P w) a vs :=
 show ObjOk P w H h a (.dK kvs)from jsd ok e
theorem jka{kvs:List (Key×V)}(ok:HOk P w H h)(e:H a=some (.dK kvs)):kvs.length<=sizeLine/\(a == sysModules)=false/\∃vs,KV kvs vs/\h.DictOf (jck P w) a vs:=jff ok (.inl e)
theorem je9{ks:List Key}(ok:HOk P w H h)(e:H a=some (.tup (ks.map kV))):(tupleKind (jck P w)).is h ks a:=by
 obtain⟨_,b,r,o,f,d,n,c⟩:=(show ObjOk P w H h a (.tup (ks.map kV))from ok a _ e);exact⟨o,b.toArray,n,f,d,c,by simpa using jje r⟩
theorem jhn(ok:HOk P w H h)(e:Rd H a (.dT kvs)):kvs.length<=sizeLine/\(a == sysModules)=false /\
  ∃xs,KT H kvs xs/\h.DictOfH (tupleKind (jck P w)) a xs:=by
 obtain⟨z,y,xs,r,o,k,n,j,i,g,f,d⟩:=(show ObjOk P w H h a (.dT kvs)from jsd ok e)
 refine⟨z,y,xs,r,o,k,n,j,i,g,f,λx b=>?_,d⟩
 have c:∀{l:List (List Key×V)}{m:List (List Key×Addr×Value)},KT H l m->∀x∈m,(tupleKind (jck P w)).is h x.1 x.2.1:=by
  intro l m q;induction q with
  |nil=>intro x b;exact nomatch b
  |@cons p q ps qs hq t ih =>
   intro x b;rcases At.mp b with e|b
   .subst e;exact je9 ok (by rw[<-hq.1];exact hq.2.1)
   .exact ih x b
 exact c r x b
theorem jr6(ok:HOk P w H h)(e:H a=some (.dT kvs)):kvs.length<=sizeLine/\(a == sysModules)=false /\
  ∃xs,KT H kvs xs/\h.DictOfH (tupleKind (jck P w)) a xs:=jhn ok (.inl e)
end
def DGet(H:Hp)(a:Addr)(y:V)(r:Option V):Prop :=
 (∃kvs k,Rd H a (.dK kvs)/\y=kV k/\r=valV kvs k)\/∃kvs k b,Rd H a (.dT kvs)/\y=.ref b/\H b=some (.tup (k.map kV))/\r=valV kvs k
def DPut(H:Hp)(a:Addr)(y v:V)(H':Hp):Prop :=
 (∃kvs k,H a=some (.dK kvs)/\y=kV k/\kvs.length<sizeLine/\H'=upd H a (.dK (putK kvs k v))) \/
 ∃kvs k b,H a=some (.dT kvs)/\y=.ref b/\H b=some (.tup (k.map kV))/\kvs.length<sizeLine/\H'=upd H a (.dT (putK kvs k v))
variable{a:Addr}
theorem DGet.k{kvs:List (Key×V)}{k:Key}(e:H a=some (.dK kvs)):DGet H a (kV k) (valV kvs k):=.inl ⟨kvs,k,.inl e,rfl,rfl⟩
theorem DGet.t{k:List Key}(e:H a=some (.dT kvs))(eb:H b=some (.tup (k.map kV))):DGet H a (.ref b) (valV kvs k):=.inr ⟨kvs,k,b,.inl e,rfl,eb,rfl⟩
variable{v:V}
theorem DPut.k{kvs:List (Key×V)}{k:Key}(e:H a=some (.dK kvs))(hl:kvs.length<sizeLine):DPut H a (kV k) v (upd H a (.dK (putK kvs k v))):=.inl ⟨kvs,k,e,rfl,hl,rfl⟩
theorem DPut.t{k:List Key}(e:H a=some (.dT kvs))(eb:H b=some (.tup (k.map kV)))(hl:kvs.length<sizeLine) :
  DPut H a (.ref b) v (upd H a (.dT (putK kvs k v))):=.inr ⟨kvs,k,b,e,rfl,eb,hl,rfl⟩
variable{Q:Value->Shared->Prop}{h':Heap}
section
variable{X:Cx}{pins:List (Addr×Obj)}{σ:St}{H:Hp}{s:Shared}{a:Addr}{y v:V}{u r:Value}{o:Option V}{A:Around}{E:Value->Shared->Prop}
theorem Inv.big(I:Inv X pins σ H s):sysModules<s.heap.objs.size:=by
 have h:mainGlobals<s.heap.objs.size:=(I.mod.glob.keeps I.bk).lt;exact Yx (by decide) h
theorem jph(hu:A.units+1<cLine)(I:Inv X pins σ H s)(g:DGet H a y (some v))(m:RelV y u)(h:∀w' s',Inv X pins σ H s'->RelV v w'->Q w' s') :
  wpAny (model X.prog X.w) A (getItem (.ref a) u) Q E s:=by
 rcases g with⟨kvs,k,e,ey,l⟩|⟨kvs,k,b,e,ey,eb,l⟩
 .subst ey
  obtain⟨z,t,q,d,i⟩:=jff I.hok e
  obtain⟨w',f,c⟩:=RelO.some_of (v:=v) (o:=valueAt q k) (by rw[l];exact d.val k)
  exact wpAny_getItem_of (jey m) i.mapOf f (h w' _ (I.tok _) c)
 .subst ey
  cases(show u=Value.ref b from m)
  obtain⟨z,t,n,d,i⟩:=jhn I.hok e
  obtain⟨w',f,c⟩:=RelO.some_of (v:=v) (o:=(atKey n k).map (·.2)) (by rw[l];exact d.val k)
  obtain⟨p,r,j⟩:=Ih.mp f
  refine wpAny_getItem_heap (Aa2 hu) (je9 I.hok eb) i r ?_
  rw[j]
  exact h w' _ (I.tok _) c
theorem jsr(hu:A.units+1<cLine)(I:Inv X pins σ H s)(g:DGet H a y o)(i:RelV y u)(h:∀s',Inv X pins σ H s'->Q (.bool (!o.isSome)) s') :
  wpAny (model X.prog X.w) A (compareOp .NotIn u (.ref a)) Q E s:=by
 rcases g with⟨kvs,k,e,ey,l⟩|⟨kvs,k,b,e,ey,eb,l⟩
 .subst ey
  obtain⟨z,d,m,c,f⟩:=jff I.hok e
  refine wpAny_notIn_of (jey i) d f.mapOf ?_
  rw[<-(c.val k).isSome_eq,<-l]
  exact h _ (I.tok _)
 .subst ey
  cases(show u=Value.ref b from i)
  obtain⟨z,d,j,c,f⟩:=jhn I.hok e
  refine wpAny_notIn_heap (Aa2 hu) (je9 I.hok eb) d f ?_
  have q:=(c.val k).isSome_eq
  rw[Option.isSome_map]at q
  rw[<-q,<-l]
  exact h _ (I.tok _)
theorem jee{t':Nat}{c:HO}(I:Inv X pins σ H s)(d:Mut (H a))(hs:Heap.SameBut a s.heap h')(f:∃q,h'.get? a=some q)(new:ObjOk X.prog X.w (upd H a c) h' a c) :
  Inv X pins σ (upd H a c) {s with heap:=h',toks:=t'} :=
 I.write (x:=a) (e:=a) d (.inl rfl) (λb q g z=>(hs.2 b g).trans z) f new
theorem je6{kvs:List (Key×V)}{vs:List (Key×Value)}(z:kvs.length<=sizeLine)(hd:(a == sysModules)=false)(b:KV kvs vs)(c:h'.DictOf (jck P w) a vs) :
  ObjOk P w H' h' a (.dK kvs):=⟨z,hd,vs,b,c⟩
theorem jpi{Q:Unit->Shared->Prop}(hu:A.units+1<cLine)(I:Inv X pins σ H s)(g:DPut H a y v H')(t:RelV y u)(rv:RelV v r)(h:∀s',Inv X pins σ H' s'->Q () s') :
  wpAny (model X.prog X.w) A (setItem (.ref a) u r) Q E s:=by
 rcases g with⟨kvs,k,e,ey,l,eH⟩|⟨kvs,k,b,e,ey,eb,l,eH⟩
 .subst ey eH
  obtain⟨z,o,D,d,p⟩:=jka I.hok e
  have j:D.length<=sizeLine:=by rw[<-d.length];exact z
  have n:(putK kvs k v).length<=sizeLine:=by have:=jda kvs k v;omega
  refine wpAny_setItem_pairs (hsz:=j) (jey t) p λx f m=>h _ ?_
  have F:∃q,x.get? a=some q:=let⟨q,_,_,i,_⟩:=f;⟨q,i⟩
  exact jee I (by rw[e];exact True.intro) m F (je6 n o (d.put k rv) f)
 .subst ey eH
  cases(show u=Value.ref b from t)
  obtain⟨z,o,C,d,p⟩:=jr6 I.hok e
  have j:C.length<=sizeLine:=by rw[<-Iw d];exact z
  have n:(putK kvs k v).length<=sizeLine:=by have:=jda kvs k v;omega
  refine wpAny_setItem_heap (hsz:=j) (Aa2 hu) (je9 I.hok eb) p λx f m=>h _ ?_
  obtain⟨q,M,N,i,L,K,J,_,G⟩:=f
  refine jee I (by rw[e];exact True.intro) m ⟨q,i⟩ ⟨n,o,_,(d.put k eb rv).keeps λc O B=>?_,q,M,N,i,L,K,J,G⟩
  rw[jd (jop B e (λz=>nomatch z))]
  exact B
end
section
variable{X:Cx}{pins:List (Addr×Obj)}{σ:St}{H:Hp}{s:Shared}{a:Addr}{kvs:List (Key×V)}{k:Key}{u:Value}{A:Around}{E:Value->Shared->Prop}
theorem jue{more:List Value}(I:Inv X pins σ H s)(e:H a=some (.dK kvs))(d:RelV (kV k) u)(l:valV kvs k=some v)(hm:more=[]\/∃x,more=[x])
  (h:∀w' s',Inv X pins σ (upd H a (.dK (jfh kvs k))) s'->RelV v w'->Q w' s'):wpAny (model X.prog X.w) A (call (.builtin "dict.pop") (.ref a::u::more)) Q E s:=by
 obtain⟨z,y,g,b,j⟩:=jka I.hok e
 obtain⟨w',m,f⟩:=RelO.some_of (v:=v) (o:=valueAt g k) (by rw[<-l];exact b.val k)
 have p:(keyPart u).isSome=true:=by
  cases k with
  |inl i=>obtain⟨t,q⟩:=(show ∃t,u=Value.int i t from d);subst q;rfl
  |inr x=>obtain⟨t,q⟩:=(show ∃t,u=Value.str x t from d);subst q;rfl
 have B:argsOk "dict.pop" ⟨.ref a::u::more,[]⟩:=by
  rcases hm with q|⟨x,q⟩
  .subst q;exact PySem.F.args_dict_pop_2 _ _
  .subst q;exact PySem.F.args_dict_pop_3 _ _ _
 refine call_meetsIn PySem.F.slot_dict_pop j.typeIs PySem.F.entry_dict_pop B (meets_dict_pop_there (jck X.prog X.w) a (jey d) more hm p)
  ⟨g,w',j,by rw[<-b.length];exact z,m,λC c n=>h w' _ ?_ f⟩
 have r:∃q,C.get? a=some q:=let⟨q,_,_,hq,_⟩:=c;⟨q,hq⟩
 exact jee I (by rw[e];exact True.intro) n r (je6 (Og (jq9 kvs k) z) y (b.drop k) c)
theorem jud(I:Inv X pins σ H s)(e:Rd H a (.dK kvs))(h:∀t s',Inv X pins σ H s'->Q (.int kvs.length t) s'):wpAny (model X.prog X.w) A (call (.builtin "len") [.ref a]) Q E s:=by
 obtain⟨z,c,f,b,d⟩:=jff I.hok e;refine call_len_dict c d (by rw[<-b.length];rw[Uo]at z;omega) ?_;rw[<-b.length];exact h _ _ (I.tok _)
end
def NoSl(i:Expr):Prop:=∀ov iv,subscripted i false ov iv=operate [ov,iv] (getItem ov iv)
variable{env:Env}{s:Shared}
theorem jth{prog:Program}{A:Around}{E:Value->Shared->Prop}{value a:Expr}{T id:String}
  (hl:typeLookup (.type T) "__getitem__"=pure (some (.builtin id))) (hs:NoSl a)
  (h:wpAny (model prog w) A (eval value env) (λo s₁=>wpAny (model prog w) A (eval a env) (λi s₂=>s₂.TypeIs o T/\wpAny (model prog w) A (getItem o i) Q E s₂) E s₁) E s) :
  wpAny (model prog w) A (eval (.Subscript value a pos) env) Q E s:=by
 refine Subscript_ (Uv h (λo s₁ g=>Uv g (λi s₂ c=>?_) λ_ _ x=>x) λ_ _ x=>x)
 obtain⟨e,c⟩:=c
 unfold subscriptTail
 refine Ad ?_
 rw[getitemInPython_of_ne e.not_modules]
 refine Ad (wpAny_specialOf e hl ?_)
 have b:wpAny (model prog w) A (subscripted a false o i) (λr d=>wpAny (model prog w) A (letTemporaryGo value o r >>= λ_=>pure r) Q E d) E s₂:=by
  rw[hs o i];exact wpAny_operating (Uv c (λr d f=>Ad (wpAny_letTemporaryGo (Aj f))) λ_ _ x=>x)
 first
  |exact Aj (Ad b)
  |exact Ad (Aj (Ad b))
  |exact Ad b
variable{pins:List (Addr×Obj)}
theorem jmi{σ:St}{o:Option V}(I:Inv X pins σ H s)(g:DGet H a y o):s.TypeIs (.ref a) "dict":=by
 rcases g with⟨kvs,k,e,_,_⟩|⟨kvs,k,b,e,_,_,_⟩
 .obtain⟨_,_,f,_,c⟩:=jff I.hok e;exact c.typeIs
 .obtain⟨_,_,d,_,c⟩:=jhn I.hok e;exact c.typeIs
def jkn(td ty:TE):TE:=λσ H Q=>td σ H λx H1=>ty σ H1 λy H2=>∃a v,x=.ref a/\DGet H2 a y (some v)/\Q v H2
def jgd(ty td:TE):TE:=λσ H Q=>ty σ H λy H1=>td σ H1 λx H2=>∃a o,x=.ref a/\DGet H2 a y o/\Q (.bl (!o.isSome)) H2
def jki(td ty tv:TE):TS:=λD σ H=>tv σ H λv H1=>td σ H1 λx H2=>ty σ H2 λy H3=>∃a H4,x=.ref a/\DPut H3 a y v H4/\D.nx σ H4
section
variable{X:Cx}{o i e value:Expr}{pos pos' tpos:Pos}{td ty tv:TE}
theorem pe_dget(hu:X.A.units+1<cLine)(m:PE X o td)(hi:PE X i ty)(hs:NoSl i):PE X (.Subscript o i pos) (jkn td ty):=by
 intro b s σ H Q I h;refine jth PySem.F.slot_dict_getitem.lookup hs (thn (m b s σ H _ I h) λu e ⟨x,t,q,j,l⟩=>thn (hi b e σ t _ q l) λC B ⟨y,r,d,f,a,v,n,g,k⟩=>?_);subst n;obtain rfl:u=Value.ref a:=j;exact⟨jmi d g,jph hu d g f λw z p c=>⟨v,r,p,c,k⟩⟩
theorem pc_dnotin(hu:X.A.units+1<cLine)(hi:PE X i ty)(l:PE X o td):PC X .NotIn i o (jgd ty td):=by
 intro b s σ H Q I h;refine thn (hi b s σ H _ I h) λz c ⟨y,t,q,d,j⟩=>thn (l b c σ t _ q j) λu w ⟨x,r,p,e,a,k,m,g,f⟩=>?_;subst m;obtain rfl:u=Value.ref a:=e;exact jsr hu p g d λv n=>⟨.bl (!k.isSome),r,n,rfl,f⟩
theorem ps_dput(hu:X.A.units+1<cLine)(p:PE X o td)(hi:PE X i ty)(n:PE X value tv)(hs:swapsWith value (some (.Subscript o i pos')) pos.line X.env=pure false) :
  PS X (.Assign [.Subscript o i pos'] value pos) (jki td ty tv):=by
 intro b s σ H D I h
 refine wpAny_Assign_Subscript (thn (n b s σ H _ I h) λr d ⟨v,F,B,j,m⟩=>thn (p b d σ F _ B m) λu c ⟨x,E,z,f,l⟩=>thn (hi b c σ E _ z l) λK J ⟨y,L,w,e,a,C,q,g,k⟩=>?_) hs
 subst q
 obtain rfl:u=Value.ref a:=f
 exact jpi hu w g e j λG t=>⟨σ,C,t,k⟩
end
theorem jk4(h:Heap)(hb:sysModules<h.objs.size):ObjOk P w H (h.push {cls:=.type "dict",data:=.dict #[]}) h.objs.size (.dK []) :=
 ⟨Op _,Ue.mpr (Wy (A2 hb)),[],.nil,Heap.DictOf.new h⟩
theorem jra(h:Heap)(hb:sysModules<h.objs.size):ObjOk P w H (h.push {cls:=.type "dict",data:=.dict #[]}) h.objs.size (.dT []) :=
 ⟨Op _,Ue.mpr (Wy (A2 hb)),[],.nil,_,#[],0,A4 _ rfl,⟨rfl,rfl,rfl⟩,rfl,rfl,Aa0⟩
def jeu:List (TE×TE)->St->Hp->(List (V×V)->Hp->Prop)->Prop
 |[],_,H,Q=>Q [] H
 |(tk,tv)::r,σ,H,Q=>tk σ H λx H1=>tv σ H1 λy H2=>jeu r σ H2 λps H3=>Q ((x,y)::ps) H3
abbrev VV:List (V×V)->List (Value×Value)->Prop:=Paired λp q=>RelV p.1 q.1/\RelV p.2 q.2
def PPs(X:Cx)(pos:Pos)(keys:List (Option Expr))(values:List Expr)(trs:List (TE×TE)):Prop :=
 ∀(pins:List (Addr×Obj))(s:Shared)(σ:St)(H:Hp)(Q:List (V×V)->Hp->Prop),Inv X pins σ H s->jeu trs σ H Q ->
  wpAny (model X.prog X.w) X.A (evalPairs (pairTrees keys values X.env pos)) (λvs s'=>∃ps H',Inv X pins σ H' s'/\VV ps vs/\Q ps H') X.xe s
theorem jb9:PPs X pos [] [] []:=λa s σ H Q I h=>pairTrees_nil_walk ⟨[],H,I,.nil,h⟩
theorem jbz{k v:Expr}{ks:List (Option Expr)}{vs:List Expr}{tk tv:TE}{b:List (TE×TE)}(hk:PE X k tk)(n:PE X v tv)(hr:PPs X pos ks vs b) :
  PPs X pos (some k::ks) (v::vs) ((tk,tv)::b):=λa s σ H Q I h =>
 pairTrees_cons_walk (thn (hk a s σ H _ I h) λu e ⟨x,w,q,g,l⟩=>thn (n a e σ w _ q l) λA d ⟨y,t,p,f,j⟩ =>
  thn (hr a d σ t _ p j) λz B ⟨m,r,o,c,i⟩=>⟨(x,y)::m,r,o,.cons ⟨g,f⟩ c,i⟩)
def jeq(kvs more:List (Key×V)):List (Key×V):=more.foldl (λacc kv=>putK acc kv.1 kv.2) kvs
theorem KV.merge:∀{more:List (Key×V)}{rs:List (Key×Value)}{kvs:List (Key×V)}{vs:List (Key×Value)},KV more rs->KV kvs vs->KV (jeq kvs more) (merged vs rs):=by
 intro more rs kvs vs r;unfold KV at r;induction r generalizing kvs vs with
 |nil=>intro q;exact q
 |@cons p q ps qs h t ih =>
  intro a;have e:KV (putK kvs p.1 p.2) (stored vs q.1 q.2):=by
   have:=a.put p.1 h.2;rw[<-h.1];exact this
  exact ih e
theorem jfp:∀(more kvs:List (Key×V)),(jeq kvs more).length<=kvs.length+more.length
 |[],kvs=>by show kvs.length<=kvs.length+0;omega
 |p::r,kvs=>by
  have b:=jfp r (putK kvs p.1 p.2);have a:=jda kvs p.1 p.2;show(jeq (putK kvs p.1 p.2) r).length<=_;rw[List.length_cons];omega
theorem jhi{P:Program}{w:World}:∀{kvs:List (Key×V)}{ws:List (Value×Value)},VV (kvs.map λkv=>(kV kv.1,kv.2)) ws->∃rs,Carries (jck P w) ws rs/\KV kvs rs
 |[],_,r=>by rw[U3]at r;cases r;exact⟨[],True.intro,.nil⟩
 |p::kvs,_,r=>by
  rw[Au]at r
  cases r with
  |@cons a b as bs h t =>
   obtain⟨rs,c,q⟩:=jhi (P:=P) (w:=w) t;obtain⟨e,d⟩:=b;exact⟨(p.1,d)::rs,⟨jey h.1,rfl,c⟩,.cons ⟨rfl,h.2⟩ q⟩
def jge(trs:List (TE×TE)):TE:=λσ H Q=>∀p,H p=none->jeu trs σ (upd H p (.dK [])) λps H2=>H2 p=some (.dK [])/\∃kvs:List (Key×V),ps=kvs.map (λkv=>(kV kv.1,kv.2))/\kvs.length<=15/\Q (.ref p) (upd H2 p (.dK (jeq [] kvs)))
theorem pe_disp{b:List (Option Expr)}{d:List Expr}{f:List (TE×TE)}(h:PPs X pos b d f)(k:b.all (·.isSome)=true)(hl:b.length=d.length)(D:b≠[])
  (m:b.length<=15):PE X (.Dict b d pos) (jge f):=by
 intro j s σ H Q I q
 have y:=I.hok.fresh (Ao s.heap.objs.size)
 have G:=I.laid (a:=s.heap.objs.size) (o:=.dK []) (h':=s.heap.push {cls:=.type "dict",data:=.dict #[]}) (t':=s.toks) (λ_ _ q=>Ak _ q) (Ao _) (jk4 s.heap I.big)
 refine wpAny_Dict_walk (knd:=jck X.prog X.w) k hl D m (thn (h j _ σ _ _ G (q _ y)) λK L ⟨M,N,n,l,e,g,E,lk,u⟩=>?_)
 subst E
 obtain⟨p,c,r⟩:=jhi (P:=X.prog) (w:=X.w) l
 obtain⟨z,B,J,t,F⟩:=jka n.hok e
 cases t
 refine⟨p,c,F,λh' i x=>⟨.ref s.heap.objs.size,_,?_,rfl,u⟩⟩
 have v:(jeq [] g).length<=sizeLine:=by
  have C:=jfp g [];rw[List.length_nil]at C;rw[Uo];omega
 have A:∃q,h'.get? s.heap.objs.size=some q:=let⟨q,_,_,hq,_⟩:=i;⟨q,hq⟩
 exact jee n (by rw[e];exact True.intro) x A (je6 v B (r.merge .nil) i)
structure M2(X:Cx)(o:Expr)(m:Str)(apos:Pos)(e f:Expr)(cpos:Pos):Prop where
 base:attributeBase o m X.env (eval o X.env)=eval o X.env
 few:((backTo cpos (starEach [e,f] X.env)).all (λx=>!x.1) && (backToKw cpos (keywordEach [] X.env)).all (λx=>x.1.isSome)
  && decide (([e,f]:List Expr).length+([]:List Keyword).length+(if([]:List Keyword).isEmpty then 0 else 1)<30))=true
 line:(apos.endLine == cpos.line)=true
 trees:backTo cpos (starEach [e,f] X.env)=[(false,eval e X.env),(false,eval f X.env)]
def IsD(H:Hp)(a:Addr):Prop:=(∃kvs,Rd H a (.dK kvs))\/∃kvs,Rd H a (.dT kvs)
theorem jtr{σ:St}(I:Inv X pins σ H s)(d:IsD H a) :
  s.TypeIs (.ref a) "dict"/\(∀b,Value.ref a=.ref b->∃ob,s.heap.get? b=some ob/\ob.dict=none)/\(a == sysModules)=false:=by
 rcases d with⟨kvs,e⟩|⟨kvs,e⟩
 .obtain⟨_,f,j,_,c⟩:=jff I.hok e
  refine⟨c.typeIs,λb q=>?_,f⟩
  cases q
  obtain⟨ob,_,_,h,g,_⟩:=c
  exact⟨ob,h,g.2.1⟩
 .obtain⟨_,f,i,_,c⟩:=jhn I.hok e
  refine⟨c.typeIs,λb q=>?_,f⟩
  cases q
  obtain⟨ob,_,_,h,g,_⟩:=c
  exact⟨ob,h,g.2.1⟩
section
variable{X:Cx}{pins:List (Addr×Obj)}{σ:St}{H:Hp}{s:Shared}{a:Addr}{kvs:List (Key×V)}{A:Around}{E:Value->Shared->Prop}
theorem jq6(I:Inv X pins σ H s)(e:Rd H a (.dK kvs))(h:∀p s',H p=none->Inv X pins σ (upd H p (.dK kvs)) s'->Q (.ref p) s'):wpAny (model X.prog X.w) A (call (.type "dict") [.ref a]) Q E s:=by
 obtain⟨z,i,k,c,j⟩:=jff I.hok e;refine kt_call_dict i j (by rw[<-c.length];exact z) λl d g=>?_;refine h _ _ (I.hok.fresh (Ao _)) (I.laid (a:=s.heap.objs.size) (o:=.dK kvs) (t':=s.toks) (λb q f=>?_) (Ao _) (je6 z (Ue.mpr (Wy (A2 I.big))) c d));exact(g.2 b (A2 (Ax f))).trans (Ak _ f)
end
structure Kp(S:List Addr)(H H':Hp):Prop where
 old:∀a o,H a=some o->a∉S->H' a=some o
 tup:∀a xs,H a=some (.tup xs)->H' a=some (.tup xs)
 dom:∀a o,H a=some o->∃o',H' a=some o'
theorem Kp.refl(S:List Addr)(H:Hp):Kp S H H:=⟨λ_ _ e _=>e,λ_ _ e=>e,λ_ o e=>⟨o,e⟩⟩
variable{H1:Hp}{S:List Addr}
theorem Kp.trans{H2:Hp}(a:Kp S H H1)(b:Kp S H1 H2):Kp S H H2 :=
 ⟨λc o e n=>b.old c o (a.old c o e n) n,λc d e=>b.tup c d (a.tup c d e),λc o e=>let⟨o',e'⟩:=a.dom c o e;b.dom c o' e'⟩
theorem Kp.mono{S':List Addr}(a:Kp S H H1)(h:∀x∈S,x∈S'):Kp S' H H1:=⟨λc o e n=>a.old c o e λz=>n (h c z),a.tup,a.dom⟩
variable{p:Addr}
theorem Kp.free(k:Kp S H H1)(h:H1 p=none):H p=none:=by
 cases e:H p with
 |none=>rfl
 |some o=>obtain⟨b,a⟩:=k.dom p o e;rw[h]at a;cases a
theorem Kp.trans'{S':List Addr}{H2:Hp}(a:Kp S H H1)(b:Kp S' H1 H2)(h:∀x∈S',x∈S\/H x=none):Kp S H H2 :=
 ⟨λc o e n=>b.old c o (a.old c o e n) λz=>by
  rcases h c z with q|q
  .exact n q
  ·(rw[q]at e;exact nomatch e),λc d e=>b.tup c d (a.tup c d e),λc o e=>let⟨o',e'⟩:=a.dom c o e;b.dom c o' e'⟩
theorem Kp.new(k:Kp S H H1){o:HO}(h:H1 p=none):Kp S H (upd H1 p o) :=
 ⟨λc u e n=>by rw[jd (je (k.old c u e n) h)];exact k.old c u e n,λc a e=>by rw[jd (je (k.tup c a e) h)];exact k.tup c a e,
  λc u e=>by
   obtain⟨d,b⟩:=k.dom c u e;exact⟨d,by rw[jd (je b h)];exact b⟩⟩
variable{xs:List V}
theorem Kp.set(k:Kp S H H1){o:HO}(hb:H1 b=some (.lst xs))(h:b∈S\/H b=none):Kp S H (upd H1 b o) :=
 ⟨λc u e n=>by
  have:c≠b:=by
   rintro rfl;rcases h with h|h
   .exact n h
   .rw[h]at e;cases e
  rw[jd this];exact k.old c u e n,
 λc d e=>by
  have a:=k.tup c d e;rw[jd (jop a hb (by intro z;cases z))];exact a,
 λc u e=>by
  obtain⟨f,g⟩:=k.dom c u e;by_cases q:c=b
  .subst q;exact⟨o,jb⟩
  .exact⟨f,by rw[jd q];exact g⟩⟩
def jcs:Option HO->Option (List V)
 |some (.lst xs)=>some xs
 |_=>none
def jgh:Option HO->Option (List V)
 |some (.tup xs)=>some xs
 |_=>none
def jdf:Option HO->Option (List V)
 |some (.lst xs)=>some xs
 |some (.tup xs)=>some xs
 |_=>none
theorem jjj(xs:List V):jcs (some (.lst xs))=some xs:=rfl
theorem jj7(xs:List V):jgh (some (.tup xs))=some xs:=rfl
theorem jj0(xs:List V):jdf (some (.lst xs))=some xs:=rfl
theorem jj1(xs:List V):jdf (some (.tup xs))=some xs:=rfl
variable{o:Option HO}
theorem jc2(h:jcs o=some xs):o=some (.lst xs):=by
 unfold jcs at h;split at h
 .cases h;rfl
 .cases h
theorem jgz(h:jgh o=some xs):o=some (.tup xs):=by
 unfold jgh at h;split at h
 .cases h;rfl
 .cases h
theorem jfl(h:jdf o=some xs):o=some (.lst xs)\/o=some (.tup xs):=by
 unfold jdf at h;split at h
 .cases h;exact .inl rfl
 .cases h;exact .inr rfl
 .cases h
variable{K:PySem.W.Frag}{tb:TS}{tg:Expr}
section
variable{X:Cx}
def rLtU:R2:=λx y H Q=>match x,y with
 |.int i,.int j=>Q (.bl (decide (i<j))) H
 |.str i,.str j=>Q (.bl (decide (i.cps.toList<j.cps.toList))) H
 |_,_=>False
theorem jao:OpR X (compareOp .Lt) rLtU:=by
 intro a s σ H x y v u Q I c b h
 cases x with
 |int i=>cases y with
  |int j=>exact op_lt a s σ H _ _ v u Q I c b ⟨i,j,rfl,rfl,h⟩
  |_=>exact False.elim h
 |str i=>cases y with
  |str j=>exact op_lt_str a s σ H _ _ v u Q I c b ⟨i,j,rfl,rfl,h⟩
  |_=>exact False.elim h
 |_=>exact False.elim h
def rIxU:R2:=λx y H Q=>match x,y with
 |.str z,.int i=>z.length<=sizeLine/\∃c,atI z.cps.toList i=some c/\Q (.str ⟨#[c]⟩) H
 |.ref p,.int i=>∃xs,jdf (H p)=some xs/\∃v,atI xs i=some v/\Q v H
 |_,_=>False
theorem ix_U:IxR X rIxU:=by
 intro a b d s σ H x y v u Q I k j h l
 cases x with
 |str z=>cases y with
  |int i=>obtain⟨n,c,g,f⟩:=h;exact ix_str a b d s σ H _ _ v u Q I k j ⟨z,i,c,rfl,rfl,n,g,f⟩ l
  |_=>exact False.elim h
 |ref p=>cases y with
  |int i =>
   obtain⟨m,e,w,g,f⟩:=h
   rcases jfl e with e|e
   .exact jbg a b d s σ H _ _ v u Q I k j ⟨p,m,i,w,rfl,rfl,SqL.of e,g,f⟩ l
   .exact ix_tup a b d s σ H _ _ v u Q I k j ⟨p,m,i,w,rfl,rfl,SqT.of e,g,f⟩ l
  |_=>exact False.elim h
 |_=>exact False.elim h
theorem jew{α:Type}(x:α)(r:List α):atI (x::r) 0=some x:=jch (j:=0) rfl
theorem jfd{α:Type}(x y:α)(r:List α):atI (x::y::r) 1=some y:=jch (j:=1) rfl
theorem jr3{α:Type}(x y z:α)(r:List α):atI (x::y::z::r) 2=some z:=jch (j:=2) rfl
theorem jhd{α:Type}{xs:List α}{i:Int}{v:α}(a:0<=i)(h:xs[i.toNat]?=some v):atI xs i=some v:=by
 have:=jch (xs:=xs) (j:=i.toNat) h;rwa[Int.toNat_of_nonneg a]at this
def jsb:V->V->V->Hp->(Hp->Prop)->Prop:=λo i v H Q=>match o,i with
 |.ref p,.int k=>∃xs,jcs (H p)=some xs/\∃j,ixN xs.length k=some j/\Q (upd H p (.lst (xs.set j v)))
 |_,_=>False
theorem joy:PSet X jsb:=by
 intro a s σ H o i v g l u Q I d f c h
 cases o with
 |ref p=>cases i with
  |int k =>
   obtain⟨b,e,j,n,m⟩:=h
   exact jrs a s σ H _ _ v g l u Q I d f c ⟨p,b,k,j,rfl,rfl,jc2 e,n,m⟩
  |_=>exact False.elim h
 |_=>exact False.elim h
def jkh:List V->Hp->VK->Prop:=λxs H Q=>match xs with
 |[.str z]=>z.length<=sizeLine/\Q (.int z.length) H
 |[.ref p]=>∃ys,jdf (H p)=some ys/\Q (.int ys.length) H
 |_=>False
theorem jw:jcu X (.builtin "len") jkh:=by
 intro a s σ H d b Q I r h;unfold jkh at h;split at h
 .rename_i z;exact call_len_str a s σ H _ b Q I r ⟨z,rfl,h⟩
 .rename_i p;obtain⟨c,e,h⟩:=h;rcases jfl e with e|e
  .exact zj a s σ H _ b Q I r ⟨p,c,rfl,.inl (SqL.of e),h⟩
  .exact zj a s σ H _ b Q I r ⟨p,c,rfl,.inr (SqT.of e),h⟩
 .exact h.elim
def jov:List V->Hp->VK->Prop:=λxs H Q=>match xs with
 |[.int i,.int j]=>Q (.int (if j<i then j else i)) H
 |_=>False
theorem call_minU(hc:X.calm=true):jcu X (.builtin "min") jov:=by
 intro a s σ H c b Q I r h;unfold jov at h;split at h
 .rename_i i j;exact call_min2 hc a s σ H _ b Q I r ⟨i,j,rfl,h⟩
 .exact h.elim
def jou:List V->Hp->VK->Prop:=λxs H Q=>match xs with
 |[.int i,.int j]=>Q (.int (if j>i then j else i)) H
 |_=>False
theorem jbo(hc:X.calm=true):jcu X (.builtin "max") jou:=by
 intro a s σ H c b Q I r h;unfold jou at h;split at h
 .rename_i i j;exact call_max2 hc a s σ H _ b Q I r ⟨i,j,rfl,h⟩
 .exact h.elim
def jkg:List V->Hp->VK->Prop:=λxs H Q=>match xs with
 |[.int i]=>Q (.int i) H
 |[.bl k]=>Q (.int (if k then 1 else 0)) H
 |_=>False
theorem jbm:jcu X (.type "int") jkg:=by
 intro a s σ H c b Q I r h;unfold jkg at h;split at h
 .rename_i i;exact jbl a s σ H _ b Q I r (.inl ⟨i,rfl,h⟩)
 .rename_i k;exact jbl a s σ H _ b Q I r (.inr ⟨k,rfl,h⟩)
 .exact h.elim
def sgn(z:Str):List V:=z.cps.toList.map λc=>V.str ⟨#[c]⟩
theorem jtg(z:Str):(sgn z).length=z.length:=by simp[sgn,Str.length]
theorem jry{z:Str}{d:Array Value}(h:ItemsOf (SignAt z) d z.cps.size):Vals (sgn z) d.toList:=by
 obtain⟨p,o⟩:=h;have f:(sgn z).length=d.toList.length:=by simp[sgn,p]
 have k:∀(e:List V)(us:List Value),e.length=us.length->(∀(i:Nat)(x:V)(u:Value),e[i]?=some x->us[i]?=some u->RelV x u)->Vals e us:=by
  intro e;induction e with
  |nil=>intro us f _;cases us with
   |nil=>exact .nil
   |cons _ _=>simp at f
  |cons x e ih=>intro us f h;cases us with
   |nil=>simp at f
   |cons u us=>exact .cons (h 0 x u rfl rfl) (ih us (by simpa using f) λi a b g j=>h (i+1) a b (by simpa using g) (by simpa using j))
 refine k _ _ f λi x u g j=>?_;obtain⟨c,t,n,m⟩:=o i u (by simpa using j);subst m;simp only[sgn,Ah]at g;have:z.cps.toList[i]?=some c:=by simpa using n
 rw[this]at g;have l:V.str ⟨#[c]⟩=x:=Aw g;subst l;exact⟨t,rfl⟩
def jh0:List V->Hp->VK->Prop:=λxs H Q=>match xs with
 |[.str z]=>z.length<=sizeLine/\∀l,H l=none->Q (.ref l) (upd H l (.lst (sgn z)))
 |[.ref p]=>∃ys,jdf (H p)=some ys/\∀l,H l=none->Q (.ref l) (upd H l (.lst ys))
 |_=>False
theorem call_listU(hc:X.calm=true):jcu X (.type "list") jh0:=by
 intro a s σ H m f Q I r h;unfold jh0 at h;split at h
 .rename_i z;obtain⟨u,rfl,t,rfl⟩:=jc9 r;obtain⟨g,q⟩:=h;refine call_list_str (I.ok.hd hc) z t (λo n b c j i k=>?_) g;have l:=I.hok.fresh (Ao s.heap.objs.size);refine⟨.ref s.heap.objs.size,upd H s.heap.objs.size (.lst (sgn z)),I.laid j (Ao _) ⟨by rw[jtg];exact g,b.toList,c,jry k,by simpa using i⟩,rfl,q _ l⟩
 .rename_i p;obtain⟨d,e,h⟩:=h;rcases jfl e with e|e
  .exact jay a s σ H _ f Q I r ⟨p,d,rfl,.inl (SqL.of e),h⟩
  .exact jay a s σ H _ f Q I r ⟨p,d,rfl,.inr (SqT.of e),h⟩
 .exact h.elim
def jox:V->List V->Hp->VK->Prop:=λx vs H Q=>match x,vs with
 |.ref l,[.int i]=>∃xs,jcs (H l)=some xs/\0<=i/\∃y,xs[i.toNat]?=some y/\Q y (upd H l (.lst (xs.eraseIdx i.toNat)))
 |_,_=>False
theorem mt_popU:MtM X "list.pop" jox:=by
 intro a s σ H x m v d Q I f g h;unfold jox at h;split at h
 .rename_i l i;obtain⟨b,e,j,y,c,q⟩:=h;have e:=jc2 e;have n:=(I.lstM e).1;have k:i.toNat<b.length:=(Ab.mp c).1;have o:sizeLine=16777216:=Uo;refine mt_popAt a s σ H _ _ v d Q I f g ⟨l,b,i,i.toNat,y,rfl,rfl,e,by omega,by omega,?_,c,q⟩;exact seqIndex_of j (by omega)
 .exact h.elim
def rIsU(K:PySem.W.Frag):List V->Hp->VK->Prop:=λxs H Q=>match xs with
 |[x,.ty c]=>∃t b,TyOf K H x t/\PySem.W.kitOne K t (.type c)=some b/\Q (.bl b) H
 |_=>False
theorem call_isinstanceU:jcu X (.builtin "isinstance") (rIsU X.K):=by
 intro a s σ H j l Q I r h;unfold rIsU at h;split at h
 .rename_i x c;obtain⟨t,b,d,e,q⟩:=h;obtain⟨u,k,rfl,g,i⟩:=jij r
  cases i
  exact jp6 I g d e λf=>⟨.bl b,H,I.tok f,rfl,q⟩
 .exact h.elim
def ItS(z:Str):It:=⟨λi _=>i<z.length,λi H x H'=>H'=H/\∃c,z.cps.toList[i]?=some c/\x=.str ⟨#[c]⟩,λi _=>z.length<=i⟩
theorem jqx(z:Str)(t:Tok)(it:Addr):Turn P w K tg (ItS z) [it] it (λi h=>h.IsStrIter it "str_ascii_iterator" z t i) where
 mem:=by simp
 obj:=λi h a b g=>by
  have e:b=it:=by simpa using g
  subst e;obtain⟨o,e,c,d⟩:=a;exact⟨o,e,λv z=>by rw[d]at z;cases z⟩
 keep:=λi h n a k=>let⟨o,ho,r⟩:=a;⟨o,k it (by simp) o ho,r⟩
 item:=by
  intro X u p x F i f s σ H E I m a q;subst u p x;obtain⟨D,C,J,B,A,y⟩:=m it (by simp);have l:i<z.cps.size:=q;refine wpAny_pyNext_ascii_item a (c:=z.cps[i]) (by simp[l]) λn j G=>?_;have M:Inv X f σ H {s with heap:=n,toks:=s.toks+1}:=I.turned (t':=s.toks+1) (λb o g e=>(G.2 b g).trans e) D C B A y;obtain⟨o,e,c,d⟩:=id j;exact⟨_,rfl,jf9 (s:={s with heap:=n,toks:=s.toks+1}) e c d (by decide) ⟨.str ⟨#[z.cps[i]]⟩,H,M,⟨_,rfl⟩,⟨rfl,_,by simp[l],rfl⟩,j,λb g=>(m b g).1⟩⟩
 done:=by
  intro X u p x F i f s σ H E I m a q;subst u p x;obtain⟨D,C,J,B,A,y⟩:=m it (by simp);have l:z.cps.size<=i:=q;exact wpAny_pyNext_ascii_end (I.ok.hd F) a (by simp[l]) λn L=>⟨rfl,I.turned (t':=s.toks) (λb o g e=>L b o g e) D C B A y⟩
 self:=λ_ _ _ _ _ a h=>wpAny_pyIter_striter_ascii a h
theorem jqy(z:Str)(t:Tok)(it:Addr):Turn P w K tg (ItS z) [it] it (λi h=>h.IsStrIter it "str_iterator" z t i) where
 mem:=by simp
 obj:=λi h a b g=>by
  have e:b=it:=by simpa using g
  subst e;obtain⟨o,e,c,d⟩:=a;exact⟨o,e,λv z=>by rw[d]at z;cases z⟩
 keep:=λi h n a k=>let⟨o,ho,r⟩:=a;⟨o,k it (by simp) o ho,r⟩
 item:=by
  intro X u p x F i f s σ H E I m a q;subst u p x;obtain⟨D,C,J,B,A,y⟩:=m it (by simp);have l:i<z.cps.size:=q;refine wpAny_pyNext_wide_item a (c:=z.cps[i]) (by simp[l]) λn j G=>?_;have M:Inv X f σ H {s with heap:=n,toks:=s.toks+1}:=I.turned (t':=s.toks+1) (λb o g e=>(G.2 b g).trans e) D C B A y;obtain⟨o,e,c,d⟩:=id j;exact⟨_,rfl,jf9 (s:={s with heap:=n,toks:=s.toks+1}) e c d (by decide) ⟨.str ⟨#[z.cps[i]]⟩,H,M,⟨_,rfl⟩,⟨rfl,_,by simp[l],rfl⟩,j,λb g=>(m b g).1⟩⟩
 done:=by
  intro X u p x F i f s σ H E I m a q;subst u p x;obtain⟨D,C,J,B,A,y⟩:=m it (by simp);have l:z.cps.size<=i:=q;exact wpAny_pyNext_wide_end (I.ok.hd F) a (by simp[l]) λn L=>⟨rfl,I.turned (t':=s.toks) (λb o g e=>L b o g e) D C B A y⟩
 self:=λ_ _ _ _ _ a h=>wpAny_pyIter_striter_wide a h
def iAny(K:PySem.W.Frag)(t:TE):TI:=λσ H R=>t σ H λx H1=>match x with
 |.str z=>R (ItS z) H1
 |.ref a=>match H1 a with
  |some (.lst _)=>R (Itl K a) H1
  |some (.tup _)=>R (Itt K a) H1
  |_=>False
 |_=>False
theorem pi_any{l:Expr}{tl:TE}(hl:PE X l tl):PI X tg l (iAny X.K tl):=by
 intro d s σ H R I h;refine thn (hl d s σ H _ I h) λv c ⟨x,i,f,n,g⟩=>?_
 cases x with
 |str z =>
  obtain⟨t,rfl⟩:=n;have j:∀b∈[c.heap.objs.size],FpOk X d i b:=λb m=>by
   have e:b=c.heap.objs.size:=by simpa using m
   subst e;exact f.fpOk (Ao _) (f.hok.fresh (Ao _))
  cases ha:z.cps.all (·<128)
  .exact wpAny_pyIter_wide ha ⟨c.heap.objs.size,[c.heap.objs.size],_,_,i,rfl,f.kept (t':=c.toks) λb o e=>Ak _ e,jqy z t _,⟨_,A4 _ rfl,rfl,rfl⟩,j,g⟩
  .exact wpAny_pyIter_ascii ha ⟨c.heap.objs.size,[c.heap.objs.size],_,_,i,rfl,f.kept (t':=c.toks) λb o e=>Ak _ e,jqx z t _,⟨_,A4 _ rfl,rfl,rfl⟩,j,g⟩
 |ref a =>
  cases n
  have j:∀b∈[c.heap.objs.size],FpOk X d i b:=λb m=>by
   have e:b=c.heap.objs.size:=by simpa using m
   subst e;exact f.fpOk (Ao _) (f.hok.fresh (Ao _))
  simp only at g;split at g
  .rename_i q e;obtain⟨k,r,p,u⟩:=f.list (SqL.of e);exact Ym p.isList ⟨c.heap.objs.size,[c.heap.objs.size],_,_,i,rfl,f.kept (t':=c.toks) λb o e=>Ak _ e,jqw a _,⟨_,A4 _ rfl,rfl,rfl⟩,j,g⟩
  .rename_i q e;obtain⟨k,r,p,u⟩:=f.tuple (SqT.of e);exact wpAny_pyIter_tuple (show c.heap.IsTuple a k.toArray from p) ⟨c.heap.objs.size,[c.heap.objs.size],_,_,i,rfl,f.kept (t':=c.toks) λb o e=>Ak _ e,jo7 a _,⟨_,A4 _ rfl,rfl,rfl⟩,j,g⟩
  .exact g.elim
 |_=>exact False.elim g
theorem jsv{z:Str}{g:TG}{D:Ends}{σ:St}(Pv:Nat->St->Hp->Prop)(b:Pv 0 σ H)
  (hs:∀i c σ H,z.cps.toList[i]?=some c->Pv i σ H->g (.str ⟨#[c]⟩) σ H λσ2 H2=>tb {D with nx:=Pv (i+1),ct:=Pv (i+1),bk:=D.nx} σ2 H2) (hd:∀σ H,Pv z.length σ H->D.nx σ H) :
  ∃W:Nat->Nat->St->Hp->Prop,(∃m,W 0 m σ H)/\∀i m σ H,W i m σ H ->
   ((ItS z).stop i H/\D.nx σ H)\/((ItS z).go i H/\∃N:St->Hp->Prop,(∀σ' H',N σ' H'->∃m',m'<m/\W (i+1) m' σ' H')/\∀x H',(ItS z).yld i H x H'->g x σ H' λσ2 H2=>tb {D with nx:=N,ct:=N,bk:=D.nx} σ2 H2):=by
 refine⟨λi m σ H=>m=z.length-i/\i<=z.length/\Pv i σ H,⟨z.length,by simp,Op _,b⟩,?_⟩
 rintro i m σ H ⟨rfl,h,p⟩
 by_cases hlt:i<z.length
 .refine .inr ⟨hlt,Pv (i+1),λσ' H' a=>⟨z.length-(i+1),by omega,rfl,hlt,a⟩,λx H' y=>?_⟩
  obtain⟨e,c,f,d⟩:=y
  subst e d
  exact hs i c σ _ f p
 .have e:i=z.length:=by omega
  subst e
  exact .inl ⟨Ao _,hd σ H p⟩
mutual
def Rep(H:Hp):V->PyData->Prop
 |v,.none=>v=.non
 |v,.bool b=>v=.bl b
 |v,.int i=>v=.int i
 |v,.str x=>v=.str x
 |v,.list ds=>∃a vs,v=.ref a/\H a=some (.lst vs)/\Reps H vs ds
 |v,.tuple ds=>∃a vs,v=.ref a/\H a=some (.tup vs)/\Reps H vs ds
 |_,.dict _=>False
def Reps(H:Hp):List V->List PyData->Prop
 |[],[]=>True
 |v::vs,d::ds=>Rep H v d/\Reps H vs ds
 |_,_=>False
end
section
variable{pins:List (Addr×Obj)}{σ:L2.St}{H:Hp}{s:Shared}
mutual
theorem Rep.reads(I:Inv X pins σ H s):∀{d:PyData}{v:V}{u:Value},Rep H v d->RelV v u->∃as,Reads s.heap u d as
 |.none,v,u,h,r=>by simp only[Rep]at h;subst h;cases r;exact⟨_,.none⟩
 |.bool b,v,u,h,r=>by simp only[Rep]at h;subst h;cases r;exact⟨_,.bool b⟩
 |.int i,v,u,h,r=>by simp only[Rep]at h;subst h;obtain⟨t,rfl⟩:=r;exact⟨_,.int i t⟩
 |.str x,v,u,h,r=>by simp only[Rep]at h;subst h;obtain⟨t,rfl⟩:=r;exact⟨_,.str x t⟩
 |.list ds,v,u,h,r=>by
  simp only[Rep]at h;obtain⟨a,l,rfl,e,h⟩:=h
  cases r
  obtain⟨k,c,⟨o,n,j,g,p,f⟩,m⟩:=I.list (SqL.of e);obtain⟨as,q⟩:=Reps.reads I h c;exact⟨_,reads_list_at j g f (by simpa using q)⟩
 |.tuple ds,v,u,h,r=>by
  simp only[Rep]at h;obtain⟨a,l,rfl,e,h⟩:=h
  cases r
  obtain⟨k,c,⟨o,j,g,n,f⟩,m⟩:=I.tuple (SqT.of e);obtain⟨as,q⟩:=Reps.reads I h c;exact⟨_,reads_tuple_at j g f (by simpa using q)⟩
 |.dict _,v,u,h,r=>by simp only[Rep]at h
theorem Reps.reads(I:Inv X pins σ H s):∀{ds:List PyData}{vs:List V}{us:List Value},Reps H vs ds->Vals vs us->∃as,ReadsAll s.heap us ds as
 |[],[],us,h,r=>by cases r;exact⟨_,.nil⟩
 |[],v::vs,us,h,r=>by simp only[Reps]at h
 |d::ds,[],us,h,r=>by simp only[Reps]at h
 |d::ds,v::vs,us,h,r=>by
  simp only[Reps]at h
  cases r with
  |cons r1 r2 =>
   obtain⟨as,q⟩:=Rep.reads I h.1 r1;obtain⟨b,a⟩:=Reps.reads I h.2 r2;exact⟨_,.cons q a⟩
end
end
def rEqD:R2:=λx y H Q=>∃d e,Rep H x d/\Rep H y e/\SeqAt.shaped d=true/\SeqAt.shaped e=true/\Q (.bl (PyData.eqv d e)) H
theorem op_eqD(hu:X.A.units+64<cLine):OpR X (compareOp .Eq) rEqD:=by
 intro a s σ H x y v u Q I g f h;obtain⟨d,e,l,k,c,b,q⟩:=h;obtain⟨n,j⟩:=l.reads I g;obtain⟨m,i⟩:=k.reads I f;exact eq_dataH j i c b hu ⟨.bl _,H,I,rfl,q⟩
def rNeD:R2:=λx y H Q=>∃d e,Rep H x d/\Rep H y e/\SeqAt.shaped d=true/\SeqAt.shaped e=true/\Q (.bl (!PyData.eqv d e)) H
theorem op_neD(hu:X.A.units+64<cLine):OpR X (compareOp .NotEq) rNeD:=by
 intro a s σ H x y v u Q I g f h;obtain⟨d,e,l,k,c,b,q⟩:=h;obtain⟨n,j⟩:=l.reads I g;obtain⟨m,i⟩:=k.reads I f;exact ne_dataH j i c b hu ⟨.bl _,H,I,rfl,q⟩
def revS(z:Str):Str:=⟨z.cps.reverse⟩
theorem jqo(z:Str)(u:Tok):Txt.sliceBy z none none (-1,u)=revS z:=by
 have h:=step_rev_list z u;have e:(List.range z.length).map (λk=>z.cps.getD (z.length-1-k) 0)=z.cps.toList.reverse:=by
  apply Wr;intro i;by_cases hi:i<z.length
  .have a:z.length=z.cps.size:=rfl;have c:z.cps.size-1-i<z.cps.size:=by omega
   simp[a,c,Array.getD,a▸hi]
  .have a:z.length=z.cps.size:=rfl;have d:((List.range z.length).map (λk=>z.cps.getD (z.length-1-k) 0))[i]?=none:=Wt.mpr (by simp;omega);have b:z.cps.toList.reverse[i]?=none:=Wt.mpr (by simp;omega);rw[d,b]
 rw[e]at h;have b:(Txt.sliceBy z none none (-1,u)).cps=z.cps.reverse:=by
  apply Array.ext';simpa using h
 show(⟨(Txt.sliceBy z none none (-1,u)).cps⟩:Str)=⟨z.cps.reverse⟩;rw[b]
def jkq(te:TE):TE:=λσ H Q=>te σ H λx H1=>∃z,x=.str z/\z.length<=sizeLine/\Q (.str (revS z)) H1
theorem pe_rev{e:Expr}{te:TE}{m p2 j i:Pos}{k:Nat}(w:PE X e te)(p:∀o r,letTemporaryGo e o r=pure ():=by intro _ _;with_unfolding_all rfl) :
  PE X (.Subscript e (.Slice none none (some (.UnaryOp .USub (.Constant (.int 1) k m) p2)) j) i) (jkq te):=by
 intro a s σ H Q I h
 refine Subscript_ (thn (w a s σ H _ I h) λv B ⟨x,A,y,f,g⟩=>?_)
 obtain⟨z,rfl,n,q⟩:=g
 obtain⟨t,rfl⟩:=f
 refine wpAny_Slice ?_
 rw[evalPart_none,evalPart_some]
 refine Aj (Aj (UnaryOp_ (wpAny_Constant_int (neg_int ?_))))
 refine tail_of_ItemOn ⟨"str",_,F.slot_str_getitem.lookup,typeIs_str _ _ _,wpAny_getItem_str_slice (l:=none) (u:=none) (st:=some (-1,_)) ⟨_,A4 _ rfl,rfl,rfl⟩ (by rfl)
  (post_val_or_str ⟨Og (Txt.sliceBy_le z _ _ (-1,_) (by simp)) n,λd c=>?_⟩)⟩ (by with_unfolding_all rfl) (p _)
 refine⟨.str (revS z),A,?_,⟨d,O6 (Value.str · d) (jqo z _)⟩,q⟩
 exact y.kept (λb o e=>Ak _ e)
end
theorem j3:bootBuiltins "len"=some (.builtin "len"):=by decide +kernel
theorem bt_min:bootBuiltins "min"=some (.builtin "min"):=by decide +kernel
theorem jcd:bootBuiltins "max"=some (.builtin "max"):=by decide +kernel
theorem zo:bootBuiltins "isinstance"=some (.builtin "isinstance"):=by decide +kernel
theorem bt_all:bootBuiltins "all"=some (.builtin "all"):=by decide +kernel
theorem bt_any:bootBuiltins "any"=some (.builtin "any"):=by decide +kernel
theorem jbk:bootBuiltins "sorted"=some (.builtin "sorted"):=by decide +kernel
theorem jcc:bootBuiltins "int"=some (.type "int"):=by decide +kernel
theorem jbf:bootBuiltins "list"=some (.type "list"):=by decide +kernel
theorem kg:bootBuiltins "tuple"=some (.type "tuple"):=by decide +kernel
theorem jbe:bootBuiltins "dict"=some (.type "dict"):=by decide +kernel
theorem jce:bootBuiltins "set"=some (.type "set"):=by decide +kernel
theorem jb5:bootBuiltins "bool"=some (.type "bool"):=by decide +kernel
theorem jbw:bootBuiltins "range"=some (.type "range"):=by decide +kernel
theorem jax:bootBuiltins "enumerate"=some (.type "enumerate"):=by decide +kernel
variable{σ:L2.St}
section
variable{X:Cx}
def isL(x:V)(H:Hp):Prop:=match x with
 |.ref p=>(jcs (H p)).isSome=true
 |_=>False
def tBML(r:V->List V->Hp->VK->Prop)(to:TE)(t:TA):TE:=λσ H Q=>to σ H λx H1=>isL x H1/\t σ H1 λxs H2=>r x xs H2 Q
theorem isL.ty{x:V}(h:isL x H):tyV K "list" x H:=by
 unfold isL at h;split at h
 .rename_i p
  cases e:jcs (H p)with
  |none=>rw[e]at h;cases h
  |some ys=>exact .inl ⟨rfl,ys,SqL.of (jc2 e)⟩
 .exact h.elim
variable{o e:Expr}{es:List Expr}{to:TE}{t:TA}{name:Str}{apos cpos:Pos}{id:String}{r:V->List V->Hp->VK->Prop}
theorem PE.imp{e:Expr}{t t':TE}(h:PE X e t)(hi:∀σ H Q,t' σ H Q->t σ H Q):PE X e t':=λa s σ H Q I b=>h a s σ H Q I (hi σ H Q b)
theorem pe_bmL(slot:Slot "list" name id)(f:typeOf (.builtin id)=pure (.type "method_descriptor"))(hm:MtM X id r)(g:PE X o to)(ha:PA X (e::es) t)(mono:∀σ H Q Q',(∀v H',Q v H'->Q' v H')->to σ H Q->to σ H Q')
  (c:attributeBase o name X.env (eval o X.env)=eval o X.env:=by rfl)
  (d:((backTo cpos (starEach (e::es) X.env)).all (λx=>!x.1) && (backToKw cpos (keywordEach [] X.env)).all (λx=>x.1.isSome)
   && decide ((e::es).length+([]:List Keyword).length+(if([]:List Keyword).isEmpty then 0 else 1)<30))=true:=by rfl)
  (b:(apos.endLine == cpos.line)=true:=by rfl) (hs:starEach (e::es) X.env=(false,eval e X.env)::starEach es X.env:=by rfl) (a:(backTo cpos (starEach es X.env)).any (·.1)=false:=by rfl) :
  PE X (.Call (.Attribute o name apos) (e::es) [] cpos) (tBML r to t) :=
 (jbv PySem.F.plainAttrs_list slot f hm g ha c d b hs a).imp λσ H Q h=>mono σ H _ _ (λv H' q=>⟨q.1.ty,q.2⟩) h
def jkl(r:V->List V->Hp->VK->Prop)(to:TE):TE:=λσ H Q=>to σ H λx H1=>isL x H1/\r x [] H1 Q
theorem pe_bmL0(slot:Slot "list" name id)(c:typeOf (.builtin id)=pure (.type "method_descriptor"))(hm:MtM X id r)(d:PE X o to)(mono:∀σ H Q Q',(∀v H',Q v H'->Q' v H')->to σ H Q->to σ H Q')
  (b:attributeBase o name X.env (eval o X.env)=eval o X.env:=by rfl) (a:(apos.endLine == cpos.line)=true:=by rfl):PE X (.Call (.Attribute o name apos) [] [] cpos) (jkl r to) :=
 (pe_bm0 PySem.F.plainAttrs_list slot c hm d b a).imp λσ H Q h=>mono σ H _ _ (λv H' q=>⟨q.1.ty,q.2⟩) h
theorem jcl{i:Nat}:∀σ H Q Q',(∀v H',Q v H'->Q' v H')->tVar i σ H Q->tVar i σ H Q':=λ_ _ _ _ h ⟨v,e,q⟩=>⟨v,e,h v _ q⟩
def jg1:V->List V->Hp->VK->Prop:=λx vs H Q=>match x,vs with
 |.ref l,[y]=>∃xs,jcs (H l)=some xs/\xs.length<sizeLine/\Q .non (upd H l (.lst (xs++[y])))
 |_,_=>False
theorem ki:MtM X "list.append" jg1:=by
 intro a s σ H x g v c Q I d f h;unfold jg1 at h;split at h
 .rename_i l y;obtain⟨b,e,h⟩:=h;exact jaz a s σ H _ _ v c Q I d f ⟨l,b,y,rfl,rfl,jc2 e,h⟩
 .exact h.elim
def jg4:V->List V->Hp->VK->Prop:=λx vs H Q=>match x,vs with
 |.ref l,[.ref b]=>∃xs,jcs (H l)=some xs/\∃zs,jcs (H b)=some zs/\xs.length+zs.length<=sizeLine/\Q .non (upd H l (.lst (xs++zs)))
 |_,_=>False
theorem jas:MtM X "list.extend" jg4:=by
 intro a s σ H x k v e Q I f g h;unfold jg4 at h;split at h
 .rename_i l b;obtain⟨d,j,c,i,h⟩:=h;exact mt_extend a s σ H _ _ v e Q I f g ⟨l,b,d,c,rfl,rfl,jc2 j,jc2 i,h⟩
 .exact h.elim
def rEqU:R2:=λx y H Q=>match x,y with
 |.int i,.int j=>Q (.bl (decide (i=j))) H
 |.bl i,.bl j=>Q (.bl (decide (i=j))) H
 |.str i,.str j=>Q (.bl (decide (i=j))) H
 |.ref a,.ref b=>rEqD (.ref a) (.ref b) H Q
 |x,y=>scal x y=true/\Q (.bl (decide (x=y))) H
def rNeU:R2:=λx y H Q=>match x,y with
 |.int i,.int j=>Q (.bl (!decide (i=j))) H
 |.bl i,.bl j=>Q (.bl (!decide (i=j))) H
 |.str i,.str j=>Q (.bl (!decide (i=j))) H
 |.ref a,.ref b=>rNeD (.ref a) (.ref b) H Q
 |x,y=>scal x y=true/\Q (.bl (!decide (x=y))) H
theorem zq(hu:X.A.units+64<cLine):OpR X (compareOp .Eq) rEqU:=by
 intro a s σ H x y v u Q I c b h;unfold rEqU at h;split at h
 .exact jbt a s σ H _ _ v u Q I c b ⟨rfl,by simpa using h⟩
 .exact jbt a s σ H _ _ v u Q I c b ⟨rfl,by simpa using h⟩
 .exact jbt a s σ H _ _ v u Q I c b ⟨rfl,by simpa using h⟩
 .exact op_eqD hu a s σ H _ _ v u Q I c b h
 .exact jbt a s σ H _ _ v u Q I c b h
theorem ja0(hu:X.A.units+64<cLine):OpR X (compareOp .NotEq) rNeU:=by
 intro a s σ H x y v u Q I c b h;unfold rNeU at h;split at h
 .exact jbu a s σ H _ _ v u Q I c b ⟨rfl,by simpa using h⟩
 .exact jbu a s σ H _ _ v u Q I c b ⟨rfl,by simpa using h⟩
 .exact jbu a s σ H _ _ v u Q I c b ⟨rfl,by simpa using h⟩
 .exact op_neD hu a s σ H _ _ v u Q I c b h
 .exact jbu a s σ H _ _ v u Q I c b h
theorem jlr(H:Hp)(Q:VK)(i j:Int):rLtU (.int i) (.int j) H Q=(Q (.bl (decide (i<j))) H):=rfl
theorem jls(H:Hp)(Q:VK)(i j:Str):rLtU (.str i) (.str j) H Q=(Q (.bl (decide (i.cps.toList<j.cps.toList))) H):=rfl
theorem jlq(H:Hp)(Q:VK)(z:Str)(i:Int):rIxU (.str z) (.int i) H Q=(z.length<=sizeLine/\∃c,atI z.cps.toList i=some c/\Q (.str ⟨#[c]⟩) H):=rfl
theorem jco(H:Hp)(Q:VK)(p:Addr)(i:Int):rIxU (.ref p) (.int i) H Q=(∃xs,jdf (H p)=some xs/\∃v,atI xs i=some v/\Q v H):=rfl
theorem jjr(H:Hp)(Q:VK)(z:Str):jkh [.str z] H Q=(z.length<=sizeLine/\Q (.int z.length) H):=rfl
theorem jjq(H:Hp)(Q:VK)(p:Addr):jkh [.ref p] H Q=(∃ys,jdf (H p)=some ys/\Q (.int ys.length) H):=rfl
theorem jjt(H:Hp)(Q:VK)(i j:Int):jov [.int i,.int j] H Q=(Q (.int (if j<i then j else i)) H):=rfl
theorem jjs(H:Hp)(Q:VK)(i j:Int):jou [.int i,.int j] H Q=(Q (.int (if j>i then j else i)) H):=rfl
theorem jjp(H:Hp)(Q:VK)(i:Int):jkg [.int i] H Q=(Q (.int i) H):=rfl
theorem jlp(H:Hp)(Q:VK)(k:Bool):jkg [.bl k] H Q=(Q (.int (if k then 1 else 0)) H):=rfl
theorem jh2(H:Hp)(Q:VK)(z:Str):jh0 [.str z] H Q=(z.length<=sizeLine/\∀l,H l=none->Q (.ref l) (upd H l (.lst (sgn z)))):=rfl
theorem jh1(H:Hp)(Q:VK)(p:Addr):jh0 [.ref p] H Q=(∃ys,jdf (H p)=some ys/\∀l,H l=none->Q (.ref l) (upd H l (.lst ys))):=rfl
theorem jjw(H:Hp)(Q:VK)(l:Addr)(i:Int):jox (.ref l) [.int i] H Q=(∃xs,jcs (H l)=some xs/\0<=i/\∃y,xs[i.toNat]?=some y/\Q y (upd H l (.lst (xs.eraseIdx i.toNat)))):=rfl
theorem jd4(H:Hp)(Q:VK)(l:Addr)(y:V):jg1 (.ref l) [y] H Q=(∃xs,jcs (H l)=some xs/\xs.length<sizeLine/\Q .non (upd H l (.lst (xs++[y])))):=rfl
theorem jer(H:Hp)(Q:VK)(l b:Addr):jg4 (.ref l) [.ref b] H Q=(∃xs,jcs (H l)=some xs/\∃zs,jcs (H b)=some zs/\xs.length+zs.length<=sizeLine/\Q .non (upd H l (.lst (xs++zs)))):=rfl
theorem jg2(H:Hp)(Q:VK)(i j:Int):rEqU (.int i) (.int j) H Q=(Q (.bl (decide (i=j))) H):=rfl
theorem jnp(H:Hp)(Q:VK)(i j:Bool):rEqU (.bl i) (.bl j) H Q=(Q (.bl (decide (i=j))) H):=rfl
theorem jln(H:Hp)(Q:VK)(i j:Str):rEqU (.str i) (.str j) H Q=(Q (.bl (decide (i=j))) H):=rfl
theorem jg3(H:Hp)(Q:VK)(i j:Addr):rEqU (.ref i) (.ref j) H Q=(rEqD (.ref i) (.ref j) H Q):=rfl
theorem jg5(H:Hp)(Q:VK)(i j:Int):rNeU (.int i) (.int j) H Q=(Q (.bl (!decide (i=j))) H):=rfl
theorem jnr(H:Hp)(Q:VK)(i j:Bool):rNeU (.bl i) (.bl j) H Q=(Q (.bl (!decide (i=j))) H):=rfl
theorem jlt(H:Hp)(Q:VK)(i j:Str):rNeU (.str i) (.str j) H Q=(Q (.bl (!decide (i=j))) H):=rfl
theorem jg6(H:Hp)(Q:VK)(i j:Addr):rNeU (.ref i) (.ref j) H Q=(rNeD (.ref i) (.ref j) H Q):=rfl
theorem jnq(K:PySem.W.Frag)(x:V)(c:String)(H:Hp)(Q:VK):rIsU K [x,.ty c] H Q=(∃t b,TyOf K H x t/\PySem.W.kitOne K t (.type c)=some b/\Q (.bl b) H):=rfl
theorem jfz(p:Addr)(k:Int)(v:V)(H:Hp)(Q:Hp->Prop):jsb (.ref p) (.int k) v H Q=(∃xs,jcs (H p)=some xs/\∃j,ixN xs.length k=some j/\Q (upd H p (.lst (xs.set j v)))):=rfl
theorem jnb(p:Addr)(H:Hp):isL (.ref p) H=((jcs (H p)).isSome=true):=rfl
def jc5(J:It)(g:TG)(tb:TS)(D:Ends)(σ:L2.St)(H1:Hp):Prop:=∃W:Nat->Nat->L2.St->Hp->Prop,(∃m,W 0 m σ H1)/\∀i m σ H,W i m σ H ->
 (J.stop i H/\D.nx σ H)\/(J.go i H/\∃N:L2.St->Hp->Prop,(∀σ' H',N σ' H'->∃m',m'<m/\W (i+1) m' σ' H')/\∀x H',J.yld i H x H'->g x σ H' λσ2 H2=>tb {D with nx:=N,ct:=N,bk:=D.nx} σ2 H2)
theorem jn2(wi:TI)(g:TG)(tb:TS)(D:Ends)(σ:L2.St)(H:Hp):tFor wi g tb D σ H=wi σ H λJ H1=>jc5 J g tb D σ H1:=rfl
theorem jcr{lo:Int}{n:Nat}{g:TG}{D:Ends}(Pv:Nat->L2.St->Hp->Prop)(a:Pv 0 σ H)
  (hs:∀i σ H,i<n->Pv i σ H->g (.int (lo+i)) σ H λσ2 H2=>tb {D with nx:=Pv (i+1),ct:=Pv (i+1),bk:=D.nx} σ2 H2) (hd:∀σ H,Pv n σ H->D.nx σ H):jc5 (Itr lo n) g tb D σ H:=jpv Pv a hs hd
theorem jlh{z:Str}{g:TG}{D:Ends}(Pv:Nat->L2.St->Hp->Prop)(a:Pv 0 σ H)
  (hs:∀i c σ H,z.cps.toList[i]?=some c->Pv i σ H->g (.str ⟨#[c]⟩) σ H λσ2 H2=>tb {D with nx:=Pv (i+1),ct:=Pv (i+1),bk:=D.nx} σ2 H2) (hd:∀σ H,Pv z.length σ H->D.nx σ H):jc5 (ItS z) g tb D σ H:=jsv Pv a hs hd
theorem jdg{g:TG}{D:Ends}(Pv:Nat->L2.St->Hp->Prop)(b:Pv 0 σ H)(hl:∀i σ H,i<=xs.length->Pv i σ H->H a=some (.lst xs))
  (hs:∀i x σ H,xs[i]?=some x->Pv i σ H->g x σ H λσ2 H2=>tb {D with nx:=Pv (i+1),ct:=Pv (i+1),bk:=D.nx} σ2 H2) (hd:∀σ H,Pv xs.length σ H->D.nx σ H):jc5 (Itl K a) g tb D σ H :=
 jrc Pv b (λi σ H h p=>SqL.of (hl i σ H h p)) hs hd
theorem jeo{g:TG}{D:Ends}(Pv:Nat->L2.St->Hp->Prop)(b:Pv 0 σ H)(hl:∀i σ H,i<=xs.length->Pv i σ H->H a=some (.tup xs))
  (hs:∀i x σ H,xs[i]?=some x->Pv i σ H->g x σ H λσ2 H2=>tb {D with nx:=Pv (i+1),ct:=Pv (i+1),bk:=D.nx} σ2 H2) (hd:∀σ H,Pv xs.length σ H->D.nx σ H):jc5 (Itt K a) g tb D σ H :=
 jsw Pv b (λi σ H h p=>SqT.of (hl i σ H h p)) hs hd
end
def clOf(env:Env):List (Str×NameKind)->List (Str×Addr)->List (Str×Addr)
 |[],cs=>cs
 |(n,k)::r,cs=>clOf env r (if k == .free then(n,(env.cells.lookup n).getD 0)::cs else cs)
theorem jeb{scope:Scope}(h:∀y∈scope.names,y.2=.free->∃c,env.cells.lookup y.1=some c):closureFor scope env=pure (clOf env scope.names []):=by
 have d:∀(l:List (Str×NameKind))(b:List (Str×Addr)),(∀y∈l,y.2=.free->∃c,env.cells.lookup y.1=some c) ->
   (forIn l b λx r=>(match x with|(name,kind)=>if(kind == NameKind.free)=true then do let c <-cellOf env name;pure (ForInStep.yield ((name,c)::r))else pure (ForInStep.yield r)):Sem (List (Str×Addr)))=pure (clOf env l b):=by
  intro l
  induction l with
  |nil=>intro b _;rfl
  |cons y l ih =>
   intro b f
   obtain⟨n,k⟩:=y
   rw[List.forIn_cons]
   have g:=λz j=>f z (Ov _ j)
   by_cases hk:k=.free
   .subst hk
    obtain⟨c,m⟩:=f _ (O7 ..) rfl
    have a:env.cells.lookup n=some c:=m
    have e:cellOf env n=pure c:=by unfold cellOf;rw[a]
    simp only[Yq,Wp,e,pure_bind]
    rw[ih _ g]
    simp[clOf,a]
   .have i:(k == NameKind.free)=false:=by simpa using hk
    simp only[i,Ir,O4,pure_bind]
    rw[ih _ g]
    simp[clOf,i]
 exact(O6 (· >>= λs=>pure s) (d scope.names [] h)).trans (by rfl)
theorem jgv{env:Env}:∀(l:List (Str×NameKind))(cs:List (Str×Addr))(x:Str)(c:Addr),(∀y∈l,y.2=.free->∃c,env.cells.lookup y.1=some c)->(∀x c,cs.lookup x=some c->env.cells.lookup x=some c) ->
  (clOf env l cs).lookup x=some c->env.cells.lookup x=some c
 |[],cs,x,c,_,hc,h=>hc x c h
 |(n,k)::r,cs,x,c,hl,hc,h=>by
  unfold clOf at h;refine jgv r _ x c (λy f=>hl y (Ov _ f)) (λz d a=>?_) h;split at a
  .rename_i g;rw[List.lookup_cons]at a
   cases hzn:z == n with
   |true =>
    rw[hzn]at a;obtain⟨c',e⟩:=hl _ (O7 ..) (by simpa using g);have b:env.cells.lookup n=some c':=e;have i:z=n:=by simpa using hzn
    subst i;rw[b]at a;rw[b];exact a
   |false=>rw[hzn]at a;exact hc z d a
  .exact hc z d a
theorem ji7{env:Env}:∀(l:List (Str×NameKind))(cs:List (Str×Addr))(x:Str),(∃c,cs.lookup x=some c)->∃c,(clOf env l cs).lookup x=some c
 |[],cs,x,h=>h
 |(n,k)::r,cs,x,h=>by
  unfold clOf;refine ji7 r _ x ?_;split
  .rw[List.lookup_cons]
   cases x == n with
   |true=>exact⟨_,rfl⟩
   |false=>exact h
  .exact h
theorem jgu{env:Env}:∀(l:List (Str×NameKind))(cs:List (Str×Addr))(x:Str),(x,NameKind.free)∈l->∃c,(clOf env l cs).lookup x=some c
 |(n,k)::r,cs,x,h=>by
  unfold clOf;rcases At.mp h with h|h
  .cases h
   refine ji7 r _ _ ?_;simp[List.lookup_cons]
  .exact jgu r _ x h
abbrev Cx.comp(X:Cx)(scope:Scope)(C:Addr)(Nc:List Str)(s3:Shared)(H3:Hp)(fp:List Addr):Cx :=
 {X with N:=Nc,s₀:=s3,H₀:=H3,env:=compEnvC scope (clOf X.env scope.names []) C X.env,outer:=X.stack,stack:=X.stack,ex:=fp,fn:=λ_=>false,pn:=[],xe:=λ_ _=>False}
def jdw(js:List (Option Nat))(σ:L2.St):L2.St:=js.map λo=>o.bind λj=>(σ[j]?).getD none
def jdj(D:Addr)(te:TE):TS:=λE σ H=>te σ H λv H1=>∃ys,jcs (H1 D)=some ys/\ys.length<sizeLine/\E.nx σ (upd H1 D (.lst (ys++[v])))
def jgc(wi:TI)(g:TG)(js:List (Option Nat))(te:TE):TE:=λσ H Q=>wi σ H λJ H1=>∀D,H1 D=none ->
 jc5 J g (jdj D te) {nx:=λ_ H'=>Q (.ref D) H',rt:=λ_ _=>False} (jdw js σ) (upd H1 D (.lst []))
structure CompOk(X:Cx)(scope:Scope)(Nc:List Str)(js:List (Option Nat)):Prop where
 kind:scope.kind=.function
 nocell:∀y∈scope.names,y.2≠.cell
 loc:∀y∈scope.names,y.2=.local->scope.names.lookup y.1=some .local
 free:∀y∈scope.names,y.2=.free->X.env.kindOf y.1=some .cell\/X.env.kindOf y.1=some .free
 len:js.length=Nc.length
 nol:∀x,(x,NameKind.free)∈scope.names->scope.names.lookup x≠some .local
 see:∀(i j:Nat)(x:Str),js[i]?=some (some j)->Nc[i]?=some x->X.N[j]?=some x/\(x,NameKind.free)∈scope.names
section
variable{X:Cx}{pins:List (Addr×Obj)}{σ:L2.St}{H:Hp}{s:Shared}{scope:Scope}{Nc:List Str}{js:List (Option Nat)}{fp:List Addr}
theorem CompOk.has(c:CompOk X scope Nc js)(I:Inv X pins σ H s):∀y∈scope.names,y.2=.free->∃a,X.env.cells.lookup y.1=some a:=λy b d=>I.ok.has _ (c.free y b d)
theorem jf1{env:Env}{x:Str}:∀{l:List (Str×NameKind)},(∀y∈l,y.2≠.cell) ->
  ((l.map fun(n,k)=>if(k == NameKind.free && env.scope.kind == .function && env.kindOf n == some .cell)then(n,NameKind.cell)else(n,k)).lookup x=some .cell \/
   (l.map fun(n,k)=>if(k == NameKind.free && env.scope.kind == .function && env.kindOf n == some .cell)then(n,NameKind.cell)else(n,k)).lookup x=some .free)->(x,NameKind.free)∈l
 |[],_,h=>by simp at h
 |(n,k)::r,hc,h=>by
  rw[Au]at h;by_cases hx:x=n
  .subst hx;have d:k=.free:=by
    have b:k≠.cell:=hc _ (O7 ..);by_cases hcond:(k == NameKind.free && env.scope.kind == .function && env.kindOf x == some .cell)=true
    .rw[Us,Us]at hcond;simpa using hcond.1.1
    .simp only[hcond,Ir,O4,List.lookup_cons,Yq]at h;rcases h with h|h
     .exact absurd (Aw h) b
     .exact Aw h
   subst d;exact O7 ..
  .refine Ov _ (jf1 (env:=env) (λy c=>hc y (Ov _ c)) ?_);have a:(x == n)=false:=by simpa using hx
   by_cases hcond:(k == NameKind.free && env.scope.kind == .function && env.kindOf n == some .cell)=true
   .simpa only[hcond,Wp,List.lookup_cons,a]using h
   .simpa only[hcond,Ir,O4,List.lookup_cons,a]using h
theorem jgp{env:Env}{x:Str}:∀{l:List (Str×NameKind)},
  (l.map fun(n,k)=>if(k == NameKind.free && env.scope.kind == .function && env.kindOf n == some .cell)then(n,NameKind.cell)else(n,k)).lookup x=some .local->l.lookup x=some .local
 |[],h=>by simp at h
 |(n,k)::r,h=>by
  rw[Au]at h;by_cases hx:x=n
  .subst hx;by_cases hcond:(k == NameKind.free && env.scope.kind == .function && env.kindOf x == some .cell)=true
   .simp only[hcond,Wp,List.lookup_cons,Yq]at h
    cases h
   .simp only[hcond,Ir,O4,List.lookup_cons,Yq]at h;simp only[List.lookup_cons,Yq];exact h
  .have a:(x == n)=false:=by simpa using hx
   rw[List.lookup_cons,a];refine jgp (env:=env) ?_;by_cases hcond:(k == NameKind.free && env.scope.kind == .function && env.kindOf n == some .cell)=true
   .simpa only[hcond,Wp,List.lookup_cons,a]using h
   .simpa only[hcond,Ir,O4,List.lookup_cons,a]using h
theorem jsp(c:CompOk X scope Nc js)(I:Inv X pins σ H s)(hf:∀b∈fp,FpOk X pins H b)(j:∀b∈fp,∃o,s.heap.get? b=some o):(X.comp scope s.heap.objs.size Nc s H fp).Ok:=by
 have i:=c.has I;have f:∀x a,(clOf X.env scope.names []).lookup x=some a->X.env.cells.lookup x=some a:=λx a=>jgv _ _ x a i (λ_ _ z=>nomatch z);refine⟨I.ok.mod,c.kind,I.ok.glob,I.ok.blt,Ao _,λx y a l k=>I.ok.inj x y a (f x a l) (f y a k),λx h=>jgu _ _ x (jf1 (env:=X.env) c.nocell h),(λx a h=>nomatch h),I.ok.hd,I.ok.frames,.inl rfl,λb d=>⟨?_,λx a e=>?_⟩,I.bs,
  Og I.ok.bsz I.sz,λb o e d=>?_,λb d g=>?_,I.stack,I.stkFree⟩
 .obtain⟨o,e⟩:=j b d;exact A2 (Ax e)
 .exact(hf b d).2.2.2.2.1 x a (f x a e)
 .rcases(hf b d).2.2.2.1 with z|z
  .exact I.ok.noex b o e z
  .exact absurd (Ic (Ax (I.ok.bs b o e).1) z) (Yb _)
 .rcases At.mp (I.stkSub b g)with z|z
  .exact(hf b d).2.1 z
  .exact(hf b d).2.2.1 z
theorem jky(c:CompOk X scope Nc js)(I:Inv X pins σ H s)(hf:∀b∈fp,FpOk X pins H b)(D:∀b∈fp,∃o,s.heap.get? b=some o){m:Str->Option Value}{tk:Nat}(hn:h'.Ns s.heap.objs.size m)
  (hk:∀b o,s.heap.get? b=some o->h'.get? b=some o):Inv (X.comp scope s.heap.objs.size Nc s H fp) [] (jdw js σ) H {s with heap:=h',toks:=tk}:=by
 have B:=c.has I
 have g:∀x a,(clOf X.env scope.names []).lookup x=some a->X.env.cells.lookup x=some a:=λx a=>jgv _ _ x a B (λ_ _ z=>nomatch z)
 refine⟨jsp c I hf D,rfl,I.bare,Un.kept hk,⟨m,hn,λi x v K J G=>?_⟩,λx a e=>?_,I.hok.fresh (Ao _),λx a e=>I.freeC x a (g x a e),(λp C=>nomatch C),I.hok.kept hk,by simp only[jdw,Ac];exact c.len⟩
 .have f:(jdw js σ)[i]?=some (some v):=J
  unfold jdw at f
  rw[Ah]at f
  cases ej:js[i]? with
  |none=>rw[ej]at f;cases f
  |some o =>
   rw[ej]at f
   cases o with
   |none=>cases f
   |some j =>
    have n:(σ[j]?).getD none=some v:=Aw f
    have F:σ[j]?=some (some v):=by
     cases q:σ[j]? with
     |none=>rw[q]at n;cases n
     |some w=>rw[q]at n;exact O6 some n
    obtain⟨A,t⟩:=c.see i j x ej K
    have h:=c.free _ t rfl
    obtain⟨a,y⟩:=jgu (env:=X.env) scope.names [] x t
    obtain⟨L,_,E⟩:=I.loc
    obtain⟨u,r,l⟩:=E j x v A F (by
     rcases h with z|z
     .exact .inr (.inl z)
     .exact .inr (.inr z))
    refine⟨u,r,?_⟩
    rcases l with⟨k,_⟩|⟨_,a',ha',hcell⟩
    .rcases h with z|z
     .rw[z]at k;cases k
     .rw[z]at k;cases k
    .have:a'=a:=Aw (ha'.symm.trans (g x a y))
     subst this
     refine .inr ⟨?_,a',y,?_⟩
     .rcases G with z|z|z
      .exfalso
       have q:(relabel scope X.env).names.lookup x=some .local:=z
       exact c.nol x t (jgp q)
      .exact .inl z
      .exact .inr z
     .obtain⟨o,q,d⟩:=hcell
      exact⟨o,hk _ o q,d⟩
 .obtain⟨v,o,q,d⟩:=I.cell x a (g x a e)
  exact⟨v,o,hk _ o q,d⟩
theorem jec(I:Inv X pins σ H s)(hf:∀b∈fp,FpOk X pins H b){i:L2.St}{s':Shared}{a:Heap}(J:Inv (X.comp scope s.heap.objs.size Nc s H fp) [] i H' s')(hs:Heap.SameBut s.heap.objs.size s'.heap a) :
  Inv X pins σ H' {s' with heap:=a}:=by
 have g:∀b o,s.heap.get? b=some o->b≠s.heap.objs.size:=λb o e=>A2 (Ax e)
 have u:Un (frs X.stack) fp H H' s.heap s'.heap:=J.base
 refine I.call' (s':={s' with heap:=a}) (ch:=fp) J.os ⟨λb o e n f c=>?_,λb o e n f c=>?_,u.free,λb o e c=>?_,u.tups,u.frzs,u.tbls⟩ (λb o e=>?_) J.bare λb f=>?_
 .exact(hs.2 b (g b o e)).trans (u.keep b o e n f c)
 .obtain⟨j,q⟩:=u.slot b o e n f c
  exact⟨j,(hs.2 b (g b o e)).trans q⟩
 .obtain⟨k,q⟩:=u.there b o e c
  exact⟨k,(hs.2 b (g b o e)).trans q⟩
 .have h:H' s.heap.objs.size=none:=J.free
  refine(J.hok b o e).stay (λd v l q=>(hs.2 d ?_).trans q) (λ_ q=>q) λ_ _ q=>q
  rintro rfl
  rcases l with z|z
  .rw[<-z,h]at e;cases e
  .rw[h]at z;cases z
 .obtain⟨_,t,_,r,p,m⟩:=hf b f
  exact⟨r,t,p,m⟩
end
section
variable{X:Cx}{scope:Scope}{Nc:List Str}{js:List (Option Nat)}{elt tg iter:Expr}{pos:Pos}{wi:TI}{g:TG}{te:TE}
theorem ji8(hc:X.calm=true)(c:CompOk X scope Nc js)(hi:PI X tg iter wi)(hg:∀C s3 H3 fp,PG (X.comp scope C Nc s3 H3 fp) tg g)(he:∀C s3 H3 fp,PE (X.comp scope C Nc s3 H3 fp) elt te)
   (I:Inv X pins σ H s) {RR:Value->Addr->Result->Shared->Prop}{NX:Addr->Hp->Prop}
  (h:wi σ H λJ H1=>∀D,H1 D=none->jc5 J g (jdj D te) {nx:=λ_ H'=>NX D H',rt:=λ_ _=>False} (jdw js σ) (upd H1 D (.lst [])))
  (fin:∀D H3 s3 fp σ5 H5 s6,Inv X pins σ H3 s3->(∀b∈fp,FpOk X pins H3 b)->Inv (X.comp scope s3.heap.objs.size Nc s3 H3 fp) [] σ5 H5 s6->NX D H5->RR (.ref D) s3.heap.objs.size (.ok .next) s6) :
  wpAny (model X.prog X.w) X.A (eval iter X.env) (λx s₁=>wpAny (model X.prog X.w) X.A (pyIter x) (λit s₂=>wpAny (model X.prog X.w) X.A (newList []) (λacc s₃ =>
   wpAny (model X.prog X.w) X.A (newFunctionEnv scope X.env.globals (clOf X.env scope.names []) [] X.env.qual none .none (some X.env)) (λcenv s₄ =>
    codeAny (model X.prog X.w) X.A (.compStart (.ListComp elt [⟨tg,iter,[],0⟩] scope pos) 0 it acc {cenv with scope:=relabel scope X.env}) (RR acc cenv.locals) s₄) X.xe s₃) X.xe s₂) X.xe s₁) X.xe s:=by
 refine thn (hi pins s σ H _ I h) λv s1 h1=>thn h1 λah a h2=>?_
 obtain⟨it,fp,S,J,R,rfl,I2,T,m,f2,h2⟩:=h2
 refine Up ?_ (by show 0<=sizeLine;decide)
 have hD:R a.heap.objs.size=none:=I2.hok.fresh (Ao _)
 have I3:Inv X pins σ (upd R a.heap.objs.size (.lst [])) {a with heap:=a.heap.push {cls:=.type "list",data:=.seq ([]:List Value).toArray}} :=
  I2.laid (t':=a.toks) (λb u e=>Ak _ e) (Ao _) ⟨by show 0<=sizeLine;decide,[],0,.nil,A4 _ rfl⟩
 have f3:∀b∈fp,FpOk X pins (upd R a.heap.objs.size (.lst [])) b:=λb f=>by
  obtain⟨q0,q⟩:=f2 b f;obtain⟨o,e,_⟩:=T.obj _ _ m b f;exact⟨by rw[jd (A2 (Ax e))];exact q0,q⟩
 have o3:∀b∈fp,∃o,(a.heap.push {cls:=.type "list",data:=.seq ([]:List Value).toArray}).get? b=some o:=λb f=>by
  obtain⟨o,e,_⟩:=T.obj _ _ m b f;exact⟨o,Ak _ e⟩
 have K:S 0 (a.heap.push {cls:=.type "list",data:=.seq ([]:List Value).toArray}):=T.keep _ _ _ m λb _ o e=>Ak _ e
 generalize hh3:a.heap.push {cls:=.type "list",data:=.seq ([]:List Value).toArray}=P at I3 o3 K⊢
 refine Aat c.nocell (by intro y hy;simp at hy) (λh4 ad ac=>?_) c.kind
 have k4:∀b o,P.get? b=some o->h4.get? b=some o:=λb o e=>(ac.2 b (A2 (Ax e))).trans (Ak _ e)
 have Q:=jky (tk:=a.toks+([]:List (Str×Value)).length) c I3 f3 o3 ad k4
 have G:S 0 h4:=T.keep _ _ _ K λb _ o e=>k4 b o e
 obtain⟨W,⟨m0,w0⟩,O⟩:=h2 _ hD
 let s3:Shared:={a with heap:=P}
 let Y:Cx:=X.comp scope P.objs.size Nc s3 (upd R a.heap.objs.size (.lst [])) fp
 have j:∀{H':Hp},(∀b∈fp,H' b=none)->∀b∈fp,FpOk Y [] H' b:=λhn b f=>⟨hn b f,(Q.ok.exf b f).1,Q.ok.exfs b f,.inl f,(Q.ok.exf b f).2,(λp hp=>nomatch hp)⟩
 have k:codeAny (model X.prog X.w) X.A (.compLoop (.ListComp elt [⟨tg,iter,[],0⟩] scope pos) 0 (.ref it) (.ref a.heap.objs.size) Y.env)
   (RR (.ref a.heap.objs.size) P.objs.size) {a with heap:=h4,toks:=a.toks+([]:List (Str×Value)).length}:=by
  refine codeAny_loop rfl (λn s'=>∃i σ' H',Inv Y [] σ' H' s'/\S i s'.heap/\(∀b∈fp,H' b=none)/\W i n σ' H') (λn U hI=>?_) m0 ⟨0,_,_,Q,G,λb f=>(f3 b f).1,w0⟩
  obtain⟨i,σ5,H5,I5,F,L,w5⟩:=hI
  show wpAny _ X.A ((compTurn (.ListComp elt [⟨tg,iter,[],0⟩] scope pos) 0 (.ref it) (.ref a.heap.objs.size) Y.env).onRaise (λx=>do noteFrame x Y.env;theTreesLotGoes x)) _ _ U
  refine wpAny_noted (Uv (E:=λ_ _=>False) ?_ (λ_ _ q=>q) λ_ _ z=>z.elim)
  rw[compTurn_list1]
  refine Ad (Ys (Ad ?_))
  rcases O i n σ5 H5 w5 with⟨stop,qn⟩|⟨go,N,hN,step⟩
  .refine thn (T.done Y rfl rfl rfl hc i [] U σ5 H5 _ I5 (j L) F stop) λr s6 ⟨Z,I6⟩=>?_
   subst Z
   refine Aj ?_
   exact fin _ _ s3 fp σ5 H5 s6 I3 f3 I6 qn
  .refine thn (T.item Y rfl rfl rfl hc i [] U σ5 H5 _ I5 (j L) F go) λr s6 ⟨u,Z,h6⟩=>?_
   subst Z
   refine Ad (thn h6 λ_ s7 ⟨x,H7,I7,r7,y7,l,ae⟩=>?_)
   have af:=I7.pinned (j ae) (T.obj _ _ l)
   refine Ad (thn (hg _ _ _ _ _ s7 σ5 H7 x u _ af r7 (step x H7 y7)) λ_ s8 ⟨B,H8,I8,q8⟩=>?_)
   refine Ad (Ad (thn (he _ _ _ _ _ s8 B H8 _ I8 q8) λv s9 ⟨y,H9,I9,r9,ys,e9,z9,n9⟩=>?_))
   refine Ad (thn (jaz (X:=Y) _ s9 B H9 (.ref a.heap.objs.size) [y] (.ref a.heap.objs.size) [v] (λw H'=>N B H') I9 rfl (.cons r9 .nil) ⟨_,ys,y,rfl,rfl,jc2 e9,z9,n9⟩) λw ag ⟨_,M,t,_,ab⟩=>?_)
   refine Aj (Aj ⟨rfl,?_⟩)
   obtain⟨m',hm,aa⟩:=hN B M ab
   refine⟨m',hm,i+1,B,M,t.unpinned,T.keep _ _ _ l λb f o e=>(t.pin (b,o) (Ig _ (Ig _ (jdu f e)))).1,λb f=>?_,aa⟩
   obtain⟨o,e,d⟩:=T.obj _ _ l b f
   exact(t.pin (b,o) (Ig _ (Ig _ (jdu f e)))).2.1
 exact codeAny_compStart_list k (T.self _ 0 _ _ _ G k)
theorem pe_comp(hc:X.calm=true)(c:CompOk X scope Nc js)(hi:PI X tg iter wi)(hg:∀C s3 H3 fp,PG (X.comp scope C Nc s3 H3 fp) tg g)(j:∀C s3 H3 fp,PE (X.comp scope C Nc s3 H3 fp) elt te)
  (hs:∀x,foldedSetIterable iter X.env x=pure x:=by intro _;rfl):PE X (.ListComp elt [⟨tg,iter,[],0⟩] scope pos) (jgc wi g js te):=by
 intro a s σ H Q I h
 rw[eval_ListComp]
 refine W4 (use:=none) (g:=⟨tg,iter,[],0⟩) (gs:=[]) rfl hs (jeb (c.has I)) c.kind c.loc
  (ji8 (RR:=λd C=>compPost (model X.prog X.w) X.A X.xe none (EP X a σ Q) d C) (NX:=λD o=>Q (.ref D) o) hc c hi hg j I h λD H3 s3 fp p n q l k e f=>?_)
 obtain⟨m,i,_⟩:=e.loc
 exact⟨m,i,λr b=>⟨.ref D,n,jec l k e b,rfl,f⟩⟩
theorem ps_setc{i:Nat}{y:Str}{py spos:Pos}(hN:X.N.Nodup)(F:X.N[i]?=some y)(hy:Loc X.env.scope y)(hc:X.calm=true)(c:CompOk X scope Nc js)(hi:PI X tg iter wi)(hg:∀C s3 H3 fp,PG (X.comp scope C Nc s3 H3 fp) tg g)
  (T:∀C s3 H3 fp,PE (X.comp scope C Nc s3 H3 fp) elt te) (u:swapsWith (.ListComp elt [⟨tg,iter,[],0⟩] scope pos) (some (.Name y py)) spos.line X.env=pure true:=by rfl)
  (hs:∀x,foldedSetIterable iter X.env x=pure x:=by intro _;rfl) (hf:X.fn y=true\/X.env.scope.names.lookup y=some .local:=by first|exact .inl rfl|exact .inr rfl|assumption) :
  PS X (.Assign [.Name y py] (.ListComp elt [⟨tg,iter,[],0⟩] scope pos) spos) (tAsg (jgc wi g js te) (jc8 i)):=by
 intro d s σ H D I h
 rw[exec_Assign_Name_used _ _ _ _ u]
 refine Ad (Ys (Ad ?_))
 show wpAny _ X.A (do let _ <-comprehension (.ListComp elt [⟨tg,iter,[],0⟩] scope pos) scope X.env _ (newList []) false (eval iter X.env) (some (assign (.Name y py) X.env))) _ _ s
 refine Ad (Uv (W4 (use:=some (assign (.Name y py) X.env)) (g:=⟨tg,iter,[],0⟩) (gs:=[]) (Q:=λ_ j=>SP X d D .next j) rfl hs (jeb (c.has I)) c.kind c.loc
  (ji8 (RR:=λG C=>compPost (model X.prog X.w) X.A X.xe (some (assign (.Name y py) X.env)) (λ_ j=>SP X d D .next j) G C) (NX:=λk H'=>D.nx (σ.set i (some (.ref k))) H') hc c hi hg T I h λk H3 s3 fp σ5 r s6 f Y n M=>?_))
  (λ_ j P=>Aj (Aj P)) λ_ _ e=>e)
 obtain⟨m,S,_⟩:=id n.loc
 have I7:Inv X d σ r s6:=jec f Y n (.refl ..)
 have W:r s3.heap.objs.size=none:=n.free
 have K:s3.heap.objs.size≠X.env.locals:=W3 f.lt
 have J:∀x a,X.env.cells.lookup x=some a->a≠s3.heap.objs.size:=λx a e=>by
  obtain⟨v,q⟩:=f.cell x a e;exact A2 q.lt
 have O:∀p∈X.pn++d,p.1≠s3.heap.objs.size:=λp R=>A2 (Ax (f.pin p R).1)
 show wpAny _ _ (assign (.Name y py) X.env (.ref k)) _ _ _
 refine wpAny_assign_Name (jf4 (v:=.ref k) I7 hN F hy rfl (λL Z l=>?_) hf)
 obtain⟨a,E,U⟩:=l
 have t:s3.heap.objs.size≠a:=by
  rcases U with z|z
  .rw[z];exact K
  .exact(J y a z).symm
 refine⟨m,S.sameBut E t,λh9 B=>?_⟩
 exact⟨_,r,Z.turned (t':=L.toks) (λb o l e=>(B.2 b l).trans e) W K (.inr (Og f.sz (Ao _))) J O,M⟩
end
section
variable{X:Cx}
def jix:List V->Hp->VK->Prop:=λxs H Q=>match xs with
 |[.ref p]=>(∃ys,jcs (H p)=some ys/\∀l,H l=none->Q (.ref l) (upd H l (.tup ys)))\/(∃ys,jgh (H p)=some ys/\Q (.ref p) H)
 |_=>False
theorem jz:jcu X (.type "tuple") jix:=by
 intro a s σ H c b Q I r h;unfold jix at h;split at h
 .rename_i p;rcases h with⟨ys,e,h⟩|⟨ys,e,h⟩
  .exact jav a s σ H _ b Q I r ⟨p,ys,rfl,.inl ⟨SqL.of (jc2 e),h⟩⟩
  .exact jav a s σ H _ b Q I r ⟨p,ys,rfl,.inr ⟨SqT.of (jgz e),h⟩⟩
 .exact h.elim
theorem jcj{Q:VK}{ys:List V}(e:H p=some (.lst ys))(h:∀l,H l=none->Q (.ref l) (upd H l (.tup ys))):jix [.ref p] H Q:=.inl ⟨ys,by rw[e];rfl,h⟩
def jow:R2:=λx y H Q=>match x,y with
 |.int i,.int j=>CMul i j/\Q (.int (i*j)) H
 |.ref l,.int k=>∃xs,jcs (H l)=some xs/\0<=k/\k<2^62/\xs.length*k.toNat<=sizeLine/\∀p,H p=none->Q (.ref p) (upd H p (.lst (List.replicate k.toNat xs).flatten))
 |_,_=>False
theorem zr:OpR X (binaryOp .Mult) jow:=by
 intro a s σ H x y v u Q I c b h
 cases x with
 |int i=>cases y with
  |int j=>exact op_mul a s σ H _ _ v u Q I c b ⟨i,j,rfl,rfl,h⟩
  |_=>exact False.elim h
 |ref l=>cases y with
  |int k =>
   obtain⟨d,e,g,f,h⟩:=h
   exact op_rep a s σ H _ _ v u Q I c b ⟨l,k,d,rfl,rfl,jc2 e,by omega,by omega,h⟩
  |_=>exact False.elim h
 |_=>exact False.elim h
theorem jju(H:Hp)(Q:VK)(i j:Int):jow (.int i) (.int j) H Q=(CMul i j/\Q (.int (i*j)) H):=rfl
theorem jjv(H:Hp)(Q:VK)(l:Addr)(k:Int):jow (.ref l) (.int k) H Q=(∃xs,jcs (H l)=some xs/\0<=k/\k<2^62/\xs.length*k.toNat<=sizeLine/\∀p,H p=none->Q (.ref p) (upd H p (.lst (List.replicate k.toNat xs).flatten))):=rfl
def isS(x:V):Prop:=match x with
 |.str _=>True
 |_=>False
def tBMS(r:V->List V->Hp->VK->Prop)(to:TE)(t:TA):TE:=λσ H Q=>to σ H λx H1=>isS x/\t σ H1 λxs H2=>r x xs H2 Q
theorem isS.ty{x:V}(h:isS x):tyV K "str" x H:=by
 unfold isS at h;split at h
 .rfl
 .exact h.elim
theorem jnc(z:Str):isS (.str z)=True:=rfl
theorem jt2:∀σ H Q Q',(∀v H',Q v H'->Q' v H')->tC v σ H Q->tC v σ H Q':=λ_ _ _ _ h q=>h _ _ q
variable{o e:Expr}{es:List Expr}{to:TE}{t:TA}{name:Str}{apos cpos:Pos}{id:String}{r:V->List V->Hp->VK->Prop}
theorem pe_bmS(slot:Slot "str" name id)(f:typeOf (.builtin id)=pure (.type "method_descriptor"))(hm:MtM X id r)(g:PE X o to)(ha:PA X (e::es) t)(mono:∀σ H Q Q',(∀v H',Q v H'->Q' v H')->to σ H Q->to σ H Q')
  (c:attributeBase o name X.env (eval o X.env)=eval o X.env:=by rfl)
  (d:((backTo cpos (starEach (e::es) X.env)).all (λx=>!x.1) && (backToKw cpos (keywordEach [] X.env)).all (λx=>x.1.isSome)
   && decide ((e::es).length+([]:List Keyword).length+(if([]:List Keyword).isEmpty then 0 else 1)<30))=true:=by rfl)
  (b:(apos.endLine == cpos.line)=true:=by rfl) (hs:starEach (e::es) X.env=(false,eval e X.env)::starEach es X.env:=by rfl) (a:(backTo cpos (starEach es X.env)).any (·.1)=false:=by rfl) :
  PE X (.Call (.Attribute o name apos) (e::es) [] cpos) (tBMS r to t) :=
 (jbv PySem.F.plainAttrs_str slot f hm g ha c d b hs a).imp λσ H Q h=>mono σ H _ _ (λv H' q=>⟨q.1.ty,q.2⟩) h
theorem jid:∀{ys:List Str}{us:List Value},Vals (ys.map V.str) us->StrsAre us ys
 |[],us,r=>by rw[U3]at r;cases r;exact .nil
 |y::ys,us,r=>by
  rw[Au]at r
  cases r with
  |cons r1 r2 =>
   obtain⟨t,rfl⟩:=r1;exact .cons y t (jid r2)
def jqi:V->List V->Hp->VK->Prop:=λx vs H Q=>match x,vs with
 |.str z,[.ref p]=>∃ys:List Str,H p=some (.lst (ys.map V.str))/\(ys.map (·.length)).sum+ys.length*z.length<=16777216/\Q (.str (Txt.join z ys)) H
 |_,_=>False
theorem mt_joinU:MtM X "str.join" jqi:=by
 intro a s σ H x m v n Q I b c h;unfold jqi at h;split at h
 .rename_i z p;obtain⟨l,e,i,q⟩:=h;obtain⟨t,rfl⟩:=b;obtain⟨u,rfl,d⟩:=c.one
  cases d
  obtain⟨j,f,g,_⟩:=I.list (SqL.of e);exact join_list g.isList (by simpa using jid f) i λo k=>⟨.str _,H,I.tok k,⟨_,rfl⟩,q⟩
 .exact h.elim
def jmt(sc:Scope)(N:List Str)(scope:Scope)(Nc:List Str)(js:List (Option Nat)):Bool :=
 (scope.kind == .function) && scope.names.all (λy=>!(y.2 == .cell)) && scope.names.all (λy=>!(y.2 == .local) || scope.names.lookup y.1 == some .local) &&
 scope.names.all (λy=>!(y.2 == .free) || ((sc.names.lookup y.1 == some .cell || sc.names.lookup y.1 == some .free) && !(scope.names.lookup y.1 == some .local))) && (js.length == Nc.length) &&
 (List.range js.length).all (λi=>match js[i]? with
  |some (some j)=>(N[j]? == Nc[i]?) && (match Nc[i]? with|some x=>scope.names.any (λy=>y.1 == x && y.2 == .free)|none=>true)
  |_=>true)
theorem jci{sc scope:Scope}{N Nc:List Str}{js:List (Option Nat)}(hd:jmt sc N scope Nc js=true)(g:X.env.scope=sc:=by rfl)(hN:X.N=N:=by rfl):CompOk X scope Nc js:=by
 simp only[jmt,Us,Aal,Bool.or_eq_true,Bool.not_eq_true',beq_iff_eq,Av]at hd;obtain⟨⟨⟨⟨⟨u,t⟩,s⟩,k⟩,r⟩,p⟩:=hd;have m:∀x,X.env.kindOf x=sc.names.lookup x:=λx=>by rw[<-g];rfl
 refine⟨u,λy c e=>?_,λy c e=>?_,λy c e=>?_,r,λx n=>?_,λi j x l v=>?_⟩
 .have:=t y c;rw[e]at this;cases this
 .rcases s y c with q|q
  .rw[e]at q;cases q
  .exact q
 .rcases k y c with q|q
  .rw[e]at q;cases q
  .rw[m];exact q.1
 .rcases k _ n with q|q
  .cases q
  .intro z;have h:=q.2;rw[z]at h
   cases h
 .have o:i<js.length:=(Ab.mp l).1;have q:=p i o;rw[l,v]at q;simp only[Us,beq_iff_eq,List.any_eq_true]at q;refine⟨by rw[hN];exact q.1,?_⟩;obtain⟨y,c,f,d⟩:=q.2;obtain⟨a,b⟩:=y;simp only at f d;subst f d;exact c
theorem Reps.len{H:Hp}:∀{vs:List V}{ds:List PyData},Reps H vs ds->vs.length=ds.length
 |[],[],_=>rfl
 |[],_::_,h=>by simp only[Reps]at h
 |_::_,[],h=>by simp only[Reps]at h
 |_::vs,_::ds,h=>by simp only[Reps]at h;simp[Reps.len h.2]
theorem Reps.app{H:Hp}:∀{vs us:List V}{ds es:List PyData},Reps H vs ds->Reps H us es->Reps H (vs++us) (ds++es)
 |[],_,[],_,_,h=>h
 |[],_,_::_,_,h,_=>by simp only[Reps]at h
 |_::_,_,[],_,h,_=>by simp only[Reps]at h
 |_::vs,us,_::ds,es,h,h'=>by
  simp only[Reps]at h;simp only[List.cons_append,Reps];exact⟨h.1,Reps.app h.2 h'⟩
mutual
def jea:PyData->Bool
 |.list _=>false
 |.tuple ds=>jdr ds
 |.dict _=>false
 |_=>true
def jdr:List PyData->Bool
 |[]=>true
 |d::ds=>jea d && jdr ds
end
mutual
theorem Rep.kp{S:List Addr}{H H':Hp}(k:Kp S H H'):∀{d:PyData}{v:V},jea d=true->Rep H v d->Rep H' v d
 |.none,_,_,h=>by simp only[Rep]at h⊢;exact h
 |.bool _,_,_,h=>by simp only[Rep]at h⊢;exact h
 |.int _,_,_,h=>by simp only[Rep]at h⊢;exact h
 |.str _,_,_,h=>by simp only[Rep]at h⊢;exact h
 |.list _,_,t,_=>by simp only[jea]at t;cases t
 |.tuple ds,_,t,h=>by
  simp only[Rep]at h⊢;obtain⟨a,b,e,c,h⟩:=h;exact⟨a,b,e,k.tup _ _ c,Reps.kp k (by simpa only[jea]using t) h⟩
 |.dict _,_,t,_=>by simp only[jea]at t;cases t
theorem Reps.kp{S:List Addr}{H H':Hp}(k:Kp S H H'):∀{ds:List PyData}{vs:List V},jdr ds=true->Reps H vs ds->Reps H' vs ds
 |[],[],_,_=>by simp only[Reps]
 |[],_::_,_,h=>by simp only[Reps]at h
 |_::_,[],_,h=>by simp only[Reps]at h
 |d::ds,v::vs,t,h=>by
  simp only[Reps]at h⊢;simp only[jdr,Us]at t;exact⟨Rep.kp k t.1 h.1,Reps.kp k t.2 h.2⟩
end
theorem Reps.ints(H:Hp):∀l:List Int,Reps H (l.map V.int) (l.map PyData.int)
 |[]=>by simp[Reps]
 |x::r=>by simp[Reps,Rep,Reps.ints H r]
theorem Reps.bools(H:Hp):∀l:List Bool,Reps H (l.map V.bl) (l.map PyData.bool)
 |[]=>by simp[Reps]
 |x::r=>by simp[Reps,Rep,Reps.bools H r]
end
theorem Inv.turnedNew{t':Nat}{fp wr:List Addr}{T:Addr}{vs:List Value}(I:Inv X pins σ H s)(hf:∀b∈wr,FpOk X pins H b)
  (k:∀b o,b∉wr->s.heap.get? b=some o->h'.get? b=some o) (hT:s.heap.objs.size<=T) (tup:IsTup h' T vs.toArray) (r:Vals xs vs) (hz:xs.length<=sizeLine) (there:∀b∈wr,∃o,h'.get? b=some o) :
  Inv X pins σ (upd H T (.tup xs)) {s with heap:=h',toks:=t'}:=by
 have a:∀b u,H b=some u->b≠T:=λb u e=>A2 (Ic (I.hok.lt e) hT)
 have h:∀b u,H b=some u->b∉wr:=λb u e f=>by rw[(hf b f).1]at e;cases e
 refine I.step (g':=s.gens) (d':=s.drawn) (ch:=wr) (λb f=>?_) (λb o _ _ c e _=>k b o c e) (λb o _ _ c e _=>⟨o.slots,k b o c e⟩) (λb o c e n=>?_) (λb o c e=>⟨o,k b o c e⟩)
  (λb i e=>by rw[jd (a b _ e)];exact e) (λb o u e=>by rw[jd (a b _ e)];exact e) (λb C e=>⟨#[],by rw[jd (a b _ e),e];simp⟩) (λm p=>?_) (λb u e=>?_) I.bare
 .obtain⟨_,y,_,x,w,t⟩:=hf b f
  exact⟨x,y,w,t⟩
 .rw[jd (A2 (Ic (Ax e) hT))];exact n
 .obtain⟨o,A,B,l,j⟩:=p
  exact⟨o,A,B,k _ o (λz=>(hf _ z).2.1 rfl) l,j⟩
 .by_cases f:b=T
  .subst f
   rw[jb]at e
   cases e
   exact⟨hz,vs,r,tup⟩
  .rw[jd f]at e
   refine(I.hok b u e).stay (λd v g q=>k d v ?_ q) (λd q=>by rw[jd (a d _ q)];exact q) λd i q=>by rw[jd (a d _ q)];exact q
   rcases g with rfl|g
   .exact h _ _ e
   .exact h _ _ g
section
variable{X:Cx}
def jnt:List V->Hp->VK->Prop:=λxs H Q=>match xs with
 |[.int j]=>-(2^62)<=j/\j<2^62/\∀p,H p=none->Q (.ref p) (upd H p (.rng 0 j))
 |[.int i,.int j]=>-(2^62)<=i/\i<2^62/\-(2^62)<=j/\j<2^62/\∀p,H p=none->Q (.ref p) (upd H p (.rng i j))
 |_=>False
theorem ja6:jcu X (.type "range") jnt:=by
 intro a s σ H f k Q I r h;unfold jnt at h;split at h
 .rename_i j;obtain⟨u,rfl,t,rfl⟩:=jc9 r;obtain⟨d,c,q⟩:=h;refine call_range_1 ⟨.ref s.heap.objs.size,upd H s.heap.objs.size (.rng 0 j),I.laid (λb o e=>Ak _ e) (Ao _) ⟨_,_,_,A4 _ rfl⟩,rfl,q _ (I.hok.fresh (Ao _))⟩
 .rename_i i j;obtain⟨u,g,rfl,⟨t,rfl⟩,⟨l,rfl⟩⟩:=jij r;obtain⟨d,c,n,m,q⟩:=h;refine call_range_2 ⟨.ref s.heap.objs.size,upd H s.heap.objs.size (.rng i j),I.laid (λb o e=>Ak _ e) (Ao _) ⟨_,_,_,A4 _ rfl⟩,rfl,q _ (I.hok.fresh (Ao _))⟩
 .exact h.elim
end
section
variable{X:Cx}
def jqj:List V->Hp->VK->Prop:=λxs H Q=>match xs with
 |[.ref p]=>∃lo hi:Int,H p=some (.rng lo hi)/\-(2^62)<=lo/\lo<2^62/\-(2^62)<=hi/\hi<2^62/\(hi-lo).toNat<=sizeLine/\∀l,H l=none->Q (.ref l) (upd H l (.lst ((List.range (hi-lo).toNat).map λi=>V.int (lo+(i:Nat)))))
 |_=>False
theorem jtl{us:List Value}(hl:xs.length=us.length)(h:∀(i:Nat) (x:V) (u:Value),xs[i]?=some x->us[i]?=some u->RelV x u):Vals xs us:=by
 induction xs generalizing us with
 |nil=>cases us with
  |nil=>exact .nil
  |cons _ _=>simp at hl
 |cons x xs ih=>cases us with
  |nil=>simp at hl
  |cons u us=>exact .cons (h 0 x u rfl rfl) (ih (by simpa using hl) λi a b d c=>h (i+1) a b (by simpa using d) (by simpa using c))
theorem jba(hc:X.calm=true):jcu X (.type "list") jqj:=by
 intro l s σ H P R Q I r h;unfold jqj at h;split at h
 .rename_i p;obtain⟨a,b,e,K,J,G,F,B,q⟩:=h;obtain⟨u,rfl,y⟩:=jc9 r
  cases y
  obtain⟨t,u,v,N⟩:=(show ObjOk X.prog X.w H s.heap p (.rng a b)from I.hok p _ e);have O:sizeLine=16777216:=Uo;refine call_list_range (n:=(b-a).toNat) (I.ok.hd hc) (show IsRange s.heap p a b 1 t u v from N) (small_one K J G F) (by rw[rangeSize_one];split <;> omega) (by omega) λT S k c E D f=>?_;refine⟨.ref s.heap.objs.size,_,I.laid (o:=.lst ((List.range (b-a).toNat).map λi=>V.int (a+(i:Nat)))) E (Ao _) ⟨?_,k.toList,c,?_,by simpa using D⟩,rfl,q _ (I.hok.fresh (Ao _))⟩
  .rw[Ac,A1];exact B
  .obtain⟨A,z⟩:=f;refine jtl (by simp[A]) λi x u d M=>?_;obtain⟨m,C⟩:=z i u (by simpa using M);subst C;rw[Ah]at d
   cases q:(List.range (b-a).toNat)[i]? with
   |none=>rw[q]at d;cases d
   |some j =>
    rw[q]at d;have L:j=i:=by
     have:=Ab.mp q;obtain⟨_,e⟩:=this;simpa using e.symm
    subst L;have g:V.int (a+(j:Nat))=x:=Aw d;subst g;exact⟨m,by rw[Int.mul_one]⟩
 .exact h.elim
def rAddW:R2:=λx y H Q=>match x,y with
 |.int i,.int j=>Q (.int (i+j)) H
 |.str i,.str j=>i.length+j.length<=sizeLine/\Q (.str (i++j)) H
 |.ref l,.ref b=>(∃xs zs,jcs (H l)=some xs/\jcs (H b)=some zs/\xs.length+zs.length<=sizeLine/\∀p,H p=none->Q (.ref p) (upd H p (.lst (xs++zs)))) \/
   (∃xs zs,jgh (H l)=some xs/\jgh (H b)=some zs/\xs≠[]/\zs≠[]/\xs.length+zs.length<=sizeLine/\∀p,H p=none->Q (.ref p) (upd H p (.tup (xs++zs))))
 |_,_=>False
theorem yw:OpR X (binaryOp .Add) rAddW:=by
 intro a s σ H x y v u Q I d c h
 cases x with
 |int i=>cases y with
  |int j=>exact op_add a s σ H _ _ v u Q I d c ⟨i,j,rfl,rfl,h⟩
  |_=>exact False.elim h
 |str i=>cases y with
  |str j=>exact op_add_str a s σ H _ _ v u Q I d c ⟨i,j,rfl,rfl,h⟩
  |_=>exact False.elim h
 |ref l=>cases y with
  |ref b =>
   rcases h with⟨xs,zs,e1,e2,h⟩|⟨xs,zs,e1,e2,n1,n2,hz,h⟩
   .exact op_cat a s σ H _ _ v u Q I d c ⟨l,b,xs,zs,rfl,rfl,jc2 e1,jc2 e2,h⟩
   .exact op_catT a s σ H _ _ v u Q I d c ⟨l,b,xs,zs,rfl,rfl,SqT.of (jgz e1),SqT.of (jgz e2),n1,hz,λz=>absurd z n2,λ_=>h⟩
  |_=>exact False.elim h
 |_=>exact False.elim h
theorem jfx(H:Hp)(Q:VK)(i j:Int):rAddW (.int i) (.int j) H Q=(Q (.int (i+j)) H):=rfl
theorem jjm(H:Hp)(Q:VK)(i j:Str):rAddW (.str i) (.str j) H Q=(i.length+j.length<=sizeLine/\Q (.str (i++j)) H):=rfl
theorem rAddW.tup{Q:VK}{l:Addr}{zs:List V}(e1:H l=some (.tup xs))(e2:H b=some (.tup zs))(n1:xs≠[])(n2:zs≠[])(hz:xs.length+zs.length<=sizeLine)
  (h:∀p,H p=none->Q (.ref p) (upd H p (.tup (xs++zs)))):rAddW (.ref l) (.ref b) H Q:=.inr ⟨xs,zs,by rw[e1];rfl,by rw[e2];rfl,n1,n2,hz,h⟩
theorem rAddW.lst{Q:VK}{l:Addr}{zs:List V}(e1:H l=some (.lst xs))(e2:H b=some (.lst zs))(hz:xs.length+zs.length<=sizeLine)
  (h:∀p,H p=none->Q (.ref p) (upd H p (.lst (xs++zs)))):rAddW (.ref l) (.ref b) H Q:=.inl ⟨xs,zs,by rw[e1];rfl,by rw[e2];rfl,hz,h⟩
end
section
variable{X:Cx}{pos:Pos}{k v:Expr}{tk tv:TE}
def jih(tk tv:TE):TE:=λσ H Q=>∀p,H p=none->tk σ (upd H p (.dT [])) λx H1=>tv σ H1 λy H2=>∃kvs ks b,H2 p=some (.dT kvs)/\x=.ref b/\H2 b=some (.tup (ks.map kV))/\kvs.length<sizeLine/\Q (.ref p) (upd H2 p (.dT (putK kvs ks y)))
theorem pe_disp1(hu:X.A.units+1<cLine)(hk:PE X k tk)(N:PE X v tv):PE X (.Dict [some k] [v] pos) (jih tk tv):=by
 intro i s σ H Q I q;have R:=I.hok.fresh (Ao s.heap.objs.size);have I1:=I.laid (a:=s.heap.objs.size) (o:=.dT []) (h':=s.heap.push {cls:=.type "dict",data:=.dict #[]}) (t':=s.toks) (λ_ _ q=>Ak _ q) (Ao _) (jra s.heap I.big);rw[arm_eval_Dict,zip_pairTrees [some k] [v] X.env pos rfl rfl,dictDisplay_pairs (pairTrees [some k] [v] X.env pos) (by simp[pairTrees]) (by simp[pairTrees])];refine Ad (Ys (Ad ?_));unfold subDict;refine Ad (wpAny_alloc (Ad (O0 ?_)));rw[Al (by simp[pairTrees])];have P:PPs X pos [some k] [v] [(tk,tv)]:=jbz hk N jb9;refine Ad (thn (P i _ σ _ (λD j=>match D with
  |[(x,y)]=>∃d f b,j s.heap.objs.size=some (.dT d)/\x=.ref b/\j b=some (.tup (f.map kV))/\d.length<sizeLine/\Q (.ref s.heap.objs.size) (upd j s.heap.objs.size (.dT (putK d f y)))
  |_=>False) I1 (q _ R)) λws s2 ⟨D,j,m,n,g⟩=>?_)
 split at g
 .rename_i x y;obtain⟨d,f,b,e,rfl,G,l,g⟩:=g
  cases n with
  |@cons pa pb as bs h t =>
   cases t
   obtain⟨u,r⟩:=pb;obtain⟨K,L⟩:=h;have eu:u=Value.ref b:=K;subst eu;refine O0 ?_;simp only[List.forIn_cons,List.forIn_nil];obtain⟨z,T,J,B,dd⟩:=jr6 m.hok e;have M:J.length<=sizeLine:=by rw[<-Iw B];exact z
   have S:(putK d f y).length<=sizeLine:=by have:=jda d f y;omega
   refine Ad (Ad (Ad (wpAny_dictSet_heap (hsz:=M) (knd:=tupleKind (jck X.prog X.w)) (show X.A.units<cLine by omega) (je9 m.hok G) dd λh' p O=>?_)));refine Aj (Aj (Aj (Aj (Aj ?_))));obtain⟨C,es,ep,E,Z,Y,W,_,U⟩:=p;refine⟨.ref s.heap.objs.size,_,?_,rfl,g⟩;refine jee m (by rw[e];exact True.intro) O ⟨C,E⟩ ⟨S,T,_,(B.put f G L).keeps λc ys F=>?_,C,es,ep,E,Z,Y,W,U⟩;rw[jd (jop F e (λz=>nomatch z))];exact F
 .exact g.elim
end
section
variable{X:Cx}
def hasS(z y:Str):Bool:=!(Builtin.Str.occurrences z y 0 z.length 1).isEmpty
def rInU(K:PySem.W.Frag)(neg:Bool):R2:=λx y H Q=>match x,y with
 |.str i,.str j=>Q (.bl (if neg then !hasS j i else hasS j i)) H
 |x,.ref p=>∃xs,(SqL K H p xs\/SqT K H p xs)/\jdh x=true/\xs.all jdh=true/\Q (.bl (if neg then !inV x xs else inV x xs)) H
 |_,_=>False
theorem jlo(K:PySem.W.Frag)(a:Bool)(H:Hp)(Q:VK)(i j:Str):rInU K a (.str i) (.str j) H Q=Q (.bl (if a then !hasS j i else hasS j i)) H:=rfl
theorem jbx(e:X.K=K):OpR X (compareOp .In) (rInU K false):=by
 subst e;intro a s σ H x y v u Q I c b h;unfold rInU at h;split at h
 .rename_i i j;exact op_in_str a s σ H _ _ v u Q I c b ⟨i,j,rfl,rfl,h⟩
 .rename_i p;obtain⟨d,h⟩:=h;exact op_in_seq a s σ H _ _ v u Q I c b ⟨p,d,rfl,h⟩
 .exact h.elim
theorem op_notinU(e:X.K=K):OpR X (compareOp .NotIn) (rInU K true):=by
 subst e;intro a s σ H x y v u Q I c b h;unfold rInU at h;split at h
 .rename_i i j;exact op_notIn_str a s σ H _ _ v u Q I c b ⟨i,j,rfl,rfl,h⟩
 .rename_i p;obtain⟨d,h⟩:=h;exact op_notIn_seq a s σ H _ _ v u Q I c b ⟨p,d,rfl,h⟩
 .exact h.elim
theorem rInU.lst{a:Bool}{Q:VK}{x:V}(e:H p=some (.lst xs))(b:jdh x=true)(fs:xs.all jdh=true)(q:Q (.bl (if a then !inV x xs else inV x xs)) H):rInU K a x (.ref p) H Q:=by
 cases x <;> exact⟨xs,.inl (SqL.of e),b,fs,q⟩
theorem rInU.tupS{a:Bool}{Q:VK}{x:V}(e:SqT K H p xs)(b:jdh x=true)(fs:xs.all jdh=true)(q:Q (.bl (if a then !inV x xs else inV x xs)) H):rInU K a x (.ref p) H Q:=by
 cases x <;> exact⟨xs,.inr e,b,fs,q⟩
theorem jh5(bs:List Bool)(d:Bool):(List.range bs.length).map (λi=>(bs[i]?).getD d)=bs:=by
 apply Wr;intro i;by_cases h:i<bs.length
 .simp[h]
 .rw[Wt.mpr (by simp;omega),Wt.mpr (by omega)]
theorem jfn:∀{bs:List Bool}{us:List Value},Vals (bs.map V.bl) us->∀(i:Nat)(v:Value),us[i]?=some v->∃b,bs[i]?=some b/\v=.bool b
 |[],us,r,i,v,e=>by rw[U3]at r;cases r;simp at e
 |b::bs,us,r,i,v,e=>by
  rw[Au]at r
  cases r with
  |cons r1 r2 =>
   cases i with
   |zero=>cases r1;simp at e;exact⟨b,rfl,e.symm⟩
   |succ i=>simp at e;obtain⟨d,c,a⟩:=jfn r2 i v e;exact⟨d,by simpa using c,a⟩
def jos:List V->Hp->VK->Prop:=λxs H Q=>match xs with
 |[.ref p]=>∃bs:List Bool,H p=some (.lst (bs.map V.bl))/\Q (.bl (bs.all id)) H
 |_=>False
def jot:List V->Hp->VK->Prop:=λxs H Q=>match xs with
 |[.ref p]=>∃bs:List Bool,H p=some (.lst (bs.map V.bl))/\Q (.bl (bs.any id)) H
 |_=>False
theorem jne{o:Obj}(hk:∀b x,b∉[s.heap.objs.size]->(s.heap.push o).get? b=some x->h'.get? b=some x):∀b x,s.heap.get? b=some x->h'.get? b=some x :=
 λb x e=>hk b x (λa=>by rw[Ag.mp a]at e;exact Yb _ (Ax e)) (Ak _ e)
theorem call_allU(hc:X.calm=true):jcu X (.builtin "all") jos:=by
 intro l s σ H w x Q I r h;unfold jos at h;split at h
 .rename_i p;obtain⟨d,e,q⟩:=h;obtain⟨u,rfl,m⟩:=jc9 r
  cases m
  obtain⟨a,j,n,_⟩:=I.list (SqL.of e);have c:=n.isList;have g:p<s.heap.objs.size:=by obtain⟨_,e,_⟩:=c;exact Ax e
  refine call_all_walk (Ym c ?_);refine⟨s.heap.objs.size,[s.heap.objs.size,p],[s.heap.objs.size],a.toArray.size,_,_,λi=>(d[i]?).getD true,rfl,Walks.list (A:=X.A.in1) (I.ok.hd hc) _ p (A2 g) a.toArray,
   ⟨⟨_,A4 _ rfl,rfl,rfl⟩,c.push _⟩,λi v z C D o k=>?_,λB y t=>?_⟩
  .obtain⟨b,e,rfl⟩:=jfn j i v (by simpa using o);simp only[Option.getD_some,e]at k;exact U6 k
  .have e:((List.range a.toArray.size).all λi=>(d[i]?).getD true)=d.all id:=by
    have f:a.length=d.length:=by have:=j.length;simpa using this.symm
    rw[A0,f];conv=>rhs;rw[<-jh5 d true,List.all_map]
    rfl
   rw[e];exact⟨.bl _,H,I.kept (jne t),rfl,q⟩
 .exact h.elim
theorem call_anyU(hc:X.calm=true):jcu X (.builtin "any") jot:=by
 intro l s σ H w x Q I r h;unfold jot at h;split at h
 .rename_i p;obtain⟨d,e,q⟩:=h;obtain⟨u,rfl,m⟩:=jc9 r
  cases m
  obtain⟨a,j,n,_⟩:=I.list (SqL.of e);have c:=n.isList;have g:p<s.heap.objs.size:=by obtain⟨_,e,_⟩:=c;exact Ax e
  refine call_any_walk (Ym c ?_);refine⟨s.heap.objs.size,[s.heap.objs.size,p],[s.heap.objs.size],a.toArray.size,_,_,λi=>(d[i]?).getD false,rfl,Walks.list (A:=X.A.in1) (I.ok.hd hc) _ p (A2 g) a.toArray,
   ⟨⟨_,A4 _ rfl,rfl,rfl⟩,c.push _⟩,λi v z C D o k=>?_,λB y t=>?_⟩
  .obtain⟨b,e,rfl⟩:=jfn j i v (by simpa using o);simp only[Option.getD_some,e]at k;exact U6 k
  .have e:((List.range a.toArray.size).any λi=>(d[i]?).getD false)=d.any id:=by
    have f:a.length=d.length:=by have:=j.length;simpa using this.symm
    rw[A0,f];conv=>rhs;rw[<-jh5 d false,List.any_map]
    rfl
   rw[e];exact⟨.bl _,H,I.kept (jne t),rfl,q⟩
 .exact h.elim
theorem jjn(p:Addr)(H:Hp)(Q:VK):jos [.ref p] H Q=(∃bs:List Bool,H p=some (.lst (bs.map V.bl))/\Q (.bl (bs.all id)) H):=rfl
theorem jjo(p:Addr)(H:Hp)(Q:VK):jot [.ref p] H Q=(∃bs:List Bool,H p=some (.lst (bs.map V.bl))/\Q (.bl (bs.any id)) H):=rfl
end
theorem jgi{D:Addr}{a b:HO}:upd (upd H D a) D b=upd H D b:=jfb
section
variable{D:Addr}{te:TE}{E:Ends}{r:L2.St}{H:Hp}
theorem joa{lo:Int}{n:Nat}(f:Nat->V)(hz:n<=sizeLine)(c:∀i,i<n->∀l Q,Q (f i) (upd H D (.lst l))->te (some (.int (lo+(i:Nat)))::r) (upd H D (.lst l)) Q)
  (hn:∀v,E.nx (v::r) (upd H D (.lst ((List.range n).map f)))):jc5 (Itr lo n) (jc8 0) (jdj D te) E (none::r) (upd H D (.lst [])):=by
 refine jcr (λi σ a=>∃v:Option V,σ=v::r/\a=upd H D (.lst ((List.range i).map f))) ⟨none,rfl,rfl⟩ ?_ ?_
 .rintro i σ a b ⟨v,rfl,rfl⟩
  refine c i b _ _ ⟨_,by rw[jb];rfl,by simp;omega,some (.int (lo+(i:Nat))),rfl,?_⟩
  rw[jgi,O9]
  simp
 .rintro σ a ⟨v,rfl,rfl⟩
  exact hn v
theorem jdn(f:V->V)(ha:H a=some (.lst xs))(g:H D=none)(hz:xs.length<=sizeLine)(e:∀x∈xs,∀l Q,Q (f x) (upd H D (.lst l))->te (some x::r) (upd H D (.lst l)) Q)
  (hn:∀v,E.nx (v::r) (upd H D (.lst (xs.map f)))):jc5 (Itl K a) (jc8 0) (jdj D te) E (none::r) (upd H D (.lst [])):=by
 have d:a≠D:=je ha g
 refine jdg (xs:=xs) (λi σ b=>∃v:Option V,σ=v::r/\b=upd H D (.lst ((xs.take i).map f))) ⟨none,rfl,rfl⟩ ?_ ?_ ?_
 .rintro i σ b _ ⟨v,_,rfl⟩
  rw[jd d];exact ha
 .rintro i x σ b c ⟨v,rfl,rfl⟩
  have h:i<xs.length:=(Ab.mp c).1
  refine e x (Ap c) _ _ ⟨_,by rw[jb];rfl,by simp;omega,some x,rfl,?_⟩
  rw[jgi,Y4,c]
  simp
 .rintro σ b ⟨v,rfl,rfl⟩
  rw[Ob (Ao _)]
  exact hn v
theorem jdo(f:V->V)(ha:H a=some (.tup xs))(g:H D=none)(hz:xs.length<=sizeLine)(e:∀x∈xs,∀l Q,Q (f x) (upd H D (.lst l))->te (some x::r) (upd H D (.lst l)) Q)
  (hn:∀v,E.nx (v::r) (upd H D (.lst (xs.map f)))):jc5 (Itt K a) (jc8 0) (jdj D te) E (none::r) (upd H D (.lst [])):=by
 have d:a≠D:=je ha g
 refine jeo (xs:=xs) (λi σ b=>∃v:Option V,σ=v::r/\b=upd H D (.lst ((xs.take i).map f))) ⟨none,rfl,rfl⟩ ?_ ?_ ?_
 .rintro i σ b _ ⟨v,_,rfl⟩
  rw[jd d];exact ha
 .rintro i x σ b c ⟨v,rfl,rfl⟩
  have h:i<xs.length:=(Ab.mp c).1
  refine e x (Ap c) _ _ ⟨_,by rw[jb];rfl,by simp;omega,some x,rfl,?_⟩
  rw[jgi,Y4,c]
  simp
 .rintro σ b ⟨v,rfl,rfl⟩
  rw[Ob (Ao _)]
  exact hn v
end
end L2
set_option autoImplicit true
set_option relaxedAutoImplicit true
namespace L2
open PySem PySem.Spec PyProof.Rows
structure QE(X:Cx)(e:Expr)(t:TE):Prop where
 h:PE X e t
structure QT(X:Cx)(e:Expr)(t:TT):Prop where
 h:PT X e t
structure QW(X:Cx)(e:Expr)(t:TT):Prop where
 h:PW X e t
structure QA(X:Cx)(es:List Expr)(t:TA):Prop where
 h:PA X es t
structure QS(X:Cx)(st:Stmt)(t:TS):Prop where
 h:PS X st t
structure QSs(X:Cx)(st:List Stmt)(t:TS):Prop where
 h:PSs X st t
structure QG(X:Cx)(e:Expr)(t:TG):Prop where
 h:PG X e t
structure QGs(X:Cx)(es:List Expr)(t:TGs):Prop where
 h:PGs X es t
structure QI(X:Cx)(tg iter:Expr)(wi:TI):Prop where
 h:PI X tg iter wi
structure QC(X:Cx)(op:CmpOp)(a b:Expr)(t:TE):Prop where
 h:PC X op a b t
theorem ya:QSs X [] jkp:=⟨pss_nil⟩
theorem jj(h1:QS X stm t):QSs X [stm] t:=⟨pss_one h1.h⟩
theorem jf(h1:QS X stm t)(h2:QSs X rst u):QSs X (stm::rst) (tSeq t u):=⟨pss_cons h1.h h2.h⟩
variable{pos:Pos}
theorem qpv(i:Nat){x:Str}(hN:X.N[i]?=some x:=by rfl)(b:Vis X.env.scope x:=by first|exact Or.inl rfl|exact Or.inr (Or.inl rfl)|exact Or.inr (Or.inr rfl))
  (hd:(x == ("__debug__":Str))=false:=by decide) (a:(x == ("__classdict__":Str))=false:=by decide):QE X (.Name x pos) (tVar i):=⟨pv i hN b hd a⟩
theorem jh:QE X (.Constant (.int i) j pos) (tC (.int i)):=⟨pe_int⟩
theorem zv:QE X (.Constant (.bool b) j pos) (tC (.bl b)):=⟨pe_bl⟩
theorem jbi:QE X (.Constant (.str x) j pos) (tC (.str x)):=⟨pe_str⟩
theorem jak{x:Str}{v:V}{u:Value}(hg:Gl X x)(hm:X.mg x=none)(a:bootBuiltins x=some u)(r:RelV v u)(hn:x≠"__name__":=by decide)(hd:(x == ("__debug__":Str))=false:=by decide) :
  QE X (.Name x pos) (tC v):=⟨pe_bltn hg hm a r hn hd⟩
theorem j4(c:OpR X (binaryOp op) r)(ha:QE X a ta)(hb:QE X b tb):QE X (.BinOp a op b pos) (tOp r ta tb):=⟨pe_op c ha.h hb.h⟩
theorem jal(c:OpR X (compareOp op) r)(ha:QE X a ta)(hb:QE X b tb)(hm:behindInMarks op b=false):QE X (.Compare a [op] [b] pos) (tOp r ta tb):=⟨pe_cmpR c ha.h hb.h hm⟩
theorem j8(c:OpR X (compareOp op) r)(ha:QE X a ta)(hb:QE X b tb)(hm:behindInMarks op b=false):QT X (.Compare a [op] [b] pos) (jkr (tOp r ta tb)):=⟨pt_cmpR c ha.h hb.h hm⟩
theorem ja4(h:QC X op a b t)(h1:behindInMarks op b=false:=by first|exact nobehind _ (by decide) (by decide)|rfl):QT X (.Compare a [op] [b] pos) (tB t):=⟨pt_cmp h.h h1⟩
theorem jah(hu:X.A.units+1<cLine)(hi:QE X i ty)(a:QE X o td):QC X .NotIn i o (jgd ty td):=⟨pc_dnotin hu hi.h a.h⟩
theorem ja5(ha:QT X a tA):QT X (.UnaryOp .Not a pos) (tNot tA):=⟨pt_not ha.h⟩
theorem QW.pt(h:QW X e t):QT X e t:=⟨PW.pt h.h⟩
theorem qpw_and(ha:QT X a tA)(hb:QW X (.BoolOp .And (b::rst) pos) tB'):QW X (.BoolOp .And (a::b::rst) pos) (tAnd tA tB'):=⟨pw_and ha.h hb.h⟩
theorem jap(ha:QT X a tA)(hb:QW X (.BoolOp .Or (b::rst) pos) tB'):QW X (.BoolOp .Or (a::b::rst) pos) (tOr tA tB'):=⟨pw_or ha.h hb.h⟩
theorem qpw_and1(ha:QT X a tA):QW X (.BoolOp .And [a] pos) tA:=⟨pw_and1 ha.h⟩
theorem jaq(ha:QT X a tA):QW X (.BoolOp .Or [a] pos) tA:=⟨pw_or1 ha.h⟩
theorem zx{e:Expr}(h:QE X e t)(a:∀whole,isTrue e X.env whole=(do let v <-whole;standAt e.pos;holding [v] (truthy v)):=by intro _;rfl):QT X e (tB t):=⟨pt_val h.h a⟩
theorem qpe_one(h:QE X a t):QE X (.BoolOp op [a] pos) t:=⟨pe_one h.h⟩
theorem qpe_and(ha:QE X a ta)(hb:QE X (.BoolOp .And (b::rst) pos) tb):QE X (.BoolOp .And (a::b::rst) pos) (jkk ta tb):=⟨pe_and ha.h hb.h⟩
theorem kx(h:QA X es t):QE X (.List es pos) (tLst t):=⟨pe_lst h.h⟩
theorem y9(h:QA X es t):QE X (.Tuple es x1 pos) (tTup t):=⟨pe_tup h.h⟩
theorem qpe_rev{e:Expr}(b:QE X e te)(a:∀o r,letTemporaryGo e o r=pure ():=by intro _ _;with_unfolding_all rfl) :
  QE X (.Subscript e (.Slice none none (some (.UnaryOp .USub (.Constant (.int 1) k p1) p2)) p3) p4) (jkq te):=⟨pe_rev b.h a⟩
theorem jr(hr:IxR X r)(ha:QE X a ta)(hb:QE X b tb)(hs:jmq b):QE X (.Subscript a b pos) (tOp r ta tb):=⟨pe_ix hr ha.h hb.h hs⟩
theorem qpe_disp1(hu:X.A.units+1<cLine)(hk:QE X k tk)(a:QE X v tv):QE X (.Dict [some k] [v] pos) (jih tk tv):=⟨pe_disp1 hu hk.h a.h⟩
theorem ku(hc:X.calm=true)(c:CompOk X scope Nc js)(hi:QI X tg iter wi)(hg:∀C s3 H3 fp,QG (X.comp scope C Nc s3 H3 fp) tg g)(a:∀C s3 H3 fp,QE (X.comp scope C Nc s3 H3 fp) elt te)
  (hs:∀x,foldedSetIterable iter X.env x=pure x:=by intro _;rfl):QE X (.ListComp elt [⟨tg,iter,[],0⟩] scope pos) (jgc wi g js te):=⟨pe_comp hc c hi.h (λC s H f=>(hg C s H f).h) (λC s H f=>(a C s H f).h) hs⟩
variable{spos:Pos}{y:Str}
theorem jab{i:Nat}{py:Pos}(hN:X.N.Nodup)(b:X.N[i]?=some y)(hy:Loc X.env.scope y)(hc:X.calm=true)(c:CompOk X scope Nc js)(hi:QI X tg iter wi)(hg:∀C s3 H3 fp,QG (X.comp scope C Nc s3 H3 fp) tg g)
  (d:∀C s3 H3 fp,QE (X.comp scope C Nc s3 H3 fp) elt te) (a:swapsWith (.ListComp elt [⟨tg,iter,[],0⟩] scope pos) (some (.Name y py)) spos.line X.env=pure true:=by rfl)
  (hs:∀x,foldedSetIterable iter X.env x=pure x:=by intro _;rfl) (hf:X.fn y=true\/X.env.scope.names.lookup y=some .local:=by first|exact .inl rfl|exact .inr rfl|assumption) :
  QS X (.Assign [.Name y py] (.ListComp elt [⟨tg,iter,[],0⟩] scope pos) spos) (tAsg (jgc wi g js te) (jc8 i)):=⟨ps_setc hN b hy hc c hi.h (λC s H f=>(hg C s H f).h) (λC s H f=>(d C s H f).h) a hs hf⟩
theorem jv(F:FnOk X.prog X.w X.K X.mg X.base CX k f fd ps sp)(hr:Room k X.A)(hg:Gl X x)(hm:X.mg x=some (.ref f))(hk:PySem.W.keepIn X.K (.ref f)=true)(hb:Binds X.K fd ps ds)(hd:Vals dvs ds)(c:jhb CX X E)
  (ha:QA X (e::es) t) (b:(x == ("__debug__":Str))=false:=by decide) (d:starEach (e::es) X.env=(false,eval e X.env)::starEach es X.env:=by rfl) (a:(backTo pos (starEach es X.env)).any (·.1)=false:=by rfl) :
  QE X (.Call (.Name x p) (e::es) [] pos) (jkm sp dvs E t):=⟨pe_call F hr hg hm hk hb hd c ha.h b d a⟩
theorem ju(hc:jcu X (.type T) r)(hg:Gl X x)(hm:X.mg x=none)(c:bootBuiltins x=some (.type T))(ha:QA X (e::es) t)(hn:x≠"__name__":=by decide)(b:(x == ("__debug__":Str))=false:=by decide)
  (d:starEach (e::es) X.env=(false,eval e X.env)::starEach es X.env:=by rfl) (a:(backTo pos (starEach es X.env)).any (·.1)=false:=by rfl):QE X (.Call (.Name x p) (e::es) [] pos) (tCB r t):=⟨pe_callTy hc hg hm c ha.h hn b d a⟩
theorem jt(hc:jcu X (.builtin idn) r)(hg:Gl X x)(hm:X.mg x=none)(c:bootBuiltins x=some (.builtin idn))(ha:QA X (e::es) t)(hn:x≠"__name__":=by decide)(b:(x == ("__debug__":Str))=false:=by decide)
  (d:starEach (e::es) X.env=(false,eval e X.env)::starEach es X.env:=by rfl) (a:(backTo pos (starEach es X.env)).any (·.1)=false:=by rfl):QE X (.Call (.Name x p) (e::es) [] pos) (tCB r t):=⟨pe_callB hc hg hm c ha.h hn b d a⟩
theorem kh(slot:Slot "list" name idn)(f:typeOf (.builtin idn)=pure (.type "method_descriptor"))(hm:MtM X idn r)(g:QE X o to)(ha:QA X (e::es) t)(mono:∀σ H Q Q',(∀v H',Q v H'->Q' v H')->to σ H Q->to σ H Q')
  (c:attributeBase o name X.env (eval o X.env)=eval o X.env:=by rfl)
  (d:((backTo cpos (starEach (e::es) X.env)).all (λx=>!x.1) && (backToKw cpos (keywordEach [] X.env)).all (λx=>x.1.isSome)
   && decide ((e::es).length+([]:List Keyword).length+(if([]:List Keyword).isEmpty then 0 else 1)<30))=true:=by rfl)
  (b:(apos.endLine == cpos.line)=true:=by rfl) (hs:starEach (e::es) X.env=(false,eval e X.env)::starEach es X.env:=by rfl) (a:(backTo cpos (starEach es X.env)).any (·.1)=false:=by rfl) :
  QE X (.Call (.Attribute o name apos) (e::es) [] cpos) (tBML r to t):=⟨pe_bmL slot f hm g.h ha.h mono c d b hs a⟩
theorem qpe_bmS(slot:Slot "str" name idn)(f:typeOf (.builtin idn)=pure (.type "method_descriptor"))(hm:MtM X idn r)(g:QE X o to)(ha:QA X (e::es) t)(mono:∀σ H Q Q',(∀v H',Q v H'->Q' v H')->to σ H Q->to σ H Q')
  (c:attributeBase o name X.env (eval o X.env)=eval o X.env:=by rfl)
  (d:((backTo cpos (starEach (e::es) X.env)).all (λx=>!x.1) && (backToKw cpos (keywordEach [] X.env)).all (λx=>x.1.isSome)
   && decide ((e::es).length+([]:List Keyword).length+(if([]:List Keyword).isEmpty then 0 else 1)<30))=true:=by rfl)
  (b:(apos.endLine == cpos.line)=true:=by rfl) (hs:starEach (e::es) X.env=(false,eval e X.env)::starEach es X.env:=by rfl) (a:(backTo cpos (starEach es X.env)).any (·.1)=false:=by rfl) :
  QE X (.Call (.Attribute o name apos) (e::es) [] cpos) (tBMS r to t):=⟨pe_bmS slot f hm g.h ha.h mono c d b hs a⟩
theorem qpe_bmL0(slot:Slot "list" name idn)(c:typeOf (.builtin idn)=pure (.type "method_descriptor"))(hm:MtM X idn r)(d:QE X o to)(mono:∀σ H Q Q',(∀v H',Q v H'->Q' v H')->to σ H Q->to σ H Q')
  (b:attributeBase o name X.env (eval o X.env)=eval o X.env:=by rfl) (a:(apos.endLine == cpos.line)=true:=by rfl):QE X (.Call (.Attribute o name apos) [] [] cpos) (jkl r to):=⟨pe_bmL0 slot c hm d.h mono b a⟩
theorem jc:QA X [] tNil:=⟨jby⟩
theorem ja(ha:QE X e te)(hr:QA X es t)(hs:starEach (e::es) X.env=(false,eval e X.env)::starEach es X.env:=by rfl):QA X (e::es) (je0 te t):=⟨jbh ha.h hr.h hs⟩
theorem jq{i:Nat}{x:Str}(hN:X.N.Nodup)(hi:X.N[i]?=some x)(a:Loc X.env.scope x)(hf:X.fn x=true\/X.env.scope.names.lookup x=some .local:=by first|exact .inl rfl|exact .inr rfl|assumption):QG X (.Name x pos) (jc8 i):=⟨pg_name hN hi a hf⟩
variable{K:PySem.W.Frag}{n:Nat}
theorem ja2{es:List Expr}{t:TGs}(hc:X.calm=true)(h:QGs X es t)(b:X.K=K)(hn:(assignEach es X.env).length=n:=by rfl)(a:(assignEach es X.env).findIdx? (·.1)=none:=by rfl) :
  QG X (.Tuple es k pos) (gTup K n t):=by subst b;exact⟨pg_tup hc h.h hn a⟩
theorem jau:QGs X [] gNil:=⟨pgs_nil⟩
theorem ze{e:Expr}{es:List Expr}(h1:QG X e t)(h2:QGs X es u)(hs:(assignEach (e::es) X.env).map (·.2)=assign e X.env::(assignEach es X.env).map (·.2):=by rfl):QGs X (e::es) (jr7 t u):=⟨pgs_cons h1.h h2.h hs⟩
theorem jbj{o i:Expr}(a:QE X o to)(hi:QE X i ti)(hs:PSet X t)
  (ha:∀v,assign (.Subscript o i pos) X.env v=(do
   let ov <-holding [v] (eval o X.env)
   let iv <-holding [v,ov] (eval i X.env)
   standAt pos
   holding [v,ov,iv] (setItem ov iv v)
   release [v,ov,iv] []):=by intro _;rfl):QG X (.Subscript o i pos) (gSub to ti t):=⟨pg_sub a.h hi.h hs ha⟩
theorem jo{i:Nat}{x:Str}{e:Expr}{te:TE}{pos':Pos}(hN:X.N.Nodup)(hi:X.N[i]?=some x)(a:Loc X.env.scope x)(b:QE X e te)(hs:swapsWith e (some (.Name x pos')) pos.line X.env=pure false:=by rfl)
  (hf:X.fn x=true\/X.env.scope.names.lookup x=some .local:=by first|exact .inl rfl|exact .inr rfl|assumption):QS X (.Assign [.Name x pos'] e pos) (tAsg te (jc8 i)):=⟨ps_set hN hi a b.h hs hf⟩
theorem ja3{tg e:Expr}(b:QE X e te)(hg:QG X tg g)(hs:swapsWithSole [tg] e pos.line X.env=pure false:=by rfl)(a:swappedStores [tg] e X.env=pure none:=by rfl)
  (h1:(assignEach [tg] X.env).map (·.2)=[assign tg X.env]:=by rfl):QS X (.Assign [tg] e pos) (tAsg te g):=⟨ps_asg b.h hg.h hs a h1⟩
theorem ja9(hu:X.A.units+1<cLine)(b:QE X o td)(hi:QE X i ty)(a:QE X value tv)(hs:swapsWith value (some (.Subscript o i pos')) pos.line X.env=pure false) :
  QS X (.Assign [.Subscript o i pos'] value pos) (jki td ty tv):=⟨ps_dput hu b.h hi.h a.h hs⟩
theorem ka(a:QE X e te):QS X (.Return (some e) pos) (tRet te):=⟨ps_ret a.h⟩
theorem kj(a:QE X e te)(hs:swapsWith e none pos.line X.env=pure false:=by rfl):QS X (.Expr e pos) (jko te):=⟨ps_expr a.h hs⟩
theorem ym(hc:QT X c tc)(ha:QSs X a t)(hb:QSs X b u):QS X (.If c a b pos) (tIfS tc t u):=⟨ps_if hc.h ha.h hb.h⟩
theorem yh{iter:Expr}(hp:PassesOwn (model X.prog X.w) X.A X.env X.xe)(hc:X.calm=true)(hi:QI X tg iter wi)(hg:QG X tg g)(hb:QSs X body tb)(hs:∀x,foldedSetIterable iter X.env x=pure x:=by intro _;rfl) :
  QS X (.For tg iter body [] pos) (tFor wi g tb):=⟨ps_for hp hc hi.h hg.h hb.h hs⟩
theorem z6(hp:PassesOwn (model X.prog X.w) X.A X.env X.xe)(hc:QT X c tc)(hb:QSs X body tb):QS X (.While c body [] pos) (jl9 tc tb):=⟨ps_while hp hc.h hb.h⟩
theorem yb{a:Expr}{ta:TA}{p:Pos}(hg:Gl X "range")(hm:X.mg "range"=none)(ha:QA X [a] ta)(hs:starEach [a] X.env=[(false,eval a X.env)]:=by rfl):QI X tg (.Call (.Name "range" p) [a] [] pos) (jkc ta):=⟨pi_range1 hg hm ha.h hs⟩
theorem qpi_range2{a b:Expr}{ta:TA}{p:Pos}(hg:Gl X "range")(hm:X.mg "range"=none)(ha:QA X [a,b] ta)(hs:starEach [a,b] X.env=[(false,eval a X.env),(false,eval b X.env)]:=by rfl)(c:starEach [b] X.env=[(false,eval b X.env)]:=by rfl) :
  QI X tg (.Call (.Name "range" p) [a,b] [] pos) (jkd ta):=⟨pi_range2 hg hm ha.h hs c⟩
theorem j7(hl:QE X l tl)(a:X.K=K):QI X tg l (iAny K tl):=by subst a;exact⟨pi_any hl.h⟩
def jei(D:Addr)(tt:TT)(te:TE):TS:=λE σ H=>tt σ H λb H1=>if b=true then jdj D te E σ H1 else E.nx σ H1
def jeh(wi:TI)(g:TG)(js:List (Option Nat))(tt:TT)(te:TE):TE:=λσ H Q=>wi σ H λJ H1=>∀D,H1 D=none ->
 jc5 J g (jei D tt te) {nx:=λ_ H'=>Q (.ref D) H',rt:=λ_ _=>False} (jdw js σ) (upd H1 D (.lst []))
theorem jkx(elt a iter cd:Expr)(scope:Scope)(pos:Pos)(it d:Value)(env:Env) :
  compTurn (.ListComp elt [⟨a,iter,[cd],0⟩] scope pos) 0 it d env=(standAt iter.pos >>= λ_=>pyNext it >>= λr=>match r with
   |none=>pure (.done .next)
   |some v=>letOwnedTupleGo a it v >>= λ_=>assign a env v >>= λ_ =>
    (forIn [cd] true λc ok=>if ok=true then(isTrue c env (eval c env) >>= λb=>pure (ForInStep.yield b))else pure (ForInStep.yield ok)) >>= λok =>
    if ok=true then((eval elt env >>= λx=>call (.builtin "list.append") [d,x] >>= λ_=>pure ()) >>= λ_=>again (.compLoop (.ListComp elt [⟨a,iter,[cd],0⟩] scope pos) 0 it d env))
    else again (.compLoop (.ListComp elt [⟨a,iter,[cd],0⟩] scope pos) 0 it d env)):=by rfl
section
variable{X:Cx}{scope:Scope}{Nc:List Str}{js:List (Option Nat)}{elt tg iter cd:Expr}{pos:Pos}{wi:TI}{g:TG}{te:TE}{tt:TT}
theorem jgl(hc:X.calm=true)(c:CompOk X scope Nc js)(hi:PI X tg iter wi)(hg:∀C s3 H3 fp,PG (X.comp scope C Nc s3 H3 fp) tg g)(ht:∀C s3 H3 fp,PT (X.comp scope C Nc s3 H3 fp) cd tt)(he:∀C s3 H3 fp,PE (X.comp scope C Nc s3 H3 fp) elt te)
  {pins:List (Addr×Obj)}{s:Shared}{σ:L2.St}{H:Hp} (I:Inv X pins σ H s) {RR:Value->Addr->Result->Shared->Prop}{NX:Addr->Hp->Prop}
  (h:wi σ H λJ H1=>∀D,H1 D=none->jc5 J g (jei D tt te) {nx:=λ_ H'=>NX D H',rt:=λ_ _=>False} (jdw js σ) (upd H1 D (.lst [])))
  (fin:∀D H3 s3 fp σ5 H5 s6,Inv X pins σ H3 s3->(∀b∈fp,FpOk X pins H3 b)->Inv (X.comp scope s3.heap.objs.size Nc s3 H3 fp) [] σ5 H5 s6->NX D H5->RR (.ref D) s3.heap.objs.size (.ok .next) s6) :
  wpAny (model X.prog X.w) X.A (eval iter X.env) (λx s₁=>wpAny (model X.prog X.w) X.A (pyIter x) (λit s₂=>wpAny (model X.prog X.w) X.A (newList []) (λacc s₃ =>
   wpAny (model X.prog X.w) X.A (newFunctionEnv scope X.env.globals (clOf X.env scope.names []) [] X.env.qual none .none (some X.env)) (λcenv s₄ =>
    codeAny (model X.prog X.w) X.A (.compStart (.ListComp elt [⟨tg,iter,[cd],0⟩] scope pos) 0 it acc {cenv with scope:=relabel scope X.env}) (RR acc cenv.locals) s₄) X.xe s₃) X.xe s₂) X.xe s₁) X.xe s:=by
 refine thn (hi pins s σ H _ I h) λv s1 h1=>thn h1 λan a h2=>?_
 obtain⟨it,fp,S,J,H2,rfl,I2,T,K,f2,h2⟩:=h2
 refine Up ?_ (by show 0<=sizeLine;decide)
 have hD:H2 a.heap.objs.size=none:=I2.hok.fresh (Ao _)
 have I3:Inv X pins σ (upd H2 a.heap.objs.size (.lst [])) {a with heap:=a.heap.push {cls:=.type "list",data:=.seq ([]:List Value).toArray}} :=
  I2.laid (t':=a.toks) (λb u e=>Ak _ e) (Ao _) ⟨by show 0<=sizeLine;decide,[],0,.nil,A4 _ rfl⟩
 have f3:∀b∈fp,FpOk X pins (upd H2 a.heap.objs.size (.lst [])) b:=λb f=>by
  obtain⟨q0,q⟩:=f2 b f;obtain⟨o,e,_⟩:=T.obj _ _ K b f;exact⟨by rw[jd (A2 (Ax e))];exact q0,q⟩
 have o3:∀b∈fp,∃o,(a.heap.push {cls:=.type "list",data:=.seq ([]:List Value).toArray}).get? b=some o:=λb f=>by
  obtain⟨o,e,_⟩:=T.obj _ _ K b f;exact⟨o,Ak _ e⟩
 have P:S 0 (a.heap.push {cls:=.type "list",data:=.seq ([]:List Value).toArray}):=T.keep _ _ _ K λb _ o e=>Ak _ e
 generalize hh3:a.heap.push {cls:=.type "list",data:=.seq ([]:List Value).toArray}=Z at I3 o3 P⊢
 refine Aat c.nocell (by intro y hy;simp at hy) (λh4 ag af=>?_) c.kind
 have k4:∀b o,Z.get? b=some o->h4.get? b=some o:=λb o e=>(af.2 b (A2 (Ax e))).trans (Ak _ e)
 have I4:=jky (tk:=a.toks+([]:List (Str×Value)).length) c I3 f3 o3 ag k4
 have O:S 0 h4:=T.keep _ _ _ P λb _ o e=>k4 b o e
 obtain⟨W,⟨m0,w0⟩,R⟩:=h2 _ hD
 let s3:Shared:={a with heap:=Z}
 let Y:Cx:=X.comp scope Z.objs.size Nc s3 (upd H2 a.heap.objs.size (.lst [])) fp
 have k:∀{H':Hp},(∀b∈fp,H' b=none)->∀b∈fp,FpOk Y [] H' b:=λhn b f=>⟨hn b f,(I4.ok.exf b f).1,I4.ok.exfs b f,.inl f,(I4.ok.exf b f).2,(λp hp=>nomatch hp)⟩
 have t:codeAny (model X.prog X.w) X.A (.compLoop (.ListComp elt [⟨tg,iter,[cd],0⟩] scope pos) 0 (.ref it) (.ref a.heap.objs.size) Y.env)
   (RR (.ref a.heap.objs.size) Z.objs.size) {a with heap:=h4,toks:=a.toks+([]:List (Str×Value)).length}:=by
  refine codeAny_loop rfl (λn F=>∃i σ' H',Inv Y [] σ' H' F/\S i F.heap/\(∀b∈fp,H' b=none)/\W i n σ' H') (λn s5 hI=>?_) m0 ⟨0,_,_,I4,O,λb f=>(f3 b f).1,w0⟩
  obtain⟨i,σ5,H5,I5,M,Q,w5⟩:=hI
  show wpAny _ X.A ((compTurn (.ListComp elt [⟨tg,iter,[cd],0⟩] scope pos) 0 (.ref it) (.ref a.heap.objs.size) Y.env).onRaise (λx=>do noteFrame x Y.env;theTreesLotGoes x)) _ _ s5
  refine wpAny_noted (Uv (E:=λ_ _=>False) ?_ (λ_ _ q=>q) λ_ _ z=>z.elim)
  rw[jkx]
  refine Ad (Ys (Ad ?_))
  rcases R i n σ5 H5 w5 with⟨stop,qn⟩|⟨go,N,hN,step⟩
  .refine thn (T.done Y rfl rfl rfl hc i [] s5 σ5 H5 _ I5 (k Q) M stop) λr s6 ⟨hr,I6⟩=>?_
   subst hr
   refine Aj ?_
   exact fin _ _ s3 fp σ5 H5 s6 I3 f3 I6 qn
  .refine thn (T.item Y rfl rfl rfl hc i [] s5 σ5 H5 _ I5 (k Q) M go) λr s6 ⟨u,hr,h6⟩=>?_
   subst hr
   refine Ad (thn h6 λ_ s7 ⟨x,H7,I7,r7,y7,G,ah⟩=>?_)
   have aj:=I7.pinned (k ah) (T.obj _ _ G)
   refine Ad (thn (hg _ _ _ _ _ s7 σ5 H7 x u _ aj r7 (step x H7 y7)) λ_ s8 ⟨l,H8,I8,q8⟩=>?_)
   have B:∀{H':Hp}{F:Shared},Inv Y ([]++jfv fp s7.heap) l H' F->N l H'->∃m,m<n/\∃i σ1 H1,Inv Y [] σ1 H1 F/\S i F.heap/\(∀b∈fp,H1 b=none)/\W i m σ1 H1:=fun{H'}{F} j L=>by
    obtain⟨m',hm,ab⟩:=hN l H' L;refine⟨m',hm,i+1,l,H',j.unpinned,T.keep _ _ _ G λb f o e=>(j.pin (b,o) (Ig _ (Ig _ (jdu f e)))).1,λb f=>?_,ab⟩;obtain⟨o,e,d⟩:=T.obj _ _ G b f;exact(j.pin (b,o) (Ig _ (Ig _ (jdu f e)))).2.1
   rw[List.forIn_cons,Al rfl]
   refine Ad (Ad (Ad (thn (ht _ _ _ _ _ s8 l H8 _ I8 q8) λok s9 ⟨H9,I9,U⟩=>Aj ?_)))
   simp only[List.forIn_nil]
   refine Aj ?_
   cases ok with
   |false =>
    simp only[Ir,O4]at U⊢
    exact Aj ⟨rfl,B I9 U⟩
   |true =>
    simp only[Wp]at U⊢
    refine Ad (Ad (thn (he _ _ _ _ _ s9 l H9 _ I9 U) λv ac ⟨y,al,j,ad,ys,ai,aa,L⟩=>?_))
    refine Ad (thn (jaz (X:=Y) _ ac l al (.ref a.heap.objs.size) [y] (.ref a.heap.objs.size) [v] (λw H'=>N l H') j rfl (.cons ad .nil) ⟨_,ys,y,rfl,rfl,jc2 ai,aa,L⟩) λw am ⟨_,ao,ak,_,ae⟩=>?_)
    exact Aj (Aj ⟨rfl,B ak ae⟩)
 exact codeAny_compStart_list t (T.self _ 0 _ _ _ O t)
theorem pe_compIf(hc:X.calm=true)(c:CompOk X scope Nc js)(hi:PI X tg iter wi)(hg:∀C s3 H3 fp,PG (X.comp scope C Nc s3 H3 fp) tg g)(i:∀C s3 H3 fp,PT (X.comp scope C Nc s3 H3 fp) cd tt)(k:∀C s3 H3 fp,PE (X.comp scope C Nc s3 H3 fp) elt te)
  (hs:∀x,foldedSetIterable iter X.env x=pure x:=by intro _;rfl):PE X (.ListComp elt [⟨tg,iter,[cd],0⟩] scope pos) (jeh wi g js tt te):=by
 intro a s σ H Q I h
 rw[eval_ListComp]
 refine W4 (use:=none) (g:=⟨tg,iter,[cd],0⟩) (gs:=[]) rfl hs (jeb (c.has I)) c.kind c.loc
  (jgl (RR:=λd C=>compPost (model X.prog X.w) X.A X.xe none (EP X a σ Q) d C) (NX:=λD p=>Q (.ref D) p) hc c hi hg i k I h λD H3 s3 fp q o r n l e f=>?_)
 obtain⟨m,j,_⟩:=e.loc
 exact⟨m,j,λt b=>⟨.ref D,o,jec n l e b,rfl,f⟩⟩
theorem ps_setcIf{i:Nat}{py:Pos}(hN:X.N.Nodup)(F:X.N[i]?=some y)(hy:Loc X.env.scope y)(hc:X.calm=true)(c:CompOk X scope Nc js)(hi:PI X tg iter wi)(hg:∀C s3 H3 fp,PG (X.comp scope C Nc s3 H3 fp) tg g)
  (P:∀C s3 H3 fp,PT (X.comp scope C Nc s3 H3 fp) cd tt) (U:∀C s3 H3 fp,PE (X.comp scope C Nc s3 H3 fp) elt te) (u:swapsWith (.ListComp elt [⟨tg,iter,[cd],0⟩] scope pos) (some (.Name y py)) spos.line X.env=pure true:=by rfl)
  (hs:∀x,foldedSetIterable iter X.env x=pure x:=by intro _;rfl) (hf:X.fn y=true\/X.env.scope.names.lookup y=some .local:=by first|exact .inl rfl|exact .inr rfl|assumption) :
  PS X (.Assign [.Name y py] (.ListComp elt [⟨tg,iter,[cd],0⟩] scope pos) spos) (tAsg (jeh wi g js tt te) (jc8 i)):=by
 intro d s σ H D I h
 rw[exec_Assign_Name_used _ _ _ _ u]
 refine Ad (Ys (Ad ?_))
 show wpAny _ X.A (do let _ <-comprehension (.ListComp elt [⟨tg,iter,[cd],0⟩] scope pos) scope X.env _ (newList []) false (eval iter X.env) (some (assign (.Name y py) X.env))) _ _ s
 refine Ad (Uv (W4 (use:=some (assign (.Name y py) X.env)) (g:=⟨tg,iter,[cd],0⟩) (gs:=[]) (Q:=λ_ j=>SP X d D .next j) rfl hs (jeb (c.has I)) c.kind c.loc
  (jgl (RR:=λG C=>compPost (model X.prog X.w) X.A X.xe (some (assign (.Name y py) X.env)) (λ_ j=>SP X d D .next j) G C) (NX:=λk H'=>D.nx (σ.set i (some (.ref k))) H') hc c hi hg P U I h λk H3 s3 fp σ5 r s6 f Z n M=>?_))
  (λ_ j R=>Aj (Aj R)) λ_ _ e=>e)
 obtain⟨m,T,_⟩:=id n.loc
 have I7:Inv X d σ r s6:=jec f Z n (.refl ..)
 have Y:r s3.heap.objs.size=none:=n.free
 have K:s3.heap.objs.size≠X.env.locals:=W3 f.lt
 have J:∀x a,X.env.cells.lookup x=some a->a≠s3.heap.objs.size:=λx a e=>by
  obtain⟨v,q⟩:=f.cell x a e;exact A2 q.lt
 have O:∀p∈X.pn++d,p.1≠s3.heap.objs.size:=λp S=>A2 (Ax (f.pin p S).1)
 show wpAny _ _ (assign (.Name y py) X.env (.ref k)) _ _ _
 refine wpAny_assign_Name (jf4 (v:=.ref k) I7 hN F hy rfl (λL I8 l=>?_) hf)
 obtain⟨a,E,W⟩:=l
 have t:s3.heap.objs.size≠a:=by
  rcases W with z|z
  .rw[z];exact K
  .exact(J y a z).symm
 refine⟨m,T.sameBut E t,λh9 B=>?_⟩
 exact⟨_,r,I8.turned (t':=L.toks) (λb o l e=>(B.2 b l).trans e) Y K (.inr (Og f.sz (Ao _))) J O,M⟩
theorem jai(hc:X.calm=true)(c:CompOk X scope Nc js)(hi:QI X tg iter wi)(hg:∀C s3 H3 fp,QG (X.comp scope C Nc s3 H3 fp) tg g)(a:∀C s3 H3 fp,QT (X.comp scope C Nc s3 H3 fp) cd tt)(b:∀C s3 H3 fp,QE (X.comp scope C Nc s3 H3 fp) elt te)
  (hs:∀x,foldedSetIterable iter X.env x=pure x:=by intro _;rfl):QE X (.ListComp elt [⟨tg,iter,[cd],0⟩] scope pos) (jeh wi g js tt te) :=
 ⟨pe_compIf hc c hi.h (λC s H f=>(hg C s H f).h) (λC s H f=>(a C s H f).h) (λC s H f=>(b C s H f).h) hs⟩
theorem jbd{i:Nat}{py:Pos}(hN:X.N.Nodup)(b:X.N[i]?=some y)(hy:Loc X.env.scope y)(hc:X.calm=true)(c:CompOk X scope Nc js)(hi:QI X tg iter wi)(hg:∀C s3 H3 fp,QG (X.comp scope C Nc s3 H3 fp) tg g)
  (d:∀C s3 H3 fp,QT (X.comp scope C Nc s3 H3 fp) cd tt) (e:∀C s3 H3 fp,QE (X.comp scope C Nc s3 H3 fp) elt te) (a:swapsWith (.ListComp elt [⟨tg,iter,[cd],0⟩] scope pos) (some (.Name y py)) spos.line X.env=pure true:=by rfl)
  (hs:∀x,foldedSetIterable iter X.env x=pure x:=by intro _;rfl) (hf:X.fn y=true\/X.env.scope.names.lookup y=some .local:=by first|exact .inl rfl|exact .inr rfl|assumption) :
  QS X (.Assign [.Name y py] (.ListComp elt [⟨tg,iter,[cd],0⟩] scope pos) spos) (tAsg (jeh wi g js tt te) (jc8 i)) :=
 ⟨ps_setcIf hN b hy hc c hi.h (λC s H f=>(hg C s H f).h) (λC s H f=>(d C s H f).h) (λC s H f=>(e C s H f).h) a hs hf⟩
end
section
variable{D:Addr}{te:TE}{tt:TT}{E:Ends}{r:L2.St}{H:Hp}
theorem jex{α:Type}(p:α->Bool)(f:α->V)(xs:List α)(i:Nat)(x:α)(h:xs[i]?=some x):((xs.take (i+1)).filter p).map f=((xs.take i).filter p).map f++(if p x=true then[f x]else[]):=by
 rw[Y4,h];simp only[Option.toList_some,Yh,A6];congr 1;by_cases q:p x=true
 .simp[q]
 .simp[q]
theorem jgk{a:Addr}{xs:List V}(p:V->Bool)(f:V->V)(ha:H a=some (.lst xs))(j:H D=none)(hz:xs.length<=sizeLine)
  (g:∀x∈xs,∀l Q,Q (p x) (upd H D (.lst l))->tt (some x::r) (upd H D (.lst l)) Q) (h:∀x∈xs,p x=true->∀l Q,Q (f x) (upd H D (.lst l))->te (some x::r) (upd H D (.lst l)) Q)
  (hn:∀v,E.nx (v::r) (upd H D (.lst ((xs.filter p).map f)))):jc5 (Itl K a) (jc8 0) (jei D tt te) E (none::r) (upd H D (.lst [])):=by
 have e:a≠D:=je ha j
 refine jdg (xs:=xs) (λi σ c=>∃v:Option V,σ=v::r/\c=upd H D (.lst (((xs.take i).filter p).map f))) ⟨none,rfl,rfl⟩ ?_ ?_ ?_
 .rintro i σ c _ ⟨v,_,rfl⟩
  rw[jd e];exact ha
 .rintro i x σ c b ⟨v,rfl,rfl⟩
  have k:i<xs.length:=(Ab.mp b).1
  have d:=Ap b
  have m:(((xs.take i).filter p).map f).length<=i:=by
   rw[Ac];exact Og (Oy _ _) (by rw[I0];omega)
  refine g x d _ _ ?_
  by_cases q:p x=true
  .rw[q,Al rfl]
   refine h x d q _ _ ⟨_,by rw[jb];rfl,by omega,some x,rfl,?_⟩
   rw[jgi,jex p f xs i x b,Al q]
  .rw[Ai q]
   refine⟨some x,rfl,?_⟩
   rw[jex p f xs i x b,Ai q,O8]
 .rintro σ c ⟨v,rfl,rfl⟩
  rw[Ob (Ao _)]
  exact hn v
theorem jfq{lo:Int}(p:Nat->Bool)(f:Nat->V)(hz:n<=sizeLine)
  (c:∀i,i<n->∀l Q,Q (p i) (upd H D (.lst l))->tt (some (.int (lo+(i:Nat)))::r) (upd H D (.lst l)) Q) (d:∀i,i<n->p i=true->∀l Q,Q (f i) (upd H D (.lst l))->te (some (.int (lo+(i:Nat)))::r) (upd H D (.lst l)) Q)
  (hn:∀v,E.nx (v::r) (upd H D (.lst (((List.range n).filter p).map f)))):jc5 (Itr lo n) (jc8 0) (jei D tt te) E (none::r) (upd H D (.lst [])):=by
 refine jcr (λi σ a=>∃v:Option V,σ=v::r/\a=upd H D (.lst (((List.range i).filter p).map f))) ⟨none,rfl,rfl⟩ ?_ ?_
 .rintro i σ a b ⟨v,rfl,rfl⟩
  have e:(((List.range i).filter p).map f).length<=i:=by
   rw[Ac];exact Og (Oy _ _) (by rw[A1];omega)
  refine c i b _ _ ?_
  by_cases q:p i=true
  .rw[q,Al rfl]
   refine d i b q _ _ ⟨_,by rw[jb];rfl,by omega,some (.int (lo+(i:Nat))),rfl,?_⟩
   rw[jgi,O9]
   simp[q]
  .rw[Ai q]
   refine⟨some (.int (lo+(i:Nat))),rfl,?_⟩
   rw[O9]
   simp[q]
 .rintro σ a ⟨v,rfl,rfl⟩
  exact hn v
end
section
variable{X:Cx}
def rTru(x:V)(H:Hp)(Q:Bool->Hp->Prop):Prop:=match x with
 |.bl b=>Q b H
 |.int i=>Q (i != 0) H
 |.non=>Q false H
 |.str y=>y.length<=sizeLine/\Q ((y.length:Int) != 0) H
 |.ref p=>∃xs,jdf (H p)=some xs/\Q (!xs.isEmpty) H
 |_=>False
def tTru(ta:TE):TT:=λσ H Q=>ta σ H λx H1=>rTru x H1 Q
theorem jfm(p:Addr)(H:Hp)(Q:Bool->Hp->Prop):rTru (.ref p) H Q=(∃xs,jdf (H p)=some xs/\Q (!xs.isEmpty) H):=rfl
theorem jnu(b:Bool)(H:Hp)(Q:Bool->Hp->Prop):rTru (.bl b) H Q=Q b H:=rfl
theorem jlv(y:Str)(H:Hp)(Q:Bool->Hp->Prop):rTru (.str y) H Q=(y.length<=sizeLine/\Q ((y.length:Int) != 0) H):=rfl
theorem pt_tru{a:Expr}{ta:TE}(ha:PE X a ta)(j:∀whole,isTrue a X.env whole=(do let v <-whole;standAt a.pos;holding [v] (truthy v)):=by intro _;rfl):PT X a (tTru ta):=by
 intro c s σ H Q I h;refine isTrue_plain (thn (ha c s σ H _ I h) λv g ⟨x,f,k,i,b⟩=>jt7 c g σ f x v Q k i ?_) (j _);replace b:rTru x f Q:=b;unfold rTru at b;split at b
 .exact⟨_,rfl,b⟩
 .exact⟨_,rfl,b⟩
 .exact⟨_,rfl,b⟩
 .exact⟨_,⟨b.1,rfl⟩,b.2⟩
 .obtain⟨d,e,q⟩:=b;rcases jfl e with e|e
  .exact⟨_,.inl ⟨d,SqL.of e,rfl⟩,q⟩
  .exact⟨_,.inr (.inl ⟨d,SqT.of e,rfl⟩),q⟩
 .exact b.elim
def jlu:V->List V->Hp->VK->Prop:=λx vs H Q=>match x,vs with
 |.ref l,[]=>∃xs,jcs (H l)=some xs/\∃y,xs[xs.length-1]?=some y/\Q y (upd H l (.lst xs.dropLast))
 |_,_=>False
theorem jh3(l:Addr)(H:Hp)(Q:VK):jlu (.ref l) [] H Q=(∃xs,jcs (H l)=some xs/\∃y,xs[xs.length-1]?=some y/\Q y (upd H l (.lst xs.dropLast))):=rfl
theorem mt_pop0U:MtM X "list.pop" jlu:=by
 intro a s σ H x i v c Q I d f h;unfold jlu at h;split at h
 .rename_i l;obtain⟨b,e,y,g,q⟩:=h;exact mt_pop a s σ H _ _ v c Q I d f ⟨l,b,y,rfl,rfl,jc2 e,g,q⟩
 .exact h.elim
end
def tMid(t u:TS):TS:=λD σ H=>∃J:L2.St->Hp->Prop,t {D with nx:=J} σ H/\∀σ H,J σ H->u D σ H
variable{st:Stmt}
theorem pss_mid{X:Cx}{rest:List Stmt}{t u:TS}(h1:PS X st t)(h2:PSs X rest u):PSs X (st::rest) (tMid t u):=by
 intro a s σ H D I h;obtain⟨J,h,e⟩:=h;refine wpAny_execs_cons (thn (h1 a s σ H {D with nx:=J} I h) λf c q=>?_)
 cases f with
 |next =>
  obtain⟨b,i,g,d⟩:=q;exact h2 a c b i D g (e _ _ d)
 |ret v=>exact q
 |brk=>exact q
 |cont=>exact q
theorem yf{X:Cx}{rest:List Stmt}{t u:TS}(h1:QS X st t)(h2:QSs X rest u):QSs X (st::rest) (tMid t u):=⟨pss_mid h1.h h2.h⟩
section
variable{X:Cx}
theorem jbs:QS X st jqv:=⟨ps_never⟩
theorem qpt_tru{a:Expr}{ta:TE}(ha:QE X a ta)(b:∀whole,isTrue a X.env whole=(do let v <-whole;standAt a.pos;holding [v] (truthy v)):=by intro _;rfl):QT X a (tTru ta):=⟨pt_tru ha.h b⟩
theorem zd(a:X.K=K):jcu X (.builtin "isinstance") (rIsU K):=by
 subst a;exact call_isinstanceU
end
theorem jk5:entryFor table "dict.update.loop"=some Builtin.«dict.update.loop»:=entryFor_of_tree (by kernel_rfl)
theorem jfg:plainId "dict.update.loop"=true:=by decide +kernel
theorem jpo:typeLookup (.type "list") "keys"=pure none:=by rw[typeLookup_type,Aao];kernel_rfl
section
variable{P:Program}{w:World}{A:Around}{R:Result->Shared->Prop}{I:Addr}{fp wr:List Addr}{n:Nat}{Pv:Nat->Value->Prop}{St:Nat->Heap->Prop}
theorem jss{A:Around}{E:Value->Shared->Prop}{s:Shared}{a:Addr}{o:Obj}{xs:Array Value}{k:Nat}{u:Tok}{Q:Value->Shared->Prop}
  (j:s.heap.get? a=some o) (hc:o.cls=.type "list") (b:o.data=.seq xs k) (hd:o.dict=none) (hA:A.handled=none)
  (h:∀h' tk e,Heap.NewExcOf s.heap h' e "AttributeError"->E (.ref e) {s with heap:=h',toks:=tk}):wpAny (model P w) A (getAttrBy (.ref a) (.str "keys" u) false) Q E s:=by
 obtain⟨c,q,r,m⟩:=o
 simp only at hc b hd
 subst hc b hd
 obtain⟨p,g,d,tk,n⟩:=s
 have l:∀f,(⟨p,g,d,f,n⟩:Shared).TypeIs (.ref a) "list":=λ_=>⟨_,j,rfl⟩
 have C:=sub_AttributeError
 have B:=Yy.lookup
 have z:=Yy.bind (.ref a)
 have y:=am_list_getattr_none
 unfold getAttrBy
 repeat (any_goals (first|assumption|exact l _|((with_reducible show wpAny _ _ (call (Value.builtin "list.__getattribute__") _ _) _ _ _);refine Yp Yy (l _) am_entry_list_getattribute (F.args_list_getattribute_2 _ _) (meets_getattribute_miss_list a xs k m "keys" _ jpo (by decide +kernel) (by size_fits)) ⟨j,hA,λh' f e i=>?_⟩)|wp_step))
 obtain⟨v,t,x⟩:=i.there
 show wpAny _ _ (getattributeRaised _ _ _ _ _ _ _) _ _ _
 unfold getattributeRaised
 repeat (any_goals (first|assumption|wp_step))
 exact h _ _ _ i.of
end
section
variable{P:Program}{w:World}{A:Around}{E:Value->Shared->Prop}{s:Shared}{d it:Addr}{o:Obj}{es:Array DictEntry}{ep i:Nat}
theorem js4{Q:Value->Shared->Prop}(hd:(d == sysModules)=false)(b:s.heap.get? d=some o)(e:o.ExactDict)(a:o.data=.dict es ep)
  (f:Q (.ref s.heap.objs.size) {s with heap:=s.heap.push {cls:=.type "dict_keyiterator",data:=.fields #[.ref d,.int 0 0,.int es.size 0,.int ep 0]}}):wpAny (model P w) A (pyIter (.ref d)) Q E s:=by
 have c:s.TypeIs (.ref d) "dict":=⟨o,b,e.1⟩
 refine wpAny_pyIter_slot c F.slot_dict_iter (Um F.slot_dict_iter c F.entry_dict_iter ?_ (F.args_dict_iter_1 _))
 unfold Builtin.«dict.__iter__»
 refine Ad ?_
 unfold Builtin.Dict.dictSlotNone
 refine Ad (wpAny_notOrdered_dict c ?_)
 refine(show wpAny _ _ (pure (Value.ref d)) _ _ s from Aj ?_)
 show wpAny _ _ (Builtin.Dict.showsAll d >>= _) _ _ s
 unfold Builtin.Dict.showsAll
 rw[Ai (show ¬((d == sysModules)=true)by rw[hd];exact Ie)]
 refine Ad (Aj (Ad (wpAny_dictEntries b a (Ad (wpAny_dictEpoch b a ?_)))))
 refine Ad (Up (Aj ⟨_,rfl,"dict_keyiterator",_,⟨_,A4 _ rfl,rfl⟩,Uw.lookup,?_⟩))
 simpa[rawInt]using f
theorem js3{e:DictEntry}{Q:Option Value->Shared->Prop}(a:s.heap.IsKeyIter it d i es.size ep)(g:s.heap.get? d=some o)(h:o.data=.dict es ep)(l:es[i]?=some e)
  (m:∀h',h'.IsKeyIter it d (i+1) es.size ep->Heap.SameBut it s.heap h'->Q (some e.key) {s with heap:=h'}):wpAny (model P w) A (pyNext (.ref it)) Q E s:=by
 obtain⟨n,c,k,b⟩:=id a
 unfold pyNext
 refine Ad (Aak (Wc (name:=Str.ofString "__next__") a.typeIs Uw (Um Uw a.typeIs F.entry_dict_keyiterator_next ?_ (F.args_dict_keyiterator_next_1 _))))
 refine Ad (Aj (Ad (Ad ?_)))
 first|refine Ad (Wa a.typeIs (Aj (Ad (Y5 c b ?_))))|refine Ad (W5 a.typeIs (Aj (Ad (Y5 c b ?_))))
 have j:Builtin.Dict_items.ownsTuple "dict_keyiterator"=false:=by decide
 simp only[j,Ir,O4]
 refine(show wpAny _ _ (if(Value.ref d == Value.none)=true then _ else _) _ _ s from ?_)
 rw[Ai (show ¬((Value.ref d == Value.none)=true)by exact Ie)]
 refine Ad (Aj (Ad (wpAny_dictEntries g h ?_)))
 rw[Ai (show ¬_ by simp)]
 refine Ad (Aj (Ad (wpAny_dictEpoch g h ?_)))
 rw[Ai (show ¬_ by simp)]
 refine Aj ?_
 simp only[show ¬((i:Int)<0)by omega,O4,Int.toNat_natCast,l]
 refine Ad ?_
 first|refine Ad (Wa a.typeIs (Aj (Ad (Aap a.typeIs ?_))))|refine Ad (W5 a.typeIs (Aj (Ad (Aap a.typeIs ?_))))
 refine(show wpAny _ _ (setField (.ref it) 1 (rawInt ((i:Int)+1)) >>= _) _ _ s from Ad (Wz c b (by simp) ?_))
 have f:(s.heap.update it (Obj.mapFields (·.setIfInBounds 1 (rawInt ((i:Int)+1))))).IsKeyIter it d (i+1) es.size ep :=
  ⟨_,Uh _ c (Aaq (Wj b _)),(Obj.cls_mapFields ..).trans k,by rw[Wj b];simp[rawInt]⟩
 refine Ad (O0 (Ad (Aap (s:={s with heap:=s.heap.update it (Obj.mapFields (·.setIfInBounds 1 (rawInt ((i:Int)+1))))}) f.typeIs ?_)))
 refine(show wpAny _ _ (pure e.key) _ _ _ from Aj (Aj ⟨_,rfl,Aj (m _ f (U1 ..))⟩))
theorem jtt{Q:Option Value->Shared->Prop}(hh:A.handled=none)(c:s.heap.IsKeyIter it d i es.size ep)(g:s.heap.get? d=some o)(h:o.data=.dict es ep)(k:es.size<=i)
  (l:∀h',Heap.ExtBut it s.heap h'->Q none {s with heap:=h'}):wpAny (model P w) A (pyNext (.ref it)) Q E s:=by
 obtain⟨p,e,n,f⟩:=id c
 unfold pyNext
 refine Ad (Aak (Wc (name:=Str.ofString "__next__") c.typeIs Uw (Um Uw c.typeIs F.entry_dict_keyiterator_next ?_ (F.args_dict_keyiterator_next_1 _))))
 refine Ad (Aj (Ad (Ad ?_)))
 first|refine Ad (Wa c.typeIs (Aj (Ad (Y5 e f ?_))))|refine Ad (W5 c.typeIs (Aj (Ad (Y5 e f ?_))))
 have j:Builtin.Dict_items.ownsTuple "dict_keyiterator"=false:=by decide
 simp only[j,Ir,O4]
 refine(show wpAny _ _ (if(Value.ref d == Value.none)=true then _ else _) _ _ s from ?_)
 rw[Ai (show ¬((Value.ref d == Value.none)=true)by exact Ie)]
 refine Ad (Aj (Ad (wpAny_dictEntries g h ?_)))
 rw[Ai (show ¬_ by simp)]
 refine Ad (Aj (Ad (wpAny_dictEpoch g h ?_)))
 rw[Ai (show ¬_ by simp)]
 refine Aj ?_
 simp only[show ¬((i:Int)<0)by omega,O4,Int.toNat_natCast,Array.getElem?_eq_none k]
 refine Ad ?_
 first|refine Ad (Wa c.typeIs (Aj ?_))|refine Ad (W5 c.typeIs (Aj ?_))
 refine(show wpAny _ _ (setField (.ref it) 0 .none >>= _) _ _ s from Ad (Wz e f (by simp) ?_))
 refine(show wpAny _ _ (newExc (.type "StopIteration") [] >>= _) _ _ _ from Ad ?_)
 simp only[newExc,newTuple]
 refine Ad (Up ?_ (by size_fits))
 refine Ad (m:=firstArgMember _ _) (wpAny_of_eq (a:=Value.none) (by first|rfl|(simp only[firstArgMember];rfl)) (Up ?_ (by size_fits)))
 simp only[raiseNew]
 refine Ad (wpAny_handled ?_)
 rw[show A.in1.handled=none by exact hh]
 refine Ad (Aj (wpAny_throw ?_))
 refine Ad (Aam (T:="StopIteration") (b:=true) (by exact⟨_,A4 _ rfl,rfl⟩) isSubtype_stop ?_)
 exact Aj (l _ (((U1 ..).extBut.push _).push _))
end
section
variable{D:Addr}{te:TE}{tt:TT}{E:Ends}{r:L2.St}{H:Hp}
def Firm(P:V->Hp->Prop):Prop:=∀S x H1 H2,Kp S H1 H2->P x H1->P x H2
theorem jmh{lo:Int}(P:Nat->V->Hp->Prop)(hP:∀i,Firm (P i))(g:H D=none)(hz:n<=sizeLine)
  (l:∀i H1 Q,i<n->Kp [] H H1->(∀v H2,Kp [] H1 H2->P i v H2->Q v H2)->te (some (.int (lo+(i:Nat)))::r) H1 Q)
  (hn:∀v xs H',Kp [] H H'->H' D=some (.lst xs)->Paired (λi x=>P i x H') (List.range n) xs->E.nx (v::r) H'):jc5 (Itr lo n) (jc8 0) (jdj D te) E (none::r) (upd H D (.lst [])):=by
 refine jcr (λi σ H'=>∃(v:Option V)(xs:List V),σ=v::r/\Kp [] H H'/\H' D=some (.lst xs)/\Paired (λi x=>P i x H') (List.range i) xs) ⟨none,[],rfl,(Kp.refl [] H).new g,jb,.nil⟩ ?_ ?_
 .rintro i σ H' k ⟨v,xs,rfl,c,e,b⟩
  have m:xs.length=i:=by have:=Iw b;simpa using this.symm
  refine l i H' _ k c λy H2 d h=>?_
  have a:H2 D=some (.lst xs):=d.old _ _ e Ae
  refine⟨xs,by rw[a];rfl,by omega,some (.int (lo+(i:Nat))),xs++[y],rfl,(c.trans d).set a (.inr g),jb,?_⟩
  have f:Kp [D] H2 (upd H2 D (.lst (xs++[y]))):=(Kp.refl [D] H2).set a (.inl (.head _))
  rw[O9]
  exact Wg (Paired.mapP b λj x q=>hP j _ x _ _ f (hP j _ x _ _ d q)) (hP i _ y _ _ f h)
 .rintro σ H' ⟨v,xs,rfl,c,e,b⟩
  exact hn v xs H' c e b
theorem jd3{a:Addr}{ys:List V}(P:V->V->Hp->Prop)(hP:∀y,Firm (P y))(ha:H a=some (.lst ys))(k:H D=none)(hz:ys.length<=sizeLine)
  (m:∀(i:Nat)(y:V)(H1:Hp)(Q:VK),ys[i]?=some y->Kp [] H H1->(∀v H2,Kp [] H1 H2->P y v H2->Q v H2)->te (some y::r) H1 Q)
  (hn:∀v xs H',Kp [] H H'->H' D=some (.lst xs)->Paired (λy x=>P y x H') ys xs->E.nx (v::r) H'):jc5 (Itl K a) (jc8 0) (jdj D te) E (none::r) (upd H D (.lst [])):=by
 refine jdg (xs:=ys) (λi σ H'=>∃(v:Option V)(xs:List V),σ=v::r/\Kp [] H H'/\H' D=some (.lst xs)/\Paired (λy x=>P y x H') (ys.take i) xs) ⟨none,[],rfl,(Kp.refl [] H).new k,jb,.nil⟩ ?_ ?_ ?_
 .rintro i σ H' _ ⟨v,xs,rfl,d,e,c⟩
  exact d.old _ _ ha Ae
 .rintro i y σ H' g ⟨v,xs,rfl,d,e,c⟩
  have o:i<ys.length:=(Ab.mp g).1
  have n:xs.length=i:=by have:=Iw c;rw[I0]at this;omega
  refine m i y H' _ g d λx H2 f l=>?_
  have b:H2 D=some (.lst xs):=f.old _ _ e Ae
  refine⟨xs,by rw[b];rfl,by omega,some y,xs++[x],rfl,(d.trans f).set b (.inr k),jb,?_⟩
  have h:Kp [D] H2 (upd H2 D (.lst (xs++[x]))):=(Kp.refl [D] H2).set b (.inl (.head _))
  rw[Y4,g]
  exact Wg (Paired.mapP c λj x q=>hP j _ x _ _ h (hP j _ x _ _ f q)) (hP y _ x _ _ h l)
 .rintro σ H' ⟨v,xs,rfl,d,e,c⟩
  rw[Ob (Ao _)]at c
  exact hn v xs H' d e c
end
def plc(l:List Nat)(c:Nat):Int:=if c∈l then(l.idxOf c:Int)else -1
theorem jtb(x:Str)(c:Nat):(match Builtin.Str.occurrences x ⟨#[c]⟩ 0 x.length 1 with|i::_=>(i:Int)|[]=>-1)=plc x.cps.toList c:=by
 rcases StrLaws.occ_head x ⟨#[c]⟩ 1 (Ao _)with⟨e,hn⟩|⟨i,r,e,b,hk⟩
 .rw[e];unfold plc;rw[Ai];intro a;obtain⟨i,b⟩:=List.mem_iff_getElem?.mp a;exact hn i ((StrLaws.subAt_one x c i).mpr b)
 .rw[e];have f:=(StrLaws.subAt_one x c i).mp b;have a:c∈x.cps.toList:=List.mem_iff_getElem?.mpr ⟨i,f⟩;unfold plc;rw[Al a];have d:x.cps.toList.idxOf c<x.cps.toList.length:=List.idxOf_lt_length_of_mem a;have k:x.cps.toList[x.cps.toList.idxOf c]?=some c:=by rw[Aa d,Oc]
  have n:¬x.cps.toList.idxOf c<i:=λh=>hk _ h ((StrLaws.subAt_one x c _).mpr k);have m:¬i<x.cps.toList.idxOf c:=λh=>by
   have j:=List.not_of_lt_findIdx (p:=(· == c)) (xs:=x.cps.toList) (i:=i) h;obtain⟨l,g⟩:=Ab.mp f;simp[g]at j
  show(i:Int)=_;omega
theorem jta(x:Str)(c:Nat)(hm:c∈x.cps.toList):∃i r,Builtin.Str.occurrences x ⟨#[c]⟩ 0 x.length 1=i::r/\(i:Int)=plc x.cps.toList c:=by
 have h:=jtb x c
 cases e:Builtin.Str.occurrences x ⟨#[c]⟩ 0 x.length 1 with
 |nil =>
  rw[e]at h;unfold plc at h;rw[Al hm]at h;simp at h;try omega
 |cons i r=>rw[e]at h;exact⟨i,r,rfl,h⟩
section
variable{X:Cx}
def jiw:V->List V->Hp->VK->Prop:=λx vs H Q=>match x,vs with
 |.str z,[.str y]=>∃c,y=⟨#[c]⟩/\c∈z.cps.toList/\Q (.int (plc z.cps.toList c)) H
 |_,_=>False
theorem jgo(z y:Str)(H:Hp)(Q:VK):jiw (.str z) [.str y] H Q=(∃c,y=⟨#[c]⟩/\c∈z.cps.toList/\Q (.int (plc z.cps.toList c)) H):=rfl
theorem mt_indexU:MtM X "str.index" jiw:=by
 intro a s σ H x k v l Q I d f h;unfold jiw at h;split at h
 .rename_i z y;obtain⟨c,rfl,g,q⟩:=h;obtain⟨t,rfl⟩:=d;obtain⟨u,rfl,⟨b,rfl⟩⟩:=f.one;obtain⟨i,r,e,j⟩:=jta z c g;refine call_gives PySem.F.slot_str_index (typeIs_str s z t) PySem.F.entry_str_index (PySem.F.args_str_index_2 _ _) (gives_str_index z _ t b i r e) ?_;rw[j];exact⟨.int _,H,I.tok _,⟨_,rfl⟩,q⟩
 .exact h.elim
end
end L2
set_option autoImplicit true
set_option relaxedAutoImplicit true
set_option autoImplicit true
set_option relaxedAutoImplicit true
namespace L2
open PySem PySem.Spec PyProof.Rows
section
variable{X:Cx}
theorem jn4(K:PySem.W.Frag)(z:Str)(H:Hp):tyV K "str" (.str z) H=True:=by simp[tyV]
theorem qpe_bmT{o e:Expr}{es:List Expr}{to:TE}{t:TA}{name:Str}{apos cpos:Pos}{id:String}{r:V->List V->Hp->VK->Prop}(slot:Slot "str" name id)(f:typeOf (.builtin id)=pure (.type "method_descriptor"))(hm:MtM X id r)(g:QE X o to)(ha:QA X (e::es) t)
  (c:attributeBase o name X.env (eval o X.env)=eval o X.env:=by rfl)
  (d:((backTo cpos (starEach (e::es) X.env)).all (λx=>!x.1) && (backToKw cpos (keywordEach [] X.env)).all (λx=>x.1.isSome)
   && decide ((e::es).length+([]:List Keyword).length+(if([]:List Keyword).isEmpty then 0 else 1)<30))=true:=by rfl)
  (b:(apos.endLine == cpos.line)=true:=by rfl) (hs:starEach (e::es) X.env=(false,eval e X.env)::starEach es X.env:=by rfl) (a:(backTo cpos (starEach es X.env)).any (·.1)=false:=by rfl) :
  QE X (.Call (.Attribute o name apos) (e::es) [] cpos) (tBM X.K "str" r to t):=⟨jbv PySem.F.plainAttrs_str slot f hm g.h ha.h c d b hs a⟩
end
variable{Q:Value->Shared->Prop}{h:Heap}{i:Nat}
section
variable{prog:Program}{w:World}{A:Around}{E:Value->Shared->Prop}{s:Shared}
theorem jmb{g:Array GenState}{d:Drawn}{t:Nat}{os:OsState}{it a:Addr}{vs:Array Value}{u:Value}(hi:h.IsTupleIter it a i)(ha:h.IsTuple a vs)(hu:vs[i]?=some u)
  (q:∀h',h'.IsTupleIter it a (i+1)->Heap.SameBut it h h'->Q u ⟨h',g,d,t,os⟩):wpAny (model prog w) A (Builtin.SmallTypes.nextOf (.ref it)) Q E ⟨h,g,d,t,os⟩:=by
 obtain⟨⟨B,y,p,s⟩,b,m,k⟩:=id hi
 obtain⟨⟨C,z,r,v⟩,o,l,x,j⟩:=ha
 dsimp only at m k l j
 subst m k l j
 have e:=PySem.F.slot_tuple_iterator_next
 have f:(⟨h,g,d,t,os⟩:Shared).TypeIs (.ref it) "tuple_iterator":=hi.typeIs
 have c:=q _ ⟨_,Uh (Obj.mapFields (·.setIfInBounds 1 (rawInt (i+1)))) b rfl,rfl,by simp[Obj.mapFields,rawInt]⟩ (.update ..)
 refine Ad (Wc f e (Um e f Aai ?_ (Aaa _)))
 unfold Builtin.«tuple_iterator.__next__»
 repeat (any_goals (first|assumption|with_reducible refine Aab b ?_|with_reducible refine Aab o ?_|wp_step))
 have n:vs[((i:Nat):Int).toNat]?=some u:=hu
 rw[n]
 exact Ad (Wz b rfl (by simp) (Aj ⟨u,rfl,Aj c⟩))
theorem jmm{g:Array GenState}{d:Drawn}{t:Nat}{os:OsState}{it a:Addr}{vs:Array Value}(hh:A.handled=none)(hi:h.IsTupleIter it a i)(ha:h.IsTuple a vs)(hu:vs[i]?=none)
  (q:∀h' e,Heap.ExtBut it h h'->(∃o,h'.get? e=some o/\o.cls=.type "StopIteration")->E (.ref e) ⟨h',g,d,t,os⟩):wpAny (model prog w) A (Builtin.SmallTypes.nextOf (.ref it)) Q E ⟨h,g,d,t,os⟩:=by
 obtain⟨⟨D,B,u,x⟩,f,m,k⟩:=id hi
 obtain⟨⟨G,C,v,y⟩,s,l,z,j⟩:=ha
 dsimp only at m k l j
 subst m k l j
 have b:=PySem.F.slot_tuple_iterator_next
 have c:(⟨h,g,d,t,os⟩:Shared).TypeIs (.ref it) "tuple_iterator":=hi.typeIs
 have n:A.in1.handled=none:=hh
 refine Ad (Wc c b (Um b c Aai ?_ (Aaa _)))
 unfold Builtin.«tuple_iterator.__next__»
 repeat (any_goals (first|assumption|with_reducible refine Aab f ?_|with_reducible refine Aab s ?_|wp_step))
 have r:vs[((i:Nat):Int).toNat]?=none:=hu
 rw[r]
 refine Ad (Yi (Ad (Wz f rfl (by simp) ?_)))
 unfold Builtin.SmallTypes.stopIteration
 have p:firstArgMember (.type "StopIteration") []=pure .none:=rfl
 unfold newExc
 repeat (any_goals (first|assumption|rw[p]|wp_step))
 exact wpAny_raiseNew_none n (q _ _ (((U1 ..).extBut.push _).push _) ⟨_,A4 _ rfl,rfl⟩)
theorem jpp(hh:A.handled=none)(it a:Addr)(ne:a≠it)(vs:Array Value):Draws prog w A it [it,a] vs.size (λi v=>vs[i]?=some v) (λi h=>h.IsTupleIter it a i/\h.IsTuple a vs) where
 live:=λ_ _ b=>let⟨o,l,_⟩:=b.1;⟨o,l⟩
 frame:=λ_ _ _ b m=>by
  obtain⟨⟨o,l,r⟩,⟨j,c,k⟩⟩:=b;exact⟨⟨o,m it (by simp) o l,r⟩,⟨j,m a (by simp) j c,k⟩⟩
 item:=λi s Q E n b x=>by
  obtain⟨q,g,d,t,p⟩:=s;obtain⟨j,c,k⟩:=b.2;exact jmb b.1 b.2 (u:=vs[i]) (by simp[n]) λz f e=>x _ z t (by simp[n]) ⟨f,⟨j,(e.2 a ne).trans c,k⟩⟩ e
 done:=λs Q E b y=>by
  obtain⟨q,g,d,t,p⟩:=s;exact jmm hh b.1 b.2 (by simp) y
open AutoSeq1 (wpAny_loadPart')in
theorem jpq(a:Addr)(vs:Array Value)(n:Nat)(f:Option Addr)(sl:Array (Option Value)) :
  Meets (Builtin.«enumerate.__new__» ⟨[.type "enumerate",.ref a],[]⟩) (λ_ R s=>s.heap.get? a=some ⟨.type "tuple",f,.seq vs n,sl⟩ /\
   R (.ok (.ret (.ref (s.heap.push {cls:=.type "tuple_iterator",data:=.fields #[.ref a,.int 0 0]}).objs.size)))
    {s with heap:=(s.heap.push {cls:=.type "tuple_iterator",data:=.fields #[.ref a,.int 0 0]}).push {cls:=.type "enumerate",data:=.fields #[.none,.bool false,.ref s.heap.objs.size,rawInt 0,.none,.none]}}) :=
 .of_wp λi w A R s h=>by
  obtain⟨m,g,d,j,l⟩:=s;obtain⟨e,h⟩:=h;have p:=sub_enumerate;have o:Heap.IsTuple (Shared.heap ⟨m,g,d,j,l⟩) a vs:=⟨_,e,rfl,n,rfl⟩;wp_walk using Yg e;refine wpAny_stack_any λk=>Aj ?_;split <;> (try (rename_i c _ _ _ _ _;generalize(c == Value.type "enumerate")=b;cases b)) <;> (wp_walk using Yg e,wpAny_pyIter_tuple o) <;> exact⟨_,rfl,h⟩
theorem call_enumT{a:Addr}{vs:Array Value}(l:s.heap.IsTuple a vs)
  (q:∀h',IsEnum h' (s.heap.objs.size+1) s.heap.objs.size 0 .none->h'.IsTupleIter s.heap.objs.size a 0->(∀b o,s.heap.get? b=some o->h'.get? b=some o)->Q (.ref (s.heap.objs.size+1)) {s with heap:=h'}) :
  wpAny (model prog w) A (call (.type "enumerate") [.ref a]) Q E s:=by
 obtain⟨⟨c,f,p,k⟩,m,j,n,i⟩:=l
 dsimp only at j i
 subst j i
 refine callType_new PySem.F.called_enumerate (by decide) (PySem.F.typeCall_enumerate_1 _) (PySem.F.newCall_enumerate_1 _) (λd=>PySem.F.args_object_init_2 d _) PySem.F.entry_enumerate_new (jpq a vs n f k) ⟨m,?_⟩
 have g:(s.heap.push {cls:=.type "tuple_iterator",data:=.fields #[.ref a,.int 0 0]}).objs.size=s.heap.objs.size+1:=Y6 ..
 have h:IsEnum ((s.heap.push {cls:=.type "tuple_iterator",data:=.fields #[.ref a,.int 0 0]}).push {cls:=.type "enumerate",data:=.fields #[.none,.bool false,.ref s.heap.objs.size,rawInt 0,.none,.none]}) (s.heap.objs.size+1) s.heap.objs.size 0 .none:=by
  have e:=A4 (s.heap.push {cls:=.type "tuple_iterator",data:=.fields #[.ref a,.int 0 0]}) (o:={cls:=.type "enumerate",data:=.fields #[.none,.bool false,.ref s.heap.objs.size,rawInt 0,.none,.none]}) rfl;rw[g]at e;exact e
 show _/\_
 rw[g]
 exact⟨⟨_,h,rfl⟩,q _ h ⟨_,Ak _ (A4 _ rfl),rfl,rfl⟩ λb o x=>Ak _ (Ak _ x)⟩
end
def ItE(K:PySem.W.Frag)(a:Addr):It:=⟨λi H=>∃xs x,SqT K H a xs/\xs[i]?=some x,λi H x H'=>∃T y,H T=none/\x=.ref T/\(∀xs,SqT K H a xs->xs[i]?=some y)/\H'=upd H T (.tup [.int (i:Int),y]),λi H=>∃xs,SqT K H a xs/\xs.length=i⟩
variable{K:PySem.W.Frag}{P:Program}{elts:List Expr}{kk:Nat}{pos:Pos}{w:World}
theorem jo5(a e it:Addr)(ne:e≠it):Turn P w K (.Tuple elts kk pos) (ItE K a) [e,it] e (λi h=>(∃old,IsEnum h e it i old)/\h.IsTupleIter it a i) where
 mem:=by simp
 obj:=λi h g b c=>by
  obtain⟨⟨old,l⟩,⟨o,j,y,F⟩⟩:=g;rcases At.mp c with rfl|c
  .exact⟨_,l,λv z=>by cases z⟩
  .rw[Ag.mp c];exact⟨o,j,λv z=>by rw[F]at z;cases z⟩
 keep:=λi h h' g k=>by
  obtain⟨⟨old,l⟩,⟨o,j,r⟩⟩:=g;exact⟨⟨old,k e (by simp) _ l⟩,⟨o,k it (by simp) o j,r⟩⟩
 item:=by
  intro X hP hw hK y i Z s σ H E I N g hg;subst hP hw hK;obtain⟨xs,x,hq,hx⟩:=hg;obtain⟨t,rv,p,hz⟩:=I.tuple hq;obtain⟨u,hu,ru⟩:=rv.get hx;have O:∀b∈[e,it],b≠a:=λb c z=>by
   subst z;obtain⟨o,D,J⟩:∃o,s.heap.get? b=some o/\o.cls≠.type "tuple":=by
    obtain⟨⟨old,l⟩,⟨o,j,M,F⟩⟩:=g;rcases At.mp c with rfl|c
    .exact⟨_,l,by simp⟩
    .rw[Ag.mp c];exact⟨o,j,by rw[M];simp⟩
   obtain⟨o2,B,L,_⟩:=p;rw[D]at B
   cases B
   exact J L
  have R:=Aac (jpp (prog:=X.prog) (w:=X.w) (A:=X.A.in1) (show X.A.in1.handled=none from I.ok.hd y) it a (O it (by simp)).symm t.toArray) e ne (by simp[ne,O e (by simp)]) (by simp);have G:i<t.toArray.size:=by
   rw[A0];exact(Ab.mp hu).1
  refine R.item i s _ _ G ⟨g.1,g.2,p⟩ λT vs h' tk hp hT aa S f=>⟨_,rfl,?_⟩;have ab:=R.apart _ _ _ S;refine R.go _ _ _ i T {s with heap:=h',toks:=tk} _ _ S λac C U=>?_;have Y:IsTup ac T vs:=by
   obtain⟨o,D,r⟩:=aa;exact⟨o,U T o ab D,r⟩
  have hv:Vals [V.int (i:Int),x] vs.toList:=by
   obtain⟨t',u',W,rfl⟩:=hp;rw[show t.toArray[i]?=some u from by simpa using hu]at W
   cases W
   exact .cons ⟨t',rfl⟩ (.cons ru .nil)
  refine⟨.ref T,upd H T (.tup [.int (i:Int),x]),?_,rfl,⟨T,x,I.hok.fresh hT,rfl,λys hy=>by rw[I.tuple_inj hy hq];exact hx,rfl⟩,⟨C.1,C.2.1⟩,λb c=>?_⟩
  .refine I.turnedNew (fp:=[e,it]) (wr:=[e,it]) N (λb o c D=>U b o c (f b o c D)) hT (by simpa using Y) hv (by show 2<=sizeLine;decide) λb c=>?_;obtain⟨⟨old,l⟩,⟨⟨o,j,_⟩,_⟩⟩:=C;rcases At.mp c with rfl|c
   .exact⟨_,l⟩
   .rw[Ag.mp c];exact⟨o,j⟩
  .have G:b<s.heap.objs.size:=by
    obtain⟨⟨old,l⟩,⟨o,j,_⟩⟩:=g;rcases At.mp c with rfl|c
    .exact Ax l
    .rw[Ag.mp c];exact Ax j
   rw[jd (A2 (Ic G hT))];exact(N b c).1
 done:=by
  intro X hP hw hK y i Z s σ H E I N g hg;subst hP hw hK;obtain⟨xs,hq,hi⟩:=hg;obtain⟨t,rv,p,hz⟩:=I.tuple hq;have O:∀b∈[e,it],b≠a:=λb c z=>by
   subst z;obtain⟨o,D,J⟩:∃o,s.heap.get? b=some o/\o.cls≠.type "tuple":=by
    obtain⟨⟨old,l⟩,⟨o,j,M,F⟩⟩:=g;rcases At.mp c with rfl|c
    .exact⟨_,l,by simp⟩
    .rw[Ag.mp c];exact⟨o,j,by rw[M];simp⟩
   obtain⟨o2,B,L,_⟩:=p;rw[D]at B
   cases B
   exact J L
  have R:=Aac (jpp (prog:=X.prog) (w:=X.w) (A:=X.A.in1) (show X.A.in1.handled=none from I.ok.hd y) it a (O it (by simp)).symm t.toArray) e ne (by simp[ne,O e (by simp)]) (by simp);have hn:t.toArray.size=i:=by rw[A0,<-rv.length];exact hi
  refine R.done s _ _ (by rw[hn];exact⟨g.1,g.2,p⟩) λh' tk f=>⟨rfl,?_⟩;have nw:∀b u,H b=some u->b∉[e,it]:=λb u D c=>by rw[(N b c).1]at D;cases D
  refine I.step (g':=s.gens) (d':=s.drawn) (ch:=[e,it]) (λb c=>?_) (λb o _ _ y e _=>f b o y e) (λb o _ _ y e _=>⟨o.slots,f b o y e⟩) (λb o y e n=>n) (λb o y e=>⟨o,f b o y e⟩)
   (λ_ _ e=>e) (λ_ _ _ e=>e) (λb ps e=>⟨#[],by rw[e];simp⟩) (λm hm=>?_) (λb u e=>?_) I.bare
  .obtain⟨_,f1,_,f3,f4,f5⟩:=N b c;exact⟨f3,f1,f4,f5⟩
  .obtain⟨o,es,ep,j,rr⟩:=hm;exact⟨o,es,ep,f _ o (λz=>(N _ z).2.1 rfl) j,rr⟩
  .refine(I.hok b u e).stay (λd v F q=>f d v ?_ q) (λ_ q=>q) λ_ _ q=>q;rcases F with rfl|F
   .exact nw _ _ e
   .exact nw _ _ F
 self:=λA i s Q E g q=>by
  obtain⟨⟨old,l⟩,_⟩:=g;exact Aad l q
variable{H:Hp}{tb:TS}{σ:L2.St}
theorem jnl{a:Addr}{xs:List V}{g:TG}{D:Ends}(Pv:Nat->L2.St->Hp->Prop)(j:Pv 0 σ H)(hl:∀i σ H,i<=xs.length->Pv i σ H->H a=some (.tup xs))
  (hs:∀i x σ H T,xs[i]?=some x->Pv i σ H->H T=none->g (.ref T) σ (upd H T (.tup [.int (i:Int),x])) λσ2 H2=>tb {D with nx:=Pv (i+1),ct:=Pv (i+1),bk:=D.nx} σ2 H2) (hd:∀σ H,Pv xs.length σ H->D.nx σ H):jc5 (ItE K a) g tb D σ H:=by
 refine⟨λi m σ H=>m=xs.length-i/\i<=xs.length/\Pv i σ H,⟨xs.length,by simp,Op _,j⟩,?_⟩
 rintro i m σ H ⟨rfl,f,p⟩
 have q:SqT K H a xs:=SqT.of (hl i σ H f p)
 by_cases hlt:i<xs.length
 .refine .inr ⟨⟨xs,xs[i],q,by simp[hlt]⟩,Pv (i+1),λo n c=>⟨xs.length-(i+1),by omega,rfl,hlt,c⟩,λx n y=>?_⟩
  obtain⟨T,b,h,l,d,k⟩:=y
  subst l k
  exact hs i b σ H T (d xs q) p h
 .have e:i=xs.length:=by omega
  subst e
  exact .inl ⟨⟨xs,q,rfl⟩,hd σ H p⟩
variable{ta:TA}{tpos:Pos}
section
variable{X:Cx}
def jhs(K:PySem.W.Frag)(ta:TA):TI:=λσ H R=>ta σ H λvs H1=>∃a,vs=[.ref a]/\(∃xs,SqT K H1 a xs)/\R (ItE K a) H1
theorem pi_enumT{a:Expr}{p:Pos}(x:X.K=K)(hg:Gl X "enumerate")(hm:X.mg "enumerate"=none)(ha:PA X [a] ta)(hs:starEach [a] X.env=[(false,eval a X.env)]:=by rfl) :
  PI X (.Tuple elts kk tpos) (.Call (.Name "enumerate" p) [a] [] pos) (jhs K ta):=by
 subst x
 intro d s σ H R I h
 refine Call_ (jdq I hg hm jax (O5 (thn (ha pos d s σ H _ I h) λC c ⟨vs,j,g,n,o⟩=>?_) hs rfl))
 obtain⟨z,e,⟨B,t⟩,q⟩:=o
 subst e
 obtain⟨u,rfl,m⟩:=jc9 n
 cases m
 obtain⟨k,D,r,E⟩:=g.tuple t
 refine call_enumT (vs:=k.toArray) r λy l w v=>?_
 have A:Inv X d σ j {c with heap:=y}:=g.kept (t':=c.toks) v
 refine Aad l ⟨c.heap.objs.size+1,[c.heap.objs.size+1,c.heap.objs.size],_,_,j,rfl,A,jo5 z (c.heap.objs.size+1) c.heap.objs.size (Nat.succ_ne_self _),⟨⟨.none,l⟩,w⟩,λb i=>?_,q⟩
 have f:c.heap.objs.size<=b:=by
  rcases At.mp i with rfl|i
  .omega
  .rw[Ag.mp i];exact Ao _
 exact g.fpOk (H':=j) f (g.hok.fresh f)
theorem jbr{a:Expr}{p:Pos}(b:X.K=K)(hg:Gl X "enumerate")(hm:X.mg "enumerate"=none)(ha:QA X [a] ta)(hs:starEach [a] X.env=[(false,eval a X.env)]:=by rfl) :
  QI X (.Tuple elts kk tpos) (.Call (.Name "enumerate" p) [a] [] pos) (jhs K ta):=⟨pi_enumT b hg hm ha.h hs⟩
end
variable{h':Heap}{s:Shared}
theorem Inv.walked{X:Cx}{pins:List (Addr×Obj)}{t':Nat}{wr:List Addr}(I:Inv X pins σ H s)(hf:∀b∈wr,FpOk X pins H b)(k:∀b o,b∉wr->s.heap.get? b=some o->h'.get? b=some o) :
  Inv X pins σ H {s with heap:=h',toks:=t'}:=by
 have g:∀b u,H b=some u->b∉wr:=λb u e f=>by rw[(hf b f).1]at e;cases e
 refine I.step (g':=s.gens) (d':=s.drawn) (ch:=wr) (λb f=>?_) (λb o _ _ a e _=>k b o a e) (λb o _ _ a e _=>⟨o.slots,k b o a e⟩) (λb o a e n=>n) (λb o a e=>⟨o,k b o a e⟩)
  (λ_ _ e=>e) (λ_ _ _ e=>e) (λb y e=>⟨#[],by rw[e];simp⟩) (λm j=>?_) (λb u e=>?_) I.bare
 .obtain⟨_,t,_,r,p,l⟩:=hf b f
  exact⟨r,t,p,l⟩
 .obtain⟨o,w,x,i,h⟩:=j
  exact⟨o,w,x,k _ o (λz=>(hf _ z).2.1 rfl) i,h⟩
 .refine(I.hok b u e).stay (λd v c q=>k d v ?_ q) (λ_ q=>q) λ_ _ q=>q
  rcases c with rfl|c
  .exact g _ _ e
  .exact g _ _ c
section
variable{X:Cx}
def ItF(a:Addr):It:=⟨λi H=>∃xs x,H a=some (.lst xs)/\xs[i]?=some x,λi H v H'=>∃T x,H T=none/\v=.ref T/\(∀xs,H a=some (.lst xs)->xs[i]?=some x)/\H'=upd H T (.tup [.int (i:Int),x]),λi H=>∃xs,H a=some (.lst xs)/\xs.length=i⟩
theorem jo4(a e it:Addr)(ne:e≠it):Turn P w K (.Tuple elts kk pos) (ItF a) [e,it] e (λi h=>(∃old,IsEnum h e it i old)/\h.IsListIter it a i) where
 mem:=by simp
 obj:=λi h d b c=>by
  obtain⟨⟨old,j⟩,⟨o,m,O,hd⟩⟩:=d;simp only[At,Ae,U4]at c;rcases c with rfl|rfl
  .exact⟨_,j,λv z=>by cases z⟩
  .exact⟨o,m,λv z=>by rw[hd]at z;cases z⟩
 keep:=λi h h' d k=>⟨let⟨old,j⟩:=d.1;⟨old,k e (by simp) _ j⟩,let⟨o,m,r⟩:=d.2;⟨o,k it (by simp) o m,r⟩⟩
 item:=by
  intro X Z S hK O i L s σ H E I y d U;subst Z S hK;obtain⟨xs,x,l,hx⟩:=U;obtain⟨f,R,p,_⟩:=I.list (SqL.of l);obtain⟨u,hu,ru⟩:=R.get hx;have B:∀b∈[e,it],b≠a:=λb c z=>by rw[z]at c;rw[(y a c).1]at l;cases l
  have W:=Aac (Draws.list (prog:=X.prog) (w:=X.w) (A:=X.A.in1) (show X.A.in1.handled=none from I.ok.hd O) it a (B it (by simp)).symm f.toArray) e ne (by simp[ne,B e (by simp)]) (by simp);have t:i<f.toArray.size:=by rw[A0];exact(Ab.mp hu).1
  refine W.item i s _ _ t ⟨d.1,d.2,p.isList⟩ λT vs h' tk hp Y N C n=>⟨_,rfl,?_⟩;have nT:=W.apart _ _ _ C;refine W.go _ _ _ i T {s with heap:=h',toks:=tk} _ _ C λG g D=>?_;have J:IsTup G T vs:=let⟨o,eo,r⟩:=N;⟨o,D T o nT eo,r⟩;have hv:Vals [V.int (i:Int),x] vs.toList:=by
   obtain⟨t',u',F,rfl⟩:=hp;rw[show f.toArray[i]?=some u from by simpa using hu]at F
   cases F
   exact .cons ⟨t',rfl⟩ (.cons ru .nil)
  have M:∀b∈[e,it],∃o,G.get? b=some o:=λb c=>by
   obtain⟨⟨old,j⟩,⟨⟨o,m,_⟩,_⟩⟩:=g;simp only[At,Ae,U4]at c;rcases c with rfl|rfl
   .exact⟨_,j⟩
   .exact⟨o,m⟩
  refine⟨.ref T,upd H T (.tup [.int (i:Int),x]),?_,rfl,⟨T,x,I.hok.fresh Y,rfl,λys hy=>by rw[l]at hy;cases hy;exact hx,rfl⟩,⟨g.1,g.2.1⟩,λb c=>?_⟩
  .exact I.turnedNew (fp:=[e,it]) (wr:=[e,it]) y (λb o c eo=>D b o c (n b o c eo)) Y (by simpa using J) hv (by show 2<=sizeLine;decide) M
  .have t:b<s.heap.objs.size:=by
    obtain⟨⟨old,j⟩,⟨o,m,_⟩⟩:=d;simp only[At,Ae,U4]at c;rcases c with rfl|rfl
    .exact Ax j
    .exact Ax m
   rw[jd (A2 (Ic t Y))];exact(y b c).1
 done:=by
  intro X Z S hK O i L s σ H E I y d U;subst Z S hK;obtain⟨xs,l,hi⟩:=U;obtain⟨f,R,p,_⟩:=I.list (SqL.of l);have B:∀b∈[e,it],b≠a:=λb c z=>by rw[z]at c;rw[(y a c).1]at l;cases l
  have W:=Aac (Draws.list (prog:=X.prog) (w:=X.w) (A:=X.A.in1) (show X.A.in1.handled=none from I.ok.hd O) it a (B it (by simp)).symm f.toArray) e ne (by simp[ne,B e (by simp)]) (by simp);have hn:f.toArray.size=i:=by rw[A0,<-R.length];exact hi
  exact W.done s _ _ (by rw[hn];exact⟨d.1,d.2,p.isList⟩) λh' tk n=>⟨rfl,I.walked y n⟩
 self:=λA i s Q E d q=>let⟨_,j⟩:=d.1;Aad j q
theorem js9{a:Addr}{xs:List V}{g:TG}{D:Ends}(Pv:Nat->L2.St->Hp->Prop)(f:Pv 0 σ H)(hl:∀i σ H,i<=xs.length->Pv i σ H->H a=some (.lst xs))
  (hs:∀i x σ H T,xs[i]?=some x->Pv i σ H->H T=none->g (.ref T) σ (upd H T (.tup [.int (i:Int),x])) λσ2 H2=>tb {D with nx:=Pv (i+1),ct:=Pv (i+1),bk:=D.nx} σ2 H2) (hd:∀σ H,Pv xs.length σ H->D.nx σ H):jc5 (ItF a) g tb D σ H:=by
 refine⟨λi m σ H=>m+i=xs.length/\Pv i σ H,⟨xs.length,rfl,f⟩,?_⟩
 rintro i m σ H ⟨k,p⟩
 have q:=hl i σ H (by omega) p
 by_cases hi:i<xs.length
 .refine .inr ⟨⟨xs,xs[i],q,by simp[hi]⟩,Pv (i+1),λj h b=>⟨m-1,by omega,by omega,b⟩,λv h y=>?_⟩
  obtain⟨T,x,d,rfl,c,rfl⟩:=y
  exact hs i x σ H T (c xs q) p d
 .have e:i=xs.length:=by omega
  subst e
  exact .inl ⟨⟨xs,q,rfl⟩,hd σ H p⟩
def jla(ta:TA):TI:=λσ H R=>ta σ H λvs H1=>∃a xs,vs=[.ref a]/\H1 a=some (.lst xs)/\R (ItF a) H1
theorem qpi_enumF{a:Expr}{p:Pos}(hg:Gl X "enumerate")(hm:X.mg "enumerate"=none)(ha:QA X [a] ta)(hs:starEach [a] X.env=[(false,eval a X.env)]:=by rfl) :
  QI X (.Tuple elts kk tpos) (.Call (.Name "enumerate" p) [a] [] pos) (jla ta):=by
 refine⟨λd s σ H R I h=>?_⟩
 refine Call_ (jdq I hg hm jax (O5 (thn (ha.h pos d s σ H _ I h) λB c ⟨A,g,f,m,n⟩=>?_) hs rfl))
 obtain⟨x,z,rfl,r,q⟩:=n
 obtain⟨u,rfl,l⟩:=jc9 m
 cases l
 obtain⟨i,C,o,_⟩:=f.list (SqL.of r)
 refine call_enumerate_list (items:=i.toArray) o.isList λw j v _ t=>?_
 have y:Inv X d σ g {c with heap:=w}:=f.kept (t':=c.toks) t
 refine Aad j ⟨c.heap.objs.size+1,[c.heap.objs.size+1,c.heap.objs.size],_,_,g,rfl,y,jo4 x (c.heap.objs.size+1) c.heap.objs.size (Nat.succ_ne_self _),⟨⟨.none,j⟩,v⟩,λb k=>?_,q⟩
 have e:c.heap.objs.size<=b:=by
  simp only[At,Ae,U4]at k;rcases k with rfl|rfl
  .exact Nat.le_add_right _ _
  .exact Ao _
 exact f.fpOk (H':=g) e (f.hok.fresh e)
end
def jf8(ks:Nat->Key)(vs:Nat->Value):Nat->List (Key×Value)
 |0=>[]
 |i+1=>stored (jf8 ks vs i) (ks i) (vs i)
theorem jfs(ks:Nat->Key)(vs:Nat->Value):∀i,(jf8 ks vs i).length<=i
 |0=>Ao 0
 |i+1=>by
  have a:=jfs ks vs i;show(stored _ _ _).length<=_;unfold stored;split
  .rw[Ac];omega
  .rw[Aq];simp;omega
variable{items:Array Value}{l:Addr}
section
variable{P:Program}{w:World}{A:Around}{R:Result->Shared->Prop}{I:Addr}{fp wr:List Addr}{n:Nat}{Pv:Nat->Value->Prop}{St:Nat->Heap->Prop}
theorem jk3{D:Addr}{kvs:List (Key×Value)}(x:h.DictOf (jck P w) D kvs)(e:∀o,h.get? D=some o->h'.get? D=some o):h'.DictOf (jck P w) D kvs :=
 let⟨o,es,ep,h1,r⟩:=x
 ⟨o,es,ep,e _ h1,r⟩
theorem jq8(W:Walks P w A.in1 I fp wr n Pv St)(D:Addr)(q:D∉fp)(hu:A.in1.units<cLine)(d:Heap)(G:∀b∈wr,d.get? b=none)(O:d.get? D=none)(ks:Nat->Key)(bs:Nat->Value)(vs:Nat->Value)
  (K:∀i v,i<n->Pv i v->∃t o c,v=.ref t/\d.get? t=some o/\o.cls=.type "tuple"/\o.data=.seq #[bs i,vs i] c) (u:∀i,i<n->(jck P w).is (ks i) (bs i)=true) (hn:n<=sizeLine) :
  ∀(k i:Nat)(s:Shared),n-i=k->i<=n->St i s.heap->s.heap.DictOf (jck P w) D (jf8 ks vs i)->(∀b o,d.get? b=some o->s.heap.get? b=some o) ->
   (∀h' tk',h'.DictOf (jck P w) D (jf8 ks vs n)->(∀b o,d.get? b=some o->h'.get? b=some o)->R (.ok (.ret .none)) {s with heap:=h',toks:=tk'}) ->
   codeAny (model P w) A (.builtin "dict.update.loop" ⟨[.ref D,.ref I,rawInt (i:Int),.none],[]⟩) R s:=by
 have p:D∉wr:=λh=>q (W.sub _ h)
 have g:∀(h h':Heap),(∀b o,d.get? b=some o->h.get? b=some o)->(∀b o,b∉wr->h.get? b=some o->h'.get? b=some o)->∀b o,d.get? b=some o->h'.get? b=some o :=
  λh h' Y X b o e=>X b o (λz=>by rw[G b z]at e;cases e) (Y b o e)
 intro k
 induction k with
 |zero =>
  intro i s hk hi j y x B
  have a:i=n:=by omega
  subst a
  refine U5 jk5 ?_
  rw[Ux jfg _]
  show wpAny _ A.in1 (pyNext (.ref I) >>= _) _ _ s
  refine Ad (W.done s _ _ j λh' tk' l=>?_)
  show wpAny _ A.in1 (Builtin.Dict.addKeywords D [] >>= λ_=>ret Value.none) _ _ _
  refine Ad (Aj (Aj ?_))
  have f:=g _ _ x l
  exact B h' tk' (jk3 y (λo e=>l D o p e)) f
 |succ k ih =>
  intro i s hk hi j y x B
  have a:i<n:=by omega
  refine U5 jk5 ?_
  rw[Ux jfg _]
  show wpAny _ A.in1 (pyNext (.ref I) >>= _) _ _ s
  refine Ad (W.item i s _ _ a j λv h' tk' Z r l=>?_)
  have f:=g _ _ x l
  obtain⟨t,o,c,rfl,ho,J,H⟩:=K i v a Z
  have m:=f _ _ ho
  have N:=jk3 y (λo e=>l D o p e)
  refine Ad (O0 ?_)
  refine Ad (wpAny_tryCatch ?_)
  unfold Builtin.Dict.pairItems
  refine Ad (Aau (T:="tuple") ⟨o,m,J⟩ ?_)
  rw[Al (by decide)]
  refine Ad (wpAny_seqItems m H (Aj ?_))
  show wpAny _ A.in1 (holding [bs i,vs i] (dictSet D (bs i) (vs i))) _ _ _
  have S:=jfs ks vs i
  refine O0 (wpAny_dictSet_pairs (hsz:=by omega) (knd:=jck P w) (u i a) N λh2 M Q=>?_)
  refine Aj ⟨Yc jfg _,?_⟩
  have U:∀b o,d.get? b=some o->b≠D:=λb o e z=>by rw[z,O]at e;cases e
  have F:∀b o,d.get? b=some o->h2.get? b=some o:=λb o e=>(Q.2 b (U b o e)).trans (f b o e)
  have e1:rawInt ((i:Int)+1)=rawInt ((i+1:Nat):Int):=by simp
  rw[e1]
  refine ih (i+1) _ (by omega) (by omega) (W.frame _ _ _ r λb hb o e=>(Q.2 b (λz=>q (z▸hb))).trans e) M F λh3 C L E=>?_
  exact B h3 C L E
theorem jq7{E:Value->Shared->Prop}(hh:A.handled=none)(hu:A.in1.in1.units<cLine)(hl:s.heap.IsList l items)(L:∀o,s.heap.get? l=some o->o.dict=none)(ks:Nat->Key)(bs:Nat->Value)(vs:Nat->Value)
  (N:∀i v,items[i]?=some v->∃t o c,v=.ref t/\s.heap.get? t=some o/\o.cls=.type "tuple"/\o.data=.seq #[bs i,vs i] c) (y:∀i,i<items.size->(jck P w).is (ks i) (bs i)=true) (hn:items.size<=sizeLine)
  (hQ:∀h' tk',h'.DictOf (jck P w) s.heap.objs.size (jf8 ks vs items.size)->(∀b o,s.heap.get? b=some o->h'.get? b=some o)->Q (.ref s.heap.objs.size) {s with heap:=h',toks:=tk'}) :
  wpAny (model P w) A (call (.type "dict") [.ref l]) Q E s:=by
 refine callType_codes (Q₁:=λm S=>m=.ref s.heap.objs.size/\S={s with heap:=s.heap.push {cls:=.type "dict",data:=.dict #[]}}) F.kt_called_dict (F.kt_typeCall_dict_1 _) F.entry_dict_init (kt_code_dict_new _ ⟨rfl,rfl⟩) λm S J=>?_
 obtain⟨rfl,rfl⟩:=J
 have f:(s.heap.push {cls:=.type "dict",data:=.dict #[]}).DictOf (jck P w) s.heap.objs.size []:=Heap.DictOf.new s.heap
 have M:=hl.push {cls:=.type "dict",data:=.dict #[]}
 refine⟨f.typeIs,F.args_dict_init_2 _ _,?_⟩
 unfold Builtin.«dict.__init__»
 refine Ad ?_
 unfold Builtin.Dict.selfAndRest
 refine Ad (wpAny_notOrdered_dict f.typeIs ?_)
 refine(show wpAny _ _ (pure (s.heap.objs.size,[Value.ref l])) _ _ _ from Aj ?_)
 show wpAny _ _ (Builtin.Dict.updateFrom "dict.__init__" s.heap.objs.size (.ref l) [] .none) _ _ _
 unfold Builtin.Dict.updateFrom
 refine Ad (Aau M.typeIs ?_)
 rw[Al (by decide)]
 refine Ad ?_
 unfold getAttr?
 refine Ad (wpAny_mkText ?_)
 unfold getAttrBy?
 obtain⟨U,d,r,Y,p⟩:=id hl
 have K:=Ak {cls:=.type "dict",data:=.dict #[]} d
 refine Ad (Aak (jss K r p (L _ d) hh λh' aa e B=>?_))
 obtain⟨X,fs,he,O,_⟩:=B.there
 refine Ad (Aam (T:="AttributeError") (b:=true) ⟨X,he,O⟩ sub_AttributeError ?_)
 rw[Al rfl]
 refine Aj ?_
 rw[Al (show(Option.isNone (none:Option Value))=true from rfl)]
 refine Ad (Yi ?_)
 have h:∀b o,s.heap.get? b=some o->h'.get? b=some o:=λb o e=>B.keeps _ _ (Ak _ e)
 have u:h'.IsList l items:=⟨U,h _ _ d,r,Y,p⟩
 have n:∀a,s.heap.objs.size<=a->s.heap.get? a=none:=λa ha=>by
  cases q:s.heap.get? a with
  |none=>rfl
  |some o=>exact absurd (Ax q) (Nat.not_lt.mpr ha)
 have x:h'.DictOf (jck P w) s.heap.objs.size []:=by
  obtain⟨o,C,D,k,z⟩:=f;exact⟨o,C,D,B.keeps _ _ k,z⟩
 have g:s.heap.objs.size<h'.objs.size:=by obtain⟨o,_,_,k,_⟩:=x;exact Ax k
 have j:l<s.heap.objs.size:=Ax d
 refine Ad (Ym u ?_)
 refine Aj ⟨Yc jfg _,?_⟩
 have H:l≠h'.objs.size:=A2 (Yx j g)
 have W:=Walks.list (prog:=P) (w:=w) (A:=A.in1.in1) hh h'.objs.size l H items
 refine jq8 W s.heap.objs.size (λhm=>?_) hu s.heap (λb hb=>?_) (n _ (Ao _)) ks bs vs (λi v hi Z=>N i v Z) y hn items.size 0 _ (by omega) (Op _) ⟨⟨_,A4 _ rfl,rfl,rfl⟩,u.push _⟩ ?_ (λb o e=>Ak _ (h b o e)) (λh3 G R I=>?_)
 .rcases At.mp hm with q|q
  .exact A2 g q
  .exact W3 j (Ag.mp q)
 .rw[Ag.mp hb]
  exact n _ (Yv g)
 .obtain⟨o,C,D,k,z⟩:=x
  exact⟨o,C,D,Ak _ k,z⟩
 .exact⟨rfl,hQ h3 G R I⟩
end
variable{kvs:List (Key×V)}
section
variable{X:Cx}
def PairsK(H:Hp)(ys:List V)(kvs:List (Key×V)):Prop:=Paired (λy (kv:Key×V)=>∃t,y=.ref t/\H t=some (.tup [kV kv.1,kv.2])) ys kvs
def jdm(kvs:List (Key×V)):List (Key×V):=kvs.foldl (λd kv=>putK d kv.1 kv.2) []
theorem PairsK.get:∀{H:Hp}{ys:List V}{kvs:List (Key×V)}{i:Nat}{y:V},PairsK H ys kvs->ys[i]?=some y->∃kv t,kvs[i]?=some kv/\y=.ref t/\H t=some (.tup [kV kv.1,kv.2])
 |_,_,_,i,y,.nil,e=>by simp at e
 |_,_,_,0,y,.cons (b:=kv) ⟨t,q⟩ _,e=>by simp at e;subst e;exact⟨kv,t,rfl,q⟩
 |_,_,_,i+1,y,.cons _ r,e=>by simp at e;obtain⟨kv,t,h⟩:=PairsK.get (kvs:=_) r e;exact⟨kv,t,by simpa using h.1,h.2⟩
def rDictK:List V->Hp->VK->Prop:=λxs H Q=>match xs with
 |[.ref l]=>(∃ys kvs,H l=some (.lst ys)/\PairsK H ys kvs/\∀p,H p=none->Q (.ref p) (upd H p (.dK (jdm kvs))))\/(∃kvs,H l=some (.dK kvs)/\∀p,H p=none->Q (.ref p) (upd H p (.dK kvs)))
 |_=>False
theorem rDictK.of{Q:VK}{ys:List V}(e:H l=some (.lst ys))(h:PairsK H ys kvs)(q:∀p,H p=none->Q (.ref p) (upd H p (.dK (jdm kvs)))):rDictK [.ref l] H Q:=.inl ⟨ys,kvs,e,h,q⟩
theorem jar(hc:X.calm=true)(hu:X.A.units+64<cLine):jcu X (.type "dict") rDictK:=by
 intro Y s σ H xs us Q I r h;unfold rDictK at h;split at h
 .rename_i l;obtain⟨u,rfl,ru⟩:=jc9 r
  cases ru
  rcases h with⟨ys,kvs,e,B,q⟩|⟨kvs,e,q⟩
  .obtain⟨a,S,T,hz⟩:=I.list (SqL.of e);have hl:ys.length=a.length:=S.length;have aa:ys.length=kvs.length:=Iw B;have fn:∀i,∃p:Key×Value×Value,i<a.length->∃b t o c,kvs[i]?=some b/\p.1=b.1/\a[i]?=some (.ref t)/\s.heap.get? t=some o/\o.cls=.type "tuple"/\o.data=.seq #[p.2.1,p.2.2] c /\
     RelV (kV b.1) p.2.1/\RelV b.2 p.2.2:=by
    intro i
    by_cases j:i<a.length
    .have U:ys[i]?=some (ys[i]'(by omega)):=by simp
     obtain⟨b,t,x,k,m⟩:=B.get U
     obtain⟨u,N,y⟩:=S.get U
     rw[k]at y
     cases y
     obtain⟨_,Z,r2,o,q1,q2,n,q3⟩:=(show ObjOk X.prog X.w H s.heap t (.tup [kV b.1,b.2])from I.hok t _ m)
     obtain⟨u1,u2,rfl,M,L⟩:=r2.two
     exact⟨(b.1,u1,u2),λ_=>⟨b,t,o,n,x,rfl,N,q1,q2,q3,M,L⟩⟩
    .exact⟨(.inl 0,.none,.none),λz=>absurd z j⟩
   obtain⟨f,C⟩:=Classical.skolem.mp fn;have kt:∀i,i<=a.length->KV (jdm (kvs.take i)) (jf8 (λi=>(f i).1) (λi=>(f i).2.2) i):=by
    intro i;induction i with
    |zero=>intro _;exact .nil
    |succ i ih =>
     intro j;obtain⟨b,t,o,c,x,k,m,J,G,F,E,D⟩:=C i (by omega);have e1:jdm (kvs.take (i+1))=putK (jdm (kvs.take i)) b.1 b.2:=by
      rw[Y4,x];simp[jdm,Uz]
     rw[e1];show KV _ (stored _ _ _);rw[<-k];exact(ih (by omega)).put _ D
   have hs:sizeLine=16777216:=Uo;obtain⟨ol,nl,w1,w2,w3,w4⟩:=id T;refine jq7 (P:=X.prog) (w:=X.w) (I.ok.hd hc) (by show X.A.units+1+1<cLine;omega) T.isList (λo e=>by rw[w1]at e;cases e;exact w3) (λi=>(f i).1) (λi=>(f i).2.1) (λi=>(f i).2.2) (λi v hv=>?_) (λi j=>?_) (by simpa using(by omega:a.length<=sizeLine)) λh' K W kb=>?_
   .have g:a[i]?=some v:=by simpa using hv
    have j:i<a.length:=(Ab.mp g).1;obtain⟨b,t,o,c,x,k,m,J,G,F,E,D⟩:=C i j;rw[m]at g
    cases g
    exact⟨t,o,c,rfl,J,G,F⟩
   .obtain⟨b,t,o,c,x,k,m,J,G,F,E,D⟩:=C i (by simpa using j);show(jck X.prog X.w).is (f i).1 (f i).2.1=true;rw[k];exact jey E
   .have d:=kt a.length (Ao _);rw[Ob (by omega)]at d;have ab:=jfs (λi=>(f i).1) (λi=>(f i).2.2) a.length;have O:(jdm kvs).length<=sizeLine:=by have:=Iw d;omega
    have R:H s.heap.objs.size=none:=I.hok.fresh (Ao _);rw[A0]at W;refine⟨.ref s.heap.objs.size,upd H s.heap.objs.size (.dK (jdm kvs)),I.laid (t':=K) kb (Ao _) (je6 O ?_ d W),rfl,q _ R⟩;have:=I.big;exact Ue.mpr (W3 this)
  .exact jq6 I (.inl e) λp s' B I'=>⟨.ref p,_,I',rfl,q p B⟩
 .exact h.elim
end
section
variable{X:Cx}
def jeg:V->List V->Hp->VK->Prop:=λx vs H Q=>match x,vs with
 |.ref l,[y]=>∃(xs:List V)(ds:List PyData)(d:PyData)(j:Nat),H l=some (.lst xs)/\Reps H xs ds/\Rep H y d/\PyData.canLayAll0 ds=true/\d.canLay0=true/\PyData.depthAll ds<=40/\(∃e,ds[j]?=some e/\PyData.eqv e d=true) /\
   (∀m e,m<j->ds[m]?=some e->PyData.eqv e d=false)/\Q (.int (j:Int)) H
 |_,_=>False
theorem jaf(hu:X.A.units+64<cLine):MtM X "list.index" jeg:=by
 intro G s σ H x W v Y Q I K L h;unfold jeg at h;split at h
 .rename_i l y;obtain⟨w,i,d,j,e,P,O,f,t,U,⟨ej,D,p⟩,k,q⟩:=h
  cases K
  obtain⟨u,rfl,M⟩:=L.one;obtain⟨z,a,n,r,hl,E⟩:=I.lstM e;obtain⟨R,B⟩:=P.reads I r;obtain⟨bs,N⟩:=O.reads I M;have C:=SeqAt.readsAll_map i a R f B;have J:a.length=i.length:=by rw[<-C,Ac]
  have T:j<i.length:=(Ab.mp D).1;have g:∀m (b:m<a.toArray.size),i[m]?=some (SeqAt.readOf s.heap a.toArray[m]):=λm b=>by
   rw[<-C,Ah];have:a[m]?=some a.toArray[m]:=by simp
   rw[this];rfl
  have hs:sizeLine=16777216:=Uo;have c:j<a.toArray.size:=by rw[A0];omega
  have S:w.length=a.length:=r.length;have Z:w.length<=sizeLine:=z;refine Yp F.slot_list_index ⟨_,E,rfl⟩ F.entry_list_index (F.args_list_index_2 _ _) (SeqAt.list_indexAt l a.toArray n none #[] u (λy=>PyData.eqv (SeqAt.readOf s.heap y) d) j c (by omega) ?_ ?_) ⟨E,?_,?_⟩
  .have:=g j c;rw[D]at this;rw[<-Aw this];exact p
  .intro m b o;exact k m _ o (g m b)
  .refine SeqAt.items_eqAt (by simpa using B) N f t ?_;omega
  .exact⟨.int (j:Int),H,I.tok _,⟨_,rfl⟩,q⟩
 .exact h.elim
theorem jat{o i:Expr}{td ty:TE}(hu:X.A.units+1<cLine)(a:QE X o td)(hi:QE X i ty)(hs:NoSl i):QE X (.Subscript o i pos) (jkn td ty):=⟨pe_dget hu a.h hi.h hs⟩
end
section
variable{X:Cx}{scope:Scope}{Nc:List Str}{js:List (Option Nat)}{elt tg iter:Expr}{pos:Pos}{wi:TI}{g:TG}{te:TE}
def jrq(scope sc:Scope):Scope:={scope with names:=scope.names.map fun(n,k)=>if(k == .free && sc.kind == .function && sc.names.lookup n == some .cell)then(n,.cell)else(n,k)}
end
def setO(L:Bool):Obj:={cls:=.type "set",dict:=none,data:=.set #[] 0 (.fresh 0 0 L)}
section
variable{prog:Program}{w:World}{A:Around}{E:Value->Shared->Prop}{s:Shared}
theorem jrt(a:Value){Q₁:Value->Shared->Prop}(h:Q₁ (.ref s.heap.objs.size) {s with heap:=s.heap.push (setO (!w.params.followText "set-order"))}) :
  codeAny (model prog w) A (.call (.builtin "set.__new__") ⟨[.type "set",a],[]⟩) (wants Q₁ E) s:=by
 have b:=sub_set_self
 refine codeAny_of_tree (show wpAny _ A.in1 (do checkBuiltinCall "set.__new__" ⟨[.type "set",a],[]⟩;again (.builtin "set.__new__" ⟨[.type "set",a],[]⟩)) _ _ s from ?_)
 refine Ad (wpAny_of_eq (PySem.F.newCall_set_1 a) (Aj ⟨Yc PySem.F.plain_set_new _,U5 PySem.F.entry_set_new ?_⟩))
 rw[Ux PySem.F.plain_set_new _,Builtin.«set.__new__»,Builtin.Frozenset.newClass]
 obtain⟨f,g,d,c,e⟩:=s
 dsimp only
 wp_walk
 refine W6 (Aj ?_)
 show wpAny _ _ (newObj (.type "set") (.set #[] 0 (.fresh 0 0 (!w.params.followText "set-order")))) _ _ _
 unfold newObj
 exact Ad (wpAny_alloc (Aj (Aj h)))
end
theorem sit_next:Slot "set_iterator" "__next__" "set_iterator.__next__":=.of (owner:="set_iterator") (n:="__next__") (by rw[typeLookup_type,Aao];kernel_rfl) (by decide +kernel) (by decide +kernel) (by decide +kernel) (.inl (by decide +kernel)) (by rw[isSubtype_type];kernel_rfl)
theorem jl2:Slot "set_iterator" "__iter__" "set_iterator.__iter__":=.of (owner:="set_iterator") (n:="__iter__") (by rw[typeLookup_type,Aao];kernel_rfl) (by decide +kernel) (by decide +kernel) (by decide +kernel) (.inl (by decide +kernel)) (by rw[isSubtype_type];kernel_rfl)
theorem jqt:entryFor table "set_iterator.__next__"=some Builtin.«set_iterator.__next__»:=entryFor_of_tree (by kernel_rfl)
theorem jrv(a:Value):argsOk "set_iterator.__next__" ⟨[a],[]⟩:=by unfold argsOk;kernel_rfl
theorem jqs(a:Value):argsOk "set_iterator.__iter__" ⟨[a],[]⟩:=by unfold argsOk;kernel_rfl
theorem jiy:entryFor table "set.__iter__"=some Builtin.«frozenset.__iter__»:=entryFor_alias (id':="frozenset.__iter__") (by kernel_rfl) rfl (by decide +kernel) (by kernel_rfl)
theorem jo0:entryFor table "set_iterator.__iter__"=some Builtin.«dict_keyiterator.__iter__»:=entryFor_alias (id':="dict_keyiterator.__iter__") (by kernel_rfl) rfl (by decide +kernel) (by kernel_rfl)
def SIt(h:Heap)(I:Addr)(f:Value)(i:Nat)(a:Addr)(n ep:Nat):Prop:=∃o,h.get? I=some o/\o.cls=.type "set_iterator"/\o.data=.fields #[f,.int i 0,.ref a,.int n 0,.int ep 0]
variable{I:Addr}{ep n:Nat}{f:Value}
theorem SIt.ty{a:Addr}(x:SIt s.heap I f i a n ep):s.TypeIs (.ref I) "set_iterator":=let⟨o,h,c,_⟩:=x;⟨o,h,c⟩
variable{o:Obj}
section
variable{prog:Program}{w:World}{A:Around}{E:Value->Shared->Prop}{s:Shared}
theorem jl3{a:Addr}(x:SIt s.heap I f i a n ep)(h:Q (.ref I) s):wpAny (model prog w) A (pyIter (.ref I)) Q E s:=by
 refine wpAny_pyIter_slot x.ty jl2 (Um jl2 x.ty jo0 ?_ (jqs _));exact Aj ⟨_,rfl,"set_iterator",_,x.ty,sit_next.lookup,h⟩
theorem SIt.upd{a:Addr}(g:h.get? I=some o)(c:o.cls=.type "set_iterator")(d:o.data=.fields #[f,.int i 0,.ref a,.int n 0,.int ep 0])(k:Nat)(v:Value) :
  ∃o',(h.update I (Obj.mapFields (·.setIfInBounds k v))).get? I=some o'/\o'.cls=.type "set_iterator"/\o'.data=.fields ((#[f,.int i 0,.ref a,.int n 0,.int ep 0]:Array Value).setIfInBounds k v) :=
 ⟨_,Uh _ g (Aaq (Wj d _)),(Obj.cls_mapFields ..).trans c,by rw[Wj d]⟩
theorem jrw{B:Around}(hh:B.handled=none){Q:Option Value->Shared->Prop}{R:Fin->Shared->Prop}(h:∀h',(∀b o,s.heap.get? b=some o->h'.get? b=some o)->Q none {s with heap:=h'}) :
  wpAny (model prog w) B.in1 (newExc (.type "StopIteration") [] >>= λe=>(raiseNew e:Sem Fin)) R
   (λe s'=>wpAny (model prog w) B (do if(<-isInstance e (.type "StopIteration"))=true then pure none else throw e) Q E s') s:=by
 refine Ad ?_
 simp only[newExc,newTuple]
 refine Ad (Up ?_ (by size_fits))
 refine Ad (m:=firstArgMember _ _) (wpAny_of_eq (a:=Value.none) (by first|rfl|(simp only[firstArgMember];rfl)) (Up ?_ (by size_fits)))
 simp only[raiseNew]
 refine Ad (wpAny_handled ?_)
 rw[show B.in1.handled=none from hh]
 refine Ad (Aj (wpAny_throw ?_))
 refine Ad (Aam (T:="StopIteration") (b:=true) ⟨_,A4 _ rfl,rfl⟩ isSubtype_stop (Aj ?_))
 exact(h _ λb o e=>Ak _ (Ak _ e))
end
theorem jll{α:Type}:∀(l:List α)(i:Nat)(x:α),l[i]?=some x->(x::l.eraseIdx i).Perm l
 |[],i,x,h=>by simp at h
 |a::l,0,x,h=>by simp at h;subst h;exact Wf _
 |a::l,i+1,x,h=>by
  rw[List.eraseIdx_cons_succ];exact(List.Perm.swap a x _).trans ((jll l i x (by simpa using h)).cons a)
theorem jb8{α:Type}(f:Nat->Nat):∀(fuel k:Nat)(left:List α)(out:Array α),left.length=fuel->(pickOrder.go f fuel k left out).toList.Perm (out.toList++left)
 |0,k,left,out,h=>by
  rw[Os.mp h,O8];exact Wf _
 |fuel+1,k,left,out,h=>by
  have a:f k%left.length<left.length:=Nat.mod_lt _ (by omega);unfold pickOrder.go;rw[Aa a];dsimp only;refine(jb8 f fuel (k+1) _ _ (by rw[List.length_eraseIdx_of_lt a];omega)).trans ?_;rw[Ug,A5];exact List.Perm.append_left _ (jll left _ _ (Aa a))
theorem pick_perm{α:Type}(f:Nat->Nat)(es:Array α):(pickOrder f es).toList.Perm es.toList:=by
 have:=jb8 f es.size 0 es.toList #[] (by simp);simpa[pickOrder]using this
section
variable{prog:Program}{w:World}{A:Around}{E:Value->Shared->Prop}{s:Shared}
theorem SIt.keep{a:Addr}(x:SIt h I f i a n ep)(k:∀o,h.get? I=some o->h'.get? I=some o):SIt h' I f i a n ep:=let⟨o,g,c,d⟩:=x;⟨o,k _ g,c,d⟩
end
section
variable{prog:Program}{w:World}{A:Around}{E:Value->Shared->Prop}{s:Shared}
theorem jrf{r:Addr}{Q:Bool->Shared->Prop}(hT:s.TypeIs (.ref r) "set")(h:Q false s):wpAny (model prog w) A (Builtin.List.listLengthHint (.ref r)) Q E s:=by
 unfold Builtin.List.listLengthHint;refine Ad (wpAny_specialOf hT PySem.F.slot_set_len.lookup ?_);generalize hid:("set.__len__":String)=a;wp_delta;rw[show splitId a=some ("set","__len__")from by subst hid;decide +kernel];subst hid;refine Ad (Aam (T:="set") (b:=true) hT (by rw[isSubtype_type];kernel_rfl) (Oo (λq=>absurd q (by decide)) (λ_=>?_)));refine Oo (λ_=>Ad (Aau hT ?_)) (λq=>absurd (by decide +kernel) q);exact Aj h
end
abbrev FZ(o:Obj):HO:=.frz o (.ext λ_=>True)
section
variable{P:Program}{w:World}{H H':Hp}{h h':Heap}{a:Addr}{o:Obj}{cs:List Addr}
theorem FZ.get(x:HOk P w H h)(e:H a=some (FZ o)):h.get? a=some o:=(x a _ e).1
theorem FZ.mk(e:h.get? a=some o):ObjOk P w H h a (FZ o):=⟨e,trivial,⟨o,e⟩,λ_ _ _ _=>trivial⟩
def hideC(H:Hp)(cs:List Addr):Hp:=λb=>if b∈cs then none else H b
def backC(H H':Hp)(cs:List Addr):Hp:=λb=>if b∈cs then H b else H' b
theorem jd7(m:a∈cs):hideC H cs a=none:=Al m
theorem jcn(m:a∉cs):hideC H cs a=H a:=Ai m
theorem jog{u:HO}(e:hideC H cs a=some u):a∉cs/\H a=some u:=by
 by_cases m:a∈cs
 .rw[jd7 m]at e;cases e
 .exact⟨m,by rwa[jcn m]at e⟩
theorem jdi(e:H a=none):hideC H cs a=none:=by unfold hideC;split <;> first|rfl|exact e
theorem jel(m:a∈cs):backC H H' cs a=H a:=Al m
theorem jc6(m:a∉cs):backC H H' cs a=H' a:=Ai m
theorem HOk.hideC(x:HOk P w H h)(fz:∀c∈cs,∃o,H c=some (FZ o)):HOk P w (hideC H cs) h:=λb u q=>by
 obtain⟨_,a⟩:=jog q;refine(x b u a).stay (λ_ _ _ z=>z) (λc z=>?_) λc d z=>?_
 .rw[jcn λm=>by obtain⟨o,e⟩:=fz c m;rw[z]at e;cases e];exact z
 .rw[jcn λm=>by obtain⟨o,e⟩:=fz c m;rw[z]at e;cases e];exact z
theorem Un.backC{fs:List Addr}(u:Un fs [] (hideC H cs) H' h h')(fz:∀c∈cs,∃o,H c=some (FZ o)):Un fs [] H (backC H H' cs) h h' where
 keep:=λb o e n f a=>u.keep b o e (jdi n) f a
 slot:=λb o e n f a=>u.slot b o e (jdi n) f a
 free:=λb o e n a=>by
  rw[jc6 λm=>by obtain⟨o,z⟩:=fz b m;rw[n]at z;cases z];exact u.free b o e (jdi n) a
 there:=u.there
 tups:=λb g e=>by
  have m:b∉cs:=λm=>by obtain⟨o,z⟩:=fz b m;rw[e]at z;cases z
  rw[jc6 m];exact u.tups b g (by rw[jcn m];exact e)
 frzs:=λb o i e=>by
  by_cases m:b∈cs
  .rw[jel m];exact e
  .rw[jc6 m];exact u.frzs b o i (by rw[jcn m];exact e)
 tbls:=λb j e=>by
  have m:b∉cs:=λm=>by obtain⟨o,z⟩:=fz b m;rw[e]at z;cases z
  obtain⟨d,q⟩:=u.tbls b j (by rw[jcn m];exact e);exact⟨d,by rw[jc6 m];exact q⟩
theorem HOk.backC{fs:List Addr}(x:HOk P w H h)(f:HOk P w H' h')(u:Un fs [] (L2.hideC H cs) H' h h')(fz:∀c∈cs,∃o,H c=some (FZ o))(g:∀c∈cs,c∉fs):HOk P w (backC H H' cs) h':=λb v q=>by
 by_cases m:b∈cs
 .rw[jel m]at q;obtain⟨o,e⟩:=fz b m;rw[e]at q
  cases Aw q
  exact FZ.mk (u.keep b o (FZ.get x e) (jd7 m) (g b m) (by simp))
 .rw[jc6 m]at q;have d:∀c∈cs,H' c=none:=λc a=>by
   obtain⟨o,e⟩:=fz c a;exact u.free c o (FZ.get x e) (jd7 a) (by simp)
  refine(f b v q).stay (λ_ _ _ z=>z) (λc z=>?_) λc i z=>?_
  .rw[jc6 λa=>by rw[d c a]at z;cases z];exact z
  .rw[jc6 λa=>by rw[d c a]at z;cases z];exact z
theorem Kp.backC{S:List Addr}(k:Kp S (L2.hideC H cs) H'):Kp S H (backC H H' cs):=by
 refine⟨λb o e n=>?_,λb a e=>?_,λb o e=>?_⟩
 .by_cases m:b∈cs
  .rw[jel m];exact e
  .rw[jc6 m];exact k.old b o (by rw[jcn m];exact e) n
 .by_cases m:b∈cs
  .rw[jel m];exact e
  .rw[jc6 m];exact k.tup b a (by rw[jcn m];exact e)
 .by_cases m:b∈cs
  .exact⟨o,by rw[jel m];exact e⟩
  .rw[jc6 m];exact k.dom b o (by rw[jcn m];exact e)
end
structure LamScope(ps fs:List Str)(sc:Scope):Prop where
 kind:sc.kind=.function
 co:sc.isCoroutine=false
 gen:sc.isGenerator=false
 nd:(ps++fs).Nodup
 par:∀x∈ps,sc.names.lookup x=some .local
 nocell:∀y∈sc.names,y.2≠.cell
 fr:∀x∈fs,sc.names.lookup x=some .free
 only:∀x,sc.names.lookup x=some .free->x∈fs
def job(P:Program)(w:World)(K:PySem.W.Frag)(mg:Str->Option Value)(base:Heap)(N:List Str)(qual:Str)(scope:Scope)(f:Addr)(cd:Value)(cl:List (Str×Addr))(A:Around)(outer:List Env)(s:Shared)(H:Hp):Cx where
 prog:=P
 w:=w
 K:=K
 mg:=mg
 base:=base
 A:=A.deeper (PySem.W.envX qual scope s.heap.objs.size f cd cl)
 N:=N
 s₀:=s
 H₀:=H
 env:=PySem.W.envX qual scope s.heap.objs.size f cd cl
 outer:=outer
 stack:=PySem.W.envX qual scope s.heap.objs.size f cd cl::outer
 ex:=[]
 calm:=true
 fn:=λ_=>false
 pn:=[]
 xe:=λ_ _=>False
structure Caps(H:Hp)(cl:List (Str×Addr))(fs:List Str)(ws:List V):Prop where
 len:ws.length=fs.length
 at_:∀(i:Nat)(x:Str)(v:V),fs[i]?=some x->ws[i]?=some v->∃c o u,cl.lookup x=some c/\H c=some (FZ o)/\o.data=.cell (some u)/\RelV v u
 has:∀x∈fs,∃c,cl.lookup x=some c
 fz:∀p∈cl,∃o u,H p.2=some (FZ o)/\o.data=.cell u
 inj:∀x y c,cl.lookup x=some c->cl.lookup y=some c->x=y
def CodeZ(H:Hp)(c:Addr)(qual:Str):Prop:=∃oc vs t,H c=some (FZ oc)/\oc.data=.fields vs/\vs[1]?=some (.str qual t)
theorem jn7{α β:Type}:∀{l:List α}{m:List β}{i:Nat}{x:α}{y:β},l[i]?=some x->m[i]?=some y->(l.zip m)[i]?=some (x,y)
 |[],_,_,_,_,h,_=>by simp at h
 |_::_,[],_,_,_,_,h=>by simp at h
 |_::_,_::_,0,_,_,h,h'=>by simp at h h';subst h;subst h';rfl
 |_::l,_::m,i+1,_,_,h,h'=>by
  simp at h h';simpa using jn7 (l:=l) (m:=m) h h'
variable{ps:List Str}{us:List Value}
theorem jon(nd:ps.Nodup){x:Str}{u:Value}(h:ps[i]?=some x)(h':us[i]?=some u):(ps.zip us).reverse.lookup x=some u:=by
 have a:∀(l:List (Str×Value)),(l.map Prod.fst).Nodup->(x,u)∈l->l.lookup x=some u:=by
  intro l;induction l with
  |nil=>intro _ m;cases m
  |cons q l ih =>
   intro nd m;obtain⟨y,v⟩:=q;rw[Au,Ot]at nd;rcases At.mp m with e|m
   .cases e;simp[List.lookup]
   .have:x≠y:=λe=>nd.1 (by rw[<-e];exact Am.mpr ⟨(x,u),m,rfl⟩);rw[List.lookup_cons];have b:(x == y)=false:=by simpa using this
    rw[b];exact ih nd.2 m
 refine a _ ?_ (Oi.mpr (Ap (jn7 h h')));rw[List.map_reverse];refine(U0 _).nodup_iff.mpr ?_;have:∀(l:List Str)(m:List Value),((l.zip m).map Prod.fst).Sublist l:=by
  intro l;induction l with
  |nil=>intro m;simp
  |cons y l ih =>
   intro m
   cases m with
   |nil=>simp
   |cons v m=>exact(ih m).cons₂ y
 exact nd.sublist (this ps us)
section
variable{P:Program}{w:World}{K:PySem.W.Frag}{mg:Str->Option Value}{base:Heap}{k:Nat}{f c':Addr}{name qual:Str}{params:Arguments}{body:Expr}{scope:Scope}{pm ct:Value}{ps fs:List Str}{cl:List (Str×Addr)}{sp:Sp}
theorem js2{A:Around}{outer:List Env}{h1:Heap}{tk:Tok}{vs ws:List V}(S:LamScope ps fs scope)(hd:A.handled=none)(j:Env0 P w K mg base A outer s H)(hl:vs.length=ps.length)(r:Vals vs us)(g:Caps H cl fs ws)
  (E:h1.Ns s.heap.objs.size λy=>(ps.zip us).reverse.lookup y) (hk:∀b o,s.heap.get? b=some o->h1.get? b=some o) :
  Inv (job P w K mg base (ps++fs) qual scope f (.ref c') cl A outer s (hideC H (cl.map Prod.snd))) [] (vs.map some++ws.map some) (hideC H (cl.map Prod.snd)) {s with heap:=h1,toks:=tk}:=by
 have I:∀c∈cl.map Prod.snd,∃o,H c=some (FZ o):=λc G=>by
  obtain⟨p,t,rfl⟩:=Am.mp G;obtain⟨o,u,e,_⟩:=g.fz p t;exact⟨o,e⟩
 have D:=HOk.hideC j.hok I
 have C:∀x c,cl.lookup x=some c->c∈cl.map Prod.snd:=λx c e=>Am.mpr ⟨(x,c),Uf e,rfl⟩
 have n:∀b:Addr,b∉(job P w K mg base (ps++fs) qual scope f (.ref c') cl A outer s (hideC H (cl.map Prod.snd))).ex:=λb z=>absurd (show b∈([]:List Addr)from z) (by simp)
 refine⟨⟨j.mod,S.kind,rfl,rfl,Ao _,g.inj,λy m=>?_,λy c z=>(by cases z),λ_=>hd,Around.frames_deeper j.frames,.inr ⟨rfl,rfl⟩,λb z=>absurd z (n b),λb o e=>⟨(j.bs b o e).1,jdi (j.bs b o e).2⟩,j.bsz,λb _ _=>n b,λb z=>absurd z (n b),j.funs,λb z=>jdi (j.frf b z)⟩,
  rfl,j.bare,Un.kept hk,⟨_,E,λi y v l k N=>?_⟩,λy c h=>?_,jdi (j.hok.fresh (Ao _)),λy c h=>jd7 (C y c h),λp t=>absurd (show p∈([]:List (Addr×Obj))from t) (by simp),D.kept hk,?_⟩
 .have m:scope.names.lookup y=some .cell\/scope.names.lookup y=some .free:=m
  rcases m with m|m
  .exact absurd rfl (S.nocell _ (Uf m))
  .exact g.has y (S.only y m)
 .have l:(ps++fs)[i]?=some y:=l
  by_cases hi:i<ps.length
  .rw[A8 hi]at l
   rw[A8 (by rw[Ac];omega),Ah]at k
   have B:vs[i]?=some v:=by
    cases e:vs[i]? with
    |none=>rw[e]at k;cases k
    |some a=>rw[e]at k;cases k;rfl
   obtain⟨u,F,q⟩:=r.get B
   exact⟨u,q,.inl ⟨S.par y (Ap l),jon (S.nd.sublist (List.sublist_append_left _ _)) l F⟩⟩
  .rw[A9 (by omega)]at l
   rw[A9 (by rw[Ac];omega),Ac,hl,Ah]at k
   have B:ws[i-ps.length]?=some v:=by
    cases e:ws[i-ps.length]? with
    |none=>rw[e]at k;cases k
    |some a=>rw[e]at k;cases k;rfl
   obtain⟨c,o,u,M,L,J,q⟩:=g.at_ _ y v l B
   exact⟨u,q,.inr ⟨.inr (S.fr y (Ap l)),c,M,o,hk _ _ (FZ.get j.hok L),J⟩⟩
 .obtain⟨o,u,e,d⟩:=g.fz (y,c) (Uf h)
  exact⟨u,o,hk _ _ (FZ.get j.hok e),d⟩
 .show(vs.map some++ws.map some).length=(ps++fs).length
  rw[Aq,Aq,Ac,Ac,hl,g.len]
theorem jpu(S:LamScope ps fs scope)(len:∀vs H Q E,sp vs H Q E->vs.length=ps.length)
  (g:∀(vs:List V)(H:Hp)(Q:VK)(E:XK),sp vs H Q E->H f=some (FZ (PySem.W.kla_obj name qual params body scope cl pm c' ct))/\CodeZ H c' qual/\∃ws,Caps H cl fs ws /\
   ∀(A:Around)(outer:List Env)(s:Shared),Room k (A.deeper (PySem.W.envX qual scope s.heap.objs.size f (.ref c') cl)) ->
    ∃t,PE (job P w K mg base (ps++fs) qual scope f (.ref c') cl A outer s (hideC H (cl.map Prod.snd))) body t/\t (vs.map some++ws.map some) (hideC H (cl.map Prod.snd)) λv H'=>(∀c∈cl.map Prod.snd,H' c=none)->Q v (backC H H' (cl.map Prod.snd))) :
  FnOk P w K mg base CX0 (k+1) f (PySem.W.kla_fn name qual params body scope cl pm (.ref c') ct) ps sp:=by
 refine⟨len,λA outer s H G M vs Q E n d hb r h=>?_⟩
 have hl:=len _ _ _ _ h
 obtain⟨hf,⟨T,L,N,a,C,B⟩,ws,j,F⟩:=g vs H Q E h
 have x:s.heap.NoLimit:=d.mod.nolimit.keeps λb o e=>(d.bs b o e).1
 have l:∀c∈cl.map Prod.snd,∃o,H c=some (FZ o):=λc a=>by
  obtain⟨p,hp,rfl⟩:=Am.mp a;obtain⟨o,u,e,_⟩:=j.fz p hp;exact⟨o,e⟩
 refine PySem.W.kla_callFunE n.depth (FZ.get d.hok hf) rfl S.co S.gen rfl ⟨c',T,L,N,rfl,FZ.get d.hok a,C,B⟩ (hb _ _ _ _ ?_)
 refine Aat S.nocell (λy X=>S.par _ (Ye X).1) (λh1 D i=>⟨x.fresh _ i,?_⟩) S.kind
 show codeAny _ _ (.expr body (PySem.W.envX qual scope s.heap.objs.size f (.ref c') cl)) _ _
 have hk:∀b o,s.heap.get? b=some o->h1.get? b=some o:=λb o e=>i.extBut b o (A2 (Ax e)) (Ak _ e)
 obtain⟨t,Y,Z⟩:=F A outer s (n.deeper _)
 have I:=js2 (f:=f) (c':=c') (qual:=qual) (tk:=s.toks+(ps.zip M).length) S n.hd d hl r j D hk
 refine PySem.W.kla_codeExpr (Uv (Y [] _ _ _ _ I Z) (λu O m=>?_) λe O m=>False.elim m)
 obtain⟨v,H',J,R,q⟩:=m
 have U:∀c∈cl.map Prod.snd,c∉frs outer:=λc a z=>by
  obtain⟨o,e⟩:=l c a;rw[d.frf c z]at e;cases e
 exact⟨v,_,J.os,J.bare,Un.backC J.base l,HOk.backC d.hok J.hok J.base l U,R,q λc a=>by
  obtain⟨o,e⟩:=l c a;exact J.base.free c o (FZ.get d.hok e) (jd7 a) (by intro z;exact absurd (show c∈([]:List Addr)from z) (by simp))⟩
end
variable{H':Hp}{b c:Addr}{base:Heap}{cs:List (Addr×Obj)}{mg:Str->Option Value}
section
variable{X:Cx}
def jie(P:Program)(w:World)(K:PySem.W.Frag)(mg:Str->Option Value)(base:Heap)(k i:Nat)(t:TA):TE:=λσ H Q=>∃(f:Addr)(o:Obj)(fd:FuncData)(ps:List Str)(sp:Sp),σ[i]?=some (some (.ref f))/\o.data=.func fd /\
 FnOk P w K mg base CX0 k f fd ps sp/\Binds K fd ps []/\t σ H λvs H1=>H1 f=some (FZ o)/\sp vs H1 Q E0
theorem pe_callD(hP:X.prog=P)(B:X.w=w)(L:X.K=K)(J:X.mg=mg)(M:X.base=base){k:Nat}{x:Str}{p:Pos}{e:Expr}{es:List Expr}{t:TA}(i:Nat)(hr:Room k X.A)(ha:PA X (e::es) t)
  (hN:X.N[i]?=some x:=by rfl) (C:Vis X.env.scope x:=by first|exact Or.inl rfl|exact Or.inr (Or.inl rfl)|exact Or.inr (Or.inr rfl))
  (d:(x == ("__debug__":Str))=false:=by decide) (g:(x == ("__classdict__":Str))=false:=by decide) (D:starEach (e::es) X.env=(false,eval e X.env)::starEach es X.env:=by rfl) :
  PE X (.Call (.Name x p) (e::es) [] pos) (jie P w K mg base k i t):=by
 subst hP;subst B;subst L;subst J;subst M
 intro a s σ H Q I h
 obtain⟨f,o,fd,Y,m,R,E,F,G,h⟩:=h
 refine Uk (thn (jcf hN C d g a s σ H (λv T=>v=.ref f/\t σ T λj b=>b f=some (FZ o)/\m j b Q E0) I ⟨_,R,rfl,h⟩) λu n ⟨v,b,S,r,c,O⟩=>?_)
 subst c
 cases r
 refine callWith_def (o:=o) (fd:=fd) E (thn (ha pos a n σ b _ S O) λU W ⟨j,Z,l,q,z,y⟩=>⟨FZ.get l.hok z,?_⟩) D
 exact jqq F hr G .nil kc l q (by rw[O8];exact y)
def jc7(H:Hp)(cs:List (Addr×Obj)):Hp:=λb=>match cs.lookup b with
 |some o=>some (FZ o)
 |none=>H b
theorem jd9(e:cs.lookup b=some o):jc7 H cs b=some (FZ o):=by unfold jc7;rw[e]
theorem jc1(e:cs.lookup b=none):jc7 H cs b=H b:=by unfold jc7;rw[e]
theorem jhx(h:b∈cs.map Prod.fst):∃o,cs.lookup b=some o:=by
 cases e:cs.lookup b with
 |some o=>exact⟨o,rfl⟩
 |none =>
  obtain⟨p,a,rfl⟩:=Am.mp h;have:=List.lookup_eq_none_iff.mp e p a;simp at this
theorem jlg(h:b∉cs.map Prod.fst):cs.lookup b=none:=by
 refine List.lookup_eq_none_iff.mpr λp a=>?_;simp only[bne_iff_ne,ne_eq];rintro rfl;exact h (Am.mpr ⟨p,a,rfl⟩)
theorem Inv.env0C{pins:List (Addr×Obj)}{σ:St}(I:Inv X pins σ H s)(hc:∀b o,cs.lookup b=some o->s.heap.get? b=some o/\H b=none/\X.base.get? b=none/\b∉frs X.stack) :
  Env0 X.prog X.w X.K X.mg X.base X.A X.stack s (jc7 H cs):=by
 have e:=I.env0
 refine⟨e.frames,e.mod,λb o q=>⟨(e.bs b o q).1,?_⟩,e.bsz,e.funs,λb f=>?_,λb u q=>?_,e.bare⟩
 .cases z:cs.lookup b with
  |some o'=>rw[(hc b o' z).2.2.1]at q;cases q
  |none=>rw[jc1 z];exact(e.bs b o q).2
 .cases z:cs.lookup b with
  |some o'=>exact absurd f (hc b o' z).2.2.2
  |none=>rw[jc1 z];exact e.frf b f
 .cases z:cs.lookup b with
  |some o' =>
   rw[jd9 z]at q
   cases Aw q
   exact FZ.mk (hc b o' z).1
  |none =>
   rw[jc1 z]at q
   have a:∀c,(∃v,H c=some v)->jc7 H cs c=H c:=λc ⟨v,d⟩=>jc1 (by
    cases y:cs.lookup c with
    |none=>rfl
    |some o=>rw[(hc c o y).2.1]at d;cases d)
   exact(e.hok b u q).stay (λ_ _ _ y=>y) (λc y=>by rw[a c ⟨_,y⟩];exact y) λc g y=>by rw[a c ⟨_,y⟩];exact y
theorem Un.hideS{fs:List Addr}(u:Un fs [] (jc7 H cs) H' h h')(k:HOk P w H' h')(hc:∀b o,cs.lookup b=some o->h.get? b=some o/\H b=none):Un fs [] H (hideC H' (cs.map Prod.fst)) h h':=by
 have a:∀b v,H b=some v->cs.lookup b=none:=λb v e=>by
  cases y:cs.lookup b with
  |none=>rfl
  |some o=>rw[(hc b o y).2]at e;cases e
 have d:∀b v,H b=some v->b∉cs.map Prod.fst:=λb v e m=>by
  obtain⟨o,y⟩:=jhx m;rw[a b v e]at y;cases y
 have c:∀b o,cs.lookup b=some o->h'.get? b=some o:=λb o z=>FZ.get k (u.frzs b o _ (jd9 z));refine⟨λb o e n i f=>?_,λb o e n i f=>?_,λb o e n f=>?_,u.there,λb j e=>?_,λb o v e=>?_,λb l e=>?_⟩
 .cases z:cs.lookup b with
  |some o' =>
   have:=(hc b o' z).1;rw[e]at this;cases this;exact c b o z
  |none=>exact u.keep b o e (by rw[jc1 z];exact n) i f
 .cases z:cs.lookup b with
  |some o' =>
   have:=(hc b o' z).1;rw[e]at this;cases this;exact⟨o.slots,c b o z⟩
  |none=>exact u.slot b o e (by rw[jc1 z];exact n) i f
 .cases z:cs.lookup b with
  |some o' =>
   refine jd7 (Iu λm=>?_);rw[jlg m]at z;cases z
  |none=>exact jdi (u.free b o e (by rw[jc1 z];exact n) f)
 .rw[jcn (d b _ e)];exact u.tups b j (by rw[jc1 (a b _ e)];exact e)
 .rw[jcn (d b _ e)];exact u.frzs b o v (by rw[jc1 (a b _ e)];exact e)
 .obtain⟨g,q⟩:=u.tbls b l (by rw[jc1 (a b _ e)];exact e);exact⟨g,by rw[jcn (d b _ e)];exact q⟩
variable{pins:List (Addr×Obj)}{σ:St}{H:Hp}{s:Shared}
def jmp(σ:St)(H:Hp)(js:List (Nat×Addr))(cs:List (Addr×Obj)):Prop :=
 Paired (fun(j:Nat×Addr) (p:Addr×Obj)=>p.1=j.2/\H j.2=none/\∃v u,σ[j.1]?=some (some v)/\p.2.data=.cell (some u)/\RelV v u) js cs
theorem Inv.cellAt(I:Inv X pins σ H s){x:Str}{v:V}(hN:X.N[i]?=some x)(hk:X.env.kindOf x=some .cell)(hf:X.fn x=true)(hl:X.env.cells.lookup x=some c)(e:σ[i]?=some (some v)) :
  ∃o u,s.heap.get? c=some o/\o.data=.cell (some u)/\RelV v u/\H c=none/\X.base.get? c=none/\c∉frs X.stack:=by
 obtain⟨m,d,a⟩:=I.loc
 obtain⟨u,j,lk⟩:=a i x v hN e (.inr (.inl hk))
 rcases lk with⟨k,_⟩|⟨_,c',e',o,ho,hd⟩
 .rw[hk]at k;cases k
 .rw[hl]at e'
  cases Aw e'
  have f:=I.ok.cab x c hf hl
  refine⟨o,u,ho,hd,j,I.freeC x c hl,Heap.get?_none_of_le (Og I.ok.bsz f),λl=>?_⟩
  rcases At.mp (I.stkSub c l)with z|z
  .obtain⟨n,q,r,h,g,_⟩:=d
   rw[<-z,ho]at h
   cases Aw h
   rw[hd]at g;cases g
  .obtain⟨_,p,b,_⟩:=I.ok.funs.mem z
   exact absurd (Ax b) (Nat.not_lt.mpr f)
theorem jkw(I:Inv X pins σ H s):∀{js:List (Nat×Addr)},(∀j∈js,∃x,X.N[j.1]?=some x/\X.env.kindOf x=some .cell/\X.fn x=true/\X.env.cells.lookup x=some j.2)->(∀j∈js,∃v,σ[j.1]?=some (some v)) ->
  ∃cs,jmp σ H js cs/\∀b o,cs.lookup b=some o->s.heap.get? b=some o/\H b=none/\X.base.get? b=none/\b∉frs X.stack
 |[],_,_=>⟨[],.nil,λb o z=>by cases z⟩
 |j::js,h1,h2=>by
  obtain⟨cs,l,n⟩:=jkw I (js:=js) (λi a=>h1 i (.tail _ a)) λi a=>h2 i (.tail _ a);obtain⟨x,w,t,r,q⟩:=h1 j (.head _);obtain⟨v,d⟩:=h2 j (.head _);obtain⟨o,u,k,h,g,c,f,e⟩:=I.cellAt w t r q d;refine⟨(j.2,o)::cs,.cons ⟨rfl,c,v,u,d,h,g⟩ l,λb m z=>?_⟩;rw[List.lookup_cons]at z;split at z
  .rename_i p
   cases Aw z
   have:b=j.2:=by simpa using p
   subst this;exact⟨k,c,f,e⟩
  .exact n b m z
end
theorem jn9{pos':Pos}{c:Value}(l:List Value)(h:TriplesOk l){v:Value}(e:codeAmong pos' (l++[rawInt pos.line,rawInt pos.col,c])=some v):codeAmong pos' l=some v\/v=c:=by
 fun_induction TriplesOk l with
 |case1 =>
  simp only[List.nil_append,codeAmong,rawInt]at e;split at e
  .exact .inr (Aw e).symm
  .cases e
 |case2 a t b u x rest ih =>
  simp only[List.cons_append,codeAmong]at e⊢;split at e
  .rename_i d;rw[Al d];exact .inl e
  .rename_i d;rw[Ai d];exact ih h e
 |case3 l h1 h2=>exact h.elim
def TabOk(H:Hp)(Pt:Addr)(qual:Str):Prop:=∃ps,H Pt=some (.tbl ps)/\TriplesOk ps.toList/\∀pos cv,codeAmong pos ps.toList=some cv->∃c,cv=.ref c/\CodeZ H c qual
variable{qual:Str}
theorem CodeZ.kp{S:List Addr}(k:Kp S H H')(n:c∉S)(x:CodeZ H c qual):CodeZ H' c qual:=let⟨oc,vs,t,e,r⟩:=x;⟨oc,vs,t,k.old _ _ e n,r⟩
def tLam(Pt:Addr)(qual:Str)(params:Arguments)(body:Expr)(scope:Scope)(cl:List (Str×Addr))(pm:Value):TE:=λσ H Q=>TabOk H Pt qual/\∀f c ct H',H f=none->Kp [Pt] H H'->H' f=some (FZ (PySem.W.kla_obj "<lambda>" qual params body scope cl pm c ct))->CodeZ H' c qual->TabOk H' Pt qual->Q (.ref f) H'
variable{Pt:Addr}{cl:List (Str×Addr)}
section
variable{X:Cx}
theorem pe_lambda{params:Arguments}{body:Expr}{scope:Scope}(T:defaultsOf params X.env=([],[]))(R:closureFor scope X.env=pure cl)(k:X.env.code=.ref c)(hC:PySem.W.CodeHd X.base c Pt)(ag:X.base.BuiltinsAt X.mg Pt) :
  PE X (.Lambda params body scope pos) (tLam Pt (X.env.qual++"<lambda>") params body scope cl ((X.mg "__name__").getD .none)):=by
 intro ah s σ H Q I h
 obtain⟨⟨J,j,L,F⟩,h⟩:=h
 have Y:s.heap.get? Pt=some (PySem.W.tabObj J):=I.hok Pt _ j
 have G:s.heap.Ns mainGlobals X.mg:=I.mod.glob.keeps I.bk
 have af:mainGlobals≠Pt:=λq=>by
  obtain⟨o,es,ep,e,hd,_⟩:=G;rw[q,Y]at e;cases e;cases hd
 have hb:s.heap.BuiltinsAt X.mg Pt:=let⟨bm,o,b1,b2,b3,b4,b5,r⟩:=ag;⟨bm,o,b1,b2,b3,b4,I.bk _ _ b5,r⟩
 have C:=hC.keeps I.bk
 refine PySem.W.kla_eval T ?_
 cases D:codeAmong pos J.toList with
 |some cv =>
  obtain⟨c',rfl,cz⟩:=F pos cv D
  refine PySem.W.kla_makeFunctionHit (mg:=X.mg) R I.ok.glob G k C Y L D hb λi a tk hk P=>?_
  have D:H a.objs.size=none:=I.hok.fresh P
  have A:Kp [Pt] H (upd H a.objs.size (FZ (PySem.W.kla_obj "<lambda>" (X.env.qual++"<lambda>") params body scope cl ((X.mg "__name__").getD .none) c' i))):=(Kp.refl [Pt] H).new D
  have E:Kp [] H (upd H a.objs.size (FZ (PySem.W.kla_obj "<lambda>" (X.env.qual++"<lambda>") params body scope cl ((X.mg "__name__").getD .none) c' i))):=(Kp.refl [] H).new D
  refine⟨.ref a.objs.size,_,I.laid (t':=tk) (λb u e=>Ak _ (hk b u e)) P (FZ.mk (A4 _ rfl)),rfl,h _ c' i _ D A jb (cz.kp E (by simp)) ⟨J,E.old _ _ j Ae,L,λp v e=>?_⟩⟩
  obtain⟨B,N,z⟩:=F p v e
  exact⟨B,N,z.kp E (by simp)⟩
 |none =>
  refine PySem.W.kla_makeFunction (mg:=X.mg) R I.ok.glob G k C Y L D af hb λc' i a tk hx g x S O=>?_
  obtain⟨c₂,K,vs,t,N,ae,hd,hv⟩:=S
  cases N
  have lP:Pt<s.heap.objs.size:=Ax Y
  have Z:∀b u,H b=some u->b<s.heap.objs.size:=λb u e=>(I.hok b u e).lt
  have ac:Pt≠c':=A2 (Ic lP g)
  have ab:Pt≠a.objs.size:=A2 (Yx (Ic lP g) x)
  have aa:c'≠a.objs.size:=A2 x
  have fC:H c'=none:=I.hok.fresh g
  have fF:H a.objs.size=none:=I.hok.fresh (Og g (Yv x))
  let o1:Obj:=PySem.W.kla_obj "<lambda>" (X.env.qual++"<lambda>") params body scope cl ((X.mg "__name__").getD .none) c' i
  let ps':Array Value:=J++#[rawInt pos.line,rawInt pos.col,.ref c']
  let H':Hp:=upd (upd (upd H Pt (.tbl ps')) c' (FZ K)) a.objs.size (FZ o1)
  have eF:H' a.objs.size=some (FZ o1):=jb
  have eC:H' c'=some (FZ K):=by show upd _ _ _ c'=_;rw[jd aa,jb]
  have eP:H' Pt=some (.tbl ps'):=by show upd _ _ _ Pt=_;rw[jd ab,jd ac,jb]
  have eO:∀b,b≠Pt->b≠c'->b≠a.objs.size->H' b=H b:=λb n1 n2 n3=>by show upd _ _ _ b=_;rw[jd n3,jd n2,jd n1]
  have M:∀b,b<s.heap.objs.size->b≠Pt->H' b=H b:=λb l n=>eO b n (A2 (Ic l g)) (A2 (Yx (Ic l g) x))
  have A:Kp [Pt] H H':=by
   refine⟨λb o e n=>?_,λb U e=>?_,λb o e=>?_⟩
   .rw[M b (Z b _ e) (by simpa using n)];exact e
   .rw[M b (Z b _ e) (λz=>by rw[z,j]at e;cases e)];exact e
   .by_cases z:b=Pt
    .exact⟨_,by rw[z];exact eP⟩
    .exact⟨o,by rw[M b (Z b _ e) z];exact e⟩
  have f:∀b o,b≠Pt->s.heap.get? b=some o->(a.push o1).get? b=some o:=λb o n e=>Ak _ (hx b o n e)
  have un:Un (frs X.stack) [] H H' s.heap (a.push o1):=by
   refine⟨λb o e n _ _=>f b o (λz=>by rw[z,j]at n;cases n) e,λb o e n _ _=>⟨o.slots,f b o (λz=>by rw[z,j]at n;cases n) e⟩,λb o e n _=>?_,λb o e _=>?_,λb U e=>A.tup b U e,λb o u e=>?_,λb qs e=>?_⟩
   .rw[M b (Ax e) (λz=>by rw[z,j]at n;cases n)];exact n
   .by_cases z:b=Pt
    .exact⟨_,by rw[z];exact Ak _ O⟩
    .exact⟨o,f b o z e⟩
   .exact A.old b _ e (by simp;intro z;rw[z,j]at e;cases e)
   .by_cases z:b=Pt
    .subst z;rw[j]at e
     cases Aw e
     exact⟨_,eP⟩
    .exact⟨#[],by rw[M b (Z b _ e) z,e];simp⟩
  have ad:HOk X.prog X.w H' (a.push o1):=λb u q=>by
   by_cases z1:b=a.objs.size
   .subst z1;rw[eF]at q
    cases Aw q
    exact FZ.mk (A4 _ rfl)
   .by_cases z2:b=c'
    .subst z2;rw[eC]at q
     cases Aw q
     exact FZ.mk (Ak _ ae)
    .by_cases z3:b=Pt
     .subst z3;rw[eP]at q
      cases Aw q
      exact Ak _ O
     .rw[eO b z3 z2 z1]at q;refine(I.hok b u q).stay (λd v y e=>f d v ?_ e) (λd e=>?_) λd U e=>A.tup d U e
      .rcases y with rfl|y
       .exact z3
       .intro z;rw[z,j]at y;cases y
      .exact A.old d _ e (by simp;intro z;rw[z,j]at e;cases e)
  have nC:∀B,(∃o,H B=some (FZ o))->B∉[Pt]:=λB ⟨o,e⟩ m=>by
   rw[Ag.mp m,j]at e;cases e
  refine⟨.ref a.objs.size,H',I.call (g':=s.gens) (d':=s.drawn) (t':=tk) (ch:=[]) un ad I.bare (λb z=>absurd z (by simp)),rfl,h _ c' i H' fF A eF ⟨K,vs,t,eC,hd,hv⟩ ⟨ps',eP,?_,λp v e=>?_⟩⟩
  .have hl:ps'.toList=J.toList++[rawInt pos.line,rawInt pos.col,.ref c']:=by simp[ps']
   rw[hl];exact TriplesOk_snoc _ _ _ _ L
  .have hl:ps'.toList=J.toList++[rawInt pos.line,rawInt pos.col,.ref c']:=by simp[ps']
   rw[hl]at e
   rcases jn9 _ L e with e|rfl
   .obtain⟨B,N,z⟩:=F p v e
    exact⟨B,N,z.kp A (nC B (let⟨K,_,_,q,_⟩:=z;⟨K,q⟩))⟩
   .exact⟨c',rfl,K,vs,t,eC,hd,hv⟩
end
theorem jso{P:Addr}{ps:Array Value}(C:PySem.W.CodeHd h c P)(e:h.get? P=some (PySem.W.tabObj ps)):isCodeTable h P:=(C.tab e).isCodeTable
variable{fd:FuncData}{sp:Sp}{vs:List Value}
theorem jqa{R:Str->Option Value}{CX:CXT}{k:Nat}{T a:Addr}{x:Str}{s₁:Shared}{ns:List Int}{ts:List Addr}
  (KX:K.In s₁.heap) (G:s₁.heap.Ns mainGlobals mg) (hb:s₁.heap.Ns builtinsNs R) (Z:∀x:Str,x≠"__name__"->R x=bootBuiltins x) (L:s₁.heap.NoLimit) (hg:s₁.gens=#[])
  (ha:s₁.heap.get? a=some {cls:=.type "list",data:=.seq vs.toArray}) (hi:IntsAre vs ns) (hl:ns.length<=sizeLine) (hr:Room k callerA)
  (g:∀t∈ts,s₁.heap.get? t=some (PySem.W.tabObj #[])) (X:∀t∈ts,∃c,PySem.W.CodeHd s₁.heap c t) (aa:∀t∈ts,K.lookup t=none) (Y:∀t∈ts,s₁.heap.BuiltinsAt mg t)
  (F:∀base:Heap,K.In base->base.Ns mainGlobals mg->(∀t∈ts,base.BuiltinsAt mg t)->FnOk P w K mg base CX k T fd [x] sp) (B:∀(s:Shared)(u:Value),BindsTo s fd ⟨[u],[]⟩ [(x,u)])
  (U:∀H:Hp,SqL K H a (ns.map V.int)->(∀t∈ts,H t=some (.tbl #[]))->sp [.ref a] H (λv _=>v=.bl true) λ_ _ _=>False)
  (ab:∀H e s',CX [] H s₁ (λ_ _ _=>False) e s'->False) :
  codeAny (model P w) callerA (.call (.ref T) ⟨[.ref a],[]⟩) (λr s'=>r=.ok (.ret (.bool true))/\OldK s₁.heap s'.heap/\s'.os=s₁.os/\AllBare s'.gens) s₁:=by
 have rv:=jj9 hi
 have J:=hi.length
 have D:a∉ts:=λm=>by
  have:=g a m;rw[ha]at this
  cases this
 have A:∀H:Hp,(∀b,H b=none\/(∃o xs,H b=some (.frz o (.lst xs)))\/b∈ts)->(∀t∈ts,H t=some (.tbl #[]))->SqL K H a (ns.map V.int)->HOk P w H s₁.heap->(∀b,H b≠none->b=a\/b∈ts)->(H a≠none->K.lookup a=none) ->
   codeAny (model P w) callerA (.call (.ref T) ⟨[.ref a],[]⟩) (λr s'=>r=.ok (.ret (.bool true))/\OldK s₁.heap s'.heap/\s'.os=s₁.os/\AllBare s'.gens) s₁:=by
  intro H hO hT hS E hA hK
  have f:∀{b:Addr}{o:Obj},s₁.heap.get? b=some o->H b=none->(hidT s₁.heap H).get? b=some o:=λe n=>jre e n
  have C:∀{b:Addr}{o:Obj},s₁.heap.get? b=some o->(∀vs n,o.data≠.seq vs n)->(∀vs,o.data≠.fields vs)->H b=none:=fun{b o} e d1 d2=>by
   cases q:H b with
   |none=>rfl
   |some u =>
    rcases hA b (by rw[q];simp)with e'|e'
    .subst e';rw[ha]at e;cases e;exact absurd rfl (d1 _ _)
    .rw[g b e']at e;cases e;exact absurd rfl (d2 _)
  have l:∀{b:Addr}{m:Str->Option Value},s₁.heap.Ns b m->(hidT s₁.heap H).Ns b m:=fun{b m} ⟨o,es,ep,e,d,r⟩=>⟨o,es,ep,f e (C e (by rw[d];nofun) (by rw[d];nofun)),d,r⟩
  have I:K.In (hidT s₁.heap H):=λb o e=>f (KX b o e) (by
   cases q:H b with
   |none=>rfl
   |some u =>
    rcases hA b (by rw[q];simp)with e'|e'
    .subst e';rw[hK (by rw[q];simp)]at e;cases e
    .rw[aa b e']at e;cases e)
  have ac:∀t∈ts,(hidT s₁.heap H).BuiltinsAt mg t:=λt ht=>let⟨bm,o,b1,b2,b3,b4,b5,b6,b7,b8⟩:=Y t ht
   ⟨bm,o,b1,b2,b3,b4,f b5 (C b5 (by rw[b8];nofun) (by rw[b8];nofun)),b6,b7,b8⟩
  have hM:Mod K mg (hidT s₁.heap H):=⟨I,l G,⟨R,l hb,Z⟩,let⟨mc,h1,h2⟩:=L;⟨mc,l h1,h2⟩⟩
  have e0:Env0 P w K mg (hidT s₁.heap H) callerA [] s₁ H:=⟨rfl,hM,λb o e=>jtc e,Nat.le_of_eq (jpz _ _),trivial,λb hb=>absurd (show b∈([]:List Addr)from hb) (by simp),E,.of_eq hg⟩
  refine Yn ((F _ I (l G) ac).run callerA [] s₁ H ⟨[.ref a],[]⟩ [.ref a] [.ref a] _ _ hr e0 (B s₁ (.ref a)) (.cons rfl .nil) (U H hS hT)) λr s' h=>?_
  cases r with
  |error e=>exact(ab H e s' h).elim
  |ok fl =>
   cases fl with
   |next=>exact False.elim h
   |brk=>exact False.elim h
   |cont=>exact False.elim h
   |ret u =>
    obtain⟨v,H',os,M,Q,y,r',q⟩:=h
    have q':v=.bl true:=q
    subst q'
    obtain rfl:u=Value.bool true:=r'
    have i:∀b∈ts,∃N,s'.heap.get? b=some (PySem.W.tabObj N):=λb m=>by
     obtain⟨ad,e⟩:=Q.tbls b #[] (hT b m);exact⟨_,y b _ e⟩
    have p:∀b o,b∉ts->s₁.heap.get? b=some o->s'.heap.get? b=some o:=λb o m e=>by
     cases q:H b with
     |none=>exact Q.keep b o e q (by intro z;exact absurd (show b∈([]:List Addr)from z) (by simp)) (by simp)
     |some u =>
      rcases hO b with z|⟨ob,xs,z⟩|z
      .rw[q]at z;cases z
      .have z2:=Q.frzs b ob _ z;obtain⟨e1,_⟩:=E b _ z;obtain⟨O,_⟩:=y b _ z2;rw[e]at e1;cases e1;exact O
      .exact absurd z m
    refine⟨rfl,⟨λb o e=>?_,λb o e=>?_⟩,os,M⟩
    .by_cases m:b∈ts
     .obtain⟨c,hc⟩:=X b m
      obtain⟨N,S⟩:=i b m
      have O:=g b m
      rw[e]at O
      cases Aw O
      exact .inr (.inl ⟨jso hc (g b m),rfl,#[],N,rfl,by rw[Array.empty_append];exact S⟩)
     .exact .inl (p b o m e)
    .by_cases m:b∈ts
     .obtain⟨N,S⟩:=i b m
      exact⟨_,S⟩
     .exact⟨o,p b o m e⟩
 cases hk:K.lookup a with
 |some o =>
  have e:=KX a o hk
  rw[ha]at e
  cases e
  refine A (λb=>if b∈ts then some (.tbl #[])else none) (λb=>?_) (λt m=>Al m) (.inr ⟨_,vs.toArray,_,hk,rfl,rfl,rfl,by rw[A0,J];exact hl,by simpa using rv⟩) (λb u z=>?_) (λb z=>?_) λz=>absurd (Ai D) z
  .by_cases m:b∈ts
   .exact .inr (.inr m)
   .exact .inl (Ai m)
  .by_cases m:b∈ts
   .have j:=(Al m).symm.trans z
    cases j
    exact g b m
   .have j:=(Ai m).symm.trans z
    cases j
  .by_cases m:b∈ts
   .exact .inr m
   .exact absurd (Ai m) z
 |none =>
  refine A (λb=>if b∈ts then some (.tbl #[])else if b=a then some (.frz {cls:=.type "list",data:=.seq vs.toArray} (.lst (ns.map V.int)))else none) (λb=>?_) (λt m=>Al m) (.inl (.inr ⟨{cls:=.type "list",data:=.seq vs.toArray},(Ai D).trans (Al rfl)⟩)) (λb u z=>?_) (λb z=>?_) λ_=>hk
  .by_cases m:b∈ts
   .exact .inr (.inr m)
   .by_cases hb:b=a
    .exact .inr (.inl ⟨_,_,(Ai m).trans (Al hb)⟩)
    .exact .inl ((Ai m).trans (Ai hb))
  .by_cases m:b∈ts
   .have j:=(Al m).symm.trans z
    cases j
    exact g b m
   .by_cases hb:b=a
    .have j:=((Ai m).trans (Al hb)).symm.trans z
     cases j
     subst hb
     exact⟨ha,by rw[Ac];exact hl,vs,_,rv,ha⟩
    .have j:=((Ai m).trans (Ai hb)).symm.trans z
     cases j
  .by_cases m:b∈ts
   .exact .inr m
   .by_cases hb:b=a
    .exact .inl hb
    .exact absurd ((Ai m).trans (Ai hb)) z
theorem walk_ofT{l:PySem.W.OpenLaw}{k:Nat}{q:Program}{j:List Str}{XP:(Str->Option Value)->Heap->Prop}{z:World->Heap->Prop}{d:DefRec}{K:Params->PySem.W.Frag}{CX:World->CXT}{sp:World->Sp}{x:Str}{ts:List Addr}
  (hn:l.most=some n) (C:n<=sizeLine) (E:d.params.defaults=[]) (hr:Room k callerA)
  (R:∀(w:World)(h:Heap),z w h->(K w.params).In h) (hT:∀(w:World)(h:Heap),z w h->∀t∈ts,h.get? t=some (PySem.W.tabObj #[]))
  (X:∀(w:World)(h:Heap),(K w.params).In h->∀t∈ts,∃c,PySem.W.CodeHd h c t) (hN:∀w:World,∀t∈ts,(K w.params).lookup t=none)
  (F:∀(w:World)(mg:Str->Option Value)(fa:Addr)(h:Heap),(K w.params).In h->h.Ns mainGlobals mg->mg d.name=some (.ref fa) ->
   ∃fd:FuncData,(∀(s:Shared)(u:Value),BindsTo s fd ⟨[u],[]⟩ [(x,u)]) /\
    ∀base:Heap,(K w.params).In base->base.Ns mainGlobals mg->(∀t∈ts,base.BuiltinsAt mg t)->FnOk l.prog w (K w.params) mg base (CX w) k fa fd [x] (sp w))
  (B:∀(w:World)(H:Hp)(a:Addr)(ns:List Int),ns.length<=n->SqL (K w.params) H a (ns.map V.int)->(∀t∈ts,H t=some (.tbl #[]))->sp w [.ref a] H (λv _=>v=.bl true) λ_ _ _=>False)
  (I:∀(w:World)(H:Hp)(s:Shared)(e:Value)(s':Shared),CX w [] H s (λ_ _ _=>False) e s'->False) :
  PySem.W.WalkO q j XP z l.row.toRowW d [] (λf vs=>PySem.call f vs):=by
 refine Att.attach_call hn E λw s₀ M mg mb fa o pm cd ab a vs ns G Y ho J aa D r m i P=>?_
 have A:=R w _ Y
 have TX:=hT w _ Y
 obtain⟨fd,Q,U⟩:=F w mg fa _ A G.T.g D
 refine jqa (ts:=ts) A G.T.g G.T.b G.T.builtins G.T.nolimit P r m (Og i C) hr TX (X w _ A) (hN w) (λt O=>?_) U Q (λH S hT=>B w H a ns i S hT) λH e s'=>I w H M e s'
 obtain⟨Z,N,b1,b2,p,L,b5,y⟩:=G.T.bmain
 refine⟨Z,N,b1,b2,λq=>?_,λq=>?_,p,L,b5,y⟩
 .obtain⟨o,es,ep,e,J,_⟩:=G.T.g
  rw[q,e]at p;cases p;rw[J]at y;cases y
 .rw[q,TX t O]at p;cases p;cases L
section
variable{X:Cx}{o i:Expr}{td ty:TE}{pos:Pos}
theorem jbp(hP:X.prog=P)(c:X.w=w)(j:X.K=K)(g:X.mg=mg)(l:X.base=base){k:Nat}{x:Str}{p:Pos}{e:Expr}{es:List Expr}{t:TA}(i:Nat)(hr:Room k X.A)(ha:QA X (e::es) t)
  (hN:X.N[i]?=some x:=by rfl) (d:Vis X.env.scope x:=by first|exact Or.inl rfl|exact Or.inr (Or.inl rfl)|exact Or.inr (Or.inr rfl))
  (a:(x == ("__debug__":Str))=false:=by decide) (b:(x == ("__classdict__":Str))=false:=by decide) (f:starEach (e::es) X.env=(false,eval e X.env)::starEach es X.env:=by rfl) :
  QE X (.Call (.Name x p) (e::es) [] pos) (jie P w K mg base k i t):=⟨pe_callD hP c j g l i hr ha.h hN d a b f⟩
theorem jbc{params:Arguments}{body:Expr}{scope:Scope}{pm:Value}(g:X.env.qual++"<lambda>"=qual)(d:(X.mg "__name__").getD .none=pm)(a:X.env.code=.ref c)(h:PySem.W.CodeHd X.base c Pt)(f:X.base.BuiltinsAt X.mg Pt)
  (b:defaultsOf params X.env=([],[]):=by rfl) (e:closureFor scope X.env=pure cl:=by rfl):QE X (.Lambda params body scope pos) (tLam Pt qual params body scope cl pm):=by
 subst g;subst d
 exact⟨pe_lambda b e a h f⟩
structure QPP(X:Cx)(pos:Pos)(keys:List (Option Expr))(values:List Expr)(trs:List (TE×TE)):Prop where
 h:PPs X pos keys values trs
theorem qpps_nil:QPP X pos [] [] []:=⟨jb9⟩
theorem qpps_cons{k v:Expr}{ks:List (Option Expr)}{vs:List Expr}{tk tv:TE}{a:List (TE×TE)}(hk:QE X k tk)(b:QE X v tv)(hr:QPP X pos ks vs a):QPP X pos (some k::ks) (v::vs) ((tk,tv)::a):=⟨jbz hk.h b.h hr.h⟩
theorem qpe_disp{a:List (Option Expr)}{b:List Expr}{c:List (TE×TE)}(h:QPP X pos a b c)(d:a.all (·.isSome)=true:=by rfl)(hl:a.length=b.length:=by rfl)(f:a≠[]:=by nofun)(e:a.length<=15:=by decide):QE X (.Dict a b pos) (jge c):=⟨pe_disp h.h d hl f e⟩
end
theorem Fun.okC{x:Str}{st:Stmt}{f:Addr}{N:List Str}{k:Nat}(F:Fun K x qual st f fd)(S:FnScope N ps (jg st))(len:∀vs H Q E,sp vs H Q E->vs.length=ps.length)
  (a:∀(A:Around)(outer:List Env)(s:Shared)(H:Hp)(vs:List V)(Q:VK)(E:XK),Room k (A.deeper (envOfC qual (jg st) s.heap.objs.size f fd.code))->sp vs H Q E ->
   ∃t,PSs (cxOf CX0 P w K mg base N qual (jg st) f fd.code A outer s H E).nox (jx st) t/\t {nx:=λ_ H'=>Q .non H',rt:=Q} (start N vs) H):FnOk P w K mg base CX0 (k+1) f fd ps sp:=by
 obtain⟨m,l,kV,g,j,o,i,n,e,rfl,lk,c⟩:=F.ex
 refine jkb lk c S len λA outer s H vs Q E d b=>?_
 obtain⟨t,h,q⟩:=a A outer s H vs Q E d b
 exact⟨t,h.nox,q⟩
theorem Caps.kp{S:List Addr}{fs:List Str}{ws:List V}(k:Kp S H H')(n:∀p∈cl,p.2∉S)(c:Caps H cl fs ws):Caps H' cl fs ws :=
 ⟨c.len,λi x v g f=>let⟨a,o,u,h1,h2,h3,h4⟩:=c.at_ i x v g f;⟨a,o,u,h1,k.old _ _ h2 (n (x,a) (Uf h1)),h3,h4⟩,c.has,λp b=>let⟨o,u,e,d⟩:=c.fz p b;⟨o,u,k.old _ _ e (n p b),d⟩,c.inj⟩
theorem TabOk.kp{S:List Addr}(k:Kp S H H')(n:Pt∉S)(hc:∀c o,H c=some (FZ o)->c∉S)(x:TabOk H Pt qual):TabOk H' Pt qual :=
 let⟨ps,e,t,h⟩:=x
 ⟨ps,k.old _ _ e n,t,λp v q=>let⟨c,e2,z⟩:=h p v q;⟨c,e2,z.kp k (let⟨oc,_,_,q,_⟩:=z;hc c oc q)⟩⟩
section
variable{X:Cx}{o e f:Expr}{apos cpos:Pos}{td ty tx:TE}
def jig:TE:=λ_ H Q=>∀p,H p=none->Q (.ref p) (upd H p (.dK []))
theorem pe_disp0:PE X (.Dict [] [] pos) jig:=by
 intro b s σ H Q I q;have c:=I.hok.fresh (Ao s.heap.objs.size);have d:=I.laid (a:=s.heap.objs.size) (o:=.dK []) (h':=s.heap.push {cls:=.type "dict",data:=.dict #[]}) (t':=s.toks) (λ_ _ q=>Ak _ q) (Ao _) (jk4 s.heap I.big);exact wpAny_Dict_empty ⟨.ref s.heap.objs.size,_,d,rfl,q _ c⟩
theorem jbq:QE X (.Dict [] [] pos) jig:=⟨pe_disp0⟩
def jif(td ty tx:TE):TE:=λσ H Q=>td σ H λx H1=>∃a,x=.ref a/\IsD H1 a/\ty σ H1 λy H2=>tx σ H2 λz H3=>∃kvs k,H3 a=some (.dK kvs)/\y=kV k/\kvs.length<sizeLine /\
 (∀v,valV kvs k=some v->Q v H3)/\(valV kvs k=none->Q z (upd H3 a (.dK (putK kvs k z))))
theorem pe_dset(ho:PE X o td)(he:PE X e ty)(hf:PE X f tx)(m:M2 X o "setdefault" apos e f cpos):PE X (.Call (.Attribute o "setdefault" apos) [e,f] [] cpos) (jif td ty tx):=by
 intro g s σ H Q I h;refine wpAny_Call_method m.base m.few m.line PySem.F.plainAttrs_dict PySem.F.slot_dict_setdefault PySem.F.type_dict_setdefault (thn (ho g s σ H _ I h) λu P ⟨x,H1,J,S,a,ex,d,Y⟩=>?_);subst ex;obtain rfl:u=Value.ref a:=S;obtain⟨N,M,_⟩:=jtr J d;refine⟨N,M,?_⟩;rw[m.trees];refine Aah rfl (Calls.evalArgs_plain (Yd (thn (he g P σ H1 _ J Y) λiv O ⟨y,H2,I2,R,W⟩ =>
  Yd (thn (hf g O σ H2 _ I2 W) λfv s3 ⟨z,H3,p,B,c,k,E,ey,hl,U,T⟩=>Y9 ?_))))
 subst ey;obtain⟨K,D,n,b,G⟩:=jka p.hok E;have hz:n.length<=sizeLine:=by rw[<-b.length];exact K
 refine call_meetsIn PySem.F.slot_dict_setdefault G.typeIs PySem.F.entry_dict_setdefault (PySem.F.args_dict_setdefault_3 _ _ _) (kt_meets_setdefault (jck X.prog X.w) a (jey R) D fv) ⟨n,G,hz,λv C=>?_,λhn h' j hs=>?_⟩
 .cases l:valV c k with
  |none =>
   have:=b.val k;rw[l,C]at this
   cases this
  |some v' =>
   obtain⟨L,i,r⟩:=RelO.some_of (v:=v') (o:=valueAt n k) (by rw[<-l];exact b.val k);rw[C]at i
   cases i
   exact⟨v',H3,p.tok _,r,U v' l⟩
 .have Z:valV c k=none:=by
   cases l:valV c k with
   |none=>rfl
   |some v' =>
    obtain⟨L,i,_⟩:=RelO.some_of (v:=v') (o:=valueAt n k) (by rw[<-l];exact b.val k);rw[hn]at i;cases i
  have t:(putK c k z).length<=sizeLine:=by have:=jda c k z;omega
  have A:∃q,h'.get? a=some q:=let⟨q,_,_,hq,_⟩:=j;⟨q,hq⟩;exact⟨z,_,jee p (by rw[E];exact True.intro) hs A (je6 t D (b.put k B) j),B,T Z⟩
theorem qpe_dset(a:QE X o td)(b:QE X e ty)(hf:QE X f tx)(m:M2 X o "setdefault" apos e f cpos):QE X (.Call (.Attribute o "setdefault" apos) [e,f] [] cpos) (jif td ty tx):=⟨pe_dset a.h b.h hf.h m⟩
end
structure FunD(K:PySem.W.Frag)(x qual:Str)(st:Stmt)(f:Addr)(fd:FuncData)(td:Addr):Prop where
 ex:∃(oc:Value)(od:Option Addr)(kV doc pm:Value)(an:Option Addr)(cdv ct:Value)(osl:Array (Option Value)),
  fd=PySem.W.fnOf x qual (j6 st) (jx st) (jg st) (.ref td) kV doc pm an cdv ct/\K.lookup f=some ⟨oc,od,.func fd,osl⟩/\PySem.W.codeIn K cdv qual=true
 kp:PySem.W.keepIn K (.ref f)=true
variable{ds:List Value}
section
variable{P:Program}{w:World}{K:PySem.W.Frag}{mg:Str->Option Value}{base:Heap}{x qual:Str}{st:Stmt}{f td:Addr}{fd:FuncData}{N ps:List Str}{k:Nat}{sp:Sp}
theorem FunD.ok(F:FunD K x qual st f fd td)(S:FnScope N ps (jg st))(len:∀vs H Q E,sp vs H Q E->vs.length=ps.length)
  (a:∀(cdv:Value)(A:Around)(outer:List Env)(s:Shared)(H:Hp)(vs:List V)(Q:VK)(E:XK),Room k (A.deeper (envOfC qual (jg st) s.heap.objs.size f cdv))->sp vs H Q E ->
   ∃t,PSs (cxOf CX0 P w K mg base N qual (jg st) f cdv A outer s H E).nox (jx st) t/\t {nx:=λ_ H'=>Q .non H',rt:=Q} (start N vs) H):FnOk P w K mg base CX0 (k+1) f fd ps sp:=by
 obtain⟨l,j,kV,g,i,n,cdv,m,e,rfl,lk,c⟩:=F.ex
 refine jkb lk c S len λA outer s H vs Q E d b=>?_
 obtain⟨t,h,q⟩:=a cdv A outer s H vs Q E d b
 exact⟨t,h.nox,q⟩
theorem FunD.binds(F:FunD K x qual st f fd td)(lk:K.lookup td=some o)(hs:o.data=.seq items n)
  (h:∀(kV doc pm:Value)(an:Option Addr)(cdv ct:Value)(us:List Value),(us++ds).length=ps.length->∃g,bindArgs (PySem.W.fnOf x qual (j6 st) (jx st) (jg st) (.ref td) kV doc pm an cdv ct) ⟨us,[]⟩=(seqItems? (.ref td) >>= g)/\g (some items)=pure (ps.zip (us++ds))):Binds K fd ps ds:=by
 obtain⟨j,i,kV,doc,pm,an,cdv,ct,e,rfl,_,_⟩:=F.ex
 intro s us b a
 obtain⟨g,d,c⟩:=h kV doc pm an cdv ct us a
 exact BindsTo.of_defaults (T:=td) rfl (b _ _ lk) hs d c
theorem jm6{h:Value}{g e:Option Addr}{d:Array (Option Value)}{kV b pm a ct:Value}(l:K.lookup f=some ⟨h,g,.func (PySem.W.fnOf x qual (j6 st) (jx st) (jg st) (.ref td) kV b pm e a ct),d⟩)
  (c:PySem.W.codeIn K a qual=true) (k:PySem.W.keepIn K (.ref f)=true):FunD K x qual st f (PySem.W.fnOf x qual (j6 st) (jx st) (jg st) (.ref td) kV b pm e a ct) td:=⟨⟨h,g,kV,b,pm,e,a,ct,d,rfl,l,c⟩,k⟩
end
variable{d:Addr}
section
variable{X:Cx}{pins:List (Addr×Obj)}{σ:St}{H:Hp}{s:Shared}
theorem Inv.thaw{u:HO}(I:Inv X pins σ H s)(e:H d=some (.frz o u))(l:∀o u,X.H₀ d≠some (.frz o u)):Inv X pins σ (upd H d u) s:=by
 have a:∀b v,H b=v->(∀o u,v≠some (.frz o u))->b≠d:=λb v q n z=>n o u (by rw[<-q,z,e]);have f:∀{b:Addr}{v:HO},ObjOk X.prog X.w H s.heap b v->ObjOk X.prog X.w (upd H d u) s.heap b v:=λx=>x.stay (λ_ _ _ q=>q) (λc q=>by rw[jd (a c _ q (λ_ _ z=>nomatch z))];exact q) λc i q=>by rw[jd (a c _ q (λ_ _ z=>nomatch z))];exact q
 refine⟨I.ok,I.os,I.bare,⟨I.base.keep,I.base.slot,λb h q n m=>?_,I.base.there,λb i q=>?_,λb h v q=>?_,λb k q=>?_⟩,I.loc,I.cell,?_,λx c q=>?_,λp r=>?_,λb v q=>?_,I.len⟩
 .have:=I.base.free b h q n m;rw[jd (a b _ this (λ_ _ z=>nomatch z))];exact this
 .have:=I.base.tups b i q;rw[jd (a b _ this (λ_ _ z=>nomatch z))];exact this
 .rw[jd (λz=>l h v (by rw[<-z];exact q))];exact I.base.frzs b h v q
 .obtain⟨g,this⟩:=I.base.tbls b k q;exact⟨g,by rw[jd (a b _ this (λ_ _ z=>nomatch z))];exact this⟩
 .rw[jd (a _ _ I.free (λ_ _ z=>nomatch z))];exact I.free
 .have:=I.freeC x c q;rw[jd (a _ _ this (λ_ _ z=>nomatch z))];exact this
 .obtain⟨y,j,t⟩:=I.pin p r;exact⟨y,by rw[jd (a _ _ j (λ_ _ z=>nomatch z))];exact j,t⟩
 .by_cases hb:b=d
  .subst hb;rw[jb]at q
   cases q
   exact f (show ObjOk X.prog X.w H s.heap b (.frz o u)from I.hok b _ e).2
  .rw[jd hb]at q;exact f (I.hok b v q)
def jks(H0:Hp)(t:TS):TS:=λD σ H=>∃d,(∀o u,H0 d≠some (.frz o u))/\t {D with nx:=λσ' H'=>∃o u,H' d=some (.frz o u)/\D.nx σ' (upd H' d u)} σ H
theorem ps_thaw{st:Stmt}{t:TS}(h:PS X st t):PS X st (jks X.H₀ t):=by
 intro a s σ H D I ⟨d,g,q⟩;refine thn (h a s σ H _ I q) λi l b=>?_
 cases i with
 |next=>obtain⟨c,k,j,o,u,e,f⟩:=b;exact⟨c,upd k d u,j.thaw e g,f⟩
 |_=>exact b
theorem jb3{st:Stmt}{t:TS}(h:QS X st t):QS X st (jks X.H₀ t):=⟨ps_thaw h.h⟩
end
def ItK(d:Addr)(kvs:List (Key×V))(o:Obj):It:=⟨λi H=>i<kvs.length/\H d=some (.frz o (.dK kvs)),λi H x H'=>H'=H/\∃kv,kvs[i]?=some kv/\x=kV kv.1,λi H=>kvs.length<=i/\H d=some (.frz o (.dK kvs))⟩
theorem joc(ok:HOk P w H h)(e:H d=some (.frz o (.dK kvs))) :
  h.get? d=some o/\(d == sysModules)=false/\o.ExactDict/\∃es ep,o.data=.dict es ep/\es.size=kvs.length/\∀(i:Nat)(kv:Key×V),kvs[i]?=some kv->∃en,es[i]?=some en/\RelV (kV kv.1) en.key:=by
 obtain⟨g,z,y,c,r,C,es,ep,k,q,n,B,m,A⟩:=(show ObjOk P w H h d (.frz o (.dK kvs))from ok d _ e)
 rw[g]at k
 cases k
 have two:∀{kvs:List (Key×V)}{c:List (Key×Value)}{l:List DictEntry},KV kvs c->Pairs (jck P w) l c->l.length=kvs.length/\∀(i:Nat)(kv:Key×V),kvs[i]?=some kv->∃en,l[i]?=some en/\RelV (kV kv.1) en.key:=by
  intro kvs c l r;induction r generalizing l with
  |nil=>intro p;cases p;exact⟨rfl,λi kv e=>by simp at e⟩
  |cons h _ ih =>
   intro p
   cases p with
   |cons f _ t =>
    obtain⟨u,s⟩:=ih t;refine⟨by simp[u],λi kv e=>?_⟩
    cases i with
    |zero =>
     simp at e;subst e;refine⟨_,rfl,?_⟩;rw[h.1];rcases jcx f with⟨j,t,e1,e2⟩|⟨x,t,e1,e2⟩
     .rw[e1,e2];exact⟨t,rfl⟩
     .rw[e1,e2];exact⟨t,rfl⟩
    |succ i=>simp at e;obtain⟨en,a,b⟩:=s i kv e;exact⟨en,by simpa using a,b⟩
 obtain⟨f,v⟩:=two r m
 exact⟨g,y,q,es,ep,n,by simpa using f,λi kv e=>by obtain⟨en,a,b⟩:=v i kv e;exact⟨en,by simpa using a,b⟩⟩
theorem jtj{tg:Expr}(d it:Addr)(kvs:List (Key×V))(o:Obj)(es:Array DictEntry)(ep:Nat)(l:o.data=.dict es ep)(Y:es.size=kvs.length):Turn P w K tg (ItK d kvs o) [it] it (λi h=>h.IsKeyIter it d i es.size ep) where
 mem:=by simp
 obj:=λi h a b j=>by
  cases Ag.mp j
  obtain⟨L,e,c,q⟩:=a;exact⟨L,e,λv z=>by rw[q]at z;cases z⟩
 keep:=λi h t a k=>a.at λo e=>k it (by simp) o e
 item:=by
  intro X x u y M i f s σ H E I r a p;subst x u y;obtain⟨g,_,_,Z,aa,J,_,G⟩:=joc I.hok p.2;rw[l]at J
  cases J
  obtain⟨kv,n⟩:∃kv,kvs[i]?=some kv:=⟨kvs[i]'p.1,by simp⟩;obtain⟨S,Q,O⟩:=G i kv n;obtain⟨F,D,R,C,B,A⟩:=r it (by simp);refine js3 a g l Q λt m N=>?_;have W:Inv X f σ H {s with heap:=t}:=I.turned (t':=s.toks) (λb o j e=>(N.2 b j).trans e) F D C B A;obtain⟨L,T,c,q⟩:=id m;exact⟨S.key,rfl,jf9 (s:={s with heap:=t}) T c q (by decide) ⟨kV kv.1,H,W,O,⟨rfl,kv,n,rfl⟩,m,λb j=>(r b j).1⟩⟩
 done:=by
  intro X x u y M i f s σ H E I r a p;subst x u y;obtain⟨g,_⟩:=joc I.hok p.2;obtain⟨F,D,R,C,B,A⟩:=r it (by simp);have hi:=p.1;exact jtt (I.ok.hd M) a g l (by omega) λt U=>⟨rfl,I.turned (t':=s.toks) (λb o j e=>U b o j e) F D C B A⟩
 self:=λ_ _ _ _ _ a h=>wpAny_pyIter_keyiter a h
section
variable{X:Cx}{tg:Expr}
def rDK(x:V)(H1:Hp)(R:It->Hp->Prop):Prop:=∃d kvs,x=.ref d/\((H1 d=some (.dK kvs)/\∀o,R (ItK d kvs o) (upd H1 d (.frz o (.dK kvs))))\/∃o,H1 d=some (.frz o (.dK kvs))/\R (ItK d kvs o) H1)
def iDK(ta:TE):TI:=λσ H R=>ta σ H λx H1=>rDK x H1 R
theorem pi_dK{l:Expr}{tl:TE}(hl:PE X l tl):PI X tg l (iDK tl):=by
 intro c s σ H R I h;refine thn (hl c s σ H _ I h) λv s1 ⟨x,B,y,G,d,a,L,f⟩=>?_;subst L
 cases G
 have j:∀(i:Hp)(o:Obj),Inv X c σ i s1->i d=some (.frz o (.dK a))->R (ItK d a o) i->wpAny (model X.prog X.w) X.A (pyIter (.ref d)) (PIE X c σ tg R) X.xe s1:=by
  intro i o k e q;obtain⟨g,n,J,p,t,D,C,_⟩:=joc k.hok e;refine js4 n g J D ⟨s1.heap.objs.size,[s1.heap.objs.size],_,_,i,rfl,k.kept (t':=s1.toks) λb o e=>Ak _ e,jtj d _ a o p t D C,⟨_,A4 _ rfl,rfl,rfl⟩,λb K=>?_,q⟩
  cases Ag.mp K
  exact k.fpOk (Ao _) (k.hok.fresh (Ao _))
 rcases f with⟨e,f⟩|⟨o,e,f⟩
 .obtain⟨z,n,F,r,o,p,t,m,E⟩:=(show ObjOk X.prog X.w B s1.heap d (.dK a)from y.hok d _ e);exact j (upd B d (.frz o (.dK a))) o (y.write (t':=s1.toks) (x:=d) (e:=d) (by rw[e];exact True.intro) (.inl rfl) (λb u _ q=>q) ⟨o,m⟩ ⟨m,z,n,F,r,o,p,t,m,E⟩) jb (f o)
 .exact j B o y e f
theorem jb2{l:Expr}{tl:TE}(hl:QE X l tl):QI X tg l (iDK tl):=⟨pi_dK hl.h⟩
end
theorem jis{g:TG}{D:Ends}(Pv:Nat->L2.St->Hp->Prop)(h:Pv 0 σ H)(hl:∀i σ H,i<=kvs.length->Pv i σ H->H d=some (.frz o (.dK kvs)))
  (hs:∀i kv σ H,kvs[i]?=some kv->Pv i σ H->g (kV kv.1) σ H λσ2 H2=>tb {D with nx:=Pv (i+1),ct:=Pv (i+1),bk:=D.nx} σ2 H2) (hd:∀σ H,Pv kvs.length σ H->D.nx σ H):jc5 (ItK d kvs o) g tb D σ H:=by
 refine⟨λi m σ H=>m+i=kvs.length/\Pv i σ H,⟨kvs.length,rfl,h⟩,?_⟩
 rintro i m σ H ⟨k,p⟩
 have c:=hl i σ H (by omega) p
 rcases Nat.lt_or_ge i kvs.length with a|a
 .refine .inr ⟨⟨a,c⟩,Pv (i+1),λj e f=>⟨m-1,by omega,by omega,f⟩,?_⟩
  rintro x e ⟨rfl,kv,b,rfl⟩
  exact hs i kv σ e b p
 .obtain rfl:i=kvs.length:=by omega
  exact .inl ⟨⟨a,c⟩,hd σ H p⟩
section
variable{H:Hp}{D:Addr}{r:L2.St}{tt:TT}{te:TE}{E:Ends}
theorem jpf(p:V->Bool)(f:V->V)(hd:H d=some (.frz o (.dK kvs)))(k:H D=none)(hz:kvs.length<=sizeLine)
  (h:∀x∈kvs.map (λkv=>kV kv.1),∀l Q,Q (p x) (upd H D (.lst l))->tt (some x::r) (upd H D (.lst l)) Q) (j:∀x∈kvs.map (λkv=>kV kv.1),p x=true->∀l Q,Q (f x) (upd H D (.lst l))->te (some x::r) (upd H D (.lst l)) Q)
  (hn:∀v,E.nx (v::r) (upd H D (.lst (((kvs.map λkv=>kV kv.1).filter p).map f)))):jc5 (ItK d kvs o) (jc8 0) (jei D tt te) E (none::r) (upd H D (.lst [])):=by
 have g:d≠D:=je hd k
 refine jis (λi σ b=>∃v:Option V,σ=v::r/\b=upd H D (.lst ((((kvs.map λkv=>kV kv.1).take i).filter p).map f))) ⟨none,rfl,rfl⟩ ?_ ?_ ?_
 .rintro i σ b _ ⟨v,_,rfl⟩
  rw[jd g];exact hd
 .rintro i kv σ b a ⟨v,rfl,rfl⟩
  have c:(kvs.map λkv=>kV kv.1)[i]?=some (kV kv.1):=by rw[Ah,a];rfl
  have m:i<kvs.length:=(Ab.mp a).1
  have e:=Ap c
  have n:((((kvs.map λkv=>kV kv.1).take i).filter p).map f).length<=i:=by
   rw[Ac];exact Og (Oy _ _) (by rw[I0];omega)
  refine h _ e _ _ ?_
  by_cases q:p (kV kv.1)=true
  .rw[q,Al rfl]
   refine j _ e q _ _ ⟨_,by rw[jb];rfl,by omega,some (kV kv.1),rfl,?_⟩
   rw[jgi,jex p f _ i _ c,Al q]
  .rw[Ai q]
   refine⟨some (kV kv.1),rfl,?_⟩
   rw[jex p f _ i _ c,Ai q,O8]
 .rintro σ b ⟨v,rfl,rfl⟩
  have:=hn v
  rw[Ob (by simp)]
  exact this
end
section
variable{X:Cx}
def juo:List V->Hp->VK->Prop:=λxs H Q=>∃a kvs,xs=[.ref a]/\Rd H a (.dK kvs)/\Q (.int (kvs.length:Int)) H
theorem jbn:jcu X (.builtin "len") juo:=by
 intro b s σ H g i Q I r h;obtain⟨a,f,rfl,e,q⟩:=h;obtain⟨u,rfl,c⟩:=jc9 r
 cases c
 exact jud I e λt j d=>⟨.int _,H,d,⟨t,rfl⟩,q⟩
def jup:V->List V->Hp->VK->Prop:=λx vs H Q=>∃a kvs k v,x=.ref a/\vs=[kV k]/\H a=some (.dK kvs)/\valV kvs k=some v/\Q v (upd H a (.dK (jfh kvs k)))
theorem mt_popD:MtM X "dict.pop" jup:=by
 intro c s σ H x n v o Q I d f h;obtain⟨a,j,k,y,rfl,rfl,e,l,q⟩:=h
 cases d
 obtain⟨u,rfl,g⟩:=f.one;exact jue I e g l (.inl rfl) λm p i b=>⟨y,_,i,b,q⟩
def isDk(x:V)(H:Hp):Prop:=∃p kvs,x=.ref p/\H p=some (.dK kvs)
def tBMD(r:V->List V->Hp->VK->Prop)(to:TE)(t:TA):TE:=λσ H Q=>to σ H λx H1=>isDk x H1/\t σ H1 λxs H2=>r x xs H2 Q
theorem qpe_bmD{o e:Expr}{es:List Expr}{to:TE}{t:TA}{name:Str}{apos cpos:Pos}{id:String}{r:V->List V->Hp->VK->Prop}(slot:Slot "dict" name id)(g:typeOf (.builtin id)=pure (.type "method_descriptor"))(hm:MtM X id r)(i:QE X o to)(ha:QA X (e::es) t)(mono:∀σ H Q Q',(∀v H',Q v H'->Q' v H')->to σ H Q->to σ H Q')
  (c:attributeBase o name X.env (eval o X.env)=eval o X.env:=by rfl)
  (d:((backTo cpos (starEach (e::es) X.env)).all (λx=>!x.1) && (backToKw cpos (keywordEach [] X.env)).all (λx=>x.1.isSome)
   && decide ((e::es).length+([]:List Keyword).length+(if([]:List Keyword).isEmpty then 0 else 1)<30))=true:=by rfl)
  (b:(apos.endLine == cpos.line)=true:=by rfl) (hs:starEach (e::es) X.env=(false,eval e X.env)::starEach es X.env:=by rfl) (a:(backTo cpos (starEach es X.env)).any (·.1)=false:=by rfl) :
  QE X (.Call (.Attribute o name apos) (e::es) [] cpos) (tBMD r to t) :=
 ⟨(jbv PySem.F.plainAttrs_dict slot g hm i.h ha.h c d b hs a).imp λσ H Q h=>mono σ H _ _ (λv H' q=>⟨by
  obtain⟨⟨p,f,rfl,e⟩,_⟩:=q;exact .inr (.inr (.inl ⟨rfl,.inl ⟨f,e⟩⟩)),q.2⟩) h⟩
def Mono(t:TE):Prop:=∀σ H (Q Q':VK),(∀v H',Q v H'->Q' v H')->t σ H Q->t σ H Q'
theorem jfa(i:Nat):Mono (tVar i):=jcl
theorem jiu{a b:TE}(ha:Mono a)(hb:Mono b):Mono (tOp rIxU a b):=λσ H Q i h q=>ha σ H _ _ (λx g f=>hb σ g _ _ (λy j d=>by
 unfold rIxU at d⊢;split at d
 .exact⟨d.1,let⟨c,e,q3⟩:=d.2;⟨c,e,h _ _ q3⟩⟩
 .exact let⟨xs,e,v,e2,q3⟩:=d;⟨xs,e,v,e2,h _ _ q3⟩
 .exact d.elim) f) q
theorem jrl:Mono (tLst tNil):=λσ H Q b h q=>⟨q.1,λp a=>h _ _ (q.2 p a)⟩
theorem jqg{a b c:TE}(ha:Mono a)(hb:Mono b)(hc:Mono c):Mono (jif a b c):=λσ H Q w h q=>ha σ H _ _ (λx u ⟨d,e,i,m⟩=>⟨d,e,i,hb σ u _ _ (λy t l=>hc σ t _ _ (λz A ⟨f,k,s,r,p,j,g⟩=>⟨f,k,s,r,p,λv n=>h _ _ (j v n),λo=>h _ _ (g o)⟩) l) m⟩) q
end
section
variable{X:Cx}{pins:List (Addr×Obj)}{σ:St}{H:Hp}{s:Shared}
theorem jrr{k:Nat}{f:Addr}{Q:VK}{vs dvs:List V}(F:FnOk X.prog X.w X.K X.mg X.base CX0 k f fd ps sp)(hr:Room k X.A)(hb:Binds X.K fd ps ds)(hd:Vals dvs ds)
  (I:Inv X pins σ H s) (r:Vals vs us) (hc:∀b o,cs.lookup b=some o->s.heap.get? b=some o/\H b=none/\X.base.get? b=none/\b∉frs X.stack)
  (h:sp (vs++dvs) (jc7 H cs) (λv H2=>Q v (hideC H2 (cs.map Prod.fst))) E0):wpAny (model X.prog X.w) X.A (call (.ref f) us) (EP X pins σ Q) X.xe s:=by
 have j:Vals (vs++dvs) (us++ds):=r.append hd
 have p:(us++ds).length=ps.length:=by rw[<-j.length];exact F.len _ _ _ _ h
 refine wpAny_call (Yn (F.run X.A X.stack s (jc7 H cs) ⟨us,[]⟩ (us++ds) (vs++dvs) _ E0 hr (I.env0C hc) (hb s us I.kIn p) j h) λr t a=>?_)
 cases r with
 |error e=>exact False.elim a
 |ok fl =>
  cases fl with
  |ret u =>
   obtain⟨v,x,n,g,i,d,l,q⟩:=a
   refine I.after ⟨v,_,n,g,Un.hideS i d λb o z=>⟨(hc b o z).1,(hc b o z).2.1⟩,HOk.hideC d λc m=>?_,l,q⟩
   obtain⟨o,z⟩:=jhx m
   exact⟨o,i.frzs c o _ (jd9 z)⟩
  |next=>exact False.elim a
  |brk=>exact False.elim a
  |cont=>exact False.elim a
def ji1(js:List (Nat×Addr))(sp:Sp)(dvs:List V)(t:TA):TE:=λσ H Q=>t σ H λvs H1=>(∀j∈js,∃v,σ[j.1]?=some (some v))/\∀cs,jmp σ H1 js cs->sp (vs++dvs) (jc7 H1 cs) (λv H2=>Q v (hideC H2 (cs.map Prod.fst))) E0
theorem jbb{k:Nat}{f:Addr}{x:Str}{p:Pos}{e:Expr}{es:List Expr}{t:TA}{dvs:List V}(js:List (Nat×Addr))(d:∀j∈js,∃x,X.N[j.1]?=some x/\X.env.kindOf x=some .cell/\X.fn x=true/\X.env.cells.lookup x=some j.2)
  (F:FnOk X.prog X.w X.K X.mg X.base CX0 k f fd ps sp) (hr:Room k X.A) (hg:Gl X x) (hm:X.mg x=some (.ref f)) (hk:PySem.W.keepIn X.K (.ref f)=true) (hb:Binds X.K fd ps ds) (hd:Vals dvs ds) (ha:QA X (e::es) t)
  (g:(x == ("__debug__":Str))=false:=by decide) (m:starEach (e::es) X.env=(false,eval e X.env)::starEach es X.env:=by rfl) (c:(backTo pos (starEach es X.env)).any (·.1)=false:=by rfl) :
  QE X (.Call (.Name x p) (e::es) [] pos) (ji1 js sp dvs t):=by
 refine⟨λa s σ H Q I h=>?_⟩
 refine Uk (jnj I hg hm ?_ g)
 refine PySem.W.callWith_K (h₀:=X.base) I.ok.mod.kin hk (thn (ha.h pos a s σ H _ I h) λv y ⟨u,z,b,r,i,q⟩=>⟨b.kIn,?_⟩) m c
 obtain⟨o,l,n⟩:=jkw b d i
 exact jrr F hr hb hd b r n (q o l)
end
theorem jgs(xs:Array Nat)(j:Nat)(hr:xs.toList.Pairwise (·<·)):∀(fuel lo hi:Nat),hi-lo<=fuel->lo<=hi->hi<=xs.size->(∀k,k<lo->∀v,xs.toList[k]?=some v->v<j)->(∀k,hi<=k->∀v,xs.toList[k]?=some v->j<=v) ->
  (∀k,k<SetTable.below.go xs j fuel lo hi->∀v,xs.toList[k]?=some v->v<j)/\(∀k,SetTable.below.go xs j fuel lo hi<=k->∀v,xs.toList[k]?=some v->j<=v)/\SetTable.below.go xs j fuel lo hi<=xs.size
 |0,lo,hi,hf,hl,hs,h1,h2=>by
  rw[SetTable.below.go];exact⟨h1,λk f=>h2 k (by omega),by omega⟩
 |fuel+1,lo,hi,hf,hl,hs,h1,h2=>by
  rw[SetTable.below.go];have e:∀{a b:Nat}{x y:Nat},xs.toList[a]?=some x->xs.toList[b]?=some y->a<=b->x<=y:=fun{a b x y} ha hb hab=>by
   obtain⟨l,o⟩:=Ab.mp ha;obtain⟨i,n⟩:=Ab.mp hb;by_cases c:a=b
   .subst c;rw[<-o,<-n];exact Ao _
   .have:=(Ou.mp hr) a b l i (by omega);omega
  by_cases c:lo<hi
  .rw[Al c];have m:(lo+hi) / 2<xs.size:=by omega
   have h:xs.toList[(lo+hi) / 2]?=some (xs.getD ((lo+hi) / 2) j):=by
    rw[Ik,Ul,Ix m];rfl
   dsimp only;by_cases d:xs.getD ((lo+hi) / 2) j<j
   .rw[Al d];exact jgs xs j hr fuel _ hi (by omega) (by omega) hs (λk f v g=>by have:=e g h (by omega);omega) h2
   .rw[Ai d];exact jgs xs j hr fuel lo _ (by omega) (by omega) (by omega) h1 (λk f v g=>by have:=e h g f;omega)
  .rw[Ai c];exact⟨h1,λk f=>h2 k (by omega),by omega⟩
variable{xs:Array Nat}
theorem jgt(hr:xs.toList.Pairwise (·<·))(j:Nat):(∀k,k<SetTable.below xs j->∀v,xs.toList[k]?=some v->v<j)/\(∀k,SetTable.below xs j<=k->∀v,xs.toList[k]?=some v->j<=v)/\SetTable.below xs j<=xs.size:=by
 unfold SetTable.below;refine jgs xs j hr xs.size 0 xs.size (by omega) (Op _) (Ao _) (λk b=>by omega) λk b v a=>?_;have:=(Ab.mp a).1;rw[Array.length_toList]at this;omega
theorem jq1(hr:xs.toList.Pairwise (·<·)){j:Nat}(h:xs.toList[i]?=some j):SetTable.below xs j=i:=by
 obtain⟨g,f,m⟩:=jgt hr j;have e:=(Ab.mp h).1;rw[Array.length_toList]at e;by_cases c:i<SetTable.below xs j
 .have:=g i c j h;omega
 .by_cases d:SetTable.below xs j=i
  .exact d
  .have a:SetTable.below xs j<xs.toList.length:=by rw[Array.length_toList];omega
   have l:=f _ (Ao _) _ (Aa a);obtain⟨b,n⟩:=Ab.mp h;have k:=(Ou.mp hr) _ i a b (by omega);omega
structure LY(t:SetTable)(es:Array (Int×Value))(L:List (Nat×(Int×Value))):Prop where
 pl:t.place.toList=L.map Prod.fst
 el:es.toList=L.map Prod.snd
 ris:(L.map Prod.fst).Pairwise (·<·)
 dm:t.dummies=#[]
 mx:∀x∈L,x.1<=t.mask
theorem jm8(j:Nat):SetTable.has #[] j=false:=by
 unfold SetTable.has;simp
variable{L:List (Nat×(Int×Value))}{es:Array (Int×Value)}
theorem LY.rp{t:SetTable}(h:LY t es L):t.place.toList.Pairwise (·<·):=by rw[h.pl];exact h.ris
variable{e:Int×Value}
theorem LY.live{t:SetTable}(h:LY t es L){j:Nat}(m:(j,e)∈L):∃i,t.slot j=.live i/\es[i]?=some e:=by
 obtain⟨i,a⟩:=Il m;have b:t.place.toList[i]?=some j:=by rw[h.pl,Ah,a];rfl
 have c:es[i]?=some e:=by rw[<-Ik,h.el,Ah,a];rfl
 refine⟨i,?_,c⟩;unfold SetTable.slot;rw[jq1 h.rp b];have:(t.place[i]? == some j)=true:=by rw[<-Ik,b];simp
 simp only[this,Wp]
theorem LY.empty{t:SetTable}(h:LY t es L){j:Nat}(m:j∉L.map Prod.fst):t.slot j=.empty:=by
 unfold SetTable.slot;have:(t.place[SetTable.below t.place j]? == some j)=false:=by
  rw[<-Ik,h.pl]
  cases c:(L.map Prod.fst)[SetTable.below t.place j]? with
  |none=>rfl
  |some v =>
   have:v≠j:=λe=>m (e▸Ap c);simpa using this
 simp only[this,h.dm,jm8,Ir,O4]
theorem jfo{α:Type}(xs:Array α)(p:Nat)(x:α)(hp:p<=xs.size):(SetTable.insertAt xs p x).toList=xs.toList.take p++x::xs.toList.drop p:=by
 unfold SetTable.insertAt;simp only[On,Ug,Wu,List.extract_eq_take_drop,Nat.sub_zero,List.drop_zero];rw[A5,List.singleton_append];congr 2;rw[Ob];simp
theorem LY.put{t:SetTable}(h:LY t es L){j:Nat}(e:Int×Value)(y:j∉L.map Prod.fst)(jm:j<=t.mask) :
  ∃L',LY (t.put j).1 (SetTable.insertAt es (t.put j).2 e) L'/\(∀x,x∈L'↔x=(j,e)\/x∈L)/\L'.length=L.length+1/\(L'.map Prod.snd).Perm (e::L.map Prod.snd):=by
 obtain⟨w,v,u⟩:=jgt h.rp j
 have F:t.place.size=L.length:=by rw[<-Array.length_toList,h.pl,Ac]
 have E:es.size=L.length:=by rw[<-Array.length_toList,h.el,Ac]
 have n:(t.put j).2=SetTable.below t.place j:=rfl
 have o:(t.put j).1.place=SetTable.insertAt t.place (SetTable.below t.place j) j:=rfl
 have D:(t.put j).1.dummies=#[]:=by
  show(if SetTable.has t.dummies j=true then _ else t.dummies)=#[];rw[h.dm,jm8];rfl
 have C:(t.put j).1.mask=t.mask:=rfl
 generalize SetTable.below t.place j=p at w v u n o
 have g:(L.take p).map Prod.fst=(L.map Prod.fst).take p:=List.map_take ..
 have s:(L.drop p).map Prod.fst=(L.map Prod.fst).drop p:=List.map_drop ..
 have f:∀x,x∈L.take p++(j,e)::L.drop p↔x=(j,e)\/x∈L:=λx=>by
  rw[Ar,At];constructor
  .rintro(q|q|q)
   .exact .inr (Uy q)
   .exact .inl q
   .exact .inr (Ua q)
  .rintro(q|q)
   .exact .inr (.inl q)
   .rw[<-Oq p L,Ar]at q;exact q.elim .inl λq=>.inr (.inr q)
 refine⟨L.take p++(j,e)::L.drop p,⟨?_,?_,?_,D,λx A=>?_⟩,f,?_,?_⟩
 .rw[o,jfo _ _ _ u,h.pl,A6,Au,g,s]
 .rw[n,jfo _ _ _ (by omega),h.el,A6,Au,List.map_take,List.map_drop]
 .rw[A6,Au,g,s]
  have r:=h.ris
  rw[<-Oq p (L.map Prod.fst),Ia]at r
  have i:∀a∈(L.map Prod.fst).take p,a<j:=λa c=>by
   obtain⟨k,d⟩:=Il c;have l:k<p:=by have:=(Ab.mp d).1;rw[I0]at this;omega
   rw[Ow l,<-h.pl]at d;exact w k l a d
  have m:∀a∈(L.map Prod.fst).drop p,j<a:=λa c=>by
   obtain⟨k,d⟩:=Il c;rw[Ut,<-h.pl]at d;have q:=v (p+k) (by omega) a d;have:a≠j:=λz=>y (z▸Ua c);omega
  rw[Ia]
  refine⟨r.1,Wk.mpr ⟨m,r.2.1⟩,λa c b B=>?_⟩
  rcases At.mp B with q|q
  .rw[q];exact i a c
  .exact Yx (i a c) (m b q)
 .rw[C]
  rcases(f x).mp A with q|q
  .rw[q];exact jm
  .exact h.mx x q
 .rw[Aq,List.length_cons,I0,W7];omega
 .rw[A6,Au,List.map_take,List.map_drop]
  refine List.perm_middle.trans ?_
  rw[Oq]
def adv(m:Nat)(p:SetTable.Probe):SetTable.Probe :=
 if p.more>0 then{p with j:=p.j+1,more:=p.more-1}else
 {p with j:=(p.i*5+1+p.perturb / 32)%(m+1),more:=SetTable.runEnd m ((p.i*5+1+p.perturb / 32)%(m+1))-(p.i*5+1+p.perturb / 32)%(m+1),i:=(p.i*5+1+p.perturb / 32)%(m+1),perturb:=p.perturb / 32}
def pst(m:Nat)(h:Int):SetTable.Probe:={j:=SetTable.bits h%(m+1),more:=SetTable.runEnd m (SetTable.bits h%(m+1))-SetTable.bits h%(m+1),i:=SetTable.bits h%(m+1),perturb:=SetTable.bits h,dummy:=none}
def advN(m:Nat)(p:SetTable.Probe):Nat->SetTable.Probe
 |0=>p
 |n+1=>adv m (advN m p n)
theorem jek(m:Nat)(p:SetTable.Probe)(a:Nat):∀b,advN m (advN m p a) b=advN m p (a+b)
 |0=>rfl
 |b+1=>by show adv m (advN m (advN m p a) b)=adv m (advN m p (a+b));rw[jek m p a b]
structure PV(m:Nat)(p:SetTable.Probe):Prop where
 i:p.i<=m
 pe:p.perturb<2^64
 mo:p.more<=9
 jm:p.j+p.more<=m
 dm:p.dummy=none
variable{m:Nat}
theorem jf3(h:i<=m):SetTable.runEnd m i<=m/\i<=SetTable.runEnd m i/\SetTable.runEnd m i-i<=9:=by
 unfold SetTable.runEnd;split <;> omega
theorem PV.start(m:Nat)(h:Int):PV m (pst m h):=by
 have a:SetTable.bits h%(m+1)<=m:=by have:=Nat.mod_lt (SetTable.bits h) (show 0<m+1 by omega);omega
 obtain⟨d,c,b⟩:=jf3 a;refine⟨a,?_,b,?_,rfl⟩
 .show SetTable.bits h<2^64;unfold SetTable.bits;have:=Yz h (show(0:Int)<2^64 by decide);have:=Aav h (show(2^64:Int)≠0 by decide);omega
 .show SetTable.bits h%(m+1)+(SetTable.runEnd m (SetTable.bits h%(m+1))-SetTable.bits h%(m+1))<=m;omega
variable{p:SetTable.Probe}
theorem PV.adv(h:PV m p):PV m (adv m p):=by
 unfold L2.adv;by_cases c:p.more>0
 .rw[Al c];refine⟨h.i,h.pe,?_,?_,h.dm⟩
  .show p.more-1<=9;have:=h.mo;omega
  .show p.j+1+(p.more-1)<=m;have:=h.jm;omega
 .rw[Ai c];have a:(p.i*5+1+p.perturb / 32)%(m+1)<=m:=by have:=Nat.mod_lt (p.i*5+1+p.perturb / 32) (show 0<m+1 by omega);omega
  obtain⟨e,d,b⟩:=jf3 a;refine⟨a,?_,b,?_,h.dm⟩
  .show p.perturb / 32<2^64;have:=h.pe;exact Nat.lt_of_le_of_lt (Nat.div_le_self _ _) this
  .generalize(p.i*5+1+p.perturb / 32)%(m+1)=x at *;show x+(SetTable.runEnd m x-x)<=m;omega
theorem PV.advN{m:Nat}{p:SetTable.Probe}(h:PV m p):∀n,PV m (advN m p n)
 |0=>h
 |n+1=>(PV.advN h n).adv
theorem PV.j(h:PV m p):p.j<=m:=by have:=h.jm;omega
def lpI(m:Nat)(i pe:Nat):Nat->Nat×Nat
 |0=>(i,pe)
 |k+1=>(((lpI m i pe k).1*5+1+(lpI m i pe k).2 / 32)%(m+1),(lpI m i pe k).2 / 32)
theorem jd8{m:Nat}:∀(k:Nat){p:SetTable.Probe},k<=p.more->(advN m p k).more=p.more-k/\(advN m p k).j=p.j+k/\(advN m p k).i=p.i/\(advN m p k).perturb=p.perturb
 |0,p,_=>⟨rfl,rfl,rfl,rfl⟩
 |k+1,p,h=>by
  obtain⟨d,c,b,a⟩:=jd8 (m:=m) k (p:=p) (by omega);show(adv m (advN m p k)).more=_/\(adv m (advN m p k)).j=_/\(adv m (advN m p k)).i=_/\(adv m (advN m p k)).perturb=_;unfold adv;rw[Al (by omega)];exact⟨by show _-1=_;omega,by show _+1=_;omega,b,a⟩
theorem jrh(h:PV m p):∃d,d<=10/\1<=d/\(advN m p d).i=(p.i*5+1+p.perturb / 32)%(m+1)/\(advN m p d).perturb=p.perturb / 32/\(advN m p d).j=(p.i*5+1+p.perturb / 32)%(m+1)/\d=p.more+1:=by
 obtain⟨e,c,b,a⟩:=jd8 (m:=m) p.more (p:=p) (Ao _);have:=h.mo;refine⟨p.more+1,by omega,by omega,?_⟩;show(adv m (advN m p p.more)).i=_/\(adv m (advN m p p.more)).perturb=_/\(adv m (advN m p p.more)).j=_/\_;unfold adv;rw[Ai (by omega)];dsimp only;rw[b,a];exact⟨rfl,rfl,rfl,rfl⟩
theorem jjf{m:Nat}{p:SetTable.Probe}(h:PV m p):∀k,∃d,d<=10*k/\(advN m p d).i=(lpI m p.i p.perturb k).1/\(advN m p d).perturb=(lpI m p.i p.perturb k).2/\(1<=k->(advN m p d).j=(lpI m p.i p.perturb k).1)
 |0=>⟨0,by omega,rfl,rfl,λh=>by omega⟩
 |k+1=>by
  obtain⟨d,n,f,e,_⟩:=jjf h k;obtain⟨g,l,_,c,b,a,_⟩:=jrh (h.advN d);rw[jek]at c b a;rw[f,e]at c a;rw[e]at b;exact⟨d+g,by omega,c,b,λ_=>a⟩
theorem jqf(m i pe:Nat):∀k,(lpI m i pe k).2=pe / 32^k
 |0=>by simp[lpI]
 |k+1=>by
  show(lpI m i pe k).2 / 32=_;rw[jqf m i pe k,Nat.div_div_eq_div_mul,Nat.pow_succ]
def orb(m:Nat)(i:Nat):Nat->Nat
 |0=>i
 |k+1=>(orb m i k*5+1)%(m+1)
theorem jnm{m i pe:Nat}{k0:Nat}(h:(lpI m i pe k0).2=0):∀k,(lpI m i pe (k0+k)).1=orb m (lpI m i pe k0).1 k/\(lpI m i pe (k0+k)).2=0
 |0=>⟨rfl,h⟩
 |k+1=>by
  obtain⟨b,a⟩:=jnm h k;show((lpI m i pe (k0+k)).1*5+1+(lpI m i pe (k0+k)).2 / 32)%(m+1)=_/\(lpI m i pe (k0+k)).2 / 32=0;rw[b,a];exact⟨rfl,rfl⟩
def orbL(m:Nat):Nat->Nat->List Nat
 |i,0=>[i]
 |i,k+1=>i::orbL m ((i*5+1)%(m+1)) k
theorem jjl(m i:Nat):∀k,orb m ((i*5+1)%(m+1)) k=orb m i (k+1)
 |0=>rfl
 |k+1=>by show(orb m _ k*5+1)%(m+1)=_;rw[jjl m i k];rfl
theorem jlk(m:Nat):∀(n i j:Nat),j∈orbL m i n->∃k,k<=n/\orb m i k=j
 |0,i,j,h=>⟨0,Ao _,(Ag.mp h).symm⟩
 |n+1,i,j,h=>by
  rcases At.mp h with q|q
  .exact⟨0,Op _,q.symm⟩
  .obtain⟨k,b,a⟩:=jlk m n _ j q;exact⟨k+1,by omega,by rw[<-jjl];exact a⟩
theorem jga(m i:Nat)(a:Nat):∀b,orb m (orb m i a) b=orb m i (a+b)
 |0=>rfl
 |b+1=>by show(orb m (orb m i a) b*5+1)%(m+1)=(orb m i (a+b)*5+1)%(m+1);rw[jga m i a b]
def jdl(m:Nat):Prop:=m=7\/m=31\/m=127
theorem jtd(hm:jdl m){j:Nat}(hi:i<=m)(hj:j<=m):∃k,k<=m/\orb m i k=j:=by
 have f:(List.range (m+1)).all (λj=>(orbL m 0 m).contains j)=true:=by
  rcases hm with rfl|rfl|rfl <;> decide +kernel
 have e:orb m 0 (m+1)=0:=by
  rcases hm with rfl|rfl|rfl <;> decide +kernel
 have d:∀j,j<=m->∃k,k<=m/\orb m 0 k=j:=λj hj=>jlk m m 0 j (by simpa using Aal.mp f j (Av.mpr (by omega)));obtain⟨a,n,h⟩:=d i hi;obtain⟨b,l,g⟩:=d j hj;by_cases c:a<=b
 .exact⟨b-a,by omega,by rw[<-h,jga,show a+(b-a)=b by omega];exact g⟩
 .refine⟨m+1-a+b,by omega,?_⟩;rw[<-h,jga,show a+(m+1-a+b)=m+1+b by omega,<-jga,e];exact g
theorem jr4(hm:jdl m)(h:PV m p){j:Nat}(hj:j<=m):∃k d,k<=13+m/\1<=k/\d<=10*k/\(lpI m p.i p.perturb k).1=j/\(advN m p d).j=j:=by
 have z:(lpI m p.i p.perturb 13).2=0:=by
  rw[jqf];exact Nat.div_eq_of_lt (Yx h.pe (by decide))
 have g:(lpI m p.i p.perturb 13).1<=m:=by
  show(_%(m+1))<=m;exact Nat.le_of_lt_succ (Nat.mod_lt ((lpI m p.i p.perturb 12).1*5+1+(lpI m p.i p.perturb 12).2 / 32) (show 0<m+1 by omega))
 obtain⟨k,l,b⟩:=jtd hm g hj;obtain⟨d,f,_,_,e⟩:=jjf h (13+k);have c:=e (by omega);have a:=(jnm z k).1;exact⟨13+k,d,by omega,by omega,f,by rw[a,b],by rw[c,a,b]⟩
def pth(m:Nat)(h:Int)(n:Nat):SetTable.Probe:=advN m (pst m h) n
theorem jb1(m:Nat)(h:Int)(n:Nat):PV m (pth m h n):=(PV.start m h).advN n
def WayI(m:Nat)(L:List (Nat×(Int×Value))):Prop:=∀x∈L,∃n,(pth m x.2.1 n).j=x.1/\∀k,k<n->(pth m x.2.1 k).j∈L.map Prod.fst
theorem LY.uniq{t:SetTable}(h:LY t es L){j:Nat}{c:Int×Value}(m:(j,e)∈L)(d:(j,c)∈L):e=c:=by
 obtain⟨i,g,f⟩:=h.live m;obtain⟨k,b,a⟩:=h.live d;rw[g]at b
 cases b
 rw[f]at a;exact Aw a
theorem mem_fst{j:Nat}:j∈L.map Prod.fst↔∃e,(j,e)∈L:=by
 rw[Am];exact⟨fun⟨x,b,a⟩=>⟨x.2,by rw[<-a];exact b⟩,fun⟨e,h⟩=>⟨_,h,rfl⟩⟩
theorem jb0{t:SetTable}{es:Array (Int×Value)}{L:List (Nat×(Int×Value))}(hy:LY t es L){ha:Nat->Int}(hh:∀i e,es[i]?=some e->ha i=e.1)(h:Int):∀(fuel n:Nat),(∃d,d<fuel/\(pth t.mask h (n+d)).j∉L.map Prod.fst) ->
  ∃d,d<fuel/\(∀k,k<d->∃e,((pth t.mask h (n+k)).j,e)∈L/\e.1≠h) /\
   ((SetTable.probe.go t ha h fuel (pth t.mask h n)=some (.empty (pth t.mask h (n+d)).j none)/\(pth t.mask h (n+d)).j∉L.map Prod.fst) \/
    ∃e i,((pth t.mask h (n+d)).j,e)∈L/\e.1=h/\es[i]?=some e/\SetTable.probe.go t ha h fuel (pth t.mask h n)=some (.candidate (pth t.mask h (n+d)).j i (pth t.mask h (n+d+1))))
 |0,n,⟨d,hd,_⟩=>by omega
 |fuel+1,n,⟨d,hd,he⟩=>by
  by_cases c:(pth t.mask h n).j∈L.map Prod.fst
  .obtain⟨e,a⟩:=mem_fst.mp c;obtain⟨i,l,b⟩:=hy.live a;by_cases q:e.1=h
   .refine⟨0,by omega,λk g=>by omega,.inr ⟨e,i,a,q,b,?_⟩⟩;rw[SetTable.probe.go,l];dsimp only;rw[hh i e b,Al (by simpa using q)];rfl
   .have s:d≠0:=λz=>he (by rw[z];exact c);obtain⟨f,r,p,o⟩:=jb0 hy hh h fuel (n+1) ⟨d-1,by omega,by rw[show n+1+(d-1)=n+d by omega];exact he⟩;have m:SetTable.probe.go t ha h (fuel+1) (pth t.mask h n)=SetTable.probe.go t ha h fuel (pth t.mask h (n+1)):=by
     rw[SetTable.probe.go,l];dsimp only;rw[hh i e b,Ai (by simpa using q)];rfl
    refine⟨f+1,by omega,λk g=>?_,?_⟩
    .by_cases z:k=0
     .subst z;exact⟨e,a,q⟩
     .have:=p (k-1) (by omega);rw[show n+1+(k-1)=n+k by omega]at this;exact this
    .rw[m,show n+(f+1)=n+1+f by omega];exact o
  .refine⟨0,by omega,λk g=>by omega,.inl ⟨?_,c⟩⟩;rw[SetTable.probe.go,hy.empty c];dsimp only;rw[(jb1 t.mask h n).dm];rfl
theorem jsx(ris:(L.map Prod.fst).Pairwise (·<·))(hl:L.length<=m):∃j,j<=m/\j∉L.map Prod.fst:=Iu λo=>by
 have i:∀j,j<=m->j∈L.map Prod.fst:=λj q=>Iu λc=>o ⟨j,q,c⟩;have f:(List.range (m+1)).Nodup:=Iv;have d:∀x∈List.range (m+1),x∈L.map Prod.fst:=λx p=>i x (by have:=Av.mp p;omega);have h:∀(a b:List Nat),a.Nodup->(∀x∈a,x∈b)->a.length<=b.length:=λa=>by
  induction a with
  |nil=>intro b _ _;simp
  |cons x a ih =>
   intro b f d;obtain⟨n,g⟩:=Ot.mp f;have:=ih (b.erase x) g λy k=>(Wv (λe:y=x=>n (e▸k))).mpr (d y (.tail _ k));have l:=d x (.head _);rw[W8 l]at this;have:=Wh l;rw[List.length_cons];omega
 have:=h _ _ f d;rw[A1,Ac]at this;omega
theorem jsy(hm:jdl m)(ris:(L.map Prod.fst).Pairwise (·<·))(hl:L.length<=m)(h:Int)(n:Nat):∃d,d<10*SetTable.turns m/\(pth m h (n+d)).j∉L.map Prod.fst:=by
 obtain⟨j,b,a⟩:=jsx ris hl;obtain⟨k,d,c,_,f,_,e⟩:=jr4 hm (jb1 m h n) b;refine⟨d,by unfold SetTable.turns;omega,?_⟩;have:pth m h (n+d)=advN m (pth m h n) d:=(jek m (pst m h) n d).symm;rw[this,e];exact a
theorem jhq(hm:jdl m)(ris:(L.map Prod.fst).Pairwise (·<·))(hl:L.length<=m)(h:Int):∃N,N<10*SetTable.turns m/\(pth m h N).j∉L.map Prod.fst/\∀k,k<N->(pth m h k).j∈L.map Prod.fst:=by
 obtain⟨d,p,e⟩:=jsy hm ris hl h 0;rw[Nat.zero_add]at e;have b:∀d,(pth m h d).j∉L.map Prod.fst->∃N,N<=d/\(pth m h N).j∉L.map Prod.fst/\∀k,k<N->(pth m h k).j∈L.map Prod.fst:=λd=>by
  induction d using Nat.strongRecOn with
  |ind d ih =>
   intro o;by_cases c:∀k,k<d->(pth m h k).j∈L.map Prod.fst
   .exact⟨d,Ao _,o,c⟩
   .obtain⟨k,l,i⟩:∃k,k<d/\(pth m h k).j∉L.map Prod.fst:=Iu λg=>c λk n=>Iu λz=>g ⟨k,n,z⟩;obtain⟨N,f,a⟩:=ih k l i;exact⟨N,by omega,a⟩
 obtain⟨N,f,a⟩:=b d e;exact⟨N,by omega,a⟩
variable{N:Nat}
theorem WayI.put{L':List (Nat×(Int×Value))}(h:WayI m L)(hN:∀k,k<N->(pth m e.1 k).j∈L.map Prod.fst)(mem:∀x,x∈L'↔x=((pth m e.1 N).j,e)\/x∈L):WayI m L':=by
 have a:∀j,j∈L.map Prod.fst->j∈L'.map Prod.fst:=λj d=>by
  obtain⟨l,f⟩:=mem_fst.mp d;exact mem_fst.mpr ⟨l,(mem _).mpr (.inr f)⟩
 intro x c;rcases(mem x).mp c with q|q
 .subst q;exact⟨N,rfl,λk b=>a _ (hN k b)⟩
 .obtain⟨n,i,g⟩:=h x q;exact⟨n,i,λk b=>a _ (g k b)⟩
theorem WayI.found{t:SetTable}(hy:LY t es L)(h:WayI t.mask L){j:Nat}(m:(j,e)∈L)(hN:(pth t.mask e.1 N).j∉L.map Prod.fst):∃k,k<N/\(pth t.mask e.1 k).j=j:=by
 obtain⟨n,a,b⟩:=h _ m;refine⟨n,?_,a⟩;by_cases c:n<N
 .exact c
 .by_cases d:N=n
  .subst d;exact absurd (mem_fst.mpr ⟨e,by rw[a];exact m⟩) hN
  .exact absurd (b N (by omega)) hN
def Occ(ow:Array (Option Nat))(j:Nat):Prop:=∃k,ow.toList[j]?=some (some k)
structure LpS(m:Nat)(p:SetTable.Probe):Prop where
 v:PV m p
 ji:p.j=p.i
 mo:p.more=SetTable.runEnd m p.i-p.i
theorem jji(m i pe:Nat):∀k,lpI m ((i*5+1+pe / 32)%(m+1)) (pe / 32) k=lpI m i pe (k+1)
 |0=>rfl
 |k+1=>by
  show(((lpI m ((i*5+1+pe / 32)%(m+1)) (pe / 32) k).1*5+1+(lpI m ((i*5+1+pe / 32)%(m+1)) (pe / 32) k).2 / 32)%(m+1),(lpI m ((i*5+1+pe / 32)%(m+1)) (pe / 32) k).2 / 32)=_;rw[jji m i pe k];rfl
theorem LpS.next(h:LpS m p):LpS m (advN m p (p.more+1))/\(advN m p (p.more+1)).i=(p.i*5+1+p.perturb / 32)%(m+1)/\(advN m p (p.more+1)).perturb=p.perturb / 32:=by
 obtain⟨d,c,b,a⟩:=jd8 (m:=m) p.more (p:=p) (Ao _);have e:advN m p (p.more+1)=adv m (advN m p p.more):=rfl;have pv:=h.v.advN (p.more+1);rw[e]at pv⊢;unfold adv at pv⊢;rw[Ai (by omega)]at pv⊢;refine⟨⟨pv,rfl,rfl⟩,?_,?_⟩
 .show((advN m p p.more).i*5+1+(advN m p p.more).perturb / 32)%(m+1)=_;rw[b,a]
 .show(advN m p p.more).perturb / 32=_;rw[a]
theorem jjd{m:Nat}{ow:Array (Option Nat)}(sz:ow.size=m+1):∀(fuel:Nat){p:SetTable.Probe},LpS m p->(∃k,k<fuel/\¬Occ ow (lpI m p.i p.perturb k).1) ->
  ∃n,SetTable.layClean.free m ow fuel p.i p.perturb=some (advN m p n).j/\¬Occ ow (advN m p n).j/\∀k,k<n->Occ ow (advN m p k).j
 |0,p,_,⟨k,g,_⟩=>by omega
 |fuel+1,p,hp,⟨k,g,hf⟩=>by
  have x:=hp.v.i;obtain⟨E,D,C⟩:=jf3 x;have F:=hp.mo;have f:=hp.ji;have h:∀a,a<=m->((ow.getD a (some 0)).isNone=true↔¬Occ ow a):=λa A=>by
   have q:a<ow.size:=by omega
   rw[Ul,Ix q];show(ow[a]).isNone=true↔_;unfold Occ;rw[Ik,Ix q]
   cases ow[a]with
   |none=>simp
   |some k=>simp
  rw[SetTable.layClean.free]
  cases hq:(List.range (SetTable.runEnd m p.i+1-p.i)).find? λk=>(ow.getD (p.i+k) (some 0)).isNone with
  |some l =>
   obtain⟨w,u,t⟩:=List.find?_range_eq_some.mp hq;have G:=Av.mp u;obtain⟨_,b,_,_⟩:=jd8 (m:=m) l (p:=p) (by omega);refine⟨l,by rw[b,f],by rw[b,f];exact(h _ (by omega)).mp w,λk g=>?_⟩;obtain⟨_,b,_,_⟩:=jd8 (m:=m) k (p:=p) (by omega);rw[b,f];have:=t k g;exact Iu λc=>by rw[(h _ (by omega)).mpr c]at this;cases this
  |none =>
   have e:∀a,a<=p.more->Occ ow (p.i+a):=λa A=>Iu λc=>by
    have:=List.find?_eq_none.mp hq a (Av.mpr (by omega));exact this ((h _ (by omega)).mpr c)
   obtain⟨y,o,d⟩:=hp.next;have l:k≠0:=λz=>hf (by rw[z];exact e 0 (Op _));obtain⟨n,s,r,B⟩:=jjd sz fuel y ⟨k-1,by omega,by rw[o,d,jji,show k-1+1=k by omega];exact hf⟩;rw[jek]at s r;refine⟨p.more+1+n,?_,r,λk g=>?_⟩
   .rw[<-s,o,d];rfl
   .by_cases c:k<=p.more
    .obtain⟨_,b,_,_⟩:=jd8 (m:=m) k (p:=p) c;rw[b,f];exact e k c
    .have:=B (k-(p.more+1)) (by omega);rw[jek,show p.more+1+(k-(p.more+1))=k by omega]at this;exact this
structure OW(m:Nat)(hs:List Int)(ow:Array (Option Nat)):Prop where
 sz:ow.size=m+1
 ex:∀k,k<hs.length->∃j:Nat,ow.toList[j]?=some (some k)
 lt:∀(j k:Nat),ow.toList[j]?=some (some k)->k<hs.length
 un:∀(j j' k:Nat),ow.toList[j]?=some (some k)->ow.toList[j']?=some (some k)->j=j'
 way:∀(j k:Nat)(h:Int),ow.toList[j]?=some (some k)->hs[k]?=some h->∃n,(pth m h n).j=j/\∀i,i<n->Occ ow (pth m h i).j
theorem OW.nil(m:Nat):OW m [] (Array.replicate (m+1) none):=by
 have a:∀j k,(Array.replicate (m+1) (none:Option Nat)).toList[j]?≠some (some k):=λj k e=>by
  rw[Array.toList_replicate,Wb]at e;split at e <;> cases e
 exact⟨by simp,λk b=>by simp at b,λj k e=>absurd e (a j k),λj c k e=>absurd e (a j k),λj k h e=>absurd e (a j k)⟩
theorem nodup_len:∀(a b:List Nat),a.Nodup->(∀x∈a,x∈b)->a.length<=b.length:=λa=>by
 induction a with
 |nil=>intro b _ _;simp
 |cons x a ih =>
  intro b i c;obtain⟨h,d⟩:=Ot.mp i;have:=ih (b.erase x) d λy f=>(Wv (λe:y=x=>h (e▸f))).mpr (c y (.tail _ f));have g:=c x (.head _);rw[W8 g]at this;have:=Wh g;rw[List.length_cons];omega
variable{ow:Array (Option Nat)}
theorem OW.free{hs:List Int}(h:OW m hs ow)(hl:hs.length<=m):∃j,j<=m/\¬Occ ow j:=Iu λl=>by
 have d:∀j,j<=m->Occ ow j:=λj a=>Iu λc=>l ⟨j,a,c⟩;let f:Nat->Nat:=λj=>((ow.toList[j]?).getD none).getD 0
 have b:∀j,j<=m->ow.toList[j]?=some (some (f j)):=λj a=>by
  obtain⟨k,p⟩:=d j a;show _=some (some (((ow.toList[j]?).getD none).getD 0));rw[p];rfl
 have n:((List.range (m+1)).map f).Nodup:=by
  refine U7.mpr (List.Pairwise.imp_of_mem (fun{i j} g a hij e=>?_) Iv);have g:=Av.mp g;have a:=Av.mp a;have q:=b i (by omega);rw[e]at q;exact hij (h.un i j _ q (b j (by omega)))
 have:=nodup_len _ (List.range hs.length) n λx o=>by
  obtain⟨j,a,rfl⟩:=Am.mp o;have a:=Av.mp a;exact Av.mpr (h.lt j _ (b j (by omega)))
 rw[Ac,A1,A1]at this;omega
theorem OW.step(hm:jdl m){hs:List Int}(h:OW m hs ow)(hl:hs.length<=m)(x:Int) :
  ∃j,SetTable.layClean.free m ow (SetTable.turns m) (SetTable.bits x%(m+1)) (SetTable.bits x)=some j/\OW m (hs++[x]) (ow.setIfInBounds j (some hs.length)):=by
 obtain⟨K,H,G⟩:=h.free hl
 have p:LpS m (pst m x):=⟨PV.start m x,rfl,rfl⟩
 obtain⟨k,_,J,_,_,E,_⟩:=jr4 hm p.v H
 obtain⟨n,A,r,w⟩:=jjd h.sz (SetTable.turns m) p ⟨k,by unfold SetTable.turns;omega,by rw[E];exact G⟩
 have F:(advN m (pst m x) n).j<=m:=(p.v.advN n).j
 refine⟨_,A,?_⟩
 have u:∀i,pth m x i=advN m (pst m x) i:=λ_=>rfl
 generalize hj:(advN m (pst m x) n).j=j at r F
 have C:j<ow.toList.length:=by rw[Array.length_toList,h.sz];omega
 have f:∀i,(ow.setIfInBounds j (some hs.length)).toList[i]?=if j=i then some (some hs.length)else ow.toList[i]?:=λi=>by
  rw[Array.toList_setIfInBounds,List.getElem?_set];by_cases c:j=i
  .subst c;rw[Al rfl,Al rfl,Al C]
  .rw[Ai c,Ai c]
 have l:∀i,Occ ow i->Occ (ow.setIfInBounds j (some hs.length)) i:=λi ⟨k,q⟩=>by
  unfold Occ;rw[f];by_cases c:j=i
  .exact⟨_,by rw[Al c]⟩
  .exact⟨k,by rw[Ai c];exact q⟩
 refine⟨by rw[Y0];exact h.sz,λk q=>?_,λi k e=>?_,λi I k e g=>?_,λi k y e o=>?_⟩
 .rw[Aq,List.length_singleton]at q
  by_cases c:k=hs.length
  .exact⟨j,by rw[f,Al rfl,c]⟩
  .obtain⟨i,d⟩:=h.ex k (by omega)
   refine⟨i,?_⟩
   rw[f,Ai λz=>r ⟨k,by rw[z];exact d⟩];exact d
 .rw[f]at e
  rw[Aq,List.length_singleton]
  split at e
  .cases e;omega
  .have:=h.lt i k e;omega
 .rw[f]at e g
  split at e <;> split at g
  .rename_i a b;exact a.symm.trans b
  .cases e;have:=h.lt _ _ g;omega
  .cases g;have:=h.lt _ _ e;omega
  .exact h.un i I k e g
 .rw[f]at e
  split at e
  .rename_i c
   cases e
   rw[A9 (Ao _),Nat.sub_self]at o
   cases o
   exact⟨n,by rw[u,hj];exact c,λi d=>l _ (w i d)⟩
  .have D:=h.lt i k e
   rw[A8 D]at o
   obtain⟨B,t,s⟩:=h.way i k y e o
   exact⟨B,t,λi d=>l _ (s i d)⟩
theorem jgn{m:Nat}(hm:jdl m):∀(l:List Int)(hs:List Int)(ow:Array (Option Nat)),OW m hs ow->hs.length+l.length<=m+1 ->
  ∃ow',l.foldl (λacc h=>do
   let(owner,k) <-acc
   let j <-SetTable.layClean.free m owner (SetTable.turns m) (SetTable.bits h%(m+1)) (SetTable.bits h)
   pure (owner.setIfInBounds j (some k),k+1)) (some (ow,hs.length))=some (ow',(hs++l).length)/\OW m (hs++l) ow'
 |[],hs,ow,h,_=>⟨ow,by simp,by simpa using h⟩
 |x::l,hs,ow,h,hl=>by
  rw[List.length_cons]at hl;obtain⟨j,d,c⟩:=h.step hm (by omega) x;obtain⟨ow',b,a⟩:=jgn hm l (hs++[x]) _ c (by rw[Aq,List.length_singleton];omega);refine⟨ow',?_,by simpa using a⟩;rw[List.foldl_cons];have:(do
   let(owner,k) <-(some (ow,hs.length):Option (Array (Option Nat)×Nat))
   let j <-SetTable.layClean.free m owner (SetTable.turns m) (SetTable.bits x%(m+1)) (SetTable.bits x)
   pure (owner.setIfInBounds j (some k),k+1))=some (ow.setIfInBounds j (some hs.length),(hs++[x]).length):=by
   show(SetTable.layClean.free m ow (SetTable.turns m) (SetTable.bits x%(m+1)) (SetTable.bits x)).bind _=_
   rw[d]
   simp
  rw[this,b];simp
theorem jlf(hm:jdl m)(hs:Array Int)(hl:hs.size<=m+1):∃ow,SetTable.layClean m hs=some ow/\OW m hs.toList ow:=by
 obtain⟨ow,b,a⟩:=jgn hm hs.toList [] _ (OW.nil m) (by simpa using hl);refine⟨ow,?_,by simpa using a⟩;unfold SetTable.layClean;rw[<-Array.foldl_toList];have e:=b;rw[List.length_nil]at e;rw[e];rfl
def jde(m:Nat)(ow:Array (Option Nat)):List (Nat×Nat):=(List.range (m+1)).filterMap λj=>(ow.getD j none).map (j,·)
theorem jqc(sz:ow.size=m+1){j k:Nat}:(j,k)∈jde m ow↔ow.toList[j]?=some (some k):=by
 unfold jde;rw[Yw];constructor
 .rintro⟨a,h,e⟩;have d:a<ow.size:=by have:=Av.mp h;omega
  rw[Ul,Ix d]at e;have e:(ow[a]).map (a,·)=some (j,k):=e;obtain⟨b,g,f⟩:=Ih.mp e
  cases f
  rw[Ik,Ix d,g]
 .intro e;have c:=(Ab.mp e).1;rw[Array.length_toList,sz]at c;refine⟨j,Av.mpr c,?_⟩;rw[Ik]at e;rw[Ul,e];rfl
theorem jpt{f:Nat->Option (Nat×Nat)}(hf:∀j x,f j=some x->x.1=j):∀{l:List Nat},l.Pairwise (·<·)->((l.filterMap f).map Prod.fst).Pairwise (·<·)
 |[],_=>by simp
 |a::l,h=>by
  obtain⟨n,m⟩:=Wk.mp h;have i:=jpt hf m;rw[List.filterMap_cons]
  cases e:f a with
  |none=>exact i
  |some x =>
   dsimp only;rw[Au,Wk];refine⟨λb k=>?_,i⟩;obtain⟨y,d,rfl⟩:=Am.mp k;obtain⟨c,g,o⟩:=Yw.mp d;rw[hf a x e,hf c y o];exact n c g
theorem jjh(m:Nat)(ow:Array (Option Nat)):((jde m ow).map Prod.fst).Pairwise (·<·):=by
 unfold jde;refine jpt (λj x e=>?_) List.pairwise_lt_range;obtain⟨b,c,a⟩:=Ih.mp e;rw[<-a]
theorem perm_of_mem:∀{a b:List Nat},a.Nodup->b.Nodup->(∀x,x∈a↔x∈b)->a.Perm b
 |a,b,ha,hb,h=>(U2 ha hb).mpr h
theorem je7{α β:Type}{f:α->Option β}{g:α->β}:∀{l:List α},(∀x∈l,f x=some (g x))->l.filterMap f=l.map g
 |[],_=>rfl
 |x::l,h=>by
  rw[List.filterMap_cons,h x (.head _),Au,je7 λy a=>h y (.tail _ a)]
theorem js6{f mvs:Nat}{led pl:Bool}(hm:jdl m)(es:Array (Int×Value))(hl:es.size<=m) :
  ∃t order L,SetTable.laid m f mvs led pl (es.map (·.1))=some (t,order)/\t.mask=m/\t.led=led/\t.plain=pl/\LY t (order.filterMap (es[·]?)) L/\WayI m L/\(L.map Prod.snd).Perm es.toList/\L.length=es.size/\(order.filterMap (es[·]?)).size=es.size:=by
 obtain⟨b,F,h⟩:=jlf hm (es.map (·.1)) (by rw[Array.size_map];omega)
 have d:(es.map (·.1)).toList.length=es.size:=by simp
 have u:∀(k:Nat)(e:Int×Value),es.toList[k]?=some e->(es.map (·.1)).toList[k]?=some e.1:=λk e q=>by rw[Array.toList_map,Ah,q];rfl
 have a:=fun{j k:Nat}=>jqc (j:=j) (k:=k) h.sz
 let g:Nat×Nat->Int×Value:=λx=>es.toList.getD x.2 (0,.none)
 have A:∀x∈jde m b,es.toList[x.2]?=some (g x):=λx c=>by
  have:=h.lt x.1 x.2 (a.mp c);rw[d]at this;show _=some (es.toList.getD x.2 (0,.none));rw[Af,Aa (by rw[Array.length_toList];exact this)];rfl
 have s:((jde m b).map Prod.snd).Nodup:=by
  have r:=U7.mp (jjh m b);refine U7.mpr (List.Pairwise.imp_of_mem (fun{x y} c l hxy e=>?_) r);have p:=a.mp c;have o:=a.mp l;rw[e]at p;have:=h.un _ _ _ p o;omega
 have w:((jde m b).map Prod.snd).Perm (List.range es.size):=by
  refine perm_of_mem s Iv λk=>?_;rw[Av,<-d];constructor
  .intro q;obtain⟨x,c,rfl⟩:=Am.mp q;exact h.lt x.1 x.2 (a.mp c)
  .intro q;obtain⟨j,E⟩:=h.ex k q;exact Am.mpr ⟨(j,k),a.mpr E,rfl⟩
 have z:(jde m b).length=es.size:=by
  have:=w.length_eq;rw[Ac,A1]at this;exact this
 have B:(((jde m b).map Prod.snd).toArray.filterMap (es[·]?)).toList=(jde m b).map g:=by
  rw[Array.toList_filterMap];rw[List.filterMap_map];refine je7 λx c=>?_;show es[x.2]?=_;rw[<-Ik];exact A x c
 refine⟨{mask:=m,place:=((jde m b).map Prod.fst).toArray,dummies:=#[],finger:=f,led:=led,moves:=mvs,plain:=pl},((jde m b).map Prod.snd).toArray,(jde m b).map λx=>(x.1,g x),?_,rfl,rfl,rfl,⟨?_,?_,?_,rfl,?_⟩,?_,?_,by rw[Ac];exact z,?_⟩
 .unfold SetTable.laid
  rw[F];rfl
 .show((jde m b).map Prod.fst).toArray.toList=_
  rw[Az];rfl
 .rw[B,Az];rfl
 .rw[Az]
  exact jjh m b
 .intro x c
  obtain⟨y,l,rfl⟩:=Am.mp c
  have:=(Ab.mp (a.mp l)).1
  rw[Array.length_toList,h.sz]at this
  show y.1<=m
  omega
 .intro x c
  obtain⟨y,l,rfl⟩:=Am.mp c
  obtain⟨n,p,o⟩:=h.way y.1 y.2 (g y).1 (a.mp l) (u _ _ (A y l))
  refine⟨n,p,λk D=>?_⟩
  obtain⟨C,v⟩:=o k D
  rw[Az]
  exact Am.mpr ⟨(_,C),a.mpr v,rfl⟩
 .rw[Az]
  have H:(jde m b).map (Prod.snd∘λx=>(x.1,g x))=((jde m b).map Prod.snd).map λk=>es.toList.getD k (0,.none):=by rw[Az];rfl
  have G:(List.range es.size).map (λk=>es.toList.getD k (0,.none))=es.toList:=by
   refine Uc (by simp) λi p o=>?_;rw[Ud,Ox,Af,Aa o];rfl
  rw[H]
  exact(w.map _).trans (by rw[G])
 .rw[<-Array.length_toList,B,Ac];exact z
def inK(k:List Int):List Key:=k.map Sum.inl
section
variable{prog:Program}{w:World}{A:Around}{E:Value->Shared->Prop}{s:Shared}
abbrev IsTK(prog:Program)(w:World)(h:Heap)(k:List Int)(b:Addr):Prop:=IsTupleKey (jck prog w) h (inK k) b
abbrev hTK(prog:Program)(w:World)(k:List Int):Int:=tupleKeyHash (jck prog w) (inK k)
theorem jds:∀{k:List Int}{us:List Value},ItemsAre (jck prog w) (inK k) us->∀v∈us,∃i t,v=.int i t
 |[],_,h,v,a=>by cases h;cases a
 |i::k,_,h,v,a=>by
  cases h with
  |cons b h2 =>
   rcases At.mp a with rfl|a
   .have b:jfk (.inl i) v=true:=b;obtain⟨t,e⟩:=Value.isInt_shape (k:=i) (v:=v) b;exact⟨_,t,e⟩
   .exact jds h2 v a
theorem jfu{k:List Int}{Q:Bool->Shared->Prop}(hk:IsTK prog w s.heap k b)(h:Q false s):wpAny (model prog w) A (ofAClassStatement 8 (.ref b)) Q E s:=by
 have p:=hk.typeIs;obtain⟨o,d,n,j,_,m,l⟩:=hk;unfold ofAClassStatement;refine Ad (Aau p ?_);dsimp only;refine Ad (Aj ?_);refine Oo (λq=>absurd q (by decide)) (λ_=>?_);refine Ad (wpAny_seqItems j m ?_);refine Ad ?_;show wpAny _ _ (forIn d _ _) _ _ s;rw[<-Array.forIn_toList];refine wpAny_forIn_list _ (λa r e=>r.1=none/\e=s/\∀v∈a,∃i t,v=.int i t) _ ?_ ?_ _ _ ⟨rfl,rfl,jds l⟩
 .rintro v a r e ⟨f,rfl,c⟩;obtain⟨i,t,rfl⟩:=c v O7;refine Ad (show wpAny _ _ (ofAClassStatement 7 (.int i t)) _ _ _ from Aj ?_);simp only[Ir,O4];exact Aj ⟨rfl,rfl,λu g=>c u (Ov _ g)⟩
 .rintro⟨y,x⟩ e ⟨f,rfl,_⟩;simp only at f;subst f;exact Aj h
theorem jq2{k:List Int}{Q:Bool->Shared->Prop}(hk:IsTK prog w s.heap k b)(h:Q true s):wpAny (model prog w) A (hashByValue 8 (.ref b)) Q E s:=by
 have q:=hk.typeIs;obtain⟨o,e,n,l,_,p,m⟩:=hk;unfold hashByValue;refine Ad (wpAny_specialOf q F.slot_tuple_hash.lookup ?_);dsimp only;refine Ad (wpAny_seqItems l p ?_);refine Ad ?_;show wpAny _ _ (forIn e _ _) _ _ s;rw[<-Array.forIn_toList];refine wpAny_forIn_list _ (λc r f=>r.1=none/\f=s/\∀v∈c,∃i t,v=.int i t) _ ?_ ?_ _ _ ⟨rfl,rfl,jds m⟩
 .rintro v c r f ⟨g,rfl,d⟩;obtain⟨i,t,rfl⟩:=d v O7;refine Ad (show wpAny _ _ (hashByValue 7 (.int i t)) _ _ _ from wpAny_of_eq (a:=true) (by simp[hashByValue]) ?_);simp only[Wq,Ir,O4];exact Aj ⟨rfl,rfl,λu j=>d u (Ov _ j)⟩
 .rintro⟨y,x⟩ f ⟨g,rfl,_⟩;simp only at g;subst g;exact Aj h
theorem jrn{k:List Int}{ys:List Value}{Q:Bool->Shared->Prop}(hk:IsTK prog w s.heap k b)(g:∀v∈ys,∃b' k',v=.ref b'/\IsTK prog w s.heap k' b')(h:Q false s):wpAny (model prog w) A (searchCouldBeSeen (.ref b) ys) Q E s:=by
 unfold searchCouldBeSeen;refine Ad ?_;refine wpAny_forIn_list _ (λa r e=>r.1=none/\e=s/\∀v∈a,∃b' k',v=.ref b'/\IsTK prog w s.heap k' b') _ ?_ ?_ _ _ ⟨rfl,rfl,g⟩
 .rintro v a r e ⟨f,rfl,c⟩;obtain⟨b',k',rfl,d⟩:=c v O7;have j:∀u∈a,∃b' k',u=.ref b'/\IsTK prog w e.heap k' b':=λu i=>c u (Ov _ i);dsimp only;refine Oo (λ_=>Aj ⟨rfl,rfl,j⟩) (λ_=>?_);refine Ad (wpAny_eqIsQuiet_tuple hk ?_);simp only[Wq,Ir,O4];refine Ad (wpAny_eqIsQuiet_tuple d ?_);simp only[Wq,Ir,O4];refine Ad (jfu hk ?_);simp only[Ir,O4];refine Ad (jfu d ?_);simp only[Ir,O4];exact Aj ⟨rfl,rfl,j⟩
 .rintro⟨m,l⟩ e ⟨f,rfl,_⟩;simp only at f;subst f;exact Aj h
end
def keyT(kf:Addr->List Int)(e:Int×Value):List Int:=match e.2 with
 |.ref b=>kf b
 |_=>[]
section
variable{prog:Program}{w:World}{A:Around}{E:Value->Shared->Prop}{s:Shared}
structure TX(prog:Program)(w:World)(kf:Addr->List Int)(bd:Nat)(h:Heap)(a:Addr)(led:Bool)(ks:List (List Int))(o:Obj)(es:Array (Int×Value))(ep:Nat)(t:SetTable)(L:List (Nat×(Int×Value))):Prop where
 at_:h.get? a=some o
 ex:o.ExactSet
 dt:o.data=.set es ep t
 ly:LY t es L
 wy:WayI t.mask L
 mk_:jdl t.mask
 cn:L.length*5<t.mask*3
 en:∀e∈L.map Prod.snd,∃b,e=(hTK prog w (kf b),.ref b)/\IsTK prog w h (kf b) b/\b<bd
 ky:((L.map Prod.snd).map (keyT kf)).Perm ks
 nd:ks.Nodup
 ld:t.led=led
 pl:t.plain=true
variable{kf:Addr->List Int}{bd:Nat}{a:Addr}{led:Bool}{ks:List (List Int)}{o:Obj}{es:Array (Int×Value)}{ep:Nat}{t:SetTable}{L:List (Nat×(Int×Value))}
theorem TX.len(x:TX prog w kf bd h a led ks o es ep t L):es.size=L.length/\L.length=ks.length:=by
 refine⟨by rw[<-Array.length_toList,x.ly.el,Ac],?_⟩;have:=x.ky.length_eq;rw[Ac,Ac]at this;exact this
theorem TX.fits(x:TX prog w kf bd h a led ks o es ep t L):t.fits es.size=true:=by
 have e:t.place.size=L.length:=by rw[<-Array.length_toList,x.ly.pl,Ac]
 have d:=x.len.1;have c:=x.cn;have b:t.dummies.size=0:=by rw[x.ly.dm];rfl
 unfold SetTable.fits SetTable.fill;rw[Us,beq_iff_eq,Oj];exact⟨by omega,by omega⟩
theorem TX.mem(x:TX prog w kf bd h a led ks o es ep t L)(k:List Int):k∈ks↔∃j e,(j,e)∈L/\keyT kf e=k:=by
 rw[<-x.ky.mem_iff,Am];constructor
 .rintro⟨e,d,rfl⟩;obtain⟨y,b,rfl⟩:=Am.mp d;exact⟨y.1,y.2,b,rfl⟩
 .rintro⟨j,e,c,rfl⟩;exact⟨e,Am.mpr ⟨_,c,rfl⟩,rfl⟩
theorem TX.ent(x:TX prog w kf bd h a led ks o es ep t L){j:Nat}(m:(j,e)∈L):∃b,e=(hTK prog w (kf b),.ref b)/\IsTK prog w h (kf b) b/\keyT kf e=kf b:=by
 obtain⟨b,c,d,_⟩:=x.en e (Am.mpr ⟨_,m,rfl⟩);exact⟨b,c,d,by rw[c];rfl⟩
theorem jm9:∀{a b:List Int},inK a=inK b->a=b
 |[],[],_=>rfl
 |[],_::_,h=>by cases h
 |_::_,[],h=>by cases h
 |x::a,y::b,h=>by
  have h:(Sum.inl x:Key)::inK a=Sum.inl y::inK b:=h;injection h with h1 h2;injection h1 with h1;rw[h1,jm9 h2]
theorem jri(h:jdl m):(m%2 == 0)=false:=by rcases h with rfl|rfl|rfl <;> rfl
theorem jh7(x:TX prog w kf bd s.heap a led ks o es ep t L){b:Addr}{k:List Int}(hk:IsTK prog w s.heap k b)(hu:A.units<cLine){N:Nat}(n1:(pth t.mask (hTK prog w k) N).j∉L.map Prod.fst)(n2:∀i,i<N->(pth t.mask (hTK prog w k) i).j∈L.map Prod.fst)
  {Q:SetFound->Shared->Prop} (q1:k∈ks->Q (.there none) s) (q2:k∉ks->Q (.free (pth t.mask (hTK prog w k) N).j false) s) :
  ∀(fuel n:Nat)(st:Option SetTable.Probe),st.getD (t.probeStart (hTK prog w k))=pth t.mask (hTK prog w k) n->n<=N->N<n+fuel->(∀i,i<n->∃e,((pth t.mask (hTK prog w k) i).j,e)∈L/\keyT kf e≠k) ->
   wpAny (model prog w) A (setSearchFrom a (.ref b) (hTK prog w k) true fuel st) Q E s
 |0,n,st,_,nN,hf,_=>by omega
 |fuel+1,n,st,hst,nN,hf,no=>by
  have D:=x.fits;unfold setSearchFrom;refine Ad (Uq x.at_ x.dt D ?_);dsimp only;refine Oo (λq=>absurd q (by unfold SetTable.gaveWay;rw[jri x.mk_];decide)) (λ_=>?_);rw[hst];obtain⟨d,d1,I,d3⟩:=jb0 x.ly (ha:=λi=>(es[i]?.map (·.1)).getD 0) (λi e he=>by rw[he];rfl) (hTK prog w k) (10*SetTable.turns t.mask) n ⟨N-n,by
   obtain⟨J,q1,q2,Y⟩:=jhq x.mk_ x.ly.ris (by have:=x.cn;omega) (hTK prog w k);have:J=N:=by
    by_cases c:J<N
    .exact absurd (n2 J c) q2
    .by_cases c':N<J
     .exact absurd (Y N c') n1
     .omega
   omega,by rw[show n+(N-n)=N by omega];exact n1⟩
  rcases d3 with⟨g,ge⟩|⟨e,i,f,F,ei,g⟩
  .have Z:n+d=N:=by
    by_cases c:n+d<N
    .exact absurd (n2 _ c) ge
    .by_cases c':N<n+d
     .obtain⟨e,u,_⟩:=I (N-n) (by omega);rw[show n+(N-n)=N by omega]at u;exact absurd (mem_fst.mpr ⟨e,u⟩) n1
     .omega
   generalize l:t.probe _ (hTK prog w k) (pth t.mask (hTK prog w k) n)=m;have l:m=some (.empty (pth t.mask (hTK prog w k) (n+d)).j none):=l.symm.trans g;subst l;dsimp only;rw[Z];refine Aj (q2 λS=>?_);obtain⟨j,e,f,U⟩:=(x.mem k).mp S;obtain⟨b',H,W,G⟩:=x.ent f;have F:e.1=hTK prog w k:=by rw[H,<-U,G]
   obtain⟨i,i1,K⟩:=WayI.found x.ly x.wy f (N:=N) (by rw[F];exact n1);rw[F]at K;by_cases c:i<n
   .obtain⟨C,h,B⟩:=no i c;rw[K]at h;exact B (by rw[x.ly.uniq h f];exact U)
   .obtain⟨C,h,B⟩:=I (i-n) (by omega);rw[show n+(i-n)=i by omega,K]at h;exact B (by rw[x.ly.uniq h f];exact F)
  .generalize l:t.probe _ (hTK prog w k) (pth t.mask (hTK prog w k) n)=m;have l:m=some (.candidate (pth t.mask (hTK prog w k) (n+d)).j i (pth t.mask (hTK prog w k) (n+d+1))):=l.symm.trans g;subst l;dsimp only;obtain⟨b',H,W,G⟩:=x.ent f;have aa:n+d<N:=by
    by_cases c:n+d<N
    .exact c
    .by_cases c':N<n+d
     .obtain⟨C,u,_⟩:=I (N-n) (by omega);rw[show n+(N-n)=N by omega]at u;exact absurd (mem_fst.mpr ⟨C,u⟩) n1
     .rw[show n+d=N by omega]at f;exact absurd (mem_fst.mpr ⟨e,f⟩) n1
   have X:∀v∈(es.filter (·.1 == hTK prog w k)).toList.map (·.2),∃b' k',v=.ref b'/\IsTK prog w s.heap k' b':=λv hv=>by
    obtain⟨y,r,rfl⟩:=Am.mp hv;rw[Array.toList_filter]at r;have r:=(Iy.mp r).1;rw[x.ly.el]at r;obtain⟨O,M,f2,_⟩:=x.en y r;exact⟨O,kf O,by rw[M],f2⟩
   obtain⟨i',R,T⟩:=x.ly.live f;have P:t.sameMemory t.moves t.mask=some true:=by unfold SetTable.sameMemory;rw[Al (by simp)]
   have p:=jh7 x hk hu n1 n2 q1 q2 fuel (n+d+1) (some (pth t.mask (hTK prog w k) (n+d+1))) rfl (by omega) (by omega);refine Oo (λ_=>Ad (jrn hk X ?_)) (λ_=>?_);rotate_left;all_goals
    try simp only[Ir,O4]
    rw[ei,H]
    dsimp only
    refine Ad (O0 (wpAny_eqBool_tuple hu W hk ?_))
    refine Ad (Uq x.at_ x.dt D ?_)
    dsimp only
    by_cases c:kf b'=k
    .rw[Al (by rw[c];simp)]
     exact Aj (q1 ((x.mem k).mpr ⟨_,e,f,by rw[G,c]⟩))
    .have cd:decide (inK (kf b')=inK k)=false:=O3 λz=>c (jm9 z)
     rw[cd,Ai (by simp),P]
     dsimp only
     rw[Al rfl,R]
     dsimp only
     rw[T,H]
     dsimp only
     refine Ad (wpAny_isSame_ref_self ?_)
     refine Ad (Aj ?_)
     rw[Al rfl]
     dsimp only
     rw[Ai (by simp)]
     refine p λi hi=>?_
     by_cases c1:i<n
     .exact no i c1
     .by_cases c2:i=n+d
      .subst c2;exact⟨e,f,by rw[G];exact c⟩
      .obtain⟨C,h,B⟩:=I (i-n) (by omega)
       rw[show n+(i-n)=i by omega]at h
       refine⟨C,h,λz=>B ?_⟩
       obtain⟨O,M,_,f3⟩:=x.ent h
       rw[M,<-z,f3]
end
def stpT(ks:List (List Int))(k:List Int):List (List Int):=if k∈ks then ks else ks++[k]
section
variable{prog:Program}{w:World}{A:Around}{E:Value->Shared->Prop}{s:Shared}
variable{kf:Addr->List Int}{bd:Nat}{a:Addr}{led:Bool}{ks:List (List Int)}{o:Obj}{es:Array (Int×Value)}{ep:Nat}{t:SetTable}{L:List (Nat×(Int×Value))}
def TXO(prog:Program)(w:World)(kf:Addr->List Int)(bd:Nat)(h:Heap)(a:Addr)(led:Bool)(ks:List (List Int)):Prop:=∃o es ep t L,TX prog w kf bd h a led ks o es ep t L
theorem jej{k:List Int}(x:IsTK prog w h k b)(e:∀o,h.get? b=some o->h'.get? b=some o):IsTK prog w h' k b:=by
 obtain⟨c,a,n,d,r⟩:=x;exact⟨c,a,n,e _ d,r⟩
theorem jur{k:List Int}(x:IsTK prog w h k b)(f:h.get? a=some o)(hd:o.data=.set es ep t):b≠a:=λz=>by
 obtain⟨g,c,n,e,_,d,_⟩:=x;rw[z,f]at e
 cases e
 rw[hd]at d;cases d
theorem ji2{k:List Int}(x:IsTK prog w h k b)(c:h.get? a=some o)(hd:o.data=.set es ep t)(hs:Heap.SameBut a h h'):IsTK prog w h' k b :=
 jej x λd e=>(hs.2 b (jur x c hd)).trans e
theorem jl5(b:Array (Int×Value))(t':SetTable)(c:h.get? a=some o)(hd:o.data=.set es ep t):(h.update a (Obj.putSet b t')).get? a=some {o with data:=.set b (ep+1) t'}:=by
 have e:=Uh (Obj.putSet b t') c (by rw[putSet_of b t' hd];rfl);rwa[putSet_of b t' hd]at e
theorem TX.to(x:TX prog w kf bd h a led ks o es ep t L)(d:h'.get? a=some o)(e:∀b o,b<bd->h.get? b=some o->h'.get? b=some o):TX prog w kf bd h' a led ks o es ep t L :=
 ⟨d,x.ex,x.dt,x.ly,x.wy,x.mk_,x.cn,λy c=>let⟨b,q1,q2,q3⟩:=x.en y c;⟨b,q1,jej q2 λo=>e b o q3,q3⟩,x.ky,x.nd,x.ld,x.pl⟩
theorem jof(hm:jdl m)(h1:n*5<m*3)(h2:¬(n+1)*5<m*3)(h3:n+1<=76):∃m',SetTable.sizeAbove (SetTable.grown (n+1))-1=m'/\jdl m'/\(n+1)*5<m'*3/\SetTable.sizeAbove (SetTable.grown (n+1))<=sizeLine:=by
 have a:=Uo;rcases hm with rfl|rfl|rfl
 .have:n=4:=by omega
  subst this;exact⟨31,by decide,.inr (.inl rfl),by decide,by rw[a];decide⟩
 .have:n=18:=by omega
  subst this;exact⟨127,by decide,.inr (.inr rfl),by decide,by rw[a];decide⟩
 .omega
theorem jsl(hS:TXO prog w kf bd s.heap a led ks){k:List Int}(hk:IsTK prog w s.heap k b)(I:kf b=k)(ad:b<bd)(hu:A.units<cLine)(hr:ks.length+1<=76){Q:Bool->Shared->Prop}
  (h:∀h',Heap.SameBut a s.heap h'->TXO prog w kf bd h' a led (stpT ks k)->∀bb,Q bb {s with heap:=h'}) :
  wpAny (model prog w) A (setAddHashed a (.ref b) (hTK prog w k)) Q E s:=by
 obtain⟨o,K,ep,t,L,x⟩:=hS
 have R:=x.fits
 obtain⟨l1,l2⟩:=x.len
 obtain⟨N,N0,N1,N2⟩:=jhq x.mk_ x.ly.ris (by have:=x.cn;omega) (hTK prog w k)
 have af:=Uo
 have NT:N<2000:=by
  have:=x.mk_;unfold SetTable.turns at N0;rcases this with e|e|e <;> omega
 unfold setAddHashed
 refine O0 ?_
 rw[show(100000:Nat)=99999+1 from rfl,setAddHashedIn]
 refine Ad (Uq x.at_ x.dt R ?_)
 dsimp only
 refine Oo (λq=>absurd q (by unfold byScan;simp[Value.scannable])) (λ_=>?_)
 unfold setSearch
 refine Ad (jh7 x hk hu N1 N2 (λac=>?_) (λG=>?_) 100000 0 none rfl (Op _) (by omega) λi hi=>by omega)
 .dsimp only
  have q:=h s.heap (Heap.SameBut.refl a s.heap) (by unfold stpT;rw[Al ac];exact⟨o,K,ep,t,L,x⟩)
  exact Aj (q _)
 .dsimp only
  refine Ad (Uq x.at_ x.dt R ?_)
  dsimp only
  obtain⟨L',B,ab,X,pm⟩:=x.ly.put (j:=(pth t.mask (hTK prog w k) N).j) (hTK prog w k,.ref b) N1 (jb1 t.mask _ N).j
  have aa:WayI t.mask L':=WayI.put x.wy (e:=(hTK prog w k,.ref b)) N2 ab
  have y:(t.put (pth t.mask (hTK prog w k) N).j).1.plain=true:=x.pl
  have D:(t.put (pth t.mask (hTK prog w k) N).j).1.led=led:=x.ld
  have l:(t.put (pth t.mask (hTK prog w k) N).j).1.mask=t.mask:=rfl
  generalize t.put (pth t.mask (hTK prog w k) N).j=W at B y D l
  obtain⟨r,p⟩:=W
  dsimp only at B y D l⊢
  rw[Al y]
  refine Ad (jq2 hk ?_)
  rw[Al rfl]
  have z:(ks++[k]).Nodup:=by
   rw[O1];exact⟨x.nd,by simp,λu hu v hv e=>G (by rw[<-Ag.mp hv,<-e];exact hu)⟩
  have P:((L'.map Prod.snd).map (keyT kf)).Perm (ks++[k]):=by
   refine(pm.map _).trans ?_;rw[Au];refine List.Perm.trans (List.Perm.cons _ x.ky) ?_;have:keyT kf (hTK prog w k,.ref b)=k:=I;rw[this];exact(List.perm_append_singleton k ks).symm
  have ae:∀e∈L'.map Prod.snd,∃b,e=(hTK prog w (kf b),.ref b)/\IsTK prog w s.heap (kf b) b/\b<bd:=λe M=>by
   rcases At.mp (pm.mem_iff.mp M)with q|q
   .exact⟨b,by rw[I];exact q,by rw[I];exact hk,ad⟩
   .exact x.en e q
  have n:(SetTable.insertAt K p (hTK prog w k,.ref b)).size=L.length+1:=by rw[<-Array.length_toList,B.el,Ac,X]
  have F:stpT ks k=ks++[k]:=Ai G
  refine Ad (wpAny_storeSet_of x.at_ x.dt ?_ (by rw[n];omega))
  have m:=jl5 (SetTable.insertAt K p (hTK prog w k,.ref b)) r x.at_ x.dt
  have C:=U1 s.heap a (Obj.putSet (SetTable.insertAt K p (hTK prog w k,.ref b)) r)
  generalize s.heap.update a (Obj.putSet (SetTable.insertAt K p (hTK prog w k,.ref b)) r)=Y at m C⊢
  generalize SetTable.insertAt K p (hTK prog w k,.ref b)=g at B m n⊢
  have S:∀e∈L'.map Prod.snd,∃b,e=(hTK prog w (kf b),.ref b)/\IsTK prog w Y (kf b) b/\b<bd:=λe M=>by
   obtain⟨b2,q1,q2,q3⟩:=ae e M;exact⟨b2,q1,ji2 q2 x.at_ x.dt C,q3⟩
  have fl:r.fill=L.length+1:=by
   unfold SetTable.fill;rw[B.dm,<-Array.length_toList,B.pl,Ac,X];rfl
  by_cases c:(L.length+1)*5<t.mask*3
  .rw[Ai (by unfold SetTable.tooFull;rw[fl,l];simp;omega)]
   exact Aj (h Y C ⟨_,g,ep+1,r,L',m,x.ex,rfl,B,by rw[l];exact aa,by rw[l];exact x.mk_,by rw[l,X];exact c,S,by rw[F];exact P,by rw[F];exact z,D,y⟩ _)
  .rw[Al (by unfold SetTable.tooFull;rw[fl,l];simp;omega)]
   obtain⟨m',g1,g2,g3,g4⟩:=jof x.mk_ x.cn c (by omega)
   rw[l1]
   unfold setRelay
   have U:r.fits g.size=true:=by
    unfold SetTable.fits;rw[Us,beq_iff_eq,Oj,fl,l,n];exact⟨by rw[<-Array.length_toList,B.pl,Ac,X],by have:=x.cn;rcases x.mk_ with e|e|e <;> omega⟩
   refine Ad (Ad (Uq m rfl U ?_))
   dsimp only
   refine Oo (λq=>absurd q (by omega)) (λ_=>?_)
   obtain⟨J,d,L2,r1,Z,r3,r4,r5,r6,r7,r8,r9⟩:=js6 (f:=r.finger) (mvs:=r.movedTo m') (led:=r.led) (pl:=r.plain) g2 g (by rw[n];rcases g2 with e|e|e <;> omega)
   have rl:r.relaid (g.map (·.1)) (SetTable.grown (L.length+1))=some (J,d):=by
    unfold SetTable.relaid;rw[g1];exact r1
   rw[rl]
   refine Ad (show wpAny _ _ (if((d.filterMap (g[·]?)).size != g.size)=true then unsupported "internal:set-table-lost-an-element"else pure (d.filterMap (g[·]?),J)) _ _ _ from ?_)
   rw[Ai (by rw[r9];simp)]
   refine Aj ?_
   dsimp only
   refine wpAny_storeSet_of m rfl ?_ (by rw[r9,n];omega)
   have T:=jl5 (d.filterMap (g[·]?)) J m rfl
   have H:=U1 Y a (Obj.putSet (d.filterMap (g[·]?)) J)
   generalize Y.update a (Obj.putSet (d.filterMap (g[·]?)) J)=h2 at T H⊢
   have O:(L2.map Prod.snd).Perm (L'.map Prod.snd):=by rw[<-B.el];exact r7
   refine Aj (h h2 (C.trans H) ⟨_,_,_,J,L2,T,x.ex,rfl,r5,by rw[Z];exact r6,by rw[Z];exact g2,by rw[Z,r8,n];exact g3,λe M=>?_,by rw[F];exact(O.map _).trans P,by rw[F];exact z,by rw[r3];exact D,by rw[r4];exact y⟩ _)
   obtain⟨b2,q1,q2,q3⟩:=S e (O.mem_iff.mp M)
   exact⟨b2,q1,ji2 q2 m rfl H,q3⟩
end
section
variable{N:Nat}{r:Array Nat}(hN:0<N)(hr:∀x∈r.toList,x<N)
include hN hr
omit hN hr in
end
variable{kf:Addr->List Int}
section
variable{prog:Program}{w:World}{A:Around}{E:Value->Shared->Prop}{s:Shared}
theorem jnk{fin:Bool}{Q:Bool->Shared->Prop}(h:∀b,Q b s):∀(l:List (Value×Value))(i:Nat),(∀x∈l,(∃a t,x.1=.int a t)/\∃a t,x.2=.int a t)->PySem.W.KatLex prog w A true fin Q l i s
 |[],i,_=>h _
 |(p,q)::l,i,hl=>by
  obtain⟨⟨a,t,d⟩,b,u,c⟩:=hl (p,q) (.head _);dsimp only at d c;subst d c;refine PySem.W.kat_cons (wpAny_eqBool_int (PySem.W.kat_go (λ_=>PySem.W.kat_yes (jnk h l (i+1) λx e=>hl x (.tail _ e))) λ_=>PySem.W.kat_no ?_))
  cases hb:(true && i == 0)with
  |true=>exact oneLt_int (h _)
  |false=>exact PySem.W.kat_one _ _ (PyProof.Rows.lt_int (h _))
theorem jr1{xs ys:List Value}(h1:∀v∈xs,∃i t,v=.int i t)(h2:∀v∈ys,∃i t,v=.int i t):∀x∈xs.zip ys,(∃a t,x.1=.int a t)/\∃a t,x.2=.int a t:=λx b=>⟨h1 _ (Ye b).1,h2 _ (Ye b).2⟩
def jhc(prog:Program)(w:World)(h:Heap)(bs:List Addr)(kf:Addr->List Int):Prop:=∀b∈bs,IsTK prog w h (kf b) b/\kf b≠[]
theorem jt1{x y:Addr}{Q:Bool->Shared->Prop}(d:IsTK prog w s.heap (kf x) x)(hy:IsTK prog w s.heap (kf y) y)(q:∀b,Q b s):wpAny (model prog w) A (keyLt' (tuples' true) (.ref x) (.ref y)) Q E s:=by
 obtain⟨l,j,n,f,_,h,c⟩:=d;obtain⟨k,i,m,e,_,g,a⟩:=hy;exact PySem.W.kat_lt f h e g (jnk q _ 0 (jr1 (jds c) (jds a)))
theorem jjb{h:Heap}{kf:Addr->List Int}:∀{bs:List Addr},jhc prog w h bs kf->∃fs,PySem.W.KatTups h (bs.map Value.ref) fs/\fs.length=bs.length/\∀v∈fs,∃i t,v=.int i t
 |[],_=>⟨[],trivial,rfl,by simp⟩
 |b::bs,ht=>by
  obtain⟨fs,x,u,s⟩:=jjb (bs:=bs) λc e=>ht c (.tail _ e);obtain⟨⟨o,a,n,p,e,r,g⟩,j⟩:=ht b (.head _);obtain⟨A,k,z⟩:=List.exists_cons_of_ne_nil j;have l:=g.length;obtain⟨f,d⟩:∃f,a[0]?=some f:=by
   have:0<a.size:=by rw[<-Array.length_toList,<-l,z];simp[inK]
   exact⟨_,Ix this⟩
  have y:=jds g f (by rw[<-Ik]at d;exact Ap d);refine⟨f::fs,PySem.W.KatTups.cons p e r d x,by simp[u],λv m=>?_⟩;rcases At.mp m with q|q
  .rw[q];exact y
  .exact s v q
theorem jqe{i:Int}{t:Tok}:PySem.W.Looks (model prog w) h (typeOf (.int i t)) (.type "int"):=PySem.W.Looks.of_pure rfl
end
section
variable{prog:Program}{w:World}{A:Around}{E:Value->Shared->Prop}{s:Shared}
theorem jp9{bs:List Addr}{Q:SortKind->Shared->Prop}(b:jhc prog w s.heap bs kf)(h2:2<=bs.length)(h:Q (tuples' true) s):wpAny (model prog w) A (keyKind' (bs.map Value.ref).toArray) Q E s:=by
 obtain⟨e,d,f,c⟩:=jjb b;refine PySem.W.kat_kind (T:=.type "int") d (by omega) (λv a=>?_) (by decide) ?_
 .obtain⟨i,t,rfl⟩:=c v a;exact jqe
 .exact h
end
section
variable{prog:Program}{w:World}{A:Around}{R:Result->Shared->Prop}{I S:Addr}{fp wr:List Addr}{n:Nat}{P:Nat->Value->Prop}{St:Nat->Heap->Prop}
structure SetSteps(prog:Program)(w:World)(S I:Addr)(n:Nat)(P:Nat->Value->Prop)(SP:Nat->Heap->Prop):Prop where
 keep:∀i h h',SP i h->(∀b o,b≠I->h.get? b=some o->h'.get? b=some o)->SP i h'
 add:∀(A:Around)(E:Value->Shared->Prop)(i:Nat)(v:Value)(s:Shared)(Q:Bool->Shared->Prop),A.units+8<cLine->i<n->P i v->SP i s.heap->(∀h' tk,Heap.SameBut S s.heap h'->SP (i+1) h'->∀b,Q b {s with heap:=h',toks:=tk})->wpAny (model prog w) A (setAdd S v) Q E s
theorem jj2{SP:Nat->Heap->Prop}(W:Walks prog w A.in1 I fp [I] n P St)(T:SetSteps prog w S I n P SP)(hu:A.in1.units+8<cLine)(f:S∉fp)(u:S≠I)(t:I∈fp) :
  ∀(k i:Nat)(s:Shared),n-i=k->i<=n->St i s.heap->SP i s.heap ->
   (∀h' tk,(∀b o,b≠S->b≠I->s.heap.get? b=some o->h'.get? b=some o)->SP n h'->R (.ok (.ret .none)) {s with heap:=h',toks:=tk}) ->
   codeAny (model prog w) A (.builtin "set.update.loop" ⟨[.ref S,.ref I],[]⟩) R s
 |0,i,s,hk,hi,st,sp,hR=>by
  have r:i=n:=by omega
  subst r;refine U5 Y1 ?_;rw[Ux Wl _];refine show wpAny _ A.in1 (pyNext (.ref I) >>= _) _ _ s from Ad (W.done s _ _ st λh' tk d=>?_);refine show wpAny _ A.in1 (ret Value.none) _ _ _ from Aj (hR h' tk (λb o _ a e=>d b o (by simpa using a) e) (T.keep _ _ _ sp λb o a e=>d b o (by simpa using a) e))
 |k+1,i,s,hk,hi,st,sp,hR=>by
  have c:i<n:=by omega
  refine U5 Y1 ?_;rw[Ux Wl _];refine show wpAny _ A.in1 (pyNext (.ref I) >>= _) _ _ s from Ad (W.item i s _ _ c st λv g tk B l d=>?_);have q:=T.keep _ _ _ sp λb o a e=>d b o (by simpa using a) e;refine show wpAny _ A.in1 (holding [v] (setAdd S v) >>= _) _ _ _ from Ad (O0 (T.add _ _ i v {s with heap:=g,toks:=tk} _ hu c B q λh D x p _=>?_));refine Aj ⟨Yc Wl _,jj2 W T hu f u t k (i+1) _ (by omega) c (W.frame _ _ _ l λb a o e=>?_) p λC j y m=>?_⟩
  .exact(x.2 b λz=>f (z▸a)).trans e
  .exact hR C j (λb o g h e=>y b o g h ((x.2 b g).trans (d b o (by simpa using h) e))) m
end
section
variable{prog:Program}{w:World}{A:Around}{E:Value->Shared->Prop}{s:Shared}
theorem call_setG{SP:Nat->Heap->Prop}(hh:A.handled=none)(hu:A.units+16<cLine)(hl:s.heap.IsList l items)
  (T:SetSteps prog w s.heap.objs.size (s.heap.objs.size+1) items.size (λi v=>items[i]?=some v) SP)
  (P:∀h:Heap,h.get? s.heap.objs.size=some (setO (!w.params.followText "set-order"))->(∀b o,s.heap.get? b=some o->h.get? b=some o)->SP 0 h)
  (h:∀(h':Heap)(tk:Nat),SP items.size h'->(∀b o,b<s.heap.objs.size->s.heap.get? b=some o->h'.get? b=some o)->Q (.ref s.heap.objs.size) {s with heap:=h',toks:=tk}) :
  wpAny (model prog w) A (call (.type "set") [.ref l]) Q E s:=by
 obtain⟨ol,f,g,C,n⟩:=hl
 obtain⟨c,Z,K⟩:=Uu.mro
 have y:=Uu.made
 have H:=Uu.sub
 have h1:=Uu.notType
 have h2:=Uu.canCreate
 have W:=PySem.F.typeCall_set_1 (.ref l)
 refine wpAny_call (codeAny_of_tree (show wpAny _ _ (callAny (.type "set") _) _ _ _ from Aj ⟨Code.quiet_builtin _ (by decide +kernel),U5 PySem.F.entry_type_call ?_⟩))
 rw[Around.under_plain (weight_type_call_type "set" [.ref l] []) rfl]
 repeat (any_goals (first|assumption|wp_step))
 refine Yn (jrt (.ref l) (E:=E) (Q₁:=λj B=>j=.ref s.heap.objs.size/\B={s with heap:=s.heap.push (setO (!w.params.followText "set-order"))}) ⟨rfl,rfl⟩) λr B q=>?_
 cases r with
 |error e=>exact q
 |ok fl =>
  cases fl with
  |ret j =>
   obtain⟨rfl,rfl⟩:=q
   have G:(s.heap.push (setO (!w.params.followText "set-order"))).get? s.heap.objs.size=some (setO (!w.params.followText "set-order")):=A4 _ rfl
   have O:Shared.TypeIs {s with heap:=s.heap.push (setO (!w.params.followText "set-order"))} (.ref s.heap.objs.size) "set":=⟨_,G,rfl⟩
   have U:=Uu.init.lookup
   have X:=Uu.init.bind (.ref s.heap.objs.size)
   repeat (any_goals (first|assumption|wp_step))
   refine Yn (codeAny_call_builtin (R:=wants (λr z=>r=.none/\∃h' tk,z={s with heap:=h',toks:=tk}/\SP items.size h'/\(∀b o,b<s.heap.objs.size->s.heap.get? b=some o->h'.get? b=some o)) E) Uu.init.plain PySem.F.entry_set_init (check_set_init_1 O ?_)) λM z d=>?_
   .have a:(s.heap.push (setO (!w.params.followText "set-order"))).get? l=some ol:=Ak _ f
    have Y:Shared.TypeIs {s with heap:=s.heap.push (setO (!w.params.followText "set-order"))} (.ref l) "list":=⟨_,a,g⟩
    have I:=PySem.F.sub_list_set
    have J:=PySem.F.sub_list_frozenset
    have S:(Value.type "list" == Value.type "dict")=false:=by decide
    have k:(s.heap.push (setO (!w.params.followText "set-order"))).objs.size=s.heap.objs.size+1:=Y6 ..
    have m:l<s.heap.objs.size:=Ax f
    unfold Builtin.«set.__init__» noKeywords Builtin.Frozenset.updateFrom
    generalize hPI:pyIter=PI
    wp_walk
    subst hPI
    refine Ym ⟨ol,a,g,C,n⟩ ?_
    rw[k]
    refine Ad (wpAny_runValue ?_)
    have u:s.heap.objs.size∉[s.heap.objs.size+1,l]:=by
     simp only[At,Ae,U4,not_or];exact⟨A2 (Aan _),W3 m⟩
    have p:∀b o,s.heap.get? b=some o->((s.heap.push (setO (!w.params.followText "set-order"))).push {cls:=.type "list_iterator",data:=.fields #[.ref l,.int 0 0]}).get? b=some o:=λb o e=>Ak _ (Ak _ e)
    refine jj2 (Walks.list (by simp[hh]) (s.heap.objs.size+1) l (A2 (U8 m)) items) T (by show _<_;simp;omega) u (A2 (Aan _)) (by simp) (items.size-0) 0 _ rfl (Op _) ⟨⟨_,by rw[<-k];exact A4 _ rfl,rfl,rfl⟩,ol,p _ _ f,g,C,n⟩ (P _ (Ak _ G) p) λh' tk N L=>?_
    refine show wpAny _ _ _ _ _ _ from Aj (show wpAny _ _ (ret Value.none) _ _ _ from Aj ⟨rfl,h',tk,rfl,L,λb o D e=>N b o (A2 D) (A2 (U8 D)) (p b o e)⟩)
   .cases M with
    |error e=>exact d
    |ok fl₂ =>
     cases fl₂ with
     |ret r =>
      obtain⟨rfl,h',tk,rfl,x,t⟩:=d
      repeat (any_goals (first|assumption|wp_step))
      exact h _ _ x t
     |_=>exact d.elim
  |_=>exact q.elim
end
def fmT(ks:List (List Int)):List (List Int):=ks.foldl stpT []
theorem jrb(ks:List (List Int))(k:List Int):fmT (ks++[k])=stpT (fmT ks) k:=by unfold fmT;rw[Uz];rfl
theorem jm2:∀ks:List (List Int),(fmT ks).length<=ks.length:=by
 have:∀(ks a:List (List Int)),(ks.foldl stpT a).length<=a.length+ks.length:=λks=>by
  induction ks with
  |nil=>intro a;simp
  |cons k ks ih =>
   intro a;rw[List.foldl_cons,List.length_cons];have c:=ih (stpT a k);have b:(stpT a k).length<=a.length+1:=by unfold stpT;split <;> simp
   omega
 intro ks;have h:=this ks [];rw[List.length_nil,Nat.zero_add]at h;exact h
theorem jm3(x:List Int):∀ks:List (List Int),x∈fmT ks↔x∈ks:=by
 have:∀(ks a:List (List Int)),x∈ks.foldl stpT a↔x∈a\/x∈ks:=λks=>by
  induction ks with
  |nil=>intro a;simp
  |cons k ks ih =>
   intro a;rw[List.foldl_cons,ih,At];unfold stpT;split
   .rename_i h;constructor
    .rintro(q|q)
     .exact .inl q
     .exact .inr (.inr q)
    .rintro(q|q|q)
     .exact .inl q
     .exact .inl (q▸h)
     .exact .inr q
   .rw[Ar,Ag];constructor
    .rintro((q|q)|q)
     .exact .inl q
     .exact .inr (.inl q)
     .exact .inr (.inr q)
    .rintro(q|q|q)
     .exact .inl (.inl q)
     .exact .inl (.inr q)
     .exact .inr q
 intro ks;have h:=this ks [];simpa[fmT]using h
section
variable{prog:Program}{w:World}{A:Around}{E:Value->Shared->Prop}{s:Shared}
theorem jt9{bd:Nat}{a:Addr}{led:Bool}(e:h.get? a=some (setO led)):TX prog w kf bd h a led [] (setO led) #[] 0 (.fresh 0 0 led) [] :=
 ⟨e,⟨rfl,rfl,rfl⟩,rfl,⟨rfl,rfl,by simp,rfl,by simp⟩,λx b=>by simp at b,.inl rfl,by show(0:Nat)*5<7*3;decide,by simp,.nil,.nil,rfl,rfl⟩
theorem jru{bs:List Addr}(hh:A.handled=none)(hu:A.units+16<cLine)(hl:s.heap.IsList l (bs.map Value.ref).toArray)(hb:∀b∈bs,IsTK prog w s.heap (kf b) b)(K:bs.length<=75)
  (h:∀(h':Heap)(tk:Nat),TXO prog w kf s.heap.objs.size h' s.heap.objs.size (!w.params.followText "set-order") (fmT (bs.map kf))->(∀b o,b<s.heap.objs.size->s.heap.get? b=some o->h'.get? b=some o)->Q (.ref s.heap.objs.size) {s with heap:=h',toks:=tk}) :
  wpAny (model prog w) A (call (.type "set") [.ref l]) Q E s:=by
 have u:∀b∈bs,b<s.heap.objs.size:=λb q=>by
  obtain⟨o,_,_,e,_⟩:=hb b q;exact Ax e
 have n:(bs.map Value.ref).toArray.size=bs.length:=by simp
 refine call_setG (SP:=λi h=>TXO prog w kf s.heap.objs.size h s.heap.objs.size (!w.params.followText "set-order") (fmT ((bs.take i).map kf))/\∀b∈bs,IsTK prog w h (kf b) b) hh hu hl ⟨?_,?_⟩ ?_ ?_
 .rintro i k z ⟨⟨o,B,C,t,L,x⟩,g⟩ c
  refine⟨⟨o,B,C,t,L,x.to (c _ _ (A2 (Aan _)) x.at_) λb o a e=>c b o (A2 (U8 a)) e⟩,λb a=>jej (g b a) λo e=>c b o (A2 (U8 (u b a))) e⟩
 .rintro O N i v r M J y j ⟨f,g⟩ q
  have d:i<bs.length:=by rw[n]at y;exact y
  have j:v=.ref bs[i]:=by
   rw[Om,Ah,Aa d]at j;exact(Aw j).symm
  subst j
  have m:=Iq d
  unfold setAdd
  refine O0 (Ad (wpAny_pyHash_tuple (by omega) (g _ m) ?_))
  have tk:bs.take (i+1)=bs.take i++[bs[i]]:=by rw[Oe,Aa d];rfl
  have F:fmT ((bs.take (i+1)).map kf)=stpT (fmT ((bs.take i).map kf)) (kf bs[i]):=by rw[tk,A6,List.map_singleton,jrb]
  have G:(fmT ((bs.take i).map kf)).length+1<=76:=by
   have:=jm2 ((bs.take i).map kf);rw[Ac,I0]at this;omega
  refine jsl (s:={r with toks:=r.toks+((inK (kf bs[i])).length+1)}) f (g _ m) rfl (u _ m) (by omega) G λz p D b=>q z _ p ⟨by rw[F];exact D,λI a=>?_⟩ b
  obtain⟨o,B,C,t,L,x⟩:=f
  exact ji2 (g I a) x.at_ x.dt p
 .intro k H c
  refine⟨⟨_,_,_,_,[],by simpa[fmT]using jt9 H⟩,λb a=>jej (hb b a) λo e=>c b o e⟩
 .intro k tk ⟨f,_⟩ c
  refine h k tk ?_ c
  rw[n,Im]at f
  exact f
end
structure SR(h:Heap)(a:Addr)(o:Obj)(es:Array (Int×Value))(ep:Nat)(t:SetTable):Prop where
 at_:h.get? a=some o
 ct:o.cls=.type "set"
 dt:o.data=.set es ep t
 fits:t.fits es.size=true
 ris:t.place.toList.Pairwise (·<·)
 pl:t.plain=true
 sz:es.size<1000
theorem SR.keep{a:Addr}{t:SetTable}(x:SR h a o es ep t)(k:h'.get? a=some o):SR h' a o es ep t:=⟨k,x.ct,x.dt,x.fits,x.ris,x.pl,x.sz⟩
theorem jhf(hr:xs.toList.Pairwise (·<·)){j:Nat}(h1:∀k,k<i->∀v,xs.toList[k]?=some v->v<j)(h2:∀k,i<=k->∀v,xs.toList[k]?=some v->j<=v)(hi:i<=xs.size):SetTable.below xs j=i:=by
 obtain⟨e,b,h⟩:=jgt hr j;by_cases c:SetTable.below xs j<i
 .have a:SetTable.below xs j<xs.toList.length:=by rw[Array.length_toList];omega
  have g:=h1 _ c _ (Aa a);have f:=b _ (Ao _) _ (Aa a);omega
 .by_cases d:i<SetTable.below xs j
  .have a:i<xs.toList.length:=by rw[Array.length_toList];omega
   have g:=e _ d _ (Aa a);have f:=h2 _ (Ao _) _ (Aa a);omega
  .omega
def jo2(t:SetTable):Nat->Nat
 |0=>0
 |i+1=>t.place.getD i 0+1
theorem jgq{t:SetTable}(hr:t.place.toList.Pairwise (·<·)):∀{i:Nat},i<=t.place.size->SetTable.below t.place (jo2 t i)=i
 |0,_=>jhf hr (λk f=>by omega) (λk _ v _=>Op _) (Op _)
 |i+1,h=>by
  have l:i<t.place.toList.length:=by rw[Array.length_toList];omega
  have e:t.place.toList[i]?=some (t.place.getD i 0):=by
   rw[Ik,Ul,Ix (by omega)];rfl
  have d:=Ou.mp hr;refine jhf hr (λk f v a=>?_) (λk f v a=>?_) h
  .show v<t.place.getD i 0+1;obtain⟨lk,g⟩:=Ab.mp a;obtain⟨b,j⟩:=Ab.mp e;by_cases c:k=i
   .subst c;rw[a]at e;cases e;omega
   .have:=d k i lk b (by omega);omega
  .show t.place.getD i 0+1<=v;obtain⟨lk,g⟩:=Ab.mp a;obtain⟨b,j⟩:=Ab.mp e;have:=d i k b lk (by omega);omega
variable{sl:Nat}
section
variable{prog:Program}{w:World}{A:Around}{E:Value->Shared->Prop}{s:Shared}
variable{I a:Addr}{o:Obj}{es:Array (Int×Value)}{ep:Nat}{t:SetTable}
theorem jj3{Q:Option Value->Shared->Prop}(x:SIt s.heap I f i a es.size ep)(y:SR s.heap a o es ep t)(c:f=.int sl 0)
  (h:wpAny (model prog w) A.in1 (do
     match <-setNext a sl i ep with
     |some (x,next) =>
      setField (.ref I) 0 (rawInt next)
      setField (.ref I) 1 (rawInt (i+1))
      ret x
     |none=>setField (.ref I) 2 .none;raiseNew (<-newExc (.type "StopIteration") []))
   (λfin s'=>∃v,fin=Fin.done (Flow.ret v)/\Q (some v) s') (λe s'=>wpAny (model prog w) A (do if(<-isInstance e (.type "StopIteration"))=true then pure none else throw e) Q E s') s) :
  wpAny (model prog w) A (pyNext (.ref I)) Q E s:=by
 subst c
 obtain⟨g,b,j,d⟩:=id x
 unfold pyNext
 refine Ad (Aak (Wc (name:=Str.ofString "__next__") x.ty sit_next (Um sit_next x.ty jqt ?_ (jrv _))))
 unfold Builtin.«set_iterator.__next__»
 refine Ad (Aj (Ad (Y5 b d ?_)))
 dsimp only
 refine Ad (wpAny_setEntries_of y.at_ y.dt y.fits ?_)
 rw[Ai (by simp)]
 refine Uv ?_ (Q:=λfin s'=>∃v,fin=Fin.done (Flow.ret v)/\Q (some v) s') (λfin s' ⟨v,e,q⟩=>⟨v,e,Aj q⟩) λ_ _ q=>q
 simp only[Int.toNat_natCast]
 exact h
theorem jl1{nx:Nat}{v:Value}{Q:Option Value->Shared->Prop}(x:SIt s.heap I (.int sl 0) i a es.size ep)(y:SR s.heap a o es ep t)
  (f:∀(A':Around)(E':Value->Shared->Prop)(Q':Option (Value×Nat)->Shared->Prop),Q' (some (v,nx)) s->wpAny (model prog w) A' (setNext a sl i ep) Q' E' s)
  (g:∀h',SIt h' I (.int nx 0) (i+1) a es.size ep->Heap.SameBut I s.heap h'->Q (some v) {s with heap:=h'}):wpAny (model prog w) A (pyNext (.ref I)) Q E s:=by
 refine jj3 x y rfl (Ad (f _ _ _ ?_))
 obtain⟨k,c,h,e⟩:=id x
 obtain⟨l,d,j,b⟩:=SIt.upd c h e 0 (rawInt nx)
 dsimp only
 refine Ad (Wz c e (by simp) (Ad (Wz d b (by simp) (Aj ⟨v,rfl,g _ ?_ ((U1 ..).trans (U1 ..))⟩))))
 exact⟨_,Uh _ d (Aaq (Wj b _)),(Obj.cls_mapFields ..).trans j,by rw[Wj b];simp[rawInt]⟩
theorem jl0{Q:Option Value->Shared->Prop}(hh:A.handled=none)(x:SIt s.heap I (.int sl 0) i a es.size ep)(y:SR s.heap a o es ep t)
  (c:∀(A':Around)(E':Value->Shared->Prop)(Q':Option (Value×Nat)->Shared->Prop),Q' none s->wpAny (model prog w) A' (setNext a sl i ep) Q' E' s)
  (g:∀h',(∀b o,b≠I->s.heap.get? b=some o->h'.get? b=some o)->Q none {s with heap:=h'}):wpAny (model prog w) A (pyNext (.ref I)) Q E s:=by
 refine jj3 x y rfl (Ad (c _ _ _ ?_))
 obtain⟨j,d,l,h⟩:=id x
 dsimp only
 refine Ad (Wz d h (by simp) ?_)
 exact jrw hh λh' k=>g h' λb o f e=>k b o ((Ub _ _ (Wy f)).trans e)
theorem jhz{Q:Option (Value×Nat)->Shared->Prop}(b:w.params.followText "set-order"=true)(y:SR s.heap a o es ep t)
  (h:Q (((pickOrder (w.params.setOrder a ep) es)[i]?).map λe=>(e.2,sl)) s):wpAny (model prog w) A (setNext a sl i ep) Q E s:=by
 unfold setNext setsByText
 refine Ad (Uq y.at_ y.dt y.fits ?_)
 dsimp only
 refine Ad (Ad (W6 (Aj (Oo (λ_=>Oo (λq=>absurd q (by simp)) (λ_=>?_)) (λq=>absurd b q)))))
 unfold setWalk setsByText
 refine Ad (Ad (Uq y.at_ y.dt y.fits ?_))
 dsimp only
 exact Ad (Ad (W6 (Aj (Oo (λ_=>Ad (W6 (Aj (Aj h)))) (λq=>absurd b q)))))
theorem jhy{i:Nat}{Q:Option (Value×Nat)->Shared->Prop}(c:w.params.followText "set-order"=false)(y:SR s.heap a o es ep t)(ld:t.led=true){g:Nat}
  (h:Q (match es[SetTable.below t.place sl]?,t.place[SetTable.below t.place sl]? with|some (_,x),some j=>some (x,j+1)|_,_=>none) s):wpAny (model prog w) A (setNext a sl g ep) Q E s:=by
 unfold setNext setsByText
 refine Ad (Uq y.at_ y.dt y.fits ?_)
 dsimp only
 refine Ad (Ad (W6 (Aj (Oo (λq=>absurd q (show ¬w.params.followText "set-order"=true by rw[c];decide)) (λ_=>?_)))))
 refine Oo (λq=>?_) (λ_=>?_)
 .have b:(!t.plain && decide (es.size>1))=true:=q
  rw[y.pl]at b;cases b
 refine Ad (show wpAny _ _ (if(!t.led && !es.isEmpty)=true then unsupported _ else pure ()) _ _ _ from ?_)
 exact Oo (λq=>absurd q (by rw[ld];simp)) (λ_=>Aj (Aj h))
theorem jo9(m:a≠I)(r:w.params.followText "set-order"=true)(hh:A.handled=none) :
  Walks prog w A I [I,a] [I] ((pickOrder (w.params.setOrder a ep) es).toList.map (·.2)).length (λi v=>((pickOrder (w.params.setOrder a ep) es).toList.map (·.2))[i]?=some v)
   (λi h=>SIt h I (.int (0:Nat) 0) i a es.size ep/\SR h a o es ep t) where
 sub:=λb d=>by simp at d;simp[d]
 frame:=λ_ _ _ c n=>⟨c.1.keep λo e=>n I (by simp) o e,c.2.keep (n a (by simp) _ c.2.at_)⟩
 item:=λi s Q E p c f=>by
  rw[Ac]at p;have j:=Aa p;generalize(pickOrder (w.params.setOrder a ep) es).toList[i]=e at j;refine jl1 (v:=e.2) (nx:=0) c.1 c.2 (λz y x q=>jhz r c.2 ?_) λl u k=>f e.2 l s.toks (by rw[Ah,j];rfl) ⟨u,c.2.keep ((k.2 a m).trans c.2.at_)⟩ λb o d g=>(k.2 b (by simpa using d)).trans g;rw[<-Ik,j];exact q
 done:=λs Q E c f=>by
  refine jl0 hh c.1 c.2 (λz y x q=>jhz r c.2 ?_) λl k=>f l s.toks λb o d g=>k b o (by simpa using d) g;rw[<-Ik,Ac,Oh (Ao _)];exact q
 self:=λ_ _ _ _ c f=>jl3 c.1 f
theorem jo8(m:a≠I)(r:w.params.followText "set-order"=false)(ld:t.led=true)(hp:t.place.size=es.size)(hh:A.handled=none) :
  Walks prog w A I [I,a] [I] (es.toList.map (·.2)).length (λi v=>(es.toList.map (·.2))[i]?=some v)
   (λi h=>SIt h I (.int (jo2 t i:Nat) 0) i a es.size ep/\SR h a o es ep t) where
 sub:=λb d=>by simp at d;simp[d]
 frame:=λ_ _ _ c n=>⟨c.1.keep λo e=>n I (by simp) o e,c.2.keep (n a (by simp) _ c.2.at_)⟩
 item:=λi s Q E p c f=>by
  rw[Ac,Array.length_toList]at p;have d:=jgq c.2.ris (i:=i) (by omega);have j:es[i]?=some es[i]:=Ix p;have x:t.place[i]?=some (t.place.getD i 0):=by rw[Ul,Ix (by omega)];rfl
  generalize es[i]=e at j;refine jl1 (v:=e.2) (nx:=jo2 t (i+1)) c.1 c.2 (λB z y q=>jhy (i:=i) r c.2 ld ?_) λl u k=>f e.2 l s.toks (by rw[Ah,Ik,j];rfl) ⟨u,c.2.keep ((k.2 a m).trans c.2.at_)⟩ λb o d g=>(k.2 b (by simpa using d)).trans g;rw[d,j,x];exact q
 done:=λs Q E c f=>by
  rw[Ac,Array.length_toList]at c;refine jl0 hh c.1 c.2 (λB z y q=>jhy (i:=0) r c.2 ld ?_) λl k=>f l s.toks λb o d g=>k b o (by simpa using d) g;rw[jgq c.2.ris (i:=es.size) (by omega),Array.getElem?_eq_none (Ao _)];exact q
 self:=λ_ _ _ _ c f=>jl3 c.1 f
end
section
variable{prog:Program}{w:World}{A:Around}{E:Value->Shared->Prop}{s:Shared}
variable{a:Addr}{o:Obj}{es:Array (Int×Value)}{ep:Nat}{t:SetTable}
theorem juf(y:SR s.heap a o es ep t)(ld:t.led=!w.params.followText "set-order")(hp:t.place.size=es.size)
  (l:∀(h':Heap)(vs:List Value)(St:Nat->Heap->Prop),(∀b o,s.heap.get? b=some o->h'.get? b=some o)->h'.objs.size=s.heap.objs.size+1->vs.Perm (es.toList.map (·.2)) ->
   (∀A':Around,A'.handled=none->Walks prog w A' s.heap.objs.size [s.heap.objs.size,a] [s.heap.objs.size] vs.length (λi v=>vs[i]?=some v) St)->St 0 h'->Q (.ref s.heap.objs.size) {s with heap:=h'}) :
  wpAny (model prog w) A (pyIter (.ref a)) Q E s:=by
 have c:a<s.heap.objs.size:=Ax y.at_
 have k:s.TypeIs (.ref a) "set":=⟨o,y.at_,y.ct⟩
 refine wpAny_pyIter_slot k PySem.F.slot_set_iter (Um PySem.F.slot_set_iter k jiy ?_ (PySem.F.args_set_iter_1 _))
 unfold Builtin.«frozenset.__iter__» Builtin.Frozenset.slot0 Builtin.Frozenset.sizeOf
 refine Ad (Ad (Aj (Aj (Ad (Ad (wpAny_setEntries_of y.at_ y.dt y.fits (Aj ?_)))))))
 unfold setDrawn setsByText
 refine Ad (Ad (Uq y.at_ y.dt y.fits ?_))
 dsimp only
 refine Ad (Ad (W6 (Aj (Aj ?_))))
 refine Oo (λq=>?_) (λ_=>?_)
 .have j:(!w.params.followText "set-order" && (!t.plain && decide (es.size>1)))=true:=q
  rw[y.pl]at j
  simp at j
 refine Ad (Aj (Ad (wpAny_setEpoch_of y.at_ y.dt y.fits ?_)))
 unfold newFields
 refine Ad (Up (Aj ?_) (by size_fits))
 have h:(s.heap.push {cls:=.type "set_iterator",data:=.fields #[rawInt 0,rawInt 0,.ref a,rawInt es.size,rawInt ep]}).get? s.heap.objs.size=some {cls:=.type "set_iterator",data:=.fields #[rawInt 0,rawInt 0,.ref a,rawInt es.size,rawInt ep]}:=A4 _ rfl
 have f:∀b o,s.heap.get? b=some o->(s.heap.push {cls:=.type "set_iterator",data:=.fields #[rawInt 0,rawInt 0,.ref a,rawInt es.size,rawInt ep]}).get? b=some o:=λb o e=>Ak _ e
 refine⟨_,rfl,"set_iterator",_,⟨_,h,rfl⟩,sit_next.lookup,?_⟩
 by_cases hB:w.params.followText "set-order"=true
 .exact l _ _ _ f (Y6 ..) ((pick_perm (w.params.setOrder a ep) es).map _) (λA' g=>jo9 (o:=o) (t:=t) (A2 c) hB g) ⟨⟨_,h,rfl,rfl⟩,y.keep (f _ _ y.at_)⟩
 .have d:w.params.followText "set-order"=false:=by simpa using hB
  exact l _ _ _ f (Y6 ..) (Wf _) (λA' g=>jo8 (o:=o) (ep:=ep) (A2 c) d (by rw[ld,d];rfl) hp g) ⟨⟨_,h,rfl,rfl⟩,y.keep (f _ _ y.at_)⟩
theorem jq3{R:List Value->Shared->Prop}(y:SR s.heap a o es ep t)(ld:t.led=!w.params.followText "set-order")(hp:t.place.size=es.size)(hh:A.handled=none)
  (h:∀(h':Heap)(tk:Nat)(vs:List Value),(∀b o,s.heap.get? b=some o->h'.get? b=some o)->s.heap.objs.size<=h'.objs.size->vs.Perm (es.toList.map (·.2))->R vs {s with heap:=h',toks:=tk}) :
  wpAny (model prog w) A (collect (.ref a)) R E s:=by
 have Q:a<s.heap.objs.size:=Ax y.at_
 have P:=Uo
 unfold collect
 refine Ad (wpAny_runValue (U5 entry_proto_collect' ?_))
 rw[Ux PySem.F.plain_proto_collect _]
 refine show wpAny _ A.in1 (newList [] >>= λl=>again (.builtin "list.__iadd__" ⟨[l,.ref a],[]⟩)) _ _ s from ?_
 refine Ad (Up (Aj ⟨Yc PySem.F.plain_list_iadd _,U5 entry_list_iadd' ?_⟩))
 rw[Ux PySem.F.plain_list_iadd _]
 have hS:(s.heap.push {cls:=.type "list",data:=.seq ([]:List Value).toArray}).get? s.heap.objs.size=some {cls:=.type "list",data:=.seq #[]}:=A4 _ rfl
 have L:∀b o,s.heap.get? b=some o->(s.heap.push {cls:=.type "list",data:=.seq ([]:List Value).toArray}).get? b=some o:=λb o e=>Ak _ e
 have J:(s.heap.push {cls:=.type "list",data:=.seq ([]:List Value).toArray}).objs.size=s.heap.objs.size+1:=Y6 ..
 refine show wpAny _ A.in1 (Builtin.List.listExtendWith (.ref s.heap.objs.size) (.ref a) (.ref s.heap.objs.size)) _ _ {s with heap:=s.heap.push {cls:=.type "list",data:=.seq ([]:List Value).toArray}}from ?_
 generalize s.heap.push {cls:=.type "list",data:=.seq ([]:List Value).toArray}=r at hS L J
 have I:=y.keep (L _ _ y.at_)
 have hT:({s with heap:=r}:Shared).TypeIs (.ref a) "set":=⟨o,I.at_,y.ct⟩
 have H:s.heap.objs.size≠a:=W3 Q
 unfold Builtin.List.listExtendWith
 refine Ad (Aau (T:="set") hT ?_)
 simp only[show Builtin.List.listSameRef (.ref s.heap.objs.size) (.ref a)=false by simp[Builtin.List.listSameRef,H],show(Value.type "set" == Value.type "list")=false by decide,show(Value.type "set" == Value.type "tuple")=false by decide,Bool.or_false,Ir,O4]
 refine Ad (juf (s:={s with heap:=r}) I ld hp λp vs St K z1 D W st=>?_)
 have vl:vs.length=es.size:=by rw[D.length_eq,Ac,Array.length_toList]
 have S:({s with heap:=p}:Shared).TypeIs (.ref a) "set":=⟨o,K _ _ I.at_,y.ct⟩
 have n:=K _ _ hS
 have G:s.heap.objs.size∉[r.objs.size,a]:=by
  rw[J,At,Ag,not_or];exact⟨A2 (Aan _),H⟩
 have O:∀(h:Heap)(m:Nat),St 0 h->(∀b o,b≠s.heap.objs.size->p.get? b=some o->h.get? b=some o)->h.get? s.heap.objs.size=some {cls:=.type "list",data:=.seq #[] m} ->
   codeAny (model prog w) A (.builtin "list.extend.loop" ⟨[.ref s.heap.objs.size,.ref r.objs.size,.ref s.heap.objs.size],[]⟩) (λq f=>∃h' tk d c,q=.ok (.ret (.ref s.heap.objs.size))/\f={s with heap:=h',toks:=tk}/\(∀b o,s.heap.get? b=some o->h'.get? b=some o)/\h'.get? s.heap.objs.size=some {cls:=.type "list",dict:=none,data:=.seq d c,slots:=#[]}/\d.toList=vs) {s with heap:=h}:=by
  intro h m N kk X
  refine codeAny_extend_loopS (W A.in1 hh).toS (by rw[vl,P];have:=y.sz;omega) s.heap.objs.size G (.ref s.heap.objs.size) vs.length 0 _ #[] m rfl (Op _) N X (ItemsOf.nil _) λf d c' hm i g=>?_
  refine⟨f.heap,f.toks,d,c',rfl,(by have q:=Moved.eq_with hm;exact q),λb o e=>?_,i,?_⟩
  .have k:=Ax e
   refine hm.heap b o (λq=>?_) (kk b o (A2 k) (K b o (L b o e)))
   rcases At.mp q with q|q
   .exact A2 k q
   .have q:=Ag.mp q
    rw[show({s with heap:=r}:Shared).heap.objs.size=s.heap.objs.size+1 from J]at q
    exact A2 (U8 k) q
  .refine Wr λj=>?_
   by_cases c:j<vs.length
   .have hj:j<d.size:=by rw[g.1];exact c
    have:=g.2 j d[j] (Ix hj)
    rw[this,Ik,Ix hj]
   .rw[Oh (by rw[Array.length_toList,g.1];omega),Oh (by omega)]
 have Z:∀(q:Result)(f:Shared),(∃h' tk d c,q=.ok (.ret (.ref s.heap.objs.size))/\f={s with heap:=h',toks:=tk}/\(∀b o,s.heap.get? b=some o->h'.get? b=some o)/\h'.get? s.heap.objs.size=some {cls:=.type "list",dict:=none,data:=.seq d c,slots:=#[]}/\d.toList=vs)->∃(h':Heap)(tk:Nat)(c:Nat)(d:Array Value),q=.ok (.ret (.ref s.heap.objs.size))/\f={s with heap:=h',toks:=tk}/\h'.get? s.heap.objs.size=some {cls:=.type "list",dict:=none,data:=.seq d c,slots:=#[]}/\R d.toList {s with heap:=h',toks:=tk}:=by
  rintro q f ⟨h',tk,d,c,B,x,v,u,e5⟩;exact⟨h',tk,c,d,B,x,u,by rw[e5];exact h h' tk vs v (Yv (Ax u)) D⟩
 refine Ad (O0 (jrf (s:={s with heap:=p}) S ?_))
 have go:∀(h:Heap)(m:Nat),St 0 h->(∀b o,b≠s.heap.objs.size->p.get? b=some o->h.get? b=some o)->h.get? s.heap.objs.size=some {cls:=.type "list",data:=.seq #[] m} ->
   ∀(M:Result->Shared->Prop),(∀q f,(∃(h':Heap)(tk:Nat)(c:Nat)(d:Array Value),q=.ok (.ret (.ref s.heap.objs.size))/\f={s with heap:=h',toks:=tk}/\h'.get? s.heap.objs.size=some {cls:=.type "list",dict:=none,data:=.seq d c,slots:=#[]}/\R d.toList {s with heap:=h',toks:=tk})->M q f)->codeAny (model prog w) A (.builtin "list.extend.loop" ⟨[.ref s.heap.objs.size,.ref r.objs.size,.ref s.heap.objs.size],[]⟩) M {s with heap:=h} :=
  λh m a1 a2 a3 M Y=>Yn (O h m a1 a2 a3) λq f z=>Y q f (Z q f z)
 refine Oo (λ_=>?_) (λ_=>Aj ⟨Yc PySem.F.plain_extend_loop _,go _ 0 st (λb o _ e=>e) n _ λq f ⟨h',tk,c,d,B,x,v,u⟩=>?_⟩)
 .refine Ad (Yi (Ad (show wpAny _ _ (updateSeq s.heap.objs.size (·.push .none) >>= λ_=>updateSeq s.heap.objs.size (·.pop)) _ _ _ from ?_)))
  refine Ad (wpAny_updateSeq n rfl ?_)
  have i:=Uh (Obj.mapSeq (·.push Value.none)) n rfl
  refine wpAny_updateSeq (hz:=by seq_fits) i rfl ?_
  have U:=Uh (Obj.mapSeq (·.pop)) i rfl
  have C:∀b o,b≠s.heap.objs.size->p.get? b=some o->((p.update s.heap.objs.size (Obj.mapSeq (·.push Value.none))).update s.heap.objs.size (Obj.mapSeq (·.pop))).get? b=some o:=λb o k e=>(Ub _ _ (Wy k)).trans ((Ub _ _ (Wy k)).trans e)
  refine Aj ⟨Yc PySem.F.plain_extend_loop _,go _ _ ((W A.in1 hh).frame 0 _ _ st λb k o e=>C b o (λq=>G (q▸k)) e) C U _ λq f ⟨h',tk,c,d,B,x,v,u⟩=>?_⟩
  subst B x
  exact Ad (wpAny_load v (Aj u))
 .subst B x
  exact Ad (wpAny_load v (Aj u))
end
section
variable{X:Cx}{pins:List (Addr×Obj)}{σ:L2.St}{H:Hp}{s:Shared}
theorem jus{k:List Int}(ok:HOk P w H h)(e:H b=some (.tup (k.map V.int))):IsTK P w h k b:=by
 refine je9 ok ?_;rw[e];unfold inK;rw[Az];rfl
theorem jn5:∀(bs:List Addr),Vals (bs.map V.ref) (bs.map Value.ref)
 |[]=>.nil
 |b::bs=>.cons rfl (jn5 bs)
theorem jjx:∀{bs:List Addr}{us:List Value},Vals (bs.map V.ref) us->us=bs.map Value.ref
 |[],_,.nil=>rfl
 |b::bs,_,.cons r rr=>by cases r;rw[jjx rr];rfl
def jes:List V->Hp->VK->Prop:=λvs H Q=>match vs with
 |[.ref l]=>∃ns:List Int,H l=some (.lst (ns.map V.int))/\ns.length<1000/\∀c:List Int,c.Nodup->(∀x,x∈c↔x∈ns)->Q (.int c.length) H
 |_=>False
def jg9(ta:TE):TE:=tCB jes (je0 ta tNil)
theorem jfy(l:Addr)(H:Hp)(Q:VK):jes [.ref l] H Q=(∃ns:List Int,H l=some (.lst (ns.map V.int))/\ns.length<1000/\∀c:List Int,c.Nodup->(∀x,x∈c↔x∈ns)->Q (.int c.length) H):=rfl
theorem jgm(val:Nat->Int):∀i,(firstMet val i).Nodup
 |0=>by rw[firstMet_zero];exact .nil
 |i+1=>by
  rw[firstMet_succ];unfold step_dedup;have c:=jgm val i;split
  .exact c
  .rename_i h;rw[O1];refine⟨c,by simp,λa f b d e=>h ?_⟩;rw[List.any_eq_true];exact⟨a,f,by rw[e,Ag.mp d];simp⟩
theorem jk6(ns:List Int)(x:Int):x∈firstMet (λi=>ns.getD i 0) ns.length↔x∈ns:=by
 have h:=firstMet_any (λi=>ns.getD i 0) ns.length x;have e:(List.range ns.length).map (λi=>ns.getD i 0)=ns:=by
  refine Uc (by simp) λi d a=>?_;rw[Ud,Ox,Af,Aa a];rfl
 rw[e]at h;have m:∀l:List Int,x∈l↔(l.any (· == x))=true:=λl=>by rw[List.any_eq_true];exact⟨λh=>⟨x,h,by simp⟩,fun⟨y,c,b⟩=>by rw[<-show y=x by simpa using b];exact c⟩
 rw[m,m,h]
theorem ja7{a:Expr}{ta:TE}{C p2 q1 q2:Pos}(hc:X.calm=true)(hg:Gl X "len")(hm:X.mg "len"=none)(hg2:Gl X "set")(hm2:X.mg "set"=none)(ha:QE X a ta)
  (hs:starEach [(.Call (.Name "set" p2) [a] [] q2)] X.env=[(false,eval (.Call (.Name "set" p2) [a] [] q2) X.env)]:=by rfl) (f:starEach [a] X.env=[(false,eval a X.env)]:=by rfl) :
  QE X (.Call (.Name "len" C) [.Call (.Name "set" p2) [a] [] q2] [] q1) (jg9 ta):=⟨by
 intro c s σ H Q I h
 refine Uk (jdq I hg hm j3 (Yf ?_ hs rfl))
 rw[hs]
 refine show wpAny _ _ (spliced ((false,eval (.Call (.Name "set" p2) [a] [] q2) X.env)::[])) _ _ s from Yd ?_
 have J:PA X [a] (je0 ta tNil):=jbh ha.h jby f
 refine Uk (jdq I hg2 hm2 jce (O5 (thn (J q2 c s σ H (λj d=>jes j d Q) I h) λO y ⟨j,d,k,A,q1⟩=>?_) f rfl))
 replace q1:jes j d Q:=q1
 unfold jes at q1
 split at q1
 .rename_i l
  obtain⟨g,e,S,q⟩:=q1
  obtain⟨u,rfl,z⟩:=jc9 A
  cases z
  obtain⟨m,t,B,R⟩:=k.list (SqL.of e)
  have v:m.toArray.size=g.length:=by have:=t.length;rw[Ac]at this;simp[this]
  refine call_set_list (k.ok.hd hc) B.isList (by simpa using jhu t) (by rw[v];unfold scanBound;omega) λK r w E=>Y9 ?_
  rw[v]at w
  have T:=firstMet_length_le (λi=>g.getD i 0) g.length
  obtain⟨o,U,W,P,D,p,G,M,x,N,F,n⟩:=w
  refine call_len_set D p G F (by omega) ?_
  have L:Inv X c σ d {y with heap:=K,toks:=r+1+1}:=k.kept (t':=r+1+1) λb o e=>E b o (Ax e) e
  rw[n]
  exact⟨.int _,d,L,⟨_,rfl⟩,q _ (jgm _ _) (jk6 g)⟩
 .exact q1.elim⟩
end
abbrev jsz:Bool->Keyed->Array Keyed->Nat->Nat->Nat->StateT SortSt Sem (Option Nat):=sortPriv% PySem.Builtin.gallop
abbrev jrk:Array Keyed->Array Keyed->StateT SortSt Sem (Array Keyed):=sortPriv% PySem.Builtin.mergeLo
abbrev jrj:Array Keyed->Array Keyed->StateT SortSt Sem (Array Keyed):=sortPriv% PySem.Builtin.mergeHi
structure Ord1(M:Model)(A:Around)(s:Shared)(κ:SortKind)(U:Keyed->Prop)(An:Keyed->Keyed->Bool->Prop)(Le:Keyed->Keyed->Prop):Prop where
 ask:∀x y (C:Bool->Shared->Prop),U x->U y->(∀b,An x y b->C b s)->wpAny M A (keyLt' κ x.1 y.1) C (λ_ _=>False) s
 tt:∀x y,An x y true->Le x y
 ff:∀x y,An x y false->Le y x
 rf:∀x,Le x x
 tr:∀x y z,Le x y->Le y z->Le x z
variable{st:SortSt}
section
variable{M:Model}{A:Around}{E:Value->Shared->Prop}{s:Shared}{κ:SortKind}{U:Keyed->Prop}{An:Keyed->Keyed->Bool->Prop}{Le:Keyed->Keyed->Prop}
def Kd(κ:SortKind)(st:SortSt):Prop:=kindOf st=κ/\failedOf st=none
theorem jfc{x y:Keyed}{Q:Option Bool->SortSt->Prop}(O:Ord1 M A s κ U An Le)(k:Kd κ st)(e:U x)(hy:U y)(h:∀b,An x y b->Q (some b) st):wpS M A E s (lt' x y) Q st:=by
 rw[lt'_eq];refine Ay (Y7 ?_);refine Ay (W9 (Q:=λr a=>∃b,r=.ok b/\An x y b/\a=st) ?_ ?_)
 .unfold wpS;show wpAny _ _ ((StateT.lift _:StateT SortSt Sem _).run st) _ E s;rw[StateT.run_lift,k.1];refine Ad (Aak (Uv (O.ask x y (λb d=>d=s/\An x y b) e hy λb h=>⟨rfl,h⟩) (λb d c=>?_) λ_ _ f=>f.elim));exact Aj ⟨c.1,b,rfl,c.2,rfl⟩
 .rintro r a ⟨b,rfl,c,rfl⟩;exact A3 (h b c)
theorem jcm{a:Array Keyed}{x:Keyed}{Q:Keyed->SortSt->Prop}(e:a[i]?=some x)(h:Q x st):wpS M A E s (elem' a i) Q st:=by
 rw[elem'_eq,e];exact A3 h
theorem jcq{β:Type}{c:Prop}[Decidable c]{x y:StateT SortSt Sem β}{Q:β->SortSt->Prop}(h1:c->wpS M A E s x Q st)(h2:¬c->wpS M A E s y Q st):wpS M A E s (if c then x else y) Q st:=by
 by_cases h:c
 .rw[Al h];exact h1 h
 .rw[Ai h];exact h2 h
theorem jct{β:Type}{x y:StateT SortSt Sem β}{Q:β->SortSt->Prop}(h1:m=n->wpS M A E s x Q st)(h2:¬m=n->wpS M A E s y Q st):wpS M A E s (if(m == n)=true then x else y) Q st :=
 jcq (λh=>h1 (by simpa using h)) λh=>h2 (by simpa using h)
theorem jdk{β γ:Type}{a b:Nat}{f:Nat->β->StateT SortSt Sem (ForInStep β)}{k:β->StateT SortSt Sem γ}{R:γ->SortSt->Prop}(I:Nat->β->SortSt->Prop)(D:β->SortSt->Prop){c:β}(h:I a c st)
  (hs:∀i c st,a<=i->i<b->I i c st->∀Q:ForInStep β->SortSt->Prop,(∀c st',D c st'->Q (.done c) st')->(∀c st',I (i+1) c st'->Q (.yield c) st')->wpS M A E s (f i c) Q st)
  (d:∀c st,I (max a b) c st->D c st) (hk:∀c st,D c st->wpS M A E s (k c) R st):wpS M A E s (forIn [a:b] c f >>= k) R st :=
 Ay (W9 (Wm I (λi c st j g e=>hs i c st j g e _ (λ_ _ h=>h) λ_ _ h=>h) d h) hk)
end
section
variable{M:Model}{A:Around}{E:Value->Shared->Prop}{s:Shared}{κ:SortKind}{U:Keyed->Prop}{An:Keyed->Keyed->Bool->Prop}{Le:Keyed->Keyed->Prop}
structure Seg(U:Keyed->Prop)(Le:Keyed->Keyed->Prop)(arr:Array Keyed)(base n:Nat)(f:Nat->Keyed):Prop where
 at_:∀i,i<n->arr[base+i]?=some (f i)
 u:∀i,i<n->U (f i)
 up:∀i j,i<=j->j<n->Le (f i) (f j)
theorem jdv{left:Bool}{key:Keyed}{z:Array Keyed}{base hint:Nat}{f:Nat->Keyed}{Q:Option Nat->SortSt->Prop}(O:Ord1 M A s κ U An Le)(kd:Kd κ st)(hk:U key)(S:Seg U Le z base n f)(hh:hint<n)
  (h:∀k,k<=n->(∀i,i<k->Le (f i) key)->(∀i,k<=i->i<n->Le key (f i))->Q (some k) st):wpS M A E s (jsz left key z base n hint) Q st:=by
 have w:∀(i:Nat)(K:Option Bool->SortSt->Prop),i<n->(∀b,(b=true->Le (f i) key)->(b=false->Le key (f i))->K (some b) st)->wpS M A E s (elem' z (base+i) >>= λx=>if left=true then lt' x key else lt' key x >>= λr=>pure (r.map (!·))) K st:=λi K hi q=>by
  refine Ay (jcm (S.at_ i hi) ?_);by_cases hl:left=true
  .rw[Al hl];exact jfc O kd (S.u i hi) hk λb B=>q b (λe=>O.tt _ _ (e▸B)) (λe=>O.ff _ _ (e▸B))
  .rw[Ai hl];refine Ay (jfc O kd hk (S.u i hi) λb B=>A3 (q (!b) (λe=>O.ff _ _ (?_)) (λe=>O.tt _ _ ?_)))
   .cases b
    .exact B
    .cases e
   .cases b
    .cases e
    .exact B
 have y:∀j,j<n->Le (f j) key->∀i,i<=j->Le (f i) key:=λj R h i hi=>O.tr _ _ _ (S.up i j hi R) h
 have v:∀j,Le key (f j)->∀i,j<=i->i<n->Le key (f i):=λj h i hi J=>O.tr _ _ _ h (S.up j i hi J)
 refine Ay (w hint _ hh λright N L=>?_)
 dsimp only
 cases right
 case' true =>
  rw[Al rfl]
  have H:=N rfl
  refine Ay (W9 (Wm (I:=λx c a=>st=a/\∃l o,c=(none,l,o)/\l<n-hint/\l<o/\Le (f (hint+l)) key/\x+1<=o)
   (Q:=λc a=>st=a/\∃l o,c=(none,l,o)/\l<n-hint/\l<o/\Le (f (hint+l)) key/\(n-hint<=o\/hint+o<n/\Le key (f (hint+o)))) ?_ ?_ ⟨rfl,0,1,rfl,by omega,by omega,H,by omega⟩) ?_)
  .rintro x c a _ P ⟨rfl,l,o,rfl,t,p,g,m⟩
   dsimp only
   by_cases c:o ≥ n-hint
   .rw[Al c]
    exact A3 ⟨rfl,l,o,rfl,t,p,g,.inl c⟩
   .rw[Ai c]
    refine Ay (w (hint+o) _ (by omega) λb G D=>?_)
    dsimp only
    cases b with
    |false=>exact A3 ⟨rfl,l,o,rfl,t,p,g,.inr ⟨by omega,D rfl⟩⟩
    |true=>exact A3 ⟨rfl,o,2*o+1,rfl,by omega,by omega,G rfl,by omega⟩
  .rintro c a ⟨rfl,l,o,rfl,t,p,g,m⟩
   exact⟨rfl,l,o,rfl,t,p,g,.inl (by omega)⟩
  rintro _ a ⟨rfl,l,o,rfl,t,p,g,m⟩
  have F:hint+l+1<=hint+min o (n-hint)/\hint+min o (n-hint)<=n/\(∀i,i<hint+l+1->Le (f i) key)/\∀i,hint+min o (n-hint)<=i->i<n->Le key (f i):=by
   refine⟨by omega,by omega,λi hi=>y _ (by omega) g i (by omega),λi hi J=>?_⟩;rcases m with m|⟨m,C⟩
   .omega
   .exact v _ C i (by omega) J
  dsimp only
  generalize hint+l+1=d at F⊢
  generalize hint+min o (n-hint)=hi at F⊢
 case' false =>
  rw[Ai (by simp)]
  have H:=L rfl
  refine Ay (W9 (Wm (I:=λx c a=>st=a/\∃l o,c=(none,l,o)/\l<=hint/\l<o/\Le key (f (hint-l))/\x+1<=o)
   (Q:=λc a=>st=a/\∃l o,c=(none,l,o)/\l<=hint/\l<o/\Le key (f (hint-l))/\(hint+1<=o\/o<=hint/\Le (f (hint-o)) key)) ?_ ?_ ⟨rfl,0,1,rfl,by omega,by omega,H,by omega⟩) ?_)
  .rintro x c a _ P ⟨rfl,l,o,rfl,t,p,g,m⟩
   dsimp only
   by_cases c:o ≥ hint+1
   .rw[Al c]
    exact A3 ⟨rfl,l,o,rfl,t,p,g,.inl c⟩
   .rw[Ai c]
    refine Ay (w (hint-o) _ (by omega) λb G D=>?_)
    dsimp only
    cases b with
    |true=>exact A3 ⟨rfl,l,o,rfl,t,p,g,.inr ⟨by omega,G rfl⟩⟩
    |false=>exact A3 ⟨rfl,o,2*o+1,rfl,by omega,by omega,D rfl,by omega⟩
  .rintro c a ⟨rfl,l,o,rfl,t,p,g,m⟩
   exact⟨rfl,l,o,rfl,t,p,g,.inl (by omega)⟩
  rintro _ a ⟨rfl,l,o,rfl,t,p,g,m⟩
  have F:hint+1-min o (hint+1)<=hint-l/\hint-l<=n/\(∀i,i<hint+1-min o (hint+1)->Le (f i) key)/\∀i,hint-l<=i->i<n->Le key (f i):=by
   refine⟨by omega,by omega,λi hi=>?_,v _ g⟩;rcases m with m|⟨m,C⟩
   .omega
   .exact y _ (by omega) C i (by omega)
  dsimp only
  generalize hint+1-min o (hint+1)=d at F⊢
  generalize hint-l=hi at F⊢
 all_goals
  obtain⟨Y,X,W,T⟩:=F
  refine Ay (W9 (Wm (I:=λx c a=>st=a/\∃d hi,c=(none,d,hi)/\d<=hi/\hi<=n/\(∀i,i<d->Le (f i) key)/\(∀i,hi<=i->i<n->Le key (f i))/\hi-d<=n-x)
   (Q:=λc a=>st=a/\∃k,c=(none,k,k)/\k<=n/\(∀i,i<k->Le (f i) key)/\∀i,k<=i->i<n->Le key (f i)) ?_ ?_ ⟨rfl,d,hi,rfl,Y,X,W,T,by omega⟩) ?_)
  .rintro x c a _ P ⟨rfl,d,hi,rfl,t,p,g,m,C⟩
   dsimp only
   by_cases c:d ≥ hi
   .rw[Al c]
    obtain rfl:d=hi:=by omega
    exact A3 ⟨rfl,d,rfl,p,g,m⟩
   .rw[Ai c]
    refine Ay (w (d+(hi-d) / 2) _ (by omega) λb G D=>?_)
    dsimp only
    cases b with
    |true=>exact A3 ⟨rfl,d+(hi-d) / 2+1,hi,rfl,by omega,p,λi Z=>y _ (by omega) (G rfl) i (by omega),m,by omega⟩
    |false=>exact A3 ⟨rfl,d,d+(hi-d) / 2,rfl,by omega,by omega,g,v _ (D rfl),by omega⟩
  .rintro c a ⟨rfl,d,hi,rfl,t,p,g,m,C⟩
   obtain rfl:d=hi:=by omega
   exact⟨rfl,d,rfl,p,g,m⟩
  .rintro _ a ⟨rfl,k,rfl,p,g,m⟩
   exact A3 (h k p g m)
end
structure Mrg(Le:Keyed->Keyed->Prop)(W o x y:List Keyed):Prop where
 pm:(o++x++y).Perm W
 so:o.Pairwise Le
 sx:x.Pairwise Le
 sy:y.Pairwise Le
 le:∀u∈o,∀v∈x++y,Le u v
variable{Le:Keyed->Keyed->Prop}{W y:List Keyed}
theorem Mrg.x{o x:List Keyed}(h:Mrg Le W o x y)(k:Nat)(q:∀u∈x.take k,∀v∈y,Le u v):Mrg Le W (o++x.take k) (x.drop k) y:=by
 have e:=Oq k x;have c:=h.sx;rw[<-e]at c;obtain⟨g,f,d⟩:=Ia.mp c;refine⟨?_,?_,f,h.sy,λu a v b=>?_⟩
 .rw[A5 o,e];exact h.pm
 .exact Ia.mpr ⟨h.so,g,λu a v b=>h.le u a v (Io _ (Uy b))⟩
 .rcases Ar.mp a with a|a
  .exact h.le u a v ((Ar.mp b).elim (λz=>Io _ (Ua z)) (Ig _))
  .exact(Ar.mp b).elim (d u a v) (q u a v)
theorem Mrg.sw{o x:List Keyed}(h:Mrg Le W o x y):Mrg Le W o y x :=
 ⟨by
  have q:(o++y++x).Perm (o++x++y):=by rw[A5,A5];exact List.perm_append_comm.append_left o
  exact q.trans h.pm,h.so,h.sy,h.sx,λu b v a=>h.le u b v ((Ar.mp a).elim (Ig _) (Io _))⟩
theorem Mrg.all{o x:List Keyed}(h:Mrg Le W o x y)(q:∀u∈x,∀v∈y,Le u v):(o++x++y).Perm W/\(o++x++y).Pairwise Le :=
 ⟨h.pm,by rw[A5];exact Ia.mpr ⟨h.so,Ia.mpr ⟨h.sx,h.sy,q⟩,h.le⟩⟩
variable{u:Keyed}
theorem Mrg.px{o x:List Keyed}(h:Mrg Le W o (u::x) y)(q:∀v∈y,Le u v):Mrg Le W (o++[u]) x y:=by simpa using h.x 1 (by simpa using q)
theorem Mrg.py{o x:List Keyed}(h:Mrg Le W o x (u::y))(q:∀v∈x,Le u v):Mrg Le W (o++[u]) x y:=(h.sw.px q).sw
variable{a:Array Keyed}
theorem je3(h:i<a.size):∃x,a[i]?=some x/\x∈a.toList/\a.toList.drop i=x::a.toList.drop (i+1) :=
 ⟨a[i],Ix h,Array.getElem_mem_toList h,by rw[Ww (by simpa using h)];simp⟩
theorem jhp(a:Array Keyed)(i k:Nat):(a.extract i (i+k)).toList=(a.toList.drop i).take k:=by
 rw[Wu,List.extract_eq_drop_take];congr 1;omega
theorem jf7(a:Array Keyed)(i:Nat):(a.extract i a.size).toList=a.toList.drop i:=by
 rw[Wu,List.extract_eq_drop_take];exact Ob (by simp)
variable{st':SortSt}
section
variable{M:Model}{A:Around}{E:Value->Shared->Prop}{s:Shared}{κ:SortKind}{U:Keyed->Prop}{An:Keyed->Keyed->Bool->Prop}{Le:Keyed->Keyed->Prop}
theorem je8(O:Ord1 M A s κ U An Le){v:Keyed}{x:List Keyed}(h:Le u v)(sx:(v::x).Pairwise Le):∀w∈v::x,Le u w:=λw a=>by
 rcases At.mp a with rfl|a
 .exact h
 .exact O.tr _ _ _ h ((Wk.mp sx).1 w a)
def fS(a:Array Keyed)(i j:Nat):Keyed:=(a.toList.drop i).getD j (Value.none,Value.none)
theorem jfi{j:Nat}(h:i+j<a.size):(a.toList.drop i)[j]?=some (fS a i j)/\a[i+j]?=some (fS a i j):=by
 have b:j<(a.toList.drop i).length:=by simp;omega
 have e:(a.toList.drop i)[j]?=some (fS a i j):=by unfold fS;rw[Af,Aa b];rfl
 refine⟨e,?_⟩;rw[Ut]at e;rw[<-e,Ik]
theorem jh8(O:Ord1 M A s κ U An Le)(b:∀x∈a.toList,U x)(e:a.toList.Pairwise Le)(i:Nat)(hn:i+n<=a.size):Seg U Le a i n (fS a i):=by
 refine⟨λj h=>(jfi (by omega)).2,λj h=>b _ (Ua (Ap (jfi (i:=i) (j:=j) (by omega)).1)),λj k q r=>?_⟩;by_cases c:j=k
 .subst c;exact O.rf _
 .have d:(a.toList.drop i).Pairwise Le:=e.sublist (List.drop_sublist i _);have m:=(jfi (a:=a) (i:=i) (j:=j) (by omega)).1;have l:=(jfi (a:=a) (i:=i) (j:=k) (by omega)).1;obtain⟨g,p⟩:=Ab.mp m;obtain⟨f,o⟩:=Ab.mp l;have:=Ou.mp d j k g f (by omega);rw[p,o]at this;exact this
theorem jgw{k:Nat}{P:Keyed->Prop}(hn:i+n<=a.size)(hk:k<=n)(h:∀j,j<k->P (fS a i j)):∀u∈(a.toList.drop i).take k,P u:=λu c=>by
 obtain⟨j,b⟩:=Il c;have d:=(Ab.mp b).1;rw[I0]at d;rw[Ow (by omega),(jfi (by omega)).1]at b
 cases b
 exact h j (by omega)
theorem jk9{k:Nat}{P:Keyed->Prop}(h:∀j,k<=j->i+j<a.size->P (fS a i j)):∀u∈a.toList.drop (i+k),P u:=λu c=>by
 obtain⟨j,b⟩:=Il c;have d:=(Ab.mp b).1;rw[W7,Array.length_toList]at d;rw[Ut,show i+k+j=i+(k+j)by omega,<-Ut,(jfi (by omega)).1]at b
 cases b
 exact h (k+j) (by omega) (by omega)
def Sm(st st':SortSt):Prop:=∃g,st'=SortSt.mk' (kindOf st) (arrOf st) (pendingOf st) g (failedOf st)
theorem Sm.rfl(st:SortSt):Sm st st:=⟨gallopOf st,by cases st;rfl⟩
theorem Sm.kd(h:Sm st st')(k:Kd κ st):Kd κ st':=by obtain⟨g,rfl⟩:=h;exact k
theorem Sm.g(h:Sm st st')(g:Nat):Sm st (SortSt.mk' (kindOf st') (arrOf st') (pendingOf st') g (failedOf st')):=by obtain⟨_,rfl⟩:=h;exact⟨g,by trivial⟩
theorem jpb{β:Type}{p:StateT SortSt Sem β}{Q:β->SortSt->Prop}(s':Sm st st')(h:∀st4,Sm st st4->wpS M A E s p Q st4):wpS M A E s p Q st':=h _ s'
def Out(Le:Keyed->Keyed->Prop)(W:List Keyed)(r:Array Keyed):Prop:=r.toList.Perm W/\r.toList.Pairwise Le
def AtL(Le:Keyed->Keyed->Prop)(a b:Array Keyed)(W:List Keyed)(out:Array Keyed)(ia ib:Nat):Prop:=Mrg Le W out.toList (a.toList.drop ia) (b.toList.drop ib)/\ia+1<a.size/\ib<b.size
theorem jmo{b:Array Keyed}{Q:Array Keyed->SortSt->Prop}(O:Ord1 M A s κ U An Le)(kd:Kd κ st)(ua:∀x∈a.toList,U x)(ub:∀x∈b.toList,U x)(sa:a.toList.Pairwise Le)(sb:b.toList.Pairwise Le)(a1:1<=a.size)(b1:1<=b.size)
  (pa:∀y,b[0]?=some y->∀x∈a.toList,Le y x) (pb:∀x,a[a.size-1]?=some x->∀y∈b.toList,Le y x) (h:∀r st',Sm st st'->Out Le (a.toList++b.toList) r->Q r st'):wpS M A E s (jrk a b) Q st:=by
 refine Ay (wpS_lift (Yi ⟨rfl,?_⟩))
 generalize hW:a.toList++b.toList=W at h
 have done:∀(f:Array Keyed)(o l:Nat),Mrg Le W f.toList (a.toList.drop o) (b.toList.drop l)->o=a.size\/l=b.size->Out Le W (f++a.extract o++b.extract l):=λf o l m e=>by
  have:=m.all λu hu v hv=>by
   rcases e with rfl|rfl
   .rw[Yl (by simp)]at hu;cases hu
   .rw[Yl (by simp)]at hv;cases hv
  unfold Out;rw[On,On,jf7,jf7];exact this
 have I:∀(f:Array Keyed)(o l:Nat),Mrg Le W f.toList (a.toList.drop o) (b.toList.drop l)->o+1=a.size->Out Le W (f++b.extract l++a.extract o):=λf o l m e=>by
  have:=m.sw.all λu hu v hv=>by
   obtain⟨x,e1,e2,e3⟩:=je3 (a:=a) (i:=o) (by omega);rw[e3,e,Yl (by simp)]at hv
   cases Ag.mp hv
   exact pb v (by rw[<-e1];congr 1;omega) u (Ua hu)
  unfold Out;rw[On,On,jf7,jf7];exact this
 obtain⟨y0,f1,f2,f3⟩:=je3 (a:=b) (i:=0) (by omega)
 have m0:Mrg Le W [y0] (a.toList.drop 0) (b.toList.drop 1):=by
  have:Mrg Le W [] (a.toList.drop 0) (b.toList.drop 0):=⟨by rw[<-hW];simp,.nil,sa,sb,λu hu=>by cases hu⟩;rw[f3]at this;simpa using this.py (pa y0 f1)
 refine Ay (jcm f1 (jct (λc1=>A3 (h _ _ (Sm.rfl st) (done _ 0 1 m0 (.inr c1)))) λc1=>jct (λc2=>A3 (h _ _ (Sm.rfl st) (I _ 0 1 m0 c2))) λc2=>Ay (Y7 ?_)))
 refine jdk (λx c st'=>Sm st st'/\∃f o l g,c=(none,f,o,l,g)/\AtL Le a b W f o l/\x+1<=o+l) (λc st'=>Sm st st'/\∃r t,c=(some r,t)/\Out Le W r) ⟨Sm.rfl st,_,0,1,_,rfl,⟨m0,by omega,by omega⟩,by omega⟩ ?_ ?_ ?_
 .intro x c aa _ hx q Q K L
  obtain⟨s1,f,o,l,g,rfl,⟨m,G,J⟩,F⟩:=q
  refine jdk (λy c st'=>Sm st st'/\∃f o l p q,c=(none,f,o,l,p,q)/\AtL Le a b W f o l/\x+1+y<=o+l) (λc st'=>Sm st st'/\((∃r t,c=(some r,t)/\Out Le W r)\/∃f o l p q,c=(none,f,o,l,p,q)/\AtL Le a b W f o l/\x+2<=o+l)) ⟨s1,f,o,l,0,0,rfl,⟨m,G,J⟩,by omega⟩ ?_ ?_ ?_
  .clear m G J F K L
   intro y c st2 _ hy q Q K L
   obtain⟨R,f,o,l,p,q,rfl,⟨m,G,J⟩,F⟩:=q
   have T:∀r t,Out Le W r->Q (.done (some r,t)) st2:=λr t b=>K _ _ ⟨R,.inl ⟨r,t,rfl,b⟩⟩
   have hn:∀f o l p q,AtL Le a b W f o l->x+2+y<=o+l->Q (.done (none,f,o,l,p,q)) st2/\Q (.yield (none,f,o,l,p,q)) st2:=λf o l p q m h=>⟨K _ _ ⟨R,.inr ⟨f,o,l,p,q,rfl,m,by omega⟩⟩,L _ _ ⟨R,f,o,l,p,q,rfl,m,by omega⟩⟩
   clear K L
   obtain⟨u,u1,u2,Y⟩:=je3 (a:=b) (i:=l) (by omega)
   obtain⟨v,v1,v2,X⟩:=je3 (a:=a) (i:=o) (by omega)
   refine Ay (jcm u1 (Ay (jcm v1 (Ay (jfc O (R.kd kd) (ub u u2) (ua v v2) λw hw=>jcq (λe=>?_) λe=>?_)))))
   .subst e
    have Z:Mrg Le W (f.push u).toList (a.toList.drop o) (b.toList.drop (l+1)):=by
     have sx:=m.sx;rw[Y]at m;rw[X]at sx;rw[Ug];exact m.py (by rw[X];exact je8 O (O.tt _ _ hw) sx)
    exact Ay (jcm u1 (jct (λc=>A3 (T _ _ (done _ _ _ Z (.inr c)))) fun(c:¬l+1=b.size)=>jcq (λ_=>A3 (hn _ o (l+1) _ _ ⟨Z,G,by omega⟩ (by omega)).1) λ_=>A3 (hn _ o (l+1) _ _ ⟨Z,G,by omega⟩ (by omega)).2))
   .cases Ws.mpr e
    have Z:Mrg Le W (f.push v).toList (a.toList.drop (o+1)) (b.toList.drop l):=by
     have sy:=m.sy;rw[X]at m;rw[Y]at sy;rw[Ug];exact m.px (by rw[Y];exact je8 O (O.ff _ _ hw) sy)
    exact Ay (jcm v1 (jct (λc=>A3 (T _ _ (I _ _ _ Z c))) fun(c:¬o+1+1=a.size)=>jcq (λ_=>A3 (hn _ (o+1) l _ _ ⟨Z,by omega,J⟩ (by omega)).1) λ_=>A3 (hn _ (o+1) l _ _ ⟨Z,by omega,J⟩ (by omega)).2))
  .rintro c st2 ⟨R,f,o,l,p,q,rfl,⟨m,G,J⟩,F⟩
   omega
  .clear m G J F
   intro c st2 q
   obtain⟨R,F|⟨f,o,l,p,q,rfl,⟨m,G,J⟩,F⟩⟩:=q
   .obtain⟨r,⟨o',a',b',p',q'⟩,rfl,hr⟩:=F
    exact A3 (K _ _ ⟨R,r,_,rfl,hr⟩)
   .refine Ay (wpS_lift (Yi ⟨rfl,?_⟩))
    refine jdk (λz c st'=>Sm st st'/\∃f o l g p q,c=(none,f,o,l,g,p,q)/\AtL Le a b W f o l/\x+2<=o+l) (λc st'=>Sm st st'/\((∃r t,c=(some r,t)/\Out Le W r)\/∃f o l g p q,c=(none,f,o,l,g,p,q)/\AtL Le a b W f o l/\x+2<=o+l)) ⟨R,f,o,l,_,p,q,rfl,⟨m,G,J⟩,F⟩ ?_ ?_ ?_
    .clear m G J F K L
     intro z c st3 _ hz q Q K L
     obtain⟨s3,f,o,l,g,p,q,rfl,⟨m,G,J⟩,F⟩:=q
     have T:∀r t st',Sm st st'->Out Le W r->Q (.done (some r,t)) st':=λr t st' s b=>K _ _ ⟨s,.inl ⟨r,t,rfl,b⟩⟩
     have hn:∀f o l g p q st',Sm st st'->AtL Le a b W f o l->x+2<=o+l->Q (.done (none,f,o,l,g,p,q)) st'/\Q (.yield (none,f,o,l,g,p,q)) st':=λf o l g p q st' s m h=>⟨K _ _ ⟨s,.inr ⟨f,o,l,g,p,q,rfl,m,h⟩⟩,L _ _ ⟨s,f,o,l,g,p,q,rfl,m,h⟩⟩
     clear K L
     obtain⟨u,u1,u2,Y⟩:=je3 (a:=b) (i:=l) (by omega)
     have S1:=jh8 O ua sa o (n:=a.size-o) (by omega)
     extract_lets t1 t2 t3 t4 t5 t6 t7 t8 t9 ta tb tc jp td
     have hj:∀g',wpS M A E s (jp () g') Q st3:=by
      intro g';refine Ay (Wx ?_);refine jpb (s3.g g') λst4 N=>?_;refine Ay (jcm u1 (Ay (jdv (base:=o) (n:=a.size-o) O (N.kd kd) (ub u u2) S1 (by omega) λk k1 k2 k3=>?_)));dsimp -zeta only;extract_lets ac jp2 o2 J;have S:Mrg Le W (f++a.extract o (o+k)).toList (a.toList.drop (o+k)) (b.toList.drop l):=by
       have sy:=m.sy;rw[Y]at sy;have:=m.x k λu' ab v hv=>O.tr _ _ _ (jgw (P:=λw=>Le w u) (n:=a.size-o) (by omega) k1 k2 u' ab) (je8 O (O.rf u) sy v (Y▸hv));rw[List.drop_drop]at this;rw[On,jhp];exact this
      have kA:∀w∈a.toList.drop (o+k),Le u w:=jk9 λj hj hl=>k3 j hj (by omega);have ae:∀D B,Mrg Le W D.toList (a.toList.drop B) (b.toList.drop l)->(∀w∈a.toList.drop B,Le u w)->B+1<a.size->x+2<=B+l->wpS M A E s (jp2 () D B) Q st4:=by
       clear S kA F G m;intro D B S kA iA iB;have m6:Mrg Le W (D.push u).toList (a.toList.drop B) (b.toList.drop (l+1)):=by
        rw[Y]at S;rw[Ug];exact S.py kA
       refine Ay (jcm u1 (jct (λc=>A3 (T _ _ _ N (done _ _ _ m6 (.inr c)))) fun(c:¬l+1=b.size)=>?_));obtain⟨v,v1,v2,X⟩:=je3 (a:=a) (i:=B) (by omega);have S2:=jh8 O ub sb (l+1) (n:=b.size-(l+1)) (by omega);refine Ay (jcm v1 (Ay (jdv (base:=l+1) (n:=b.size-(l+1)) O (N.kd kd) (ua v v2) S2 (by omega) λk' l1 l2 l3=>?_)));dsimp -zeta only;extract_lets bc i4 jp3 o3 i3;have m7:Mrg Le W (D.push u++b.extract (l+1) (l+1+k')).toList (a.toList.drop B) (b.toList.drop (l+1+k')):=by
        have sx:=m6.sx;rw[X]at sx;have:=(m6.sw.x k' λu' ab w hw=>O.tr _ _ _ (jgw (P:=λw=>Le w v) (n:=b.size-(l+1)) (by omega) l1 l2 u' ab) (je8 O (O.rf v) sx w (X▸hw))).sw;rw[List.drop_drop]at this;rw[On,jhp];exact this
       have kB:∀w∈b.toList.drop (l+1+k'),Le v w:=jk9 λj hj hl=>l3 j hj (by omega);have ad:∀H C,Mrg Le W H.toList (a.toList.drop B) (b.toList.drop C)->(∀w∈b.toList.drop C,Le v w)->C<b.size->x+2<=B+C->wpS M A E s (jp3 () H C) Q st4:=by
        clear m7 kB m6 S;intro H C m7 kB jA jB;have m8:Mrg Le W (H.push v).toList (a.toList.drop (B+1)) (b.toList.drop C):=by
         rw[X]at m7;rw[Ug];exact m7.px kB
        exact Ay (jcm v1 (jct (λc=>A3 (T _ _ _ N (I _ _ _ m8 c))) fun(d:¬B+1+1=a.size)=>have h':=λg p q=>hn _ (B+1) C g p q _ N ⟨m8,by omega,jA⟩ (by omega);jcq (λ_=>A3 (h' _ _ _).1) λ_=>A3 (h' _ _ _).2))
       exact jcq (λck=>jct (λc=>A3 (T _ _ _ N (done _ _ _ m7 (.inr c)))) fun(c':¬l+1+k'=b.size)=>ad _ (l+1+k') m7 kB (by omega) (by omega)) λck=>ad _ (l+1) m6 (by rw[show k'=0 by omega]at kB;exact kB) (by omega) (by omega)
      exact jcq (λck=>jct (λc=>A3 (T _ _ _ N (I _ _ _ S c))) fun(c:¬o+k+1=a.size)=>jct (λc=>A3 (T _ _ _ N (done _ _ _ S (.inl c)))) fun(c':¬o+k=a.size)=>ae _ (o+k) S kA (by omega) (by omega)) λck=>ae f o m (by rw[show k=0 by omega]at kA;exact kA) G F
     exact jcq (λ_=>hj _) λ_=>hj _
    .rintro c st3 ⟨s3,hI⟩
     exact⟨s3,.inr hI⟩
    .intro c st3 q
     obtain⟨s3,F|⟨f,o,l,g',p,q,rfl,af,F⟩⟩:=q
     .obtain⟨r,⟨o',a',b',g',p',q'⟩,rfl,hr⟩:=F
      exact A3 (K _ _ ⟨s3,r,_,rfl,hr⟩)
     .exact Ay (Wx (A3 (L _ _ ⟨s3.g _,f,o,l,_,rfl,af,by omega⟩)))
 .rintro c aa ⟨s1,f,o,l,g,rfl,⟨m,G,J⟩,F⟩
  omega
 .rintro c aa ⟨s1,r,t,rfl,hr⟩
  exact A3 (h r aa s1 hr)
end
section
variable{M:Model}{A:Around}{E:Value->Shared->Prop}{s:Shared}{κ:SortKind}{U:Keyed->Prop}{An:Keyed->Keyed->Bool->Prop}{Le:Keyed->Keyed->Prop}
def Ge(Le:Keyed->Keyed->Prop)(x y:Keyed):Prop:=Le y x
def rT(a:Array Keyed)(n:Nat):List Keyed:=(a.toList.take n).reverse
theorem jgb(h:i<a.size):∃x,a[i]?=some x/\x∈a.toList/\rT a (i+1)=x::rT a i :=
 ⟨a[i],Ix h,Array.getElem_mem_toList h,by
  unfold rT;rw[Oe,Ik,Ix h];simp⟩
theorem jqm{x:Keyed}(h:x∈rT a n):x∈a.toList:=Uy (Oi.mp h)
theorem jf0{k:Nat}(h:k<=n)(hn:n<=a.size):(rT a n).take (n-k)=(a.extract k n).reverse.toList/\(rT a n).drop (n-k)=rT a k:=by
 have e:a.toList.take n=a.toList.take k++(a.toList.drop k).take (n-k):=by
  rw[<-Oq k (a.toList.take n),List.take_take,Nat.min_eq_left h,List.drop_take]
 have l:((a.toList.drop k).take (n-k)).reverse.length=n-k:=by simp;omega
 unfold rT;rw[e,Aay];refine⟨?_,?_⟩
 .rw[Is (by omega),Ob (by omega),Yr,Wu,List.extract_eq_drop_take]
 .rw[List.drop_append,l,Nat.sub_self,Yl (by omega)];rfl
theorem jql(a:Array Keyed):rT a a.size=a.toList.reverse:=by unfold rT;rw[Ob (by simp)]
theorem jh4(a:Array Keyed)(n:Nat):(a.extract 0 n).toList=(rT a n).reverse:=by unfold rT;rw[Aaw,Wu,List.extract_eq_drop_take];simp
theorem jsc(b:a.toList.Pairwise Le)(n:Nat):(rT a n).Pairwise (Ge Le):=Aar.mpr (b.sublist (List.take_sublist n _))
theorem jpy{k:Nat}{P:Keyed->Prop}(hn:n<=a.size)(h:∀j,j<k->j<n->P (fS a 0 j))(hk:k<=n):∀u∈rT a k,P u:=λu b=>by
 have:=jgw (a:=a) (i:=0) (n:=n) (k:=k) (P:=P) (by omega) hk (λj c=>h j c (by omega)) u (by simpa[rT]using b);exact this
theorem jm7{k:Nat}{P:Keyed->Prop}(hk:k<=n)(hn:n<=a.size)(h:∀j,k<=j->j<n->P (fS a 0 j)):∀u∈(rT a n).take (n-k),P u:=λu c=>by
 rw[(jf0 hk hn).1,Yr,Oi,show n=k+(n-k)by omega,jhp]at c;obtain⟨j,b⟩:=Il c;have d:=(Ab.mp b).1;rw[I0,W7,Array.length_toList]at d;rw[Ow (by omega),Ut]at b;have:=(jfi (a:=a) (i:=0) (j:=k+j) (by omega)).1;rw[List.drop_zero,b]at this
 cases this
 exact h _ (by omega) (by omega)
def AtH(Le:Keyed->Keyed->Prop)(a b:Array Keyed)(W:List Keyed)(out:Array Keyed)(na nb:Nat):Prop:=Mrg (Ge Le) W out.toList (rT a na) (rT b nb)/\1<=na/\na<=a.size/\2<=nb/\nb<=b.size
theorem jmn{b:Array Keyed}{Q:Array Keyed->SortSt->Prop}(O:Ord1 M A s κ U An Le)(kd:Kd κ st)(ua:∀x∈a.toList,U x)(ub:∀x∈b.toList,U x)(sa:a.toList.Pairwise Le)(sb:b.toList.Pairwise Le)(a1:1<=a.size)(b1:1<=b.size)
  (pa:∀y,b[0]?=some y->∀x∈a.toList,Le y x) (pb:∀x,a[a.size-1]?=some x->∀y∈b.toList,Le y x) (h:∀r st',Sm st st'->Out Le (a.toList++b.toList) r->Q r st'):wpS M A E s (jrj a b) Q st:=by
 refine Ay (wpS_lift (Yi ⟨rfl,?_⟩))
 generalize hW:a.toList++b.toList=W at h
 have tr:∀x y z,Ge Le x y->Ge Le y z->Ge Le x z:=λx y z h1 h2=>O.tr _ _ _ h2 h1
 have hd:∀{u v:Keyed}{x:List Keyed},Ge Le u v->(v::x).Pairwise (Ge Le)->∀w∈v::x,Ge Le u w:=fun{u v x} h sx w Z=>by
  rcases At.mp Z with rfl|Z
  .exact h
  .exact tr _ _ _ h ((Wk.mp sx).1 w Z)
 have ae:∀(f X Y:List Keyed),f.Perm W/\f.Pairwise (Ge Le)->f.reverse.Perm W/\f.reverse.Pairwise Le:=λf _ _ h=>⟨(U0 f).trans h.1,Aar.mpr h.2⟩
 have done:∀(f:Array Keyed)(o l:Nat),Mrg (Ge Le) W f.toList (rT a o) (rT b l)->o=0\/l=0->Out Le W (a.extract 0 o++b.extract 0 l++f.reverse):=λf o l m e=>by
  have:=ae _ [] [] (m.sw.all λu hu v hv=>by
   rcases e with rfl|rfl
   .cases hv
   .cases hu)
  unfold Out;rw[On,On,jh4,jh4,Yr];simpa using this
 have first:∀(f:Array Keyed)(o l:Nat),Mrg (Ge Le) W f.toList (rT a o) (rT b l)->l=1->Out Le W (b.extract 0 l++a.extract 0 o++f.reverse):=λf o l m e=>by
  have:=ae _ [] [] (m.all λu hu v hv=>by
   subst e;obtain⟨y,e1,e2,e3⟩:=jgb (a:=b) (i:=0) (by omega);rw[e3]at hv
   cases Ag.mp hv
   exact pa v e1 u (jqm hu))
  unfold Out;rw[On,On,jh4,jh4,Yr];simpa using this
 obtain⟨x0,f1,f2,f3⟩:=jgb (a:=a) (i:=a.size-1) (by omega)
 rw[show a.size-1+1=a.size by omega]at f3
 have m0:Mrg (Ge Le) W [x0] (rT a (a.size-1)) (rT b b.size):=by
  have:Mrg (Ge Le) W [] (rT a a.size) (rT b b.size):=⟨by rw[<-hW,List.nil_append,jql,jql];exact(U0 _).append (U0 _),.nil,jsc sa _,jsc sb _,λu hu=>by cases hu⟩;rw[f3]at this;simpa using this.px (λv hv=>pb x0 f1 v (jqm hv))
 refine Ay (jcm f1 (jct (λc1=>A3 (h _ _ (Sm.rfl st) (done _ _ _ m0 (.inl c1)))) λc1=>jct (λc2=>A3 (h _ _ (Sm.rfl st) (first _ _ _ m0 c2))) λc2=>Ay (Y7 ?_)))
 refine jdk (λx c st'=>Sm st st'/\∃o l f g,c=(none,o,l,f,g)/\AtH Le a b W f o l/\x+1+o+l<=a.size+b.size) (λc st'=>Sm st st'/\∃r t,c=(some r,t)/\Out Le W r) ⟨Sm.rfl st,a.size-1,b.size,_,_,rfl,⟨m0,by omega,by omega,by omega,by omega⟩,by omega⟩ ?_ ?_ ?_
 .intro x c aa _ hx q Q I N
  obtain⟨s1,o,l,f,g,rfl,mm,G⟩:=q
  refine jdk (λy c st'=>Sm st st'/\∃o l f p q,c=(none,o,l,f,p,q)/\AtH Le a b W f o l/\x+1+y+o+l<=a.size+b.size) (λc st'=>Sm st st'/\((∃r t,c=(some r,t)/\Out Le W r)\/∃o l f p q,c=(none,o,l,f,p,q)/\AtH Le a b W f o l/\x+2+o+l<=a.size+b.size)) ⟨s1,o,l,f,0,0,rfl,mm,by omega⟩ ?_ ?_ ?_
  .clear mm G I N
   intro y c st2 _ hy q Q I N
   obtain⟨T,o,l,f,p,q,rfl,⟨m,i1,R,i3,i4⟩,G⟩:=q
   have D:∀r t,Out Le W r->Q (.done (some r,t)) st2:=λr t b=>I _ _ ⟨T,.inl ⟨r,t,rfl,b⟩⟩
   have hn:∀f o l p q,AtH Le a b W f o l->x+2+y+o+l<=a.size+b.size->Q (.done (none,o,l,f,p,q)) st2/\Q (.yield (none,o,l,f,p,q)) st2:=λf o l p q m h=>⟨I _ _ ⟨T,.inr ⟨o,l,f,p,q,rfl,m,by omega⟩⟩,N _ _ ⟨T,o,l,f,p,q,rfl,m,by omega⟩⟩
   clear I N
   obtain⟨u,u1,u2,L⟩:=jgb (a:=b) (i:=l-1) (by omega)
   obtain⟨v,v1,v2,K⟩:=jgb (a:=a) (i:=o-1) (by omega)
   rw[show l-1+1=l by omega]at L
   rw[show o-1+1=o by omega]at K
   refine Ay (jcm u1 (Ay (jcm v1 (Ay (jfc O (T.kd kd) (ub u u2) (ua v v2) λw Z=>jcq (λe=>?_) λe=>?_)))))
   .subst e
    have m':Mrg (Ge Le) W (f.push v).toList (rT a (o-1)) (rT b l):=by
     have sy:=m.sy;rw[K]at m;rw[L]at sy;rw[Ug];exact m.px (by rw[L];exact hd (O.tt _ _ Z) sy)
    exact Ay (jcm v1 (jct (λc=>A3 (D _ _ (done _ _ _ m' (.inl c)))) fun(c:¬o-1=0)=>have h':=λp q=>hn _ (o-1) l p q ⟨m',by omega,by omega,i3,i4⟩ (by omega);jcq (λ_=>A3 (h' _ _).1) λ_=>A3 (h' _ _).2))
   .cases Ws.mpr e
    have m':Mrg (Ge Le) W (f.push u).toList (rT a o) (rT b (l-1)):=by
     have sx:=m.sx;rw[L]at m;rw[K]at sx;rw[Ug];exact m.py (by rw[K];exact hd (O.ff _ _ Z) sx)
    exact Ay (jcm u1 (jct (λc=>A3 (D _ _ (first _ _ _ m' c))) fun(c:¬l-1=1)=>have h':=λp q=>hn _ o (l-1) p q ⟨m',i1,R,by omega,by omega⟩ (by omega);jcq (λ_=>A3 (h' _ _).1) λ_=>A3 (h' _ _).2))
  .rintro c st2 ⟨T,o,l,f,p,q,rfl,⟨m,i1,R,i3,i4⟩,G⟩
   omega
  .clear mm G
   intro c st2 q
   obtain⟨T,G|⟨o,l,f,p,q,rfl,mm,G⟩⟩:=q
   .obtain⟨r,⟨o',a',b',p',q'⟩,rfl,hr⟩:=G
    exact A3 (I _ _ ⟨T,r,_,rfl,hr⟩)
   .refine Ay (wpS_lift (Yi ⟨rfl,?_⟩))
    refine jdk (λz c st'=>Sm st st'/\∃o l f g p q,c=(none,o,l,f,g,p,q)/\AtH Le a b W f o l/\x+2+o+l<=a.size+b.size) (λc st'=>Sm st st'/\((∃r t,c=(some r,t)/\Out Le W r)\/∃o l f g p q,c=(none,o,l,f,g,p,q)/\AtH Le a b W f o l/\x+2+o+l<=a.size+b.size)) ⟨T,o,l,f,_,p,q,rfl,mm,G⟩ ?_ ?_ ?_
    .clear mm G I N
     intro z c st3 _ hz q Q I N
     obtain⟨s3,o,l,f,g,p,q,rfl,⟨m,i1,R,i3,i4⟩,G⟩:=q
     have D:∀r t st',Sm st st'->Out Le W r->Q (.done (some r,t)) st':=λr t st' s b=>I _ _ ⟨s,.inl ⟨r,t,rfl,b⟩⟩
     have hn:∀f o l g p q st',Sm st st'->AtH Le a b W f o l->x+2+o+l<=a.size+b.size->Q (.done (none,o,l,f,g,p,q)) st'/\Q (.yield (none,o,l,f,g,p,q)) st':=λf o l g p q st' s m h=>⟨I _ _ ⟨s,.inr ⟨o,l,f,g,p,q,rfl,m,h⟩⟩,N _ _ ⟨s,o,l,f,g,p,q,rfl,m,h⟩⟩
     clear I N
     obtain⟨u,u1,u2,L⟩:=jgb (a:=b) (i:=l-1) (by omega)
     rw[show l-1+1=l by omega]at L
     have S1:=jh8 O ua sa 0 (n:=o) (by omega)
     extract_lets t1 t2 t3 t4 t5 t6 t7 t8 t9 ta tb tc jp td
     have hj:∀g',wpS M A E s (jp () g') Q st3:=by
      intro g';refine Ay (Wx ?_);refine jpb (s3.g g') λst4 S=>?_;refine Ay (jcm u1 (Ay (jdv (base:=0) (n:=o) (hint:=o-1) O (S.kd kd) (ub u u2) S1 (by omega) λk k1 k2 k3=>?_)));dsimp -zeta only;extract_lets e1 e2 jp2 e3 e4;have mA:Mrg (Ge Le) W (f++(a.extract k o).reverse).toList (rT a k) (rT b l):=by
       have sy:=m.sy;rw[L]at sy;have:=m.x (o-k) λu' ab v hv=>tr _ _ _ (jm7 (P:=λw=>Ge Le w u) k1 R k3 u' ab) (hd (O.rf u) sy v (L▸hv));rw[(jf0 k1 R).1,(jf0 k1 R).2]at this;rw[On];exact this
      have kA:∀w∈rT a k,Ge Le u w:=jpy (P:=λw=>Ge Le u w) R (λj hj _=>k2 j hj) k1;have ad:∀F B,Mrg (Ge Le) W F.toList (rT a B) (rT b l)->(∀w∈rT a B,Ge Le u w)->1<=B/\B<=a.size->x+2+B+l<=a.size+b.size->wpS M A E s (jp2 () B F) Q st4:=by
       clear mA kA G i1 m;intro F B mA kA iA iB;have m6:Mrg (Ge Le) W (F.push u).toList (rT a B) (rT b (l-1)):=by
        rw[L]at mA;rw[Ug];exact mA.py kA
       refine Ay (jcm u1 (jct (λc=>A3 (D _ _ _ S (first _ _ _ m6 c))) fun(c:¬l-1=1)=>?_));obtain⟨v,v1,v2,K⟩:=jgb (a:=a) (i:=B-1) (by omega);rw[show B-1+1=B by omega]at K;have S2:=jh8 O ub sb 0 (n:=l-1) (by omega);refine Ay (jcm v1 (Ay (jdv (base:=0) (n:=l-1) (hint:=l-1-1) O (S.kd kd) (ua v v2) S2 (by omega) λJ l1 l2 l3=>?_)));dsimp -zeta only;extract_lets e5 e6 e7 jp3 e8 e9;have m7:Mrg (Ge Le) W (F.push u++(b.extract J (l-1)).reverse).toList (rT a B) (rT b J):=by
        have sx:=m6.sx;rw[K]at sx;have:=(m6.sw.x (l-1-J) λu' ab w Z=>tr _ _ _ (jm7 (P:=λw=>Ge Le w v) l1 (by omega) l3 u' ab) (hd (O.rf v) sx w (K▸Z))).sw;rw[(jf0 l1 (by omega)).1,(jf0 l1 (by omega)).2]at this;rw[On];exact this
       have kB:∀w∈rT b J,Ge Le v w:=jpy (P:=λw=>Ge Le v w) (n:=l-1) (by omega) (λj hj _=>l2 j hj) l1;have ac:∀H C,Mrg (Ge Le) W H.toList (rT a B) (rT b C)->(∀w∈rT b C,Ge Le v w)->2<=C/\C<=b.size->x+3+B+C<=a.size+b.size->wpS M A E s (jp3 () C H) Q st4:=by
        clear m7 kB m6 mA;intro H C m7 kB jA jB;have m8:Mrg (Ge Le) W (H.push v).toList (rT a (B-1)) (rT b C):=by
         rw[K]at m7;rw[Ug];exact m7.px kB
        exact Ay (jcm v1 (jct (λc=>A3 (D _ _ _ S (done _ _ _ m8 (.inl c)))) fun(d:¬B-1=0)=>have h':=λg p q=>hn _ (B-1) C g p q _ S ⟨m8,by omega,by omega,jA.1,jA.2⟩ (by omega);jcq (λ_=>A3 (h' _ _ _).1) λ_=>A3 (h' _ _ _).2))
       exact jcq (fun(ck:l-1-J>0)=>jct (λc=>A3 (D _ _ _ S (first _ _ _ m7 c))) fun(c':¬J=1)=>jct (λc=>A3 (D _ _ _ S (done _ _ _ m7 (.inr c)))) fun(c2:¬J=0)=>ac _ J m7 kB (by omega) (by omega)) fun(ck:¬l-1-J>0)=>ac _ (l-1) m6 (by rw[show J=l-1 by omega]at kB;exact kB) (by omega) (by omega)
      exact jcq (fun(ck:o-k>0)=>jct (λc=>A3 (D _ _ _ S (done _ _ _ mA (.inl c)))) fun(c:¬k=0)=>ad _ k mA kA (by omega) (by omega)) fun(ck:¬o-k>0)=>ad f o m (by rw[show k=o by omega]at kA;exact kA) ⟨i1,R⟩ G
     exact jcq (λ_=>hj _) λ_=>hj _
    .rintro c st3 ⟨s3,hI⟩
     exact⟨s3,.inr hI⟩
    .intro c st3 q
     obtain⟨s3,G|⟨o,l,f,g',p,q,rfl,af,G⟩⟩:=q
     .obtain⟨r,⟨o',a',b',g',p',q'⟩,rfl,hr⟩:=G
      exact A3 (I _ _ ⟨s3,r,_,rfl,hr⟩)
     .exact Ay (Wx (A3 (N _ _ ⟨s3.g _,o,l,f,_,rfl,af,by omega⟩)))
 .rintro c aa ⟨s1,o,l,f,g,rfl,⟨m,i1,R,i3,i4⟩,G⟩
  omega
 .rintro c aa ⟨s1,r,t,rfl,hr⟩
  exact A3 (h r aa s1 hr)
end
def sS(κ:SortKind)(pd:Array (Nat×Nat×Nat))(g:Nat)(l:List Keyed):SortSt:=SortSt.mk' κ l.toArray pd g none
theorem jj6{α:Type}{xs:Array α}{l:List α}(h:∀k:Nat,xs[k]?=l[k]?):xs=l.toArray:=by
 apply Array.ext_getElem?;intro k;rw[h,Om]
theorem get3(P R T:List Keyed)(k:Nat):(P++R++T)[k]?=if k<P.length then P[k]? else if k<P.length+R.length then R[k-P.length]? else T[k-P.length-R.length]?:=by
 rw[A5];by_cases c:k<P.length
 .rw[Al c,A8 c]
 .rw[Ai c,A9 (by omega)];by_cases d:k<P.length+R.length
  .rw[Al d,A8 (by omega)]
  .rw[Ai d,A9 (by omega)]
theorem jmj(P R T:List Keyed):mirror (P++R++T).toArray P.length (P.length+R.length) ((P.length+R.length-P.length) / 2)=(P++R.reverse++T).toArray:=by
 refine jj6 λk=>?_;rw[getElem?_mirror_all (by simp),Om,Om,get3,get3,get3,List.length_reverse];by_cases c:k<P.length
 .rw[Ai (by omega),Al c,Al c]
 by_cases d:k<P.length+R.length
 .rw[Al ⟨by omega,d⟩,Ai (by omega),Al (by omega),Ai c,Al d,List.getElem?_reverse (by omega)];congr 1;omega
 .rw[Ai (by omega),Ai c,Ai d,Ai c,Ai d]
theorem jmg(P R T:List Keyed)(x:Keyed):bubble (P++R++x::T).toArray (P.length+R.length) (P.length+R.length-P.length)=(P++(x::R)++T).toArray:=by
 refine jj6 λk=>?_;rw[getElem?_bubble (by simp) _ (by omega),Om,Om,Om,get3,get3,get3,get3,List.length_cons];by_cases c:k<P.length
 .rw[Ai (by omega),Ai (by omega),Al c,Al c]
 by_cases c1:k=P.length
 .rw[Al (by omega),Ai (by omega),Ai (by omega),Ai c,Al (by omega),c1];simp
 by_cases d:k<P.length+(R.length+1)
 .rw[Ai (by omega),Al (by omega),Ai (by omega),Al (by omega),Ai c,Al d,show k-P.length=(k-1-P.length)+1 by omega,List.getElem?_cons_succ]
 .rw[Ai (by omega),Ai (by omega),Ai c,Ai (by omega),Ai c,Ai d,show k-P.length-R.length=(k-P.length-(R.length+1))+1 by omega,List.getElem?_cons_succ]
variable{S T:List Keyed}
section
variable{M:Model}{A:Around}{E:Value->Shared->Prop}{s:Shared}{κ:SortKind}{U:Keyed->Prop}{An:Keyed->Keyed->Bool->Prop}{Le:Keyed->Keyed->Prop}{pd:Array (Nat×Nat×Nat)}{g:Nat}
theorem juh(l:List Keyed):Kd κ (sS κ pd g l):=⟨rfl,rfl⟩
theorem jd2{j:Nat}{l:List Keyed}{x y:Keyed}{Q:Option Bool->SortSt->Prop}(O:Ord1 M A s κ U An Le)(hU:∀x∈l,U x)(a:l[i]?=some x)(hy:l[j]?=some y)(h:∀b,An x y b->Q (some b) (sS κ pd g l)):wpS M A E s (ltAt' i j) Q (sS κ pd g l):=by
 rw[ltAt'_eq];refine Ay (Y7 ?_);exact Ay (jcm (by show l.toArray[i]?=_;rw[Om];exact a) (Ay (jcm (by show l.toArray[j]?=_;rw[Om];exact hy) (jfc O (juh l) (hU _ (Ap a)) (hU _ (Ap hy)) h))))
theorem jgj{j:Nat}{l P R:List Keyed}{Q:Unit->SortSt->Prop}(e:l=P++R++T)(hi:i=P.length)(hj:j=P.length+R.length)(h:Q () (sS κ pd g (P++R.reverse++T))):wpS M A E s (reverseSlice' i j) Q (sS κ pd g l):=by
 subst e hi hj;rw[reverseSlice'_eq];refine Wx ?_;have e:setArr (sS κ pd g (P++R++T)) (mirror (arrOf (sS κ pd g (P++R++T))) P.length (P.length+R.length) ((P.length+R.length-P.length) / 2))=sS κ pd g (P++R.reverse++T):=by
  show SortSt.mk' κ (mirror (P++R++T).toArray _ _ _) pd g none=_;rw[jmj];rfl
 rw[e];exact h
theorem jr0{j:Nat}{l P R:List Keyed}{x:Keyed}{Q:Unit->SortSt->Prop}(e:l=P++R++x::T)(hi:i=P.length+R.length)(hj:j=P.length)(h:Q () (sS κ pd g (P++(x::R)++T))):wpS M A E s (moveDown' i j) Q (sS κ pd g l):=by
 subst e hi hj;rw[moveDown'_eq];refine Wx ?_;have e:setArr (sS κ pd g (P++R++x::T)) (bubble (arrOf (sS κ pd g (P++R++x::T))) (P.length+R.length) (P.length+R.length-P.length))=sS κ pd g (P++(x::R)++T):=by
  show SortSt.mk' κ (bubble (P++R++x::T).toArray _ _) pd g none=_;rw[jmg];rfl
 rw[e];exact h
theorem jrz{P:List Keyed}{lo ok:Nat}{Q:Bool->SortSt->Prop}(O:Ord1 M A s κ U An Le)(hU:∀x∈P++S++T,U x)(H:lo=P.length)(hok:ok=S.length)(s1:1<=S.length)(hn:ok<=n)(hT:n<=S.length+T.length)(G:S.Pairwise Le)
  (h:∀S' T',S'.length=n->S'.Pairwise Le->(S'++T').Perm (S++T)->Q true (sS κ pd g (P++S'++T'))):wpS M A E s (binarySort' lo n ok) Q (sS κ pd g (P++S++T)):=by
 subst H hok
 refine Ay (W9 (Wm (I:=λk c d=>c=(none,())/\∃S' T',d=sS κ pd g (P++S'++T')/\S'.length=k/\S'.Pairwise Le/\(S'++T').Perm (S++T))
  (Q:=λc d=>c=(none,())/\∃S' T',d=sS κ pd g (P++S'++T')/\S'.length=n/\S'.Pairwise Le/\(S'++T').Perm (S++T)) ?_ ?_ ⟨rfl,S,T,rfl,by omega,G,Wf _⟩) ?_)
 .rintro k c d ab aa ⟨rfl,S',T',rfl,v,o,p⟩
  have L:=p.length_eq
  rw[Aq,Aq]at L
  obtain⟨x,T2,rfl⟩:∃x T2,T'=x::T2:=by
   cases T' with
   |nil=>simp at L;omega
   |cons x T2=>exact⟨x,T2,rfl⟩
  have K:∀y∈P++S'++x::T2,U y:=λy q=>hU y (by
   rw[A5]at q⊢;rcases Ar.mp q with q|q
   .exact Io _ q
   .exact Ig _ (p.mem_iff.mp q))
  have ex:(P++S'++x::T2)[P.length+k]?=some x:=by rw[A9 (by simp;omega)];simp[v]
  dsimp only
  refine Ay (W9 (Wm (I:=λy c d=>sS κ pd g (P++S'++x::T2)=d/\∃l r,c=(none,l,r)/\l<=r/\r<=k/\(∀i z,i<l->S'[i]?=some z->Le z x)/\(∀i z,r<=i->S'[i]?=some z->Le x z)/\r-l<=k-y)
   (Q:=λc d=>sS κ pd g (P++S'++x::T2)=d/\∃l,c=(none,l,l)/\l<=k/\(∀i z,i<l->S'[i]?=some z->Le z x)/\(∀i z,l<=i->S'[i]?=some z->Le x z)) ?_ ?_ ⟨rfl,0,k,rfl,by omega,by omega,λi z h=>by omega,λi z h e=>by have:=(Ab.mp e).1;omega,by omega⟩) ?_)
  .rintro y c C _ q ⟨rfl,l,r,rfl,W,B,t,F,h5⟩
   dsimp only
   by_cases c:l ≥ r
   .rw[Al c]
    obtain rfl:l=r:=by omega
    exact A3 ⟨rfl,l,rfl,B,t,F⟩
   .rw[Ai c]
    have u:S'[(l+r) / 2]?=some (S'[(l+r) / 2]'(by omega)):=Aa _
    generalize S'[(l+r) / 2]'(by omega)=w at u
    have X:=Ou.mp o
    have N:∀i j a b,i<j->S'[i]?=some a->S'[j]?=some b->Le a b:=λi j a b J D f=>by
     obtain⟨l1,e1⟩:=Ab.mp D;obtain⟨l2,e2⟩:=Ab.mp f;have:=X i j l1 l2 J;rw[e1,e2]at this;exact this
    refine Ay (jd2 O K ex (j:=P.length+(l+r) / 2) (y:=w) (by rw[A5,A9 (by omega),A8 (by omega),Nat.add_sub_cancel_left];exact u) λb f=>?_)
    dsimp only
    cases b with
    |true =>
     refine A3 ⟨rfl,l,(l+r) / 2,rfl,by omega,by omega,t,λi z m e=>?_,by omega⟩
     by_cases c:i=(l+r) / 2
     .subst c;rw[u]at e;cases e;exact O.tt _ _ f
     .exact O.tr _ _ _ (O.tt _ _ f) (N _ i _ _ (by omega) u e)
    |false =>
     refine A3 ⟨rfl,(l+r) / 2+1,r,rfl,by omega,by omega,λi z m e=>?_,F,by omega⟩
     by_cases c:i=(l+r) / 2
     .subst c;rw[u]at e;cases e;exact O.ff _ _ f
     .exact O.tr _ _ _ (N i _ _ _ (by omega) e u) (O.ff _ _ f)
  .rintro c C ⟨rfl,l,r,rfl,W,B,t,F,h5⟩
   obtain rfl:l=r:=by omega
   exact⟨rfl,l,rfl,B,t,F⟩
  .rintro c C ⟨rfl,l,rfl,W,B,t⟩
   dsimp only
   have e:=Oq l S'
   have tl:(S'.take l).length=l:=by rw[I0];omega
   have dl:(S'.drop l).length=k-l:=by rw[W7];omega
   refine Ay (jr0 (P:=P++S'.take l) (R:=S'.drop l) (T:=T2) (x:=x) (by rw[A5 P (S'.take l),e]) (by simp;omega) (by simp;omega) ?_)
   refine A3 ⟨rfl,S'.take l++x::S'.drop l,T2,by simp,by simp;omega,?_,?_⟩
   .rw[<-e]at o
    obtain⟨q1,Z,Y⟩:=Ia.mp o
    refine Ia.mpr ⟨q1,Wk.mpr ⟨λz hz=>?_,Z⟩,λa D b f=>?_⟩
    .obtain⟨i,m⟩:=Il hz
     rw[Ut]at m
     exact t _ z (by omega) m
    .rcases At.mp f with rfl|f
     .obtain⟨i,m⟩:=Il D
      have v:=(Ab.mp m).1
      rw[Ow (by omega)]at m
      exact B i a (by omega) m
     .exact Y a D b f
   .refine List.Perm.trans ?_ p
    rw[A5,List.cons_append]
    refine(List.perm_middle).trans ?_
    rw[<-A5,e]
    exact List.perm_middle.symm
 .rintro c d ⟨rfl,S',T',rfl,v,o,p⟩
  exact⟨rfl,S',T',rfl,by omega,o,p⟩
 .rintro c d ⟨rfl,S',T',rfl,v,o,p⟩
  exact A3 (h S' T' v o p)
end
section
variable{M:Model}{A:Around}{E:Value->Shared->Prop}{s:Shared}{κ:SortKind}{U:Keyed->Prop}{An:Keyed->Keyed->Bool->Prop}{Le:Keyed->Keyed->Prop}{pd:Array (Nat×Nat×Nat)}{g:Nat}
theorem jhe(P S T:List Keyed)(z t:Keyed):(P++(S++[z])++t::T)[P.length+(S.length+1)]?=some t/\(P++(S++[z])++t::T)[P.length+(S.length+1)-1]?=some z:=by
 rw[get3,get3];refine⟨?_,?_⟩
 .rw[Ai (by omega),Ai (by simp)];simp
 .rw[Ai (by omega),Al (by simp),show P.length+(S.length+1)-1-P.length=S.length by omega];simp
theorem jld(h:1<=S.length):∃S0 z,S=S0++[z]:=by
 rcases List.eq_nil_or_concat S with rfl|⟨S0,z,e⟩
 .simp at h
 .exact⟨S0,z,by rw[e,List.concat_eq_append]⟩
theorem jn1(O:Ord1 M A s κ U An Le){z t:Keyed}(h:(S++[z]).Pairwise Le)(q:Le z t):(S++[z]++[t]).Pairwise Le:=by
 refine Ia.mpr ⟨h,by simp,λx a y b=>?_⟩
 cases Ag.mp b
 rcases Ar.mp a with a|a
 .exact O.tr _ _ _ ((Ia.mp h).2.2 x a z (by simp)) q
 .cases Ag.mp a;exact q
theorem jpa{P:List Keyed}{lo X:Nat}{Q:Option Nat->SortSt->Prop}(O:Ord1 M A s κ U An Le)(hU:∀x∈P++T,U x)(ag:lo=P.length)(hn:X=T.length)(h1:1<=T.length)
  (h:∀S T',1<=S.length->S.Pairwise Le->(S++T').Perm T->Q (some S.length) (sS κ pd g (P++S++T'))):wpS M A E s (countRun' lo X) Q (sS κ pd g (P++T)):=by
 subst ag hn
 have H:∀{S T':List Keyed},(S++T').Perm T->∀x∈P++S++T',U x:=λj x f=>hU x (by
  rw[A5]at f;rcases Ar.mp f with f|f
  .exact Io _ f
  .exact Ig _ (j.mem_iff.mp f))
 obtain⟨y0,T0,eT⟩:∃y T0,T=y::T0:=by
  cases T with
  |nil=>simp at h1
  |cons y T0=>exact⟨y,T0,rfl⟩
 refine jdk (λx c d=>∃S z T',c=(none,S.length+1)/\d=sS κ pd g (P++(S++[z])++T')/\S++[z]++T'=T/\(S++[z]).Pairwise Le/\x=S.length+1)
  (λc d=>∃S z T',c=(none,S.length+1)/\d=sS κ pd g (P++(S++[z])++T')/\S++[z]++T'=T/\(S++[z]).Pairwise Le/\(T'=[]\/∃t T2,T'=t::T2/\Le t z)) ⟨[],y0,T0,rfl,by rw[eT];simp,by rw[eT];rfl,by simp,rfl⟩ ?_ ?_ ?_
 .intro x c d ad N q Q' qd Y
  obtain⟨S,z,T',rfl,rfl,e,p,rfl⟩:=q
  obtain⟨t,T2,rfl⟩:∃t T2,T'=t::T2:=by
   cases T' with
   |nil=>rw[<-e]at N;simp at N
   |cons t T2=>exact⟨t,T2,rfl⟩
  obtain⟨a1,Z⟩:=jhe P S T2 z t
  refine Ay (jd2 O (H (by rw[e])) a1 Z λb k=>jcq (λc=>?_) λc=>?_)
  .subst c
   exact A3 (qd _ _ ⟨S,z,t::T2,rfl,rfl,e,p,.inr ⟨t,T2,rfl,O.tt _ _ k⟩⟩)
  .cases Ws.mpr c
   exact A3 (Y _ _ ⟨S++[z],t,T2,by simp,by simp,by rw[<-e];simp,jn1 O p (O.ff _ _ k),by simp⟩)
 .rintro c d ⟨S,z,T',rfl,rfl,e,p,f⟩
  refine⟨S,z,T',rfl,rfl,e,p,.inl ?_⟩
  have:=O6 List.length e
  simp at this
  exact Os.mp (by omega)
 intro c d q
 obtain⟨S,z,T',rfl,rfl,e,p,hT⟩:=q
 have el:=O6 List.length e
 rw[Aq,Aq,List.length_singleton]at el
 refine jct (λc1=>?_) fun(c1:¬S.length+1=T.length)=>?_
 .have:=h (S++[z]) T' (by simp) p (by rw[e])
  rw[Aq,List.length_singleton]at this
  exact A3 this
 obtain⟨t,T2,rfl,tz⟩:∃t T2,T'=t::T2/\Le t z:=by
  rcases hT with rfl|h
  .simp at el;omega
  .exact h
 have pe:(S++[z]++t::T2).Perm T:=by rw[e]
 have ab:∀x∈S++[z],Le x z:=λx f=>by
  rcases Ar.mp f with f|f
  .exact(Ia.mp p).2.2 x f z (by simp)
  .cases Ag.mp f;exact O.rf _
 extract_lets n0 q0 jp
 have hj:∀K,(∀x∈K,∀y∈K,Le x y)->(∀x∈K,Le t x)->(K++t::T2).Perm T->K.length=S.length+1->wpS M A E s (jp ()) Q (sS κ pd g (P++K++t::T2)):=by
  clear pe ab tz e p;intro K mu lt pS lS;refine Ay (wpS_lift (Yi ⟨rfl,?_⟩));refine jdk (λx c d=>∃B R T' q,c=(none,x,q)/\d=sS κ pd g (P++(B++R)++T')/\(B++R).Pairwise (Ge Le)/\R.length=q+1/\(∀x∈R,∀y∈R,Le x y)/\B.length+R.length=x/\(B++R++T').Perm T)
   (λc d=>∃B R T' q n,c=(none,n,q)/\d=sS κ pd g (P++(B++R)++T')/\(B++R).Pairwise (Ge Le)/\R.length=q+1/\(∀x∈R,∀y∈R,Le x y)/\B.length+R.length=n/\(B++R++T').Perm T) ⟨K,[t],T2,0,rfl,by simp,?_,rfl,λx f y hy=>by cases Ag.mp f;cases Ag.mp hy;exact O.rf _,(show K.length+1=S.length+1+1 by rw[lS]),by simpa using pS⟩ ?_ ?_ ?_
  .refine Ia.mpr ⟨Ya λa G b k=>mu b k a G,by simp,λa G b k=>?_⟩
   cases Ag.mp k
   exact lt a G
  .intro x c d ad N q Q' qd Y;obtain⟨B,R,T',q,rfl,rfl,m,W,o,I,j⟩:=q;have pl:=j.length_eq;rw[Aq,Aq]at pl;obtain⟨D,T3,rfl⟩:∃t T3,T'=t::T3:=by
    cases T' with
    |nil=>simp at pl;omega
    |cons t T3=>exact⟨t,T3,rfl⟩
   obtain⟨F,r,rfl⟩:=jld (S:=R) (by omega);obtain⟨a1,Z⟩:=jhe P (B++F) T3 r D;have ex:(B++F).length+1=x:=by rw[<-I];simp;omega
   rw[ex,A5 B]at a1 Z;have dn:∀v∈B++(F++[r]),Le r v:=λv l=>by
    rw[<-A5]at l m;rcases Ar.mp l with l|l
    .exact(Ia.mp m).2.2 v l r (by simp)
    .cases Ag.mp l;exact O.rf _
   refine Ay (jd2 O (H j) a1 Z λb k=>jcq (λJ=>?_) λJ=>?_)
   .subst J;have L:=O.tt _ _ k;have sn:(B++(F++[r]).reverse++[D]).Pairwise (Ge Le):=by
     refine Ia.mpr ⟨?_,by simp,λv l w u=>?_⟩
     .obtain⟨p1,p2,p3⟩:=Ia.mp m;refine Ia.mpr ⟨p1,Ya λa G b k=>o b (Oi.mp k) a (Oi.mp G),λa G b k=>p3 a G b (Oi.mp k)⟩
     .cases Ag.mp u
      refine O.tr _ _ _ L (dn v ?_);exact(Ar.mp l).elim (Io _) λh=>Ig _ (Oi.mp h)
    have pn:(B++(F++[r]).reverse++[D]++T3).Perm T:=by
     refine List.Perm.trans ?_ j;rw[A5 _ [D]];exact((U0 _).append_left B).append_right _
    have ac:∀x∈[D],∀y∈[D],Le x y:=λx f y hy=>by cases Ag.mp f;cases Ag.mp hy;exact O.rf _
    refine jcq (fun(cq:q>0)=>?_) fun(cq:¬q>0)=>?_
    .refine Ay (jgj (P:=P++B) (R:=F++[r]) (T:=D::T3) (by simp) (show P.length+x-(q+1)=(P++B).length by simp at W I⊢;omega) (show P.length+x=(P++B).length+(F++[r]).length by simp at W I⊢;omega) ?_);exact A3 (Y _ _ ⟨B++(F++[r]).reverse,[D],T3,0,rfl,by simp,sn,rfl,ac,by simp at I⊢;omega,pn⟩)
    .obtain rfl:F=[]:=Os.mp (by simp at W;omega);exact A3 (Y _ _ ⟨B++[r],[D],T3,0,rfl,by simp,by simpa using sn,rfl,ac,by simp at I⊢;omega,by simpa using pn⟩)
   .cases Ws.mpr J
    have zt:=O.ff _ _ k;refine Ay (jd2 O (H j) Z a1 λb' ah=>jcq (λJ=>?_) λJ=>?_)
    .exact A3 (qd _ _ ⟨B,F++[r],D::T3,q,x,rfl,rfl,m,W,o,I,j⟩)
    .cases Ws.mpr J
     have L:=O.ff _ _ ah;have mz:∀v∈F++[r],Le v D/\Le D v:=λv l=>⟨O.tr _ _ _ (o v l r (by simp)) zt,O.tr _ _ _ L (o r (by simp) v l)⟩;refine A3 (Y _ _ ⟨B,F++[r]++[D],T3,q+1,rfl,by simp,?_,by simp at W⊢;omega,λv l w u=>?_,by simp at I⊢;omega,by simpa using j⟩)
     .rw[<-A5];refine Ia.mpr ⟨m,by simp,λv l w u=>?_⟩
      cases Ag.mp u
      exact O.tr _ _ _ L (dn v l)
     .rcases Ar.mp l with l|l
      .rcases Ar.mp u with u|u
       .exact o v l w u
       .cases Ag.mp u;exact(mz v l).1
      .cases Ag.mp l
       rcases Ar.mp u with u|u
       .exact(mz w u).2
       .cases Ag.mp u;exact O.rf _
  .rintro c d ⟨B,R,T',q,rfl,rfl,m,W,o,I,j⟩;exact⟨B,R,T',q,_,rfl,rfl,m,W,o,I,j⟩
  intro c d q;obtain⟨B,R,T',q,n,rfl,rfl,m,W,o,I,j⟩:=q;extract_lets r1 s1 n1 q1 jp2;have sr:(B++R.reverse).Pairwise (Ge Le):=by
   obtain⟨p1,p2,p3⟩:=Ia.mp m;exact Ia.mpr ⟨p1,Ya λa G b k=>o b (Oi.mp k) a (Oi.mp G),λa G b k=>p3 a G b (Oi.mp k)⟩
  have pr:(B++R.reverse++T').Perm T:=(((U0 _).append_left B).append_right _).trans j;have lr:(B++R.reverse).length=n:=by simp;omega
  have ae:∀C,C.Pairwise (Ge Le)->(C++T').Perm T->C.length=n->wpS M A E s (jp2 ()) Q (sS κ pd g (P++C++T')):=by
   intro C sr pr lr;refine Ay (jgj (P:=P) (R:=C) (T:=T') rfl rfl (show P.length+n=P.length+C.length by omega) ?_);have sc:C.reverse.Pairwise Le:=Aar.mpr sr;have pc:(C.reverse++T').Perm T:=((U0 _).append_right _).trans pr;have lc:C.reverse.length=n:=by simpa using lr
   obtain⟨S3,z3,e3⟩:=jld (S:=C.reverse) (by omega);rw[e3]at sc pc lc⊢;rw[Aq,List.length_singleton]at lc;refine jdk (λx c d=>∃S z T',c=(none,S.length+1)/\d=sS κ pd g (P++(S++[z])++T')/\(S++[z]).Pairwise Le/\(S++[z]++T').Perm T/\x=S.length+1)
    (λc d=>∃S z T',c=(none,S.length+1)/\d=sS κ pd g (P++(S++[z])++T')/\(S++[z]).Pairwise Le/\(S++[z]++T').Perm T) ⟨S3,z3,T',by rw[lc],rfl,sc,pc,by rw[lc]⟩ ?_ ?_ ?_
   .intro x c d ad N q Q' qd Y;obtain⟨S,z,T',rfl,rfl,p,j,rfl⟩:=q;have pl:=j.length_eq;rw[Aq,Aq,List.length_singleton]at pl;obtain⟨t,T2,rfl⟩:∃t T2,T'=t::T2:=by
     cases T' with
     |nil=>simp at pl;omega
     |cons t T2=>exact⟨t,T2,rfl⟩
    obtain⟨a1,Z⟩:=jhe P S T2 z t;refine Ay (jd2 O (H j) a1 Z λb k=>jcq (λJ=>?_) λJ=>?_)
    .exact A3 (qd _ _ ⟨S,z,t::T2,rfl,rfl,p,j⟩)
    .cases Ws.mpr J
     exact A3 (Y _ _ ⟨S++[z],t,T2,by simp,by simp,jn1 O p (O.ff _ _ k),by simpa using j,by simp⟩)
   .rintro c d ⟨S,z,T',rfl,rfl,p,j,_⟩;exact⟨S,z,T',rfl,rfl,p,j⟩
   .rintro c d ⟨S,z,T',rfl,rfl,p,j⟩;have:=h (S++[z]) T' (by simp) p j;rw[Aq,List.length_singleton]at this;exact A3 this
  refine jcq (fun(cq:q>0)=>?_) fun(cq:¬q>0)=>?_
  .refine Ay (jgj (P:=P++B) (R:=R) (T:=T') (by simp) (show P.length+n-(q+1)=(P++B).length by simp;omega) (show P.length+n=(P++B).length+R.length by simp;omega) ?_);rw[A5 P B];exact ae _ sr pr lr
  .obtain⟨v,rfl⟩:∃v,R=[v]:=List.length_eq_one_iff.mp (by omega);exact ae _ sr pr lr
 refine jcq (fun(c2:S.length+1>1)=>?_) fun(c2:¬S.length+1>1)=>?_
 .obtain⟨y,S1,eS⟩:∃y S1,S=y::S1:=by
   cases S with
   |nil=>simp at c2
   |cons y S1=>exact⟨y,S1,rfl⟩
  have fy:∀x∈S++[z],Le y x:=λx f=>by
   rw[eS,List.cons_append]at f p;exact je8 O (O.rf y) p x f
  refine Ay (jd2 O (H pe) (i:=P.length) (x:=y) (by rw[get3,Ai (by omega),Al (by simp),eS];simp) (jhe P S T2 z t).2 λb k=>jcq (λaf=>?_) λaf=>?_)
  .have:=h (S++[z]) (t::T2) (by simp) p pe
   rw[Aq,List.length_singleton]at this
   exact A3 this
  have zy:Le z y:=O.ff _ _ (by cases b;exact k;exact absurd rfl af)
  refine Ay (jgj (P:=P) (R:=S++[z]) (T:=t::T2) rfl rfl (by simp) (hj _ (λx f y' aa=>O.tr _ _ _ (O.tr _ _ _ (ab x (Oi.mp f)) zy) (fy y' (Oi.mp aa))) (λx f=>O.tr _ _ _ (O.tr _ _ _ tz zy) (fy x (Oi.mp f))) (((U0 _).append_right _).trans pe) (by simp)))
 .obtain rfl:S=[]:=Os.mp (by omega)
  refine hj _ (λx f y' aa=>?_) (λx f=>?_) pe rfl
  .cases Ag.mp f
   cases Ag.mp aa
   exact O.rf _
  .cases Ag.mp f;exact tz
end
section
variable{M:Model}{A:Around}{E:Value->Shared->Prop}{s:Shared}{κ:SortKind}{U:Keyed->Prop}{An:Keyed->Keyed->Bool->Prop}{Le:Keyed->Keyed->Prop}{pd:Array (Nat×Nat×Nat)}{g:Nat}
theorem jtm{Q:PUnit->SortSt->Prop}(h:Q ⟨⟩ st'):wpS M A E s (set st':StateT SortSt Sem PUnit) Q st:=by
 unfold wpS;rw[StateT.run_set];exact Aj ⟨rfl,h⟩
theorem jub{α:Type}{m:StateT SortSt Sem α}{Q:α->SortSt->Prop}(e:st=st')(h:wpS M A E s m Q st'):wpS M A E s m Q st:=e▸h
def dK:Keyed:=(Value.none,Value.none)
theorem jef{L:List Keyed}{j:Nat}(h:j<L.length):L[j]?=some (L.getD j dK):=by rw[Af,Aa h];rfl
theorem jgy{L:List Keyed}{k:Nat}{P:Keyed->Prop}(h:∀j,j<k->P (L.getD j dK)):∀u∈L.take k,P u:=λu b=>by
 obtain⟨j,a⟩:=Il b;have c:=(Ab.mp a).1;rw[I0]at c;rw[Ow (by omega),jef (by omega)]at a
 cases a
 exact h j (by omega)
theorem jgx{L:List Keyed}{k:Nat}{P:Keyed->Prop}(h:∀j,k<=j->j<L.length->P (L.getD j dK)):∀u∈L.drop k,P u:=λu b=>by
 obtain⟨j,a⟩:=Il b;have c:=(Ab.mp a).1;rw[W7]at c;rw[Ut,jef (by omega)]at a
 cases a
 exact h (k+j) (by omega) (by omega)
theorem jny(O:Ord1 M A s κ U An Le)(B L D:List Keyed)(hU:∀x∈L,U x)(so:L.Pairwise Le):Seg U Le (B++L++D).toArray B.length L.length (λj=>L.getD j dK):=by
 refine⟨λj a=>?_,λj a=>hU _ (Ap (jef a)),λi j e a=>?_⟩
 .rw[Om,get3,Ai (by omega),Al (by omega),show B.length+j-B.length=j by omega];exact jef a
 .by_cases c:i=j
  .subst c;exact O.rf _
  .have:=Ou.mp so i j (by omega) a (by omega);obtain⟨_,d⟩:=Ab.mp (jef (L:=L) (j:=i) (by omega));obtain⟨_,b⟩:=Ab.mp (jef a);rw[d,b]at this;exact this
theorem jnz(b:Nat):∀(Z W B D:List Keyed)(n:Nat),W.length=Z.length->b+n=B.length->(Z.zipIdx n).foldl (λa x=>a.setIfInBounds (b+x.2) x.1) (B++W++D).toArray=(B++Z++D).toArray
 |[],[],B,D,n,_,_=>rfl
 |z::Z,w::W,B,D,n,hl,ho=>by
  rw[List.zipIdx_cons,List.foldl_cons];have e:(B++w::W++D).toArray.setIfInBounds (b+n) z=((B++[z])++W++D).toArray:=by
   rw[List.setIfInBounds_toArray,ho];congr 1;rw[A5,List.set_append_right _ _ (Ao _),Nat.sub_self];simp
  dsimp only;rw[e,jnz b Z W (B++[z]) D (n+1) (by simpa using hl) (by simp;omega)];simp
 |[],_::_,_,_,_,h,_=>by simp at h
 |_::_,[],_,_,_,h,_=>by simp at h
theorem jm1(B L D:List Keyed):(B++L++D).toArray.extract B.length (B.length+L.length)=L.toArray:=by
 apply Array.toList_inj.mp;rw[jhp];simp
theorem jmf{P X Y:List Keyed}{pw pw2:Nat}{Q:Bool->SortSt->Prop}(O:Ord1 M A s κ U An Le)(hU:∀x∈X++Y,U x)(hi:pd[i]?=some (P.length,X.length,pw))(hj:pd[i+1]?=some (P.length+X.length,Y.length,pw2))(x1:1<=X.length)(y1:1<=Y.length)(sX:X.Pairwise Le)(sY:Y.Pairwise Le)
  (h:∀Z g',Z.Perm (X++Y)->Z.Pairwise Le->Q true (sS κ ((pd.setIfInBounds i (P.length,X.length+Y.length,pw)).eraseIdxIfInBounds (i+1)) g' (P++Z++T))):wpS M A E s (mergeAt' i) Q (sS κ pd g (P++(X++Y)++T)):=by
 refine Ay (Y7 ?_)
 have e1:(pendingOf (sS κ pd g (P++(X++Y)++T)))[i]?=some (P.length,X.length,pw):=hi
 have e2:(pendingOf (sS κ pd g (P++(X++Y)++T)))[i+1]?=some (P.length+X.length,Y.length,pw2):=hj
 rw[e1,e2]
 clear e1 e2
 dsimp only
 obtain⟨y0,Y',G⟩:∃y Y',Y=y::Y':=by
  cases Y with
  |nil=>simp at y1
  |cons y Y'=>exact⟨y,Y',rfl⟩
 obtain⟨X0,xl,H⟩:=jld x1
 have uX:∀x∈X,U x:=λx hx=>hU x (Io _ hx)
 have uY:∀x∈Y,U x:=λx hx=>hU x (Ig _ hx)
 have W:U y0:=uY y0 (by rw[G];simp)
 have aa:U xl:=uX xl (by rw[H];simp)
 have I:∀v∈Y,Le y0 v:=λv c=>by rw[G]at c sY;exact je8 O (O.rf _) sY v c
 have xA:∀v∈X,Le v xl:=λv c=>by
  rw[H]at c sX;rcases Ar.mp c with c|c
  .exact(Ia.mp sX).2.2 v c xl (by simp)
  .cases Ag.mp c;exact O.rf _
 have aE:arrOf (sS κ pd g (P++(X++Y)++T))=(P++(X++Y)++T).toArray:=rfl
 have S:=jny O P X (Y++T) uX sX
 have R:=jny O (P++X) Y T uY sY
 have K:P++X++(Y++T)=P++(X++Y)++T:=by simp
 have q2:P++X++Y++T=P++(X++Y)++T:=by simp
 rw[K]at S
 rw[q2,Aq]at R
 have ay:(P++(X++Y)++T).toArray[P.length+X.length]?=some y0:=by
  have:=R.at_ 0 (by omega);rw[G]at this⊢;exact this
 have ax:∀n,n=P.length+X.length-1->(P++(X++Y)++T).toArray[n]?=some xl:=λn hn=>by
  have:=S.at_ (X.length-1) (by omega);rw[show P.length+(X.length-1)=n by omega]at this;rw[this];congr 1;rw[H];simp
 have f:(∀u∈X,∀v∈Y,Le u v)->Q true (sS κ ((pd.setIfInBounds i (P.length,X.length+Y.length,pw)).eraseIdxIfInBounds (i+1)) g (P++(X++Y)++T)):=λq=>h (X++Y) g (Wf _) (Ia.mpr ⟨sX,sY,q⟩)
 refine Ay (jtm ?_)
 refine Ay (jcm (x:=y0) ay (Ay (jdv O ⟨rfl,rfl⟩ W S (by omega) λk k1 k2 k3=>?_)))
 dsimp only
 by_cases m:(X.length-k == 0)=true
 .rw[Al m]
  have m:X.length-k=0:=by simpa using m
  refine A3 (f λu d v c=>O.tr _ _ _ (jgy (L:=X) (k:=k) (P:=λw=>Le w y0) k2 u ?_) (I v c))
  rw[Ob (by omega)];exact d
 rw[Ai m]
 have m:¬X.length-k=0:=by simpa using m
 refine Ay (jcm (x:=xl) (ax _ (by omega)) (Ay (jdv O ⟨rfl,rfl⟩ aa R (by omega) λnb n1 n2 n3=>?_)))
 dsimp only
 by_cases j:(nb == 0)=true
 .rw[Al j]
  have j:nb=0:=by simpa using j
  refine A3 (f λu d v c=>O.tr _ _ _ (xA u d) (jgx (L:=Y) (k:=nb) (P:=λw=>Le xl w) n3 v ?_))
  rw[j];exact c
 rw[Ai j]
 have j:¬nb=0:=by simpa using j
 have B:∀u∈X.take k,Le u y0:=jgy (P:=λw=>Le w y0) k2
 have o:∀u∈X.drop k,Le y0 u:=jgx (P:=λw=>Le y0 w) k3
 have ag:∀u∈Y.take nb,Le u xl:=jgy (P:=λw=>Le w xl) n2
 have ab:∀u∈Y.drop nb,Le xl u:=jgx (P:=λw=>Le xl w) n3
 have D:=Oq k X
 have C:=Oq nb Y
 have lX:(X.take k).length=k:=by rw[I0];omega
 have z:(X.drop k).length=X.length-k:=W7 ..
 have lY:(Y.take nb).length=nb:=by rw[I0];omega
 have t:=sX
 have p:=sY
 rw[<-D]at t
 rw[<-C]at p
 obtain⟨a1,a2,a3⟩:=Ia.mp t
 obtain⟨b1,b2,b3⟩:=Ia.mp p
 have af:P++(X++Y)++T=(P++X.take k)++(X.drop k++Y.take nb)++(Y.drop nb++T):=by
  have e:X++Y=X.take k++X.drop k++(Y.take nb++Y.drop nb):=by rw[D,C]
  rw[e];simp only[A5]
 have eA:(P++(X++Y)++T).toArray.extract (P.length+k) (P.length+X.length)=(X.drop k).toArray:=by
  have:=jm1 (P++X.take k) (X.drop k) (Y++T);rw[Aq,lX,z,show P.length+k+(X.length-k)=P.length+X.length by omega]at this;rw[<-this];rw[A5 P (X.take k),D,K]
 have eB:(P++(X++Y)++T).toArray.extract (P.length+X.length) (P.length+X.length+nb)=(Y.take nb).toArray:=by
  have:=jm1 (P++X) (Y.take nb) (Y.drop nb++T);rw[Aq,lY]at this;rw[<-this];rw[A5 (P++X) (Y.take nb),<-A5 (Y.take nb),C,K]
 have ac:∀(r:Array Keyed)(st':SortSt),Sm (sS κ ((pd.setIfInBounds i (P.length,X.length+Y.length,pw)).eraseIdxIfInBounds (i+1)) g (P++(X++Y)++T)) st'->Out Le (X.drop k++Y.take nb) r->∃g',SortSt.mk' (kindOf st') (r.toList.zipIdx.foldl (λa x=>a.setIfInBounds (P.length+k+x.2) x.1) (arrOf st')) (pendingOf st') (gallopOf st') (failedOf st')=sS κ ((pd.setIfInBounds i (P.length,X.length+Y.length,pw)).eraseIdxIfInBounds (i+1)) g' (P++(X.take k++r.toList++Y.drop nb)++T)/\Q true (sS κ ((pd.setIfInBounds i (P.length,X.length+Y.length,pw)).eraseIdxIfInBounds (i+1)) g' (P++(X.take k++r.toList++Y.drop nb)++T)):=λr st' J l=>by
  obtain⟨g',rfl⟩:=J;obtain⟨N,so⟩:=l;refine⟨g',?_,h _ _ ?_ ?_⟩
  .show SortSt.mk' κ (r.toList.zipIdx.foldl (λa x=>a.setIfInBounds (P.length+k+x.2) x.1) (P++(X++Y)++T).toArray) _ g' none=_;rw[af,jnz (P.length+k) r.toList (X.drop k++Y.take nb) (P++X.take k) (Y.drop nb++T) 0 N.length_eq.symm (by rw[Aq,lX];omega)];unfold sS;congr 2;simp
  .refine List.Perm.trans (((N.append_left _).append_right _)) ?_;rw[<-A5,A5 _ (Y.take nb),D,C]
  .have inr:∀u∈r.toList,u∈X.drop k\/u∈Y.take nb:=λu d=>Ar.mp (N.mem_iff.mp d);refine Ia.mpr ⟨Ia.mpr ⟨a1,so,λu d v c=>O.tr _ _ _ (B u d) ?_⟩,b2,λu d v c=>?_⟩
   .rcases inr v c with c|c
    .exact o v c
    .exact I v (Uy c)
   .rcases Ar.mp d with d|d
    .exact O.tr _ _ _ (B u d) (I v (Ua c))
    .rcases inr u d with d|d
     .exact O.tr _ _ _ (xA u (Ua d)) (ab v c)
     .exact b3 u d v c
 have pa:∀y,(Y.take nb).toArray[0]?=some y->∀x∈(X.drop k).toArray.toList,Le y x:=λy F x hx=>by
  rw[Om,Ow (by omega),G]at F
  cases F
  exact o x hx
 have pb:∀x,(X.drop k).toArray[(X.drop k).toArray.size-1]?=some x->∀y∈(Y.take nb).toArray.toList,Le y x:=λx hx y F=>by
  rw[Om,A0,z,Ut,show k+(X.length-k-1)=X.length-1 by omega,H]at hx;simp at hx;subst hx;exact ag y F
 have ae:(arrOf (sS κ pd g (P++(X++Y)++T))).extract (P.length+k) (P.length+X.length)=(X.drop k).toArray:=eA
 have ad:(arrOf (sS κ pd g (P++(X++Y)++T))).extract (P.length+X.length) (P.length+X.length+nb)=(Y.take nb).toArray:=eB
 rw[ae,ad]
 by_cases c3:X.length-k<=nb
 case' pos=>rw[Al c3]
 case' neg=>rw[Ai c3]
 case' pos=>refine Ay (W9 (jmo (a:=(X.drop k).toArray) (b:=(Y.take nb).toArray) (Q:=λr st'=>Sm (sS κ ((pd.setIfInBounds i (P.length,X.length+Y.length,pw)).eraseIdxIfInBounds (i+1)) g (P++(X++Y)++T)) st'/\Out Le (X.drop k++Y.take nb) r) O ⟨rfl,rfl⟩ (λx hx=>uX x (Ua hx)) (λx hx=>uY x (Uy hx)) a2 b1 (by simp;omega) (by simp;omega) pa pb λr st' h1 h2=>⟨h1,h2⟩) ?_)
 case' neg=>refine Ay (W9 (jmn (a:=(X.drop k).toArray) (b:=(Y.take nb).toArray) (Q:=λr st'=>Sm (sS κ ((pd.setIfInBounds i (P.length,X.length+Y.length,pw)).eraseIdxIfInBounds (i+1)) g (P++(X++Y)++T)) st'/\Out Le (X.drop k++Y.take nb) r) O ⟨rfl,rfl⟩ (λx hx=>uX x (Ua hx)) (λx hx=>uY x (Uy hx)) a2 b1 (by simp;omega) (by simp;omega) pa pb λr st' h1 h2=>⟨h1,h2⟩) ?_)
 all_goals
  rintro r st' ⟨J,l⟩
  obtain⟨g',e,q⟩:=ac r st' J l
  refine Ay (Wx ?_)
  exact jub e (Ay (Y7 (A3 q)))
end
theorem jo1{α:Type}(xs:Array α)(i:Nat)(h:i<xs.size):(xs.eraseIdxIfInBounds i).size=xs.size-1:=by rw[Array.eraseIdxIfInBounds_eq,dif_pos h,Array.size_eraseIdx]
variable{pd:Array (Nat×Nat×Nat)}
theorem pend_sS{κ:SortKind}{g:Nat}(l:List Keyed):(pendingOf (sS κ pd g l)).back?=pd.back?:=rfl
theorem jt8{c:Prop}[Decidable c](h:2<=n):(if c then n-2-1 else n-2)+1<n:=by split <;> omega
structure Rs(Le:Keyed->Keyed->Prop)(W:List Keyed)(pd:Array (Nat×Nat×Nat))(bs:List (List Keyed))(T:List Keyed):Prop where
 pm:(bs.flatten++T).Perm W
 so:∀b∈bs,b.Pairwise Le/\1<=b.length
 sz:pd.size=bs.length
 at_:∀i b,bs[i]?=some b->∃pw,pd[i]?=some ((bs.take i).flatten.length,b.length,pw)
theorem Rs.cnt{bs:List (List Keyed)}(h:Rs Le W pd bs T):bs.length<=bs.flatten.length:=by
 have a:=h.so;clear h;induction bs with
 |nil=>simp
 |cons b bs ih =>
  have:=ih λc d=>a c (.tail _ d);have:=(a b (.head _)).2;simp only[List.length_cons,List.flatten_cons,Aq];omega
theorem Rs.pw{bs:List (List Keyed)}(h:Rs Le W pd bs T)(i pw:Nat):Rs Le W (pd.modify i λp=>(p.1,p.2.1,pw)) bs T:=by
 refine⟨h.pm,h.so,by rw[Array.size_modify];exact h.sz,λj b e=>?_⟩;obtain⟨q,a⟩:=h.at_ j b e;rw[Array.getElem?_modify,a];split
 .exact⟨pw,rfl⟩
 .exact⟨q,rfl⟩
theorem Rs.push{bs:List (List Keyed)}(h:Rs Le W pd bs (S++T))(so:S.Pairwise Le)(s1:1<=S.length):Rs Le W (pd.push (bs.flatten.length,S.length,0)) (bs++[S]) T:=by
 refine⟨by simpa using h.pm,λb a=>?_,by simp[h.sz],λi b e=>?_⟩
 .rcases Ar.mp a with a|a
  .exact h.so b a
  .cases Ag.mp a;exact⟨so,s1⟩
 .have d:=h.sz;rw[Array.getElem?_push];by_cases c:i<bs.length
  .rw[A8 c]at e;rw[Ai (by omega),Is (by omega)];exact h.at_ i b e
  .have f:=(Ab.mp e).1;rw[Aq,List.length_singleton]at f;obtain rfl:i=bs.length:=by omega
   rw[Al d.symm,Is (Ao _),Im];rw[A9 (Ao _)]at e;simp at e;subst e;exact⟨0,rfl⟩
section
variable{M:Model}{A:Around}{E:Value->Shared->Prop}{s:Shared}{κ:SortKind}{U:Keyed->Prop}{An:Keyed->Keyed->Bool->Prop}{Le:Keyed->Keyed->Prop}
theorem jgr{g:Nat}{bs:List (List Keyed)}{Q:Bool->SortSt->Prop}(O:Ord1 M A s κ U An Le)(hU:∀x∈W,U x)(h:Rs Le W pd bs T)(hi:i+1<bs.length)
  (q:∀bs' pd' g',Rs Le W pd' bs' T->bs'.length+1=bs.length->bs'.flatten.length=bs.flatten.length->Q true (sS κ pd' g' (bs'.flatten++T))):wpS M A E s (mergeAt' i) Q (sS κ pd g (bs.flatten++T)):=by
 obtain⟨a,X,Y,f,rfl,rfl⟩:∃a X Y f,bs=a++X::Y::f/\i=a.length:=by
  refine⟨bs.take i,bs[i],bs[i+1],bs.drop (i+2),?_,by rw[I0];omega⟩;rw[<-Ww,<-Ww,Oq]
 have r:=h.so X (by simp)
 have p:=h.so Y (by simp)
 obtain⟨l,w⟩:=h.at_ a.length X (by simp)
 obtain⟨pw2,v⟩:=h.at_ (a.length+1) Y (by rw[A9 (by omega)];simp)
 rw[Is (Ao _),Im]at w
 have C:(a++X::Y::f).take (a.length+1)=a++[X]:=by
  rw[List.take_append,Ob (by omega)];simp
 rw[C]at v
 have n:(a++X::Y::f).flatten++T=a.flatten++(X++Y)++(f.flatten++T):=by simp
 rw[n]
 refine jmf (pw2:=pw2) O (λx H=>hU x (h.pm.mem_iff.mp ?_)) w (by rw[v];simp) r.2 p.2 r.1 p.1 λZ g' t D=>?_
 .rw[n]
  exact Io _ (Ig _ H)
 have G:Z.length=X.length+Y.length:=by rw[t.length_eq,Aq]
 have I:pd.size=a.length+(f.length+2):=by have:=h.sz;simpa using this
 have u:a.flatten++Z++(f.flatten++T)=(a++Z::f).flatten++T:=by simp
 rw[u]
 refine q (a++Z::f) _ g' ⟨?_,λb k=>?_,?_,λj b e=>?_⟩ (by simp only[Aq,List.length_cons];omega) (by simp only[Yt,List.flatten_cons,Aq];omega)
 .refine List.Perm.trans ?_ h.pm
  rw[<-u,n]
  exact(t.append_left _).append_right _
 .rcases Ar.mp k with k|k
  .exact h.so b (Io _ k)
  .rcases At.mp k with rfl|k
   .exact⟨D,by omega⟩
   .exact h.so b (Ig _ (by simp[k]))
 .rw[jo1 _ _ (by rw[Y0];omega),Y0,I]
  simp only[Aq,List.length_cons]
  omega
 .have F:((pd.setIfInBounds a.length (a.flatten.length,X.length+Y.length,l)).eraseIdxIfInBounds (a.length+1))[j]?=if j<a.length then pd[j]? else if j=a.length then some (a.flatten.length,X.length+Y.length,l)else pd[j+1]?:=by
   rw[<-Ik,Array.toList_eraseIdxIfInBounds,List.getElem?_eraseIdx,Ik,Ik,Array.getElem?_setIfInBounds,Array.getElem?_setIfInBounds];by_cases c:j<a.length
   .rw[Al (by omega),Ai (by omega),Al c]
   .by_cases d:j=a.length
    .rw[Al (by omega),Al d.symm,Al (by omega),Ai c,Al d]
    .rw[Ai (by omega),Ai (by omega),Ai c,Ai d]
  rw[F]
  by_cases c:j<a.length
  .rw[Al c,Is (by omega)]
   rw[A8 c]at e
   have:=h.at_ j b (by rw[A8 c];exact e)
   rw[Is (by omega)]at this
   exact this
  .rw[Ai c]
   by_cases d:j=a.length
   .subst d
    rw[Al rfl,Is (Ao _),Im]
    rw[A9 (Ao _)]at e
    simp at e
    subst e
    exact⟨l,by rw[G]⟩
   .rw[Ai d]
    obtain⟨m,rfl⟩:∃m,j=a.length+1+m:=⟨j-a.length-1,by omega⟩
    rw[A9 (by omega),show a.length+1+m-a.length=m+1 by omega,List.getElem?_cons_succ]at e
    obtain⟨o,J⟩:=h.at_ (a.length+1+m+1) b (by rw[A9 (by omega),show a.length+1+m+1-a.length=m+2 by omega,List.getElem?_cons_succ,List.getElem?_cons_succ];exact e)
    refine⟨o,?_⟩
    rw[J]
    have B:(a++X::Y::f).take (a.length+1+m+1)=a++X::Y::f.take m:=by
     rw[List.take_append,Ob (by omega),show a.length+1+m+1-a.length=m+2 by omega,List.take_succ_cons,List.take_succ_cons]
    have z:(a++Z::f).take (a.length+1+m)=a++Z::f.take m:=by
     rw[List.take_append,Ob (by omega),show a.length+1+m-a.length=m+1 by omega,List.take_succ_cons]
    have y:(a++X::Y::f.take m).flatten.length=(a++Z::f.take m).flatten.length:=by
     simp only[Yt,List.flatten_cons,Aq];omega
    rw[B,z,y]
theorem jq0{g:Nat}{Q:Unit->SortSt->Prop}(O:Ord1 M A s κ U An Le)(hU:∀x∈W,U x)
  (h:∀Z pd g',Z.Perm W->Z.Pairwise Le->Q () (sS κ pd g' Z)):wpS M A E s sortRuns' Q (sS κ #[] g W):=by
 refine Ay (Y7 ?_)
 have eN:(arrOf (sS κ #[] g W)).size=W.length:=by show W.toArray.size=_;simp
 rw[eN]
 dsimp only
 refine Ay (W9 (Wm (I:=λx c f=>∃d T pd g,c=(none,d.flatten.length)/\f=sS κ pd g (d.flatten++T)/\Rs Le W pd d T/\x<=d.flatten.length)
  (Q:=λc f=>∃d pd g n,c=(none,n)/\f=sS κ pd g (d.flatten++[])/\Rs Le W pd d []) ?_ ?_ ⟨[],W,#[],g,rfl,rfl,⟨Wf _,by simp,rfl,by simp⟩,by omega⟩) ?_)
 .rintro x c f _ D ⟨d,T,pd,g,rfl,rfl,j,ab⟩
  dsimp only
  have B:=j.pm.length_eq
  rw[Aq]at B
  by_cases c:d.flatten.length ≥ W.length
  .rw[Al c]
   obtain rfl:T=[]:=Os.mp (by omega)
   exact A3 ⟨d,pd,g,_,rfl,rfl,j⟩
  rw[Ai c]
  refine Ay (jpa O (λx D=>hU x (j.pm.mem_iff.mp D)) rfl (by omega) (by omega) λS L s1 so pm=>?_)
  dsimp only
  have Y:=pm.length_eq
  rw[Aq]at Y
  have w:Rs Le W pd d (S++L):=⟨(pm.append_left _).trans j.pm,j.so,j.sz,j.at_⟩
  have ac:∀x∈d.flatten++S++L,U x:=λx D=>hU x (w.pm.mem_iff.mp (by rw[<-A5];exact D))
  refine jcq (λK=>?ca) (λK=>?cb)
  case' ca =>
   refine Ay (wpS_lift (Yi ⟨rfl,?_⟩))
   refine Ay (jrz O ac rfl rfl s1 (by omega) (by omega) so λN G hl P X=>?_)
   rw[Ai (by simp),<-hl]
   have l:Rs Le W pd d (N++G):=⟨(X.append_left _).trans w.pm,j.so,j.sz,j.at_⟩
   have C:1<=N.length:=by omega
   have o:=P
   revert l C o
   generalize N=k
   generalize G=p
  case' cb =>
   have l:=w
   have C:=s1
   have o:=so
   revert l C o
   generalize S=k
   generalize L=p
  all_goals
   intro l C o
   have u:∀(a:List (List Keyed))(i:Array (Nat×Nat×Nat))(g':Nat),Rs Le W i a (k++p)->a.flatten.length=d.flatten.length->∃m G t J,((none,d.flatten.length+k.length):Option Unit×Nat)=(none,m.flatten.length)/\sS κ (i.push (d.flatten.length,k.length,0)) g' (a.flatten++(k++p))=sS κ t J (m.flatten++G)/\Rs Le W t m G/\x+1<=m.flatten.length:=λa i g' r e=>by
    have fl:(a++[k]).flatten.length=d.flatten.length+k.length:=by rw[Yt,Aq,e,List.flatten_singleton]
    refine⟨a++[k],p,i.push (d.flatten.length,k.length,0),g',by rw[fl],by rw[Yt,A5,List.flatten_singleton],?_,by rw[fl];omega⟩;rw[<-e];exact r.push o C
   rw[A5]
   refine Ay (Y7 ?_)
   rw[pend_sS]
   cases pd.back? with
   |none=>exact Ay (Wx (A3 (u d pd g l rfl)))
   |some q =>
    obtain⟨q1,q2,q3⟩:=q
    dsimp only
    refine Ay (W9 (Wm (I:=λ_ c f=>∃a i g',c=(none,())/\f=sS κ i g' (a.flatten++(k++p))/\Rs Le W i a (k++p)/\a.flatten.length=d.flatten.length)
     (Q:=λc f=>∃a i g',c=(none,())/\f=sS κ i g' (a.flatten++(k++p))/\Rs Le W i a (k++p)/\a.flatten.length=d.flatten.length) ?_ (λ_ _ z=>z) ⟨d,pd,g,rfl,rfl,l,rfl⟩) ?_)
    .rintro y c f _ _ ⟨a,i,g',rfl,rfl,r,e⟩
     refine Ay (Y7 ?_)
     have F:(pendingOf (sS κ i g' (a.flatten++(k++p)))).size=a.length:=r.sz
     rw[F]
     by_cases v:a.length>1
     .obtain⟨pw,hp⟩:=r.at_ (a.length-2) _ (Aa (by omega))
      have aa:(pendingOf (sS κ i g' (a.flatten++(k++p))))[a.length-2]?=_:=hp
      rw[Al v,aa]
      refine jcq (λ_=>A3 ⟨a,i,g',rfl,rfl,r,e⟩) (λ_=>?_)
      refine Ay (jgr O hU r (by omega) λm t J r2 l1 l2=>?_)
      rw[Ai (by simp)]
      exact A3 ⟨m,t,J,rfl,rfl,r2,l2.trans e⟩
     .rw[Ai v]
      exact A3 ⟨a,i,g',rfl,rfl,r,e⟩
    .rintro c f ⟨a,i,g',rfl,rfl,r,e⟩
     exact Ay (Wx (Ay (Wx (A3 (u a _ g' (r.pw _ _) e)))))
 .rintro c f ⟨d,T,pd,g,rfl,rfl,j,ab⟩
  have B:=j.pm.length_eq
  rw[Aq]at B
  obtain rfl:T=[]:=Os.mp (by omega)
  exact⟨d,pd,g,_,rfl,rfl,j⟩
 .rintro c f ⟨d,pd,g,n,rfl,rfl,j⟩
  dsimp only
  have K:=j.cnt
  have B:=j.pm.length_eq
  rw[Aq,List.length_nil]at B
  refine Ay (W9 (Wm (I:=λx c f=>∃d pd g,c=(none,())/\f=sS κ pd g (d.flatten++[])/\Rs Le W pd d []/\d.length<=W.length-x+1)
   (Q:=λc f=>∃d pd g,c=(none,())/\f=sS κ pd g (d.flatten++[])/\Rs Le W pd d []/\d.length<=1) ?_ ?_ ⟨d,pd,g,rfl,rfl,j,by omega⟩) ?_)
  .clear j K B
   rintro x c f _ D ⟨d,pd,g,rfl,rfl,j,H⟩
   refine Ay (Y7 ?_)
   have F:(pendingOf (sS κ pd g (d.flatten++[]))).size=d.length:=j.sz
   refine jcq (λv=>A3 ⟨d,pd,g,rfl,rfl,j,?_⟩) (λv=>?_)
   .rw[<-F];exact v
   .have v:¬d.length<=1:=by rw[<-F];exact v
    refine Ay (jgr O hU j ?_ λa i g' R l1 l2=>?_)
    .rw[F]
     exact jt8 (by omega)
    .rw[Ai (by simp)]
     exact A3 ⟨a,i,g',rfl,rfl,R,by omega⟩
  .rintro c f ⟨d,pd,g,rfl,rfl,j,H⟩
   exact⟨d,pd,g,rfl,rfl,j,by omega⟩
  .rintro c f ⟨d,pd,g,rfl,rfl,j,H⟩
   refine A3 (h _ pd g j.pm ?_)
   cases d with
   |nil=>simp
   |cons b d =>
    obtain rfl:d=[]:=Os.mp (by simp at H;simpa using H)
    simpa using(j.so b (.head _)).1
end
section
variable{prog:Program}{w:World}{A:Around}{E:Value->Shared->Prop}{s:Shared}
def two(v:Value):Keyed:=(v,v)
theorem jn8:∀vs:List Value,vs.zip vs=vs.map two
 |[]=>rfl
 |v::vs=>by rw[List.zip_cons_cons,jn8 vs];rfl
theorem jtk(vs:List Value):(vs.map two).toArray.map (·.2)=vs.toArray:=by
 rw[List.map_toArray,Az];exact O6 _ (Wi _)
theorem jia{D:Addr}{P:PySem.Fin->Shared->Prop}{κ:SortKind}{U:Keyed->Prop}{An:Keyed->Keyed->Bool->Prop}(q:s.heap.get? D=some (seqObj "list" vs.toArray n))(hsz:vs.length<=sizeLine)(hU:∀v∈vs,U (two v))
  (hk:∀h2:Heap,(∀b o,b≠D->s.heap.get? b=some o->h2.get? b=some o)->2<=vs.length->Ord1 (model prog w) A {s with heap:=h2} κ U An Le/\∀C:SortKind->Shared->Prop,C κ {s with heap:=h2}->wpAny (model prog w) A (keyKind' vs.toArray) C E {s with heap:=h2})
  (h:∀(h':Heap)(vs':List Value)(c:Nat),vs'.Perm vs->(vs'.map two).Pairwise Le->h'.get? D=some (seqObj "list" vs'.toArray c)->(∀b o,b≠D->s.heap.get? b=some o->h'.get? b=some o)->P (.done (.ret .none)) {s with heap:=h'}) :
  wpAny (model prog w) A (Builtin.«list.sort» ⟨[.ref D],[]⟩) P E s:=by
 obtain⟨z,t⟩:∃z,(s.heap.update D (Obj.mapSeq λ_=>(#[]:Array Value))).get? D=some (seqObj "list" #[] z):=⟨_,get?_update_seq q λ_=>#[]⟩
 have y:∀b o,b≠D->s.heap.get? b=some o->(s.heap.update D (Obj.mapSeq λ_=>(#[]:Array Value))).get? b=some o:=λb o a e=>(Ub _ _ (Wy a)).trans e
 have i:vs.toArray.size=vs.length:=A0 ..
 rw[list_sort_plain]
 refine Ad (listItems_at q rfl (Ad (listUpdate_at q rfl ?_ (by rw[i];omega) (Op _))))
 generalize s.heap.update D (Obj.mapSeq λ_=>(#[]:Array Value))=r at t y⊢
 refine Ad (seqEpoch_at t rfl (Ad (wpAny_newTuple (Ad (wpAny_newList (O0 ?_) (Op _))) (by rw[Array.length_toList,i];omega))))
 have m:∀b o,r.get? b=some o->((r.push (seqObj "tuple" vs.toArray.toList.toArray 0)).push (seqObj "list" [].toArray 0)).get? b=some o:=λb o e=>Ak _ (Ak _ e)
 have k:=m _ _ t
 generalize hh2:((r.push (seqObj "tuple" vs.toArray.toList.toArray 0)).push (seqObj "list" [].toArray 0))=h2 at m k
 have d:∀b o,b≠D->s.heap.get? b=some o->h2.get? b=some o:=λb o a e=>m _ _ (y _ _ a e)
 have hk:=hk h2 d
 show wpAny _ A _ P E {s with heap:=h2}
 dsimp only
 have H:∀Z:List Keyed,Z.Perm (vs.map two)->∃vs':List Value,vs'.Perm vs/\Z=vs'.map two:=λZ u=>by
  refine⟨Z.map (·.2),?_,?_⟩
  .have:=u.map (·.2);rw[Az]at this;exact this.trans (by rw[show((λx:Keyed=>x.2)∘two)=id from rfl,Wi])
  .rw[Az];refine((Ib λx p=>?_).trans (Wi _)).symm;obtain⟨v,_,rfl⟩:=Am.mp (u.mem_iff.mp p);rfl
 have B:vs.toArray.zip vs.toArray=(vs.map two).toArray:=by
  apply Array.toList_inj.mp;rw[Array.toList_zip];exact jn8 vs
 rw[B]
 by_cases c:vs.toArray.size<2
 case' pos =>
  rw[Al c,Al c]
  refine Ad (Aj ?_)
  rw[StateT.run_pure]
  refine Ad (Aj ?_)
  have F:∃vs':List Value,vs'.Perm vs/\(vs'.map two).Pairwise Le/\arrOf (SortSt.mk' general' (vs.map two).toArray #[] 7 none)=(vs'.map two).toArray/\failedOf (SortSt.mk' general' (vs.map two).toArray #[] 7 none)=none:=by
   refine⟨vs,Wf _,?_,rfl,rfl⟩;rw[i]at c;match vs,c with
   |[],_=>exact .nil
   |[v],_=>exact List.pairwise_singleton _ _
   |_::_::_,c=>simp at c;omega
  generalize SortSt.mk' general' (vs.map two).toArray #[] 7 none=f at F⊢
 case' neg =>
  rw[Ai c,Ai c]
  rw[i]at c
  obtain⟨O,I⟩:=hk (by omega)
  refine Ad (I _ ?_)
  refine Ad (Uv (jq0 (Q:=λ_ f=>∃vs':List Value,vs'.Perm vs/\(vs'.map two).Pairwise Le/\arrOf f=(vs'.map two).toArray/\failedOf f=none) (W:=vs.map two) (g:=7) O (λx p=>?_) λZ N R G l=>?_) ?_ λ_ _ e=>e)
  .obtain⟨v,J,rfl⟩:=Am.mp p
   exact hU v J
  .obtain⟨vs',j,rfl⟩:=H Z G
   exact⟨vs',j,l,rfl,rfl⟩
  rintro⟨⟨⟩,f⟩ M ⟨rfl,F⟩
 all_goals
  obtain⟨vs',j,l,L,K⟩:=F
  dsimp only
  rw[L,K,jtk]
  refine Ad (seqEpoch_at k rfl (Ad (listUpdate_at k rfl ?_ (Op _) (by rw[A0,j.length_eq];omega))))
  rw[Ai (by simp)]
  exact Aj (h _ vs' _ j l (get?_update_seq k λ_=>vs'.toArray) λb o a e=>(Ub _ _ (Wy a)).trans (d _ _ a e))
end
def tupD(k:List Int):PyData:=.tuple (k.map PyData.int)
theorem jio(a b:Int):PyData.eqv (.int a) (.int b)=decide (a=b):=by
 rw[PyData.eqv];by_cases h:a=b <;> simp[h]
theorem jfr:∀(a b:List Int),PyData.eqvAll (a.map PyData.int) (b.map PyData.int)=decide (a=b)
 |[],[]=>by simp[PyData.eqvAll]
 |[],_::_=>by simp[PyData.eqvAll]
 |_::_,[]=>by simp[PyData.eqvAll]
 |x::a,y::b=>by
  rw[Au,Au,PyData.eqvAll,jio,jfr a b];by_cases h:x=y <;> by_cases h2:a=b <;> simp[h,h2]
theorem jm0(a b:List Int):PyData.eqv (tupD a) (tupD b)=decide (a=b):=by
 unfold tupD;rw[PyData.eqv];exact jfr a b
theorem jhh:∀l:List Int,PyData.canLayAll0 (l.map PyData.int)=true
 |[]=>rfl
 |_::l=>by rw[Au,PyData.canLayAll0,jhh l];rfl
theorem jpe(k:List Int):(tupD k).canLay0=true:=by unfold tupD;rw[PyData.canLay0];exact jhh k
theorem jmr:∀l:List (List Int),PyData.canLayAll0 (l.map tupD)=true
 |[]=>rfl
 |k::l=>by rw[Au,PyData.canLayAll0,jpe,jmr l];rfl
theorem jhm:∀l:List Int,PyData.depthAll (l.map PyData.int)<=1
 |[]=>by simp[PyData.depthAll]
 |x::l=>by
  have:=jhm l;rw[Au,PyData.depthAll];have:(PyData.int x).depth<=1:=by simp[PyData.depth]
  omega
theorem jmz:∀l:List (List Int),PyData.depthAll (l.map tupD)<=3
 |[]=>by simp[PyData.depthAll]
 |k::l=>by
  have:=jmz l;rw[Au,PyData.depthAll];have:(tupD k).depth<=3:=by unfold tupD;rw[PyData.depth];have:=jhm k;omega
  omega
theorem jft{α:Type}[BEq α][LawfulBEq α]{l:List α}{x:α}(h:x∈l):l[l.idxOf x]?=some x/\∀m e,m<l.idxOf x->l[m]?=some e->e≠x:=by
 have a:=A7.mpr h;refine⟨by rw[Aa a,Oc a],λm e b c z=>?_⟩;subst z;have:=List.not_of_lt_findIdx (p:=(· == e)) (xs:=l) (i:=m) (by simpa[List.idxOf]using b);obtain⟨d,q⟩:=Ab.mp c;rw[q]at this;simp at this
theorem joh{ns:List Int}{y:Int}{Q:VK}(e:H l=some (.lst (ns.map V.int)))(hy:y∈ns)(q:Q (.int (ns.idxOf y:Nat)) H):jeg (.ref l) [.int y] H Q:=by
 obtain⟨g,f⟩:=jft hy;refine⟨ns.map V.int,ns.map PyData.int,.int y,ns.idxOf y,e,Reps.ints _ ns,by simp[Rep],jhh ns,rfl,Og (jhm ns) (by decide),⟨.int y,by rw[Ah,g];rfl,by rw[jio];simp⟩,λm d c a=>?_,q⟩;rw[Ah]at a;obtain⟨x,b,rfl⟩:=Ih.mp a;rw[jio];exact O3 (f m x c b)
theorem jlz{k:List Int}(e:H b=some (.tup (k.map V.int))):Rep H (.ref b) (tupD k):=by
 unfold tupD;simp only[Rep];exact⟨b,_,rfl,e,Reps.ints _ k⟩
theorem jjy{H:Hp}{kf:Addr->List Int}:∀{bs:List Addr},(∀b∈bs,H b=some (.tup ((kf b).map V.int)))->Reps H (bs.map V.ref) ((bs.map kf).map tupD)
 |[],_=>by simp[Reps]
 |b::bs,h=>by
  rw[Au,Au,Au];simp only[Reps];exact⟨jlz (h b (.head _)),jjy λc a=>h c (.tail _ a)⟩
theorem joj{bs:List Addr}{k:List Int}{Q:VK}(e:H l=some (.lst (bs.map V.ref)))(hb:∀b∈bs,H b=some (.tup ((kf b).map V.int)))(eb:H b=some (.tup (k.map V.int)))(hk:k∈bs.map kf)(q:Q (.int ((bs.map kf).idxOf k:Nat)) H):jeg (.ref l) [.ref b] H Q:=by
 obtain⟨h,g⟩:=jft hk;refine⟨bs.map V.ref,(bs.map kf).map tupD,tupD k,(bs.map kf).idxOf k,e,jjy hb,jlz eb,jmr _,jpe k,Og (jmz _) (by decide),⟨tupD k,by rw[Ah,h];rfl,by rw[jm0];simp⟩,λm d f a=>?_,q⟩;rw[Ah]at a;obtain⟨x,c,rfl⟩:=Ih.mp a;rw[jm0];exact O3 (g m x f c)
theorem FunD.okC{x:Str}{st:Stmt}{f td:Addr}{N:List Str}{k:Nat}(F:FunD K x qual st f fd td)(S:FnScope N ps (jg st))(len:∀vs H Q E,sp vs H Q E->vs.length=ps.length)
  (a:∀(A:Around)(outer:List Env)(s:Shared)(H:Hp)(vs:List V)(Q:VK)(E:XK),Room k (A.deeper (envOfC qual (jg st) s.heap.objs.size f fd.code))->sp vs H Q E ->
   ∃t,PSs (cxOf CX0 P w K mg base N qual (jg st) f fd.code A outer s H E).nox (jx st) t/\t {nx:=λ_ H'=>Q .non H',rt:=Q} (start N vs) H):FnOk P w K mg base CX0 (k+1) f fd ps sp:=by
 obtain⟨m,l,kV,g,j,o,i,n,e,rfl,lk,c⟩:=F.ex
 refine jkb lk c S len λA outer s H vs Q E d b=>?_
 obtain⟨t,h,q⟩:=a A outer s H vs Q E d b
 exact⟨t,h.nox,q⟩
section
variable{X:Cx}
theorem jf6:∀{ns:List Int}{its:List Value},IntsAre its ns->Vals (ns.map V.int) its
 |_,_,.nil=>.nil
 |_,_,.cons x t r=>.cons ⟨t,rfl⟩ (jf6 r)
def jns:R2:=λx y H Q=>∃(a:Addr)(ys:List V)(ds:List PyData)(d:PyData),y=.ref a/\H a=some (.lst ys)/\Reps H ys ds/\Rep H x d/\PyData.canLayAll0 ds=true/\d.canLay0=true/\PyData.depthAll ds<=40/\Q (.bl (!ds.any λe=>PyData.eqv e d)) H
theorem op_notinL(hu:X.A.units+64<cLine):OpR X (compareOp .NotIn) jns:=by
 intro b s σ H x y v u Q I g f h;obtain⟨a,c,n,d,rfl,e,m,l,p,o,r,q⟩:=h;have k:Rep H (.ref a) (.list n):=by
  simp only[Rep];exact⟨a,c,rfl,e,m⟩
 obtain⟨w,j⟩:=l.reads I g;obtain⟨t,i⟩:=k.reads I f;exact SeqAt.notIn_list_reads i j p o (by omega) ⟨.bl _,H,I,rfl,q⟩
def lstD(k:List Int):PyData:=.list (k.map PyData.int)
theorem jip(a b:List Int):PyData.eqv (lstD a) (lstD b)=decide (a=b):=by
 unfold lstD;rw[PyData.eqv];exact jfr a b
theorem jku(k:List Int):(lstD k).canLay0=true:=by unfold lstD;rw[PyData.canLay0];exact jhh k
theorem jim:∀l:List (List Int),PyData.canLayAll0 (l.map lstD)=true
 |[]=>rfl
 |k::l=>by rw[Au,PyData.canLayAll0,jku,jim l];rfl
theorem jin:∀l:List (List Int),PyData.depthAll (l.map lstD)<=3
 |[]=>by simp[PyData.depthAll]
 |k::l=>by
  have:=jin l;rw[Au,PyData.depthAll];have:(lstD k).depth<=3:=by unfold lstD;rw[PyData.depth];have:=jhm k;omega
  omega
theorem jg7{k:List Int}(e:H b=some (.lst (k.map V.int))):Rep H (.ref b) (lstD k):=by
 unfold lstD;simp only[Rep];exact⟨b,_,rfl,e,Reps.ints _ k⟩
theorem jf2{H:Hp}{kf:Addr->List Int}:∀{bs:List Addr},(∀b∈bs,H b=some (.lst ((kf b).map V.int)))->Reps H (bs.map V.ref) (bs.map λb=>lstD (kf b))
 |[],_=>by simp[Reps]
 |b::bs,h=>by
  simp only[Au,Reps];exact⟨jg7 (h b (.head _)),jf2 λx a=>h x (.tail _ a)⟩
theorem jsm(ks:List (List Int))(k:List Int):((ks.map lstD).any λe=>PyData.eqv e (lstD k))=decide (k∈ks):=by
 induction ks with
 |nil=>simp
 |cons q l ih=>rw[Au,List.any_cons,ih,jip];simp[Bool.decide_or,eq_comm]
theorem joq{bs:List Addr}{k:List Int}{Q:VK}(e:H l=some (.lst (bs.map V.ref)))(hb:∀b∈bs,H b=some (.lst ((kf b).map V.int)))(eb:H b=some (.lst (k.map V.int)))(q:Q (.bl (!decide (k∈bs.map kf))) H):jns (.ref b) (.ref l) H Q:=by
 have a:(bs.map λb=>lstD (kf b))=(bs.map kf).map lstD:=by rw[Az];rfl
 refine⟨l,bs.map V.ref,(bs.map kf).map lstD,lstD k,rfl,e,by rw[<-a];exact jf2 hb,jg7 eb,jim _,jku k,Og (jin _) (by decide),?_⟩;rw[jsm];exact q
theorem joi{bs:List Addr}{k:List Int}{Q:VK}(e:H l=some (.lst (bs.map V.ref)))(hb:∀b∈bs,H b=some (.lst ((kf b).map V.int)))(eb:H b=some (.lst (k.map V.int)))(hk:k∈bs.map kf)(q:Q (.int ((bs.map kf).idxOf k:Nat)) H):jeg (.ref l) [.ref b] H Q:=by
 obtain⟨h,g⟩:=jft hk;have i:(bs.map λb=>lstD (kf b))=(bs.map kf).map lstD:=by rw[Az];rfl
 refine⟨bs.map V.ref,(bs.map kf).map lstD,lstD k,(bs.map kf).idxOf k,e,by rw[<-i];exact jf2 hb,jg7 eb,jim _,jku k,Og (jin _) (by decide),⟨lstD k,by rw[Ah,h];rfl,by rw[jip];simp⟩,λm d f a=>?_,q⟩;rw[Ah]at a;obtain⟨x,c,rfl⟩:=Ih.mp a;rw[jip];exact O3 (g m x f c)
end
section
variable{prog:Program}{w:World}{A:Around}{E:Value->Shared->Prop}{s:Shared}
theorem jrp{bs:List Addr}(A:Around)(c:jhc prog w h bs kf):Ord1 (model prog w) A {s with heap:=h} (tuples' true) (λx=>∃b∈bs,x=two (.ref b)) (λ_ _ _=>True) (λ_ _=>True):=by
 refine⟨λx y C e d q=>?_,λ_ _ _=>trivial,λ_ _ _=>trivial,λ_=>trivial,λ_ _ _ _ _=>trivial⟩;obtain⟨a,g,rfl⟩:=e;obtain⟨b,f,rfl⟩:=d;exact jt1 (s:={s with heap:=h}) (c a g).1 (c b f).1 λb=>q b trivial
theorem jqn{bs:List Addr}(h:vs.Perm (bs.map Value.ref)):∃bs':List Addr,bs'.Perm bs/\vs=bs'.map Value.ref:=by
 let f:Value->Addr:=λv=>match v with|.ref b=>b|_=>0
 refine⟨vs.map f,?_,?_⟩
 .have:=h.map f;rw[Az]at this;exact this.trans (by rw[show(f∘Value.ref)=id from rfl,Wi])
 .rw[Az];refine((Ib λv a=>?_).trans (Wi _)).symm;obtain⟨b,_,rfl⟩:=Am.mp (h.mem_iff.mp a);rfl
theorem jo3{D:Addr}{bs:List Addr}{P:PySem.Fin->Shared->Prop}(k:s.heap.get? D=some (seqObj "list" (bs.map Value.ref).toArray n))(g:jhc prog w s.heap bs kf)(hz:bs.length<=sizeLine)
  (h:∀(h':Heap)(bs':List Addr)(c:Nat),bs'.Perm bs->h'.get? D=some (seqObj "list" (bs'.map Value.ref).toArray c)->(∀b o,b≠D->s.heap.get? b=some o->h'.get? b=some o)->P (.done (.ret .none)) {s with heap:=h'}) :
  wpAny (model prog w) A (Builtin.«list.sort» ⟨[.ref D],[]⟩) P E s:=by
 have nD:∀b∈bs,b≠D:=λb a e=>by
  obtain⟨⟨o,j,n,l,f,_⟩,_⟩:=g b a;rw[e,k]at l
  cases l
  exact absurd f (by simp[seqObj])
 refine jia (κ:=tuples' true) (U:=λx=>∃b∈bs,x=two (.ref b)) (An:=λ_ _ _=>True) (Le:=λ_ _=>True) k (by rw[Ac];exact hz) (λv t=>?_) (λf r m=>?_) λh' y c u _ e p=>?_
 .obtain⟨b,a,rfl⟩:=Am.mp t
  exact⟨b,a,rfl⟩
 .have d:jhc prog w f bs kf:=λb a=>⟨jej (g b a).1 λo e=>r _ _ (nD b a) e,(g b a).2⟩
  exact⟨jrp A d,λC q=>jp9 (s:={s with heap:=f}) d (by simpa using m) q⟩
 .obtain⟨bs',i,rfl⟩:=jqn u
  exact h h' bs' c i e p
theorem jl4{a:Addr}{t:SetTable}{bd:Nat}{ks:List (List Int)}(x:TX prog w kf bd s.heap a (!w.params.followText "set-order") ks o es ep t L)(hh:A.handled=none)(Z:ks.length<=75)(ne:∀k∈ks,k≠[])
  (h:∀(D:Addr)(h':Heap)(tk:Nat)(bs:List Addr)(c:Nat),(∀b o,s.heap.get? b=some o->h'.get? b=some o)->s.heap.objs.size<=D->h'.get? D=some (seqObj "list" (bs.map Value.ref).toArray c)->(bs.map kf).Perm ks->(∀b∈bs,IsTK prog w s.heap (kf b) b/\b<bd)->Q (.ref D) {s with heap:=h',toks:=tk}) :
  wpAny (model prog w) A (call (.builtin "sorted") [.ref a]) Q E s:=by
 have r:=Uo
 obtain⟨O,l2⟩:=x.len
 have y:SR s.heap a o es ep t:=⟨x.at_,x.ex.1,x.dt,x.fits,x.ly.rp,x.pl,by omega⟩
 have N:t.place.size=es.size:=by rw[<-Array.length_toList,x.ly.pl,Ac,O]
 refine Calls.call_function_entry kind_sorted plain_sorted entry_sorted (args_sorted1 _) ?_
 unfold Builtin.«sorted»
 refine Ad (m:=checkCount "sorted" 1 1 _) (Aj (Ad (jq3 (A:=A.in1) y x.ld N hh λf tk j R C d=>?_)))
 obtain⟨bs,rfl,i⟩:∃bs:List Addr,j=bs.map Value.ref/\∀b∈bs,IsTK prog w s.heap (kf b) b/\b<bd:=by
  have J:∀v∈j,∃b,v=.ref b/\IsTK prog w s.heap (kf b) b/\b<bd:=λv S=>by
   obtain⟨e,H,rfl⟩:=Am.mp (d.mem_iff.mp S);rw[x.ly.el]at H;obtain⟨b,M,n,K⟩:=x.en e H;exact⟨b,by rw[M],n,K⟩
  clear d;induction j with
  |nil=>exact⟨[],rfl,by simp⟩
  |cons v j ih =>
   obtain⟨b,e,q⟩:=J v (.head _);obtain⟨bs,g,n⟩:=ih λu T=>J u (.tail _ T);exact⟨b::bs,by rw[e,g];rfl,λc U=>(At.mp U).elim (λz=>z▸q) (n c)⟩
 have p:(bs.map kf).Perm ks:=by
  refine List.Perm.trans ?_ x.ky;have X:bs.map kf=(bs.map Value.ref).map λv=>keyT kf (0,v):=by rw[Az];rfl
  have g:(L.map Prod.snd).map (keyT kf)=(es.toList.map (·.2)).map λv=>keyT kf (0,v):=by rw[x.ly.el,Az,Az,Az];rfl
  rw[X,g];exact d.map _
 have Y:bs.length=ks.length:=by rw[<-p.length_eq,Ac]
 refine Ad (wpAny_newList ?_ (by rw[Ac,Y,r];omega))
 have I:(f.push (seqObj "list" (bs.map Value.ref).toArray 0)).get? f.objs.size=some (seqObj "list" (bs.map Value.ref).toArray 0):=A4 _ rfl
 have F:∀b o,s.heap.get? b=some o->(f.push (seqObj "list" (bs.map Value.ref).toArray 0)).get? b=some o:=λb o e=>Ak _ (R b o e)
 refine Ad (O0 (Um slot_list_sort ⟨_,I,rfl⟩ entry_list_sort (jo3 (s:={s with heap:=f.push (seqObj "list" (bs.map Value.ref).toArray 0),toks:=tk}) (kf:=kf) I (λb l=>⟨jej (i b l).1 λo e=>F b o e,ne _ (p.mem_iff.mp (Am.mpr ⟨b,l,rfl⟩))⟩) (by omega) λW B c G g P=>⟨_,rfl,?_⟩) (args_list_sort _)))
 refine Aj ⟨_,rfl,h f.objs.size W tk B c (λb o e=>P b o (A2 (Ic (Ax e) C)) (F b o e)) C g ((G.map kf).trans p) λb l=>i b (G.mem_iff.mp l)⟩
def nOf(x:Keyed):Int:=match x.1 with|.int i _=>i|_=>0
theorem jro(A:Around):Ord1 (model prog w) A s oneType' (λx=>∃i t,x=two (.int i t)) (λx y b=>b=decide (nOf x<nOf y)) (λx y=>nOf x<=nOf y):=by
 refine⟨λx y C c a q=>?_,λx y h=>?_,λx y h=>?_,λ_=>Int.le_refl _,λ_ _ _ e d=>Int.le_trans e d⟩
 .obtain⟨i,t,rfl⟩:=c;obtain⟨j,u,rfl⟩:=a;rw[keyLt'_oneType];exact oneLt_int (q _ rfl)
 .have:nOf x<nOf y:=by simpa using h.symm
  omega
 .have:¬nOf x<nOf y:=by simpa using h.symm
  omega
end
section
variable{X:Cx}
theorem jlb:∀{its:List Value}{ns:List Int},IntsAre its ns->its.map (λv=>nOf (two v))=ns
 |_,_,.nil=>rfl
 |_,_,.cons x t r=>by rw[Au,jlb r];rfl
theorem jir:∀{its:List Value}{ns:List Int},IntsAre its ns->∀v∈its,∃i t,v=.int i t
 |_,_,.nil,v,h=>by cases h
 |_,_,.cons x t r,v,h=>(At.mp h).elim (λe=>⟨x,t,e⟩) (jir r v)
theorem jrg{M:Model}{A:Around}{E:Value->Shared->Prop}{C:SortKind->Shared->Prop}:∀{its:List Value}{ns:List Int},IntsAre its ns->2<=its.length->C oneType' s->wpAny M A (keyKind' its.toArray) C E s
 |_::_::_,_,hI,_,c=>by rw[keyKind_ints hI];exact Aj c
theorem jna:∀{vs:List Value},(∀v∈vs,∃i t,v=Value.int i t)->IntsAre vs (vs.map λv=>nOf (two v))
 |[],_=>.nil
 |v::vs,h=>by
  obtain⟨i,t,rfl⟩:=h v (.head _);exact .cons i t (jna λu a=>h u (.tail _ a))
def jqk:List V->Hp->VK->Prop:=λxs H Q=>∃(l:Addr)(ns:List Int),xs=[.ref l]/\H l=some (.lst (ns.map V.int))/\ns.length<=100000/\∀(p:Addr)(ns':List Int),H p=none->ns'.Perm ns->ns'.Pairwise (·<=·)->Q (.ref p) (upd H p (.lst (ns'.map V.int)))
theorem call_sortedIA:jcu X (.builtin "sorted") jqk:=by
 intro D s σ H S T Q I r h;obtain⟨l,ns,rfl,e,Y,q⟩:=h;obtain⟨u,rfl,F⟩:=jc9 r
 cases F
 obtain⟨a,z,J,W⟩:=I.list (SqL.of e);have j:=jhu z;have n:=z.length;rw[Ac]at n;have P:sizeLine=16777216:=Uo;refine Calls.call_function_entry kind_sorted plain_sorted entry_sorted (args_sorted1 _) ?_;unfold Builtin.«sorted»;refine Ad (m:=checkCount "sorted" 1 1 _) (Aj (Ad (collect_list J.isList ?_ (by omega))));refine Ad (wpAny_newList ?_ (by omega));have A:∀b o,s.heap.get? b=some o->((s.heap.push (seqObj "list" #[] 0)).update s.heap.objs.size (Obj.mapSeq (·++a.toArray))).get? b=some o:=λb o e=>(Ub _ _ (W3 (Ax e))).trans (Ak _ e);have g:s.heap.objs.size<=((s.heap.push (seqObj "list" #[] 0)).update s.heap.objs.size (Obj.mapSeq (·++a.toArray))).objs.size:=by rw[Heap.size_update,size_push'];omega
 generalize(s.heap.push (seqObj "list" #[] 0)).update s.heap.objs.size (Obj.mapSeq (·++a.toArray))=h1 at A g⊢;have B:(h1.push (seqObj "list" a.toArray 0)).get? h1.objs.size=some (seqObj "list" a.toArray 0):=A4 _ rfl;have M:∀b o,s.heap.get? b=some o->(h1.push (seqObj "list" a.toArray 0)).get? b=some o:=λb o e=>Ak _ (A b o e);refine Ad (O0 (Um slot_list_sort ⟨_,B,rfl⟩ entry_list_sort (jia (s:={s with heap:=h1.push (seqObj "list" a.toArray 0)}) (κ:=oneType') (U:=λx=>∃i t,x=two (.int i t)) (An:=λx y b=>b=decide (nOf x<nOf y)) (Le:=λx y=>nOf x<=nOf y) B (by omega) (λv f=>?_) (λN _ K=>⟨jro _,λC c=>?_⟩) λN d c k w O L=>⟨_,rfl,?_⟩) (args_list_sort _)))
 .obtain⟨i,t,rfl⟩:=jir j v f;exact⟨i,t,rfl⟩
 .exact jrg j K c
 .have f:∀v∈d,∃i t,v=Value.int i t:=λv f=>jir j v (k.mem_iff.mp f);have p:=jna f;have G:(d.map λv=>nOf (two v)).Perm ns:=by
   have:=k.map λv=>nOf (two v);rw[jlb j]at this;exact this
  have E:(d.map λv=>nOf (two v)).Pairwise (·<=·):=by
   rw[U7]at w⊢;exact w
  have R:=k.length_eq;refine Aj ⟨_,rfl,.ref h1.objs.size,upd H h1.objs.size (.lst ((d.map λv=>nOf (two v)).map V.int)),I.laid (t':=s.toks) (λb o e=>L b o (A2 (Ic (Ax e) g)) (M b o e)) g ⟨by rw[Ac,Ac];omega,d,c,jf6 p,O⟩,rfl,q _ _ (I.hok.fresh g) G E⟩
def jdx:List V->Hp->VK->Prop:=λvs H Q=>match vs with
 |[.ref l]=>∃(bs:List Addr)(kf:Addr->List Int),H l=some (.lst (bs.map V.ref))/\(∀b∈bs,H b=some (.tup ((kf b).map V.int))/\kf b≠[])/\bs.length<=75 /\
   ∀(p:Addr)(bs':List Addr),H p=none->(∀b∈bs',b∈bs)->(bs'.map kf).Nodup->(∀k,k∈bs'.map kf↔k∈bs.map kf)->Q (.ref p) (upd H p (.lst (bs'.map V.ref)))
 |_=>False
def je1(ta:TE):TE:=tCB jdx (je0 ta tNil)
theorem jez(l:Addr)(H:Hp)(Q:VK):jdx [.ref l] H Q=(∃(bs:List Addr)(kf:Addr->List Int),H l=some (.lst (bs.map V.ref))/\(∀b∈bs,H b=some (.tup ((kf b).map V.int))/\kf b≠[])/\bs.length<=75 /\
   ∀(p:Addr)(bs':List Addr),H p=none->(∀b∈bs',b∈bs)->(bs'.map kf).Nodup->(∀k,k∈bs'.map kf↔k∈bs.map kf)->Q (.ref p) (upd H p (.lst (bs'.map V.ref)))):=rfl
theorem qpe_sortedSetA{a:Expr}{ta:TE}{U p2 q1 q2:Pos}(hc:X.calm=true)(hu:X.A.units+64<cLine)(hg:Gl X "sorted")(hm:X.mg "sorted"=none)(hg2:Gl X "set")(hm2:X.mg "set"=none)(ha:QE X a ta)
  (hs:starEach [(.Call (.Name "set" p2) [a] [] q2)] X.env=[(false,eval (.Call (.Name "set" p2) [a] [] q2) X.env)]:=by rfl) (r:starEach [a] X.env=[(false,eval a X.env)]:=by rfl) :
  QE X (.Call (.Name "sorted" U) [.Call (.Name "set" p2) [a] [] q2] [] q1) (je1 ta):=⟨by
 intro g s σ H Q I h
 refine Uk (jdq I hg hm jbk (Yf ?_ hs rfl))
 rw[hs]
 refine show wpAny _ _ (spliced ((false,eval (.Call (.Name "set" p2) [a] [] q2) X.env)::[])) _ _ s from Yd ?_
 have Z:PA X [a] (je0 ta tNil):=jbh ha.h jby r
 refine Uk (jdq I hg2 hm2 jce (O5 (thn (Z q2 g s σ H (λC j=>jdx C j Q) I h) λus v ⟨C,j,B,S,q1⟩=>?_) r rfl))
 replace q1:jdx C j Q:=q1
 unfold jdx at q1
 split at q1
 .rename_i l
  obtain⟨bs,kf,e,z,J,q⟩:=q1
  obtain⟨u,rfl,P⟩:=jc9 S
  cases P
  have M:=B.ok.hd hc
  obtain⟨aa,R,T,hz⟩:=B.list (SqL.of e)
  have ei:=jjx R
  subst ei
  let kf':Addr->List Int:=λb=>if b∈bs then kf b else[]
  have i:∀b∈bs,kf' b=kf b:=λb z=>Al z
  have mk:bs.map kf'=bs.map kf:=Ib i
  refine jru (s:=v) (kf:=kf') M (by omega) T.isList (λb d=>by rw[i b d];exact jus B.hok (z b d).1) J λF E Y y=>Y9 ?_
  obtain⟨o,es,ep,t,L,x⟩:=Y
  have fl:=jm2 (bs.map kf')
  rw[Ac]at fl
  have K:∀k∈fmT (bs.map kf'),k≠[]:=λk y=>by
   rw[jm3,mk]at y;obtain⟨b,d,rfl⟩:=Am.mp y;exact(z b d).2
  have O:Inv X g σ j {v with heap:=F,toks:=E}:=B.kept λb o e=>y b o (Ax e) e
  refine jl4 (s:={v with heap:=F,toks:=E}) x M (by omega) K λD h2 G f c W N e2 w ac=>?_
  have p:∀b∈f,b∈bs:=λb d=>Iu λn=>K (kf' b) (w.mem_iff.mp (Am.mpr ⟨b,d,rfl⟩)) (Ai n)
  have m:f.map kf'=f.map kf:=Ib λb d=>i b (p b d)
  have bl:f.length<=75:=by have:=w.length_eq;rw[Ac]at this;omega
  have ab:sizeLine=16777216:=Uo
  have I3:Inv X g σ (upd j D (.lst (f.map V.ref))) { ({v with heap:=F,toks:=E}:Shared)with heap:=h2,toks:=G} :=
   O.laid (λb o e=>W b o e) N ⟨by rw[Ac];omega,f.map Value.ref,c,jn5 f,e2⟩
  refine⟨.ref D,_,I3,rfl,q D f (O.hok.fresh N) p ?_ λk=>?_⟩
  .rw[<-m]
   exact w.nodup_iff.mpr x.nd
  .rw[<-m,w.mem_iff,jm3,mk]
 .exact q1.elim⟩
end
end L2
namespace My
open PySem
def toS(l:List Nat):Str:=⟨l.toArray⟩
theorem jti(l:List Nat)(c:Nat):toS l++(⟨#[c]⟩:Str)=toS (l++[c]):=by
 show(⟨l.toArray++#[c]⟩:Str)=⟨(l++[c]).toArray⟩;simp
theorem jgg(l:List Nat):(toS l).length=l.length:=by simp[toS,Str.length]
end My
namespace My
open PySem L2 PyProof.Rows
def sg(z:Str):List Nat:=z.cps.toList
theorem jt5(x y:Str):sg (x++y)=sg x++sg y:=by simp[sg,Str.cps_append]
theorem jr8:∀l:List Str,sg (Str.join ⟨#[]⟩ l)=(l.map sg).flatten
 |[]=>rfl
 |x::l=>by rw[join_nil_cons,jt5,jr8 l];rfl
theorem jug(l:List Str):sg (Txt.join (Str.ofString "") l)=(l.map sg).flatten:=by
 have a:(Str.ofString "")=(⟨#[]⟩:Str):=by decide +kernel
 have e:=eq_of_beq (join_plain_closes ⟨#[]⟩ l);rw[a,e,jr8]
end My
namespace My
structure Mc where
 n:Nat
 m:Nat
 d:Nat->Nat->Nat
 y:Nat->Bool
structure Mc.ok(M:Mc):Prop where
 lt:∀r a,r<M.n->a<M.m->M.d r a<M.n
def Mc.led(M:Mc)(r:Nat)(w:List Nat):Nat:=w.foldl M.d r
def Mc.ws(M:Mc)(w:List Nat):Prop:=∀a∈w,a<M.m
def Mc.eq(M:Mc)(r s:Nat):Prop:=∀w,M.ws w->M.y (M.led r w)=M.y (M.led s w)
theorem Mc.led_lt{M:Mc}(h:M.ok):∀{w:List Nat}{r:Nat},r<M.n->M.ws w->M.led r w<M.n
 |[],r,hr,_=>hr
 |a::w,r,hr,hw=>Mc.led_lt h (w:=w) (h.lt r a hr (hw a (.head _))) λb c=>hw b (.tail _ c)
variable{M:Mc}{r s:Nat}
theorem Mc.eq_step{a:Nat}(h:M.eq r s)(ha:a<M.m):M.eq (M.d r a) (M.d s a):=λw e=>h (a::w) λb c=>by
 rcases At.mp c with rfl|c
 .exact ha
 .exact e b c
theorem Mc.eq_y(h:M.eq r s):M.y r=M.y s:=h [] (by simp[Mc.ws])
def jto(M:Mc)(G:Nat->Nat)(due:List (Nat×Nat)):Prop :=
 ∀E:Nat->Nat->Prop,(∀r s,E r s->r<M.n/\s<M.n/\G r=G s)->(∀i a,(i,a)∈due->∀r s,E r s->(G (M.d r a)=i↔G (M.d s a)=i))->∀a,a<M.m->∀r s,E r s->G (M.d r a)=G (M.d s a)
structure Pt(M:Mc)(G:Nat->Nat)(p:Nat)(due:List (Nat×Nat)):Prop where
 lt:∀r,r<M.n->G r<p
 co:∀r s,r<M.n->s<M.n->M.eq r s->G r=G s
 ye:∀r s,r<M.n->s<M.n->G r=G s->M.y r=M.y s
 du:∀i a,(i,a)∈due->i<p/\a<M.m
 en:jto M G due
variable{G:Nat->Nat}{p:Nat}
theorem Pt.step(ok:M.ok){f:Nat->Nat}{p':Nat}{due due':List (Nat×Nat)}{i a:Nat}{par:Nat->Nat}(h:Pt M G p (due++[(i,a)]))(pp:p<=p')(v:∀r,r<M.n->f r<p')(l:∀r,r<M.n->par (f r)=G r)(I:∀k,k<p->par k=k)
  (sp:∀r s,r<M.n->s<M.n->f r=f s->(G (M.d r a)=i↔G (M.d s a)=i)) (sm:∀r s,r<M.n->s<M.n->G r=G s->(G (M.d r a)=i↔G (M.d s a)=i)->f r=f s)
  (Y:∀q∈due,q∈due') (T:∀k b,p<=k->k<p'->b<M.m->(k,b)∈due') (d3:∀k b,(k,b)∈due'->k<p'/\b<M.m):Pt M f p' due':=by
 have R:a<M.m:=(h.du i a (by simp)).2
 refine⟨v,λr s z y e=>?_,λr s z y e=>h.ye r s z y (by rw[<-l r z,<-l s y,e]),d3,?_⟩
 .refine sm r s z y (h.co r s z y e) ?_
  rw[h.co _ _ (ok.lt r a z R) (ok.lt s a y R) (Mc.eq_step e R)]
 .intro E S J b C r s x
  have U:=h.en E (λr s e=>by
   obtain⟨u,t,K⟩:=S r s e;exact⟨u,t,by rw[<-l r u,<-l s t,K]⟩) (λj c P r s e=>by
   obtain⟨u,t,K⟩:=S r s e;rcases Ar.mp P with w|w
   .have Q:=(h.du j c P).2;have X:=(h.du j c P).1;have B:=ok.lt r c u Q;have A:=ok.lt s c t Q;have F:=J j c (Y _ w) r s e;have H:∀k,p<=k->k<p'->(f (M.d r c)=k↔f (M.d s c)=k):=λk O N=>J k c (T k c O N Q) r s e;have D:∀r s,r<M.n->s<M.n->M.d r c<M.n->M.d s c<M.n->(f (M.d r c)=j↔f (M.d s c)=j)->(∀k,p<=k->k<p'->(f (M.d r c)=k↔f (M.d s c)=k))->G (M.d r c)=j->G (M.d s c)=j:=λr s _ _ L W o n g=>by
     by_cases c1:f (M.d r c)<p
     .have:f (M.d r c)=j:=by rw[<-I _ c1,l _ L,g]
      rw[<-l _ W,o.mp this,I j X]
     .have:=(n (f (M.d r c)) (by omega) (v _ L)).mp rfl;rw[<-l _ W,this,l _ L,g]
    exact⟨D r s u t B A F H,D s r t u A B F.symm λk O N=>(H k O N).symm⟩
   .simp at w;obtain⟨rfl,rfl⟩:=w;exact sp r s u t K) b C r s x
  obtain⟨u,t,K⟩:=S r s x
  have B:=ok.lt r b u C
  have A:=ok.lt s b t C
  by_cases c1:f (M.d r b)<p
  .by_cases c2:f (M.d s b)<p
   .rw[<-I _ c1,<-I _ c2,l _ B,l _ A,U]
   .have:=(J _ b (T (f (M.d s b)) b (by omega) (v _ A) C) r s x).mpr rfl
    exact this
  .exact((J _ b (T (f (M.d r b)) b (by omega) (v _ B) C) r s x).mp rfl).symm
theorem Pt.done(ok:M.ok)(h:Pt M G p [])(hr:r<M.n)(hs:s<M.n):G r=G s↔M.eq r s:=by
 refine⟨λe w d=>?_,h.co r s hr hs⟩;have f:=h.en (λr s=>r<M.n/\s<M.n/\G r=G s) (λr s h=>h) (by simp);induction w generalizing r s with
 |nil=>exact h.ye r s hr hs e
 |cons a w ih =>
  have c:=d a (.head _);exact ih (ok.lt r a hr c) (ok.lt s a hs c) (f a c r s ⟨hr,hs,e⟩) λb g=>d b (.tail _ g)
theorem Pt.first{due:List (Nat×Nat)}(lt:∀r,r<M.n->G r<p)(ye:∀r s,r<M.n->s<M.n->(G r=G s↔M.y r=M.y s))(all:∀i a,i<p->a<M.m->(i,a)∈due)(du:∀i a,(i,a)∈due->i<p/\a<M.m)(ok:M.ok):Pt M G p due:=by
 refine⟨lt,λr s c b e=>(ye r s c b).mpr (Mc.eq_y e),λr s c b e=>(ye r s c b).mp e,du,λE g f a d r s e=>?_⟩;obtain⟨h,j,_⟩:=g r s e;exact((f _ a (all _ a (lt _ (ok.lt r a h d)) d) r s e).mp rfl).symm
end My
namespace My
structure CI(M:Mc)(G0:Nat->Nat)(p0 i a:Nat)(rest:List Nat)(G:Nat->Nat)(p:Nat):Prop where
 pp:p0<=p
 lt:∀r,r<M.n->G r<p
 par:∃par:Nat->Nat,(∀r,r<M.n->par (G r)=G0 r)/\∀k,k<p0->par k=k
 un:∀r,r<M.n->G0 r∈rest->G r=G0 r
 sp:∀r s,r<M.n->s<M.n->G0 r=G0 s->G0 r∉rest->(G r=G s↔(G0 (M.d r a)=i↔G0 (M.d s a)=i))
variable{G0:Nat->Nat}{M:Mc}{a i p0:Nat}
theorem CI.init{c:List Nat}(lt:∀r,r<M.n->G0 r<p0)(b:∀r,r<M.n->G0 r∉c->G0 (M.d r a)≠i):CI M G0 p0 i a c G0 p0 :=
 ⟨Ao _,lt,⟨id,λ_ _=>rfl,λ_ _=>rfl⟩,λ_ _ _=>rfl,λr s g f e n=>⟨λ_=>⟨λh=>absurd h (b r g n),λh=>absurd h (b s f (e▸n))⟩,λ_=>e⟩⟩
variable{G:Nat->Nat}{p:Nat}
theorem CI.same{g:Nat}{rest:List Nat}(h:CI M G0 p0 i a (g::rest) G p)(all:∀r,r<M.n->G0 r=g->G0 (M.d r a)=i):CI M G0 p0 i a rest G p:=by
 refine⟨h.pp,h.lt,h.par,λr b m=>h.un r b (.tail _ m),λr s b f e n=>?_⟩;by_cases c:G0 r=g
 .have k:=h.un r b (c▸.head _);have j:=h.un s f (by rw[<-e,c];exact .head _);exact⟨λ_=>⟨λ_=>all s f (by rw[<-e];exact c),λ_=>all r b c⟩,λ_=>by rw[k,j,e]⟩
 .exact h.sp r s b f e (λz=>(At.mp z).elim c n)
theorem CI.cut{t:Nat->Nat}{g:Nat}{rest sh:List Nat}(h:CI M G0 p0 i a (g::rest) G p)(D:g∉rest)(L:g<p0)(sub:∀r∈sh,r<M.n/\G0 r=g)(A:(∀r,r<M.n->G0 r=g->(r∈sh↔G0 (M.d r a)=i))\/∀r,r<M.n->G0 r=g->(r∈sh↔¬G0 (M.d r a)=i))
  (q:∀r,r<M.n->t r=if r∈sh then p else G r):CI M G0 p0 i a rest t (p+1):=by
 have I:=h.pp
 refine⟨by omega,λr b=>?_,?_,λr b m=>?_,λr s b o e n=>?_⟩
 .rw[q r b];have:=h.lt r b;split <;> omega
 .obtain⟨l,H,F⟩:=h.par
  refine⟨λk=>if k=p then g else l k,λr b=>?_,λk E=>by show(if k=p then g else l k)=k;rw[Ai (by omega)];exact F k E⟩
  show(if t r=p then g else l (t r))=G0 r
  have:=h.lt r b
  rw[q r b]
  by_cases c:r∈sh
  .rw[Al c,Al rfl];exact(sub r c).2.symm
  .rw[Ai c,Ai (by omega)];exact H r b
 .have c:r∉sh:=λc=>D ((sub r c).2▸m)
  rw[q r b,Ai c];exact h.un r b (.tail _ m)
 .rw[q r b,q s o]
  have K:=h.lt r b
  have J:=h.lt s o
  by_cases c:G0 r=g
  .have u:G0 s=g:=by rw[<-e];exact c
   have C:=h.un r b (c▸.head _)
   have B:=h.un s o (u▸.head _)
   have v:((if r∈sh then p else G r)=if s∈sh then p else G s)↔(r∈sh↔s∈sh):=by
    by_cases j:r∈sh <;> by_cases f:s∈sh
    .simp[j,f]
    .rw[Al j,Ai f];exact⟨λz=>by omega,λz=>absurd (z.mp j) f⟩
    .rw[Ai j,Al f];exact⟨λz=>by omega,λz=>absurd (z.mpr f) j⟩
    .rw[Ai j,Ai f,C,B];exact⟨λ_=>⟨λz=>absurd z j,λz=>absurd z f⟩,λ_=>e⟩
   rw[v]
   rcases A with w|w
   .rw[w r b c,w s o u]
   .rw[w r b c,w s o u]
    exact⟨λz=>⟨λx=>Iu λy=>(z.mpr y) x,λx=>Iu λy=>(z.mp y) x⟩,λz=>⟨λx y=>x (z.mpr y),λx y=>x (z.mp y)⟩⟩
  .have j:r∉sh:=λm=>c (sub r m).2
   have f:s∉sh:=λm=>c (by rw[e];exact(sub s m).2)
   rw[Ai j,Ai f]
   exact h.sp r s b o e (λz=>(At.mp z).elim c n)
theorem Pt.task(ok:M.ok){due due':List (Nat×Nat)}(h:Pt M G0 p0 (due++[(i,a)]))(c:CI M G0 p0 i a [] G p)(o:∀q∈due,q∈due')(n:∀k b,p0<=k->k<p->b<M.m->(k,b)∈due')(d3:∀k b,(k,b)∈due'->k<p/\b<M.m):Pt M G p due':=by
 obtain⟨t,g,j⟩:=c.par;refine h.step ok c.pp c.lt g j (λr s f d e=>?_) (λr s f d e q=>(c.sp r s f d e (by simp)).mpr q) o n d3;have l:G0 r=G0 s:=by rw[<-g r f,<-g s d,e]
 exact(c.sp r s f d l (by simp)).mp e
end My
namespace My
def RGr(f:List Nat):Prop:=∀i k:Nat,f[i]?=some k->∀j,j<k->∃i',i'<i/\f[i']?=some j
theorem RGr.one{f g:List Nat}(hf:RGr f)(hg:RGr g)(hl:f.length=g.length)(p:∀i j:Nat,i<f.length->j<f.length->(f[i]?=f[j]?↔g[i]?=g[j]?)):f=g:=by
 have n:∀i,i<f.length->f[i]?=g[i]?:=λi=>by
  induction i using Nat.strongRecOn with
  |ind i ih =>
   intro m;have k:f[i]?=some f[i]:=Aa m;have h:g[i]?=some (g[i]'(by omega)):=Aa (by omega);by_cases c:∃j,j<i/\f[j]?=f[i]?
   .obtain⟨j,d,e⟩:=c;have:=(p j i (by omega) m).mp e;rw[<-e,<-this];exact ih j d (by omega)
   .have o:∀j,j<i->f[j]?≠f[i]?:=λj l e=>c ⟨j,l,e⟩;have q:∀j,j<i->g[j]?≠g[i]?:=λj l e=>o j l ((p j i (by omega) m).mpr e);generalize f[i]=a at k;generalize g[i]'(by omega)=b at h;by_cases h1:a<b
    .obtain⟨j,d,e⟩:=hg i b h a h1;exact absurd (by rw[ih j d (by omega),e,k]) (o j d)
    .by_cases h2:b<a
     .obtain⟨j,d,e⟩:=hf i a k b h2;exact absurd (by rw[<-ih j d (by omega),e,h]) (q j d)
     .rw[k,h,show a=b by omega]
 refine Wr λi=>?_;by_cases c:i<f.length
 .exact n i c
 .rw[Oh (by omega),Oh (by omega)]
def dd1(l:List Nat)(x:Nat):List Nat:=if x∈l then l else l++[x]
def ddp(l:List Nat):List Nat:=l.foldl dd1 []
theorem jd6(l:List Nat)(x:Nat):ddp (l++[x])=dd1 (ddp l) x:=by unfold ddp;rw[Uz];rfl
theorem jpj(x:Nat):∀(l a:List Nat),x∈l.foldl dd1 a↔x∈a\/x∈l
 |[],a=>by simp
 |y::l,a=>by
  rw[List.foldl_cons,jpj x l,At];unfold dd1;by_cases h:y∈a
  .rw[Al h];exact⟨λq=>q.elim .inl λz=>.inr (.inr z),λq=>q.elim .inl λz=>z.elim (λe=>.inl (e▸h)) .inr⟩
  .rw[Ai h,Ar,Ag];exact⟨λq=>q.elim (λz=>z.elim .inl λe=>.inr (.inl e)) λz=>.inr (.inr z),λq=>q.elim (λz=>.inl (.inl z)) λz=>z.elim (λe=>.inl (.inr e)) .inr⟩
theorem jdb(l:List Nat)(x:Nat):x∈ddp l↔x∈l:=by
 have:=jpj x l [];simpa[ddp]using this
theorem jpk:∀(l a:List Nat),∃t,l.foldl dd1 a=a++t
 |[],a=>⟨[],by simp⟩
 |y::l,a=>by
  obtain⟨t,e⟩:=jpk l (dd1 a y);rw[List.foldl_cons,e];unfold dd1;split
  .exact⟨t,rfl⟩
  .exact⟨y::t,by simp⟩
theorem jmu(l m:List Nat):∃t,ddp (l++m)=ddp l++t:=by
 unfold ddp;rw[Uz];exact jpk m _
theorem jr5:∀(l a:List Nat),a.Nodup->(l.foldl dd1 a).Nodup
 |[],a,h=>h
 |y::l,a,h=>by
  rw[List.foldl_cons];refine jr5 l _ ?_;unfold dd1;split
  .exact h
  .rename_i n;rw[O1];exact⟨h,by simp,λu c v b e=>n ((e.trans (Ag.mp b))▸c)⟩
theorem je5(l:List Nat):(ddp l).Nodup:=jr5 l [] .nil
theorem jpl(f:List Nat):RGr (f.map λx=>(ddp f).idxOf x):=by
 intro i k q j w;rw[Ah]at q;obtain⟨x,p,e⟩:=Ih.mp q;have y:=(Ab.mp p).1;have g:f.take (i+1)=f.take i++[x]:=by rw[Oe,p];rfl
 obtain⟨t,d⟩:=jmu (f.take (i+1)) (f.drop (i+1));rw[Oq]at d;have h:x∈ddp (f.take (i+1)):=(jdb _ _).mpr (by rw[g];simp);have m:(ddp f).idxOf x=(ddp (f.take (i+1))).idxOf x:=by rw[d,U9,Al h]
 have u:k<(ddp (f.take (i+1))).length:=by rw[<-e,m];exact A7.mpr h
 have l:j<(ddp f).length:=by rw[d,Aq];omega
 have r:(ddp f)[j]?=(ddp (f.take (i+1)))[j]?:=by rw[d,A8 (by omega)]
 have s:(ddp f)[j]∈ddp (f.take i):=by
  rw[Aa l]at r;have b:=r.symm;rw[g,jd6]at b;unfold dd1 at b;split at b
  .exact Ap b
  .rename_i n;have v:k=(ddp (f.take i)).length:=by
    rw[<-e,m,g,jd6];unfold dd1;rw[Ai n,U9,Ai n];simp
   rw[A8 (by omega)]at b;exact Ap b
 obtain⟨o,a⟩:=Il ((jdb _ _).mp s);have c:o<i:=by have:=(Ab.mp a).1;rw[I0]at this;omega
 refine⟨o,c,?_⟩;rw[Ow c]at a;rw[Ah,a];show some ((ddp f).idxOf (ddp f)[j])=some j;rw[(je5 f).idxOf_getElem j l]
end My
namespace My
open PySem L2
local macro_rules
 | `(tactic| simp!)=>`(tactic| simp only [tSeq,tIfS,jkr,tOp,tVar,tC,tAsg,jc8,gSub,tRet,jkp,jko,tAnd,tOr,tNot,jkk,tB,jkm,rI0,rI,jfx,jjm,jju,jjv,jlr,jls,jlq,jco,jjr,jjq,jjs,jjp,jlp,jh2,jh1,jjw,jd4,jer,jg2,jnp,jln,jg3,jg5,jnr,jlt,jg6,jnq,jfz,jnb,jjj,jj7,jj0,jj1,Option.isSome_some,tBML,jkl,tCB,je0,tNil,tLst,tTup,jkq,iAny,jkc,jkd,jhs,jla,jjt,jih,jgd,jki,jn2,jgc,jeh,jdw,tTru,jfm,jnu,jlv,jh3,tBMS,jnc,jlo,tBM0,tBM,jn4,jgo,jjn,jjo,Option.bind_some,Option.bind_none,Option.getD_some,L2.start,Au,U3,List.length_cons,List.length_nil,List.cons_append,List.nil_append,O8,List.cons.injEq,List.replicate,List.getElem?_cons_zero,List.getElem?_cons_succ,List.set_cons_zero,List.set_cons_succ,Nat.reduceSub,Nat.reduceAdd,Nat.reduceLeDiff,Aae,V.int.injEq,V.bl.injEq,V.str.injEq,V.ref.injEq,HO.lst.injEq,HO.tup.injEq,exists_eq_left',exists_eq_left,exists_and_left,true_and,and_true,jb,jfb,jew,jfd,jr3,Wq,Y8,Oj,Ir,O4,Wp,reduceIte,reduceCtorEq,jie,tLam,jge,jeu,jig,jif,jkn,jge,jeu,jks,iDK,tBMD,tTru,jfm,ji1,je1,jez,jg9,jfy])
 | `(tactic| simp! [$ls,*])=>`(tactic| simp only [tSeq,tIfS,jkr,tOp,tVar,tC,tAsg,jc8,gSub,tRet,jkp,jko,tAnd,tOr,tNot,jkk,tB,jkm,rI0,rI,jfx,jjm,jju,jjv,jlr,jls,jlq,jco,jjr,jjq,jjs,jjp,jlp,jh2,jh1,jjw,jd4,jer,jg2,jnp,jln,jg3,jg5,jnr,jlt,jg6,jnq,jfz,jnb,jjj,jj7,jj0,jj1,Option.isSome_some,tBML,jkl,tCB,je0,tNil,tLst,tTup,jkq,iAny,jkc,jkd,jhs,jla,jjt,jih,jgd,jki,jn2,jgc,jeh,jdw,tTru,jfm,jnu,jlv,jh3,tBMS,jnc,jlo,tBM0,tBM,jn4,jgo,jjn,jjo,Option.bind_some,Option.bind_none,Option.getD_some,L2.start,Au,U3,List.length_cons,List.length_nil,List.cons_append,List.nil_append,O8,List.cons.injEq,List.replicate,List.getElem?_cons_zero,List.getElem?_cons_succ,List.set_cons_zero,List.set_cons_succ,Nat.reduceSub,Nat.reduceAdd,Nat.reduceLeDiff,Aae,V.int.injEq,V.bl.injEq,V.str.injEq,V.ref.injEq,HO.lst.injEq,HO.tup.injEq,exists_eq_left',exists_eq_left,exists_and_left,true_and,and_true,jb,jfb,jew,jfd,jr3,Wq,Y8,Oj,Ir,O4,Wp,reduceIte,reduceCtorEq,jie,tLam,jge,jeu,jig,jif,jkn,jge,jeu,jks,iDK,tBMD,tTru,jfm,ji1,je1,jez,jg9,jfy,$ls,*])
def top(i:Nat):Stmt:=PySem.Challenge.pw_calmword_k16_about.main.body.getD i (.Pass ⟨0,0,0,0⟩)
def BoxO(o:HO):Prop:=∃c s,o=.lst [.int c,.int s]/\1<=s/\s<=2147483629
def jic:Sp:=λvs H Q _=>∃b w o,vs=[.ref b,.int w]/\H b=some o/\BoxO o/\0<w/\w<1073741824/\∀d o,0<=d->d<w->BoxO o->Q (.int d) (upd H b o)
def jsg(K:PySem.W.Frag):Sp:=λvs H Q _=>∃(a:Addr)(k:Int)(ns:List Int),vs=[.ref a,.int k]/\SqL K H a (ns.map V.int)/\0<=k/\k<=1000/\∀b o,H b=none->BoxO o->Q (.ref b) (upd H b o)
variable{f:Addr}{fd:FuncData}
section
variable{P:Program}{w:World}{K:PySem.W.Frag}{mg:Str->Option Value}{base:Heap}
abbrev y6:Stmt:=top 18
theorem jam:FnScope ["_law_box_here","_law_wide","_law_digit","_law_one"] ["_law_box_here","_law_wide"] (jg y6):=⟨rfl,rfl,rfl,by decide +kernel,rfl,by decide +kernel,by decide +kernel⟩
theorem ok__law_take(F:Fun K "_law_take" "_law_take" y6 f fd):FnOk P w K mg base CX0 1 f fd ["_law_box_here","_law_wide"] jic:=by
 refine F.ok jam (λn H Q E h=>?_) (λr A g s H n Q E v h=>?_)
 .obtain⟨b,w,o,rfl,_⟩:=h;rfl
 .obtain⟨b,w,o,rfl,e,⟨c,j,rfl,q,p⟩,a,l,k⟩:=h;refine⟨_,(QSs.h (jf (ym (j8 jcb (jr ix_U (qpv 0) jh (λ_ _=>rfl)) jh (yd _)) (jf (jo (i:=2) jam.nd rfl (by ac_rfl) (j4 z7 (jr ix_U (qpv 0) jh (λ_ _=>rfl)) (qpv 1)))
  (jf (ja3 (j4 jb6 (jr ix_U (qpv 0) jh (λ_ _=>rfl)) (qpv 1)) (jbj (qpv 0) jh joy))
  (jj (ka (qpv 2))))) ya)
  (jf (jo (i:=3) jam.nd rfl (by ac_rfl) (j4 z7 (j4 zr (jr ix_U (qpv 0) jh (λ_ _=>rfl)) jh) jh))
  (jf (ja3 (j4 yw (j4 z7 (j4 yw (j4 zr (qpv 3) jh) jh) jh) jh) (jbj (qpv 0) jh joy))
  (jj (ka (j4 z7 (j4 jb6 (j4 yw (j4 zr (qpv 3) jh) (jr ix_U (qpv 0) jh (λ_ _=>rfl))) jh) (qpv 1)))))))),?_⟩
  have d:∀z m:Int,0<m->0<=z%m/\z%m<m:=λz m h=>⟨Aav z (by omega),Yz z h⟩;simp! [e];refine ite2 (λx=>?_) (λ_=>?_)
  .refine⟨a,⟨a,l⟩,0,rfl,?_⟩;simp! [e];exact k _ _ (d c w a).1 (d c w a).2 ⟨_,_,rfl,q,p⟩
  .have u:=d (j*69623) 2147483647 (by decide);refine⟨.inl ⟨by omega,by omega⟩,by decide,.inl ⟨by omega,by omega⟩,by decide,1,rfl,?_⟩;simp! [e];have t:=d (j*69623%2147483647*48271+30103) 2147483629 (by decide);refine⟨.inl ⟨by omega,by omega⟩,⟨by decide,by decide⟩,a,?_⟩;exact k _ _ (d _ w a).1 (d _ w a).2 ⟨_,_,rfl,by omega,by omega⟩
structure TBox(mg:Str->Option Value):Prop where
 n_len:mg "len"=none
 n_int:mg "int"=none
abbrev zk:Stmt:=top 17
theorem z4:FnScope ["_law_script","_law_k","_law_cell","_law_seed"] ["_law_script","_law_k"] (jg zk):=⟨rfl,rfl,rfl,by decide +kernel,rfl,by decide +kernel,by decide +kernel⟩
theorem ok__law_box(F:Fun K "_law_box" "_law_box" zk f fd)(T:TBox mg):FnOk P w K mg base CX0 1 f fd ["_law_script","_law_k"] (jsg K):=by
 refine F.ok z4 (λl H Q E h=>?_) (λu A j s H l Q E C h=>?_)
 .obtain⟨a,k,c,rfl,_⟩:=h;rfl
 .obtain⟨a,k,c,rfl,d,o,B,n⟩:=h;refine⟨_,(QSs.h (jf (jo (i:=2) z4.nd rfl (by ac_rfl) (j4 yw (j4 zr jh (qpv 1)) jh))
  (jf (ym (j8 jao (qpv 1) (jt zj (by rfl) T.n_len j3 (ja (qpv 0) jc)) (yd _)) (jj (jo (i:=2) z4.nd rfl (by ac_rfl) (jr jbg (qpv 0) (qpv 1) (λ_ _=>rfl)))) (jj (ym (j8 jcb (jt zj (by rfl) T.n_len j3 (ja (qpv 0) jc)) jh (yd _)) (jj (jo (i:=2) z4.nd rfl (by ac_rfl) (j4 yw (qpv 2) (j4 zr (j4 z7 (jr jbg (qpv 0) (j4 z7 (qpv 1) (jt zj (by rfl) T.n_len j3 (ja (qpv 0) jc))) (λ_ _=>rfl)) jh) jh)))) ya)))
  (jf (jo (i:=3) z4.nd rfl (by ac_rfl) (j4 yw (j4 z7 (j4 yw (j4 zr (j4 z7 (qpv 2) jh) jh) (j4 zr jh (qpv 1))) jh) jh))
  (jj (ka (kx (ja (j4 zr (qpv 2) (ju jbm (by rfl) T.n_int jcc (ja (jal op_ge (qpv 2) (j4 op_pow jh jh) (yd _)) jc))) (ja (qpv 3) jc))))))))),?_⟩
  have e:∀z m:Int,0<m->0<=z%m/\z%m<m:=λz m h=>⟨Aav z (by omega),Yz z h⟩;have tail:∀b:Int,(0:Int)<2147483629/\CMul (b%2147483629) 48271/\CMul 40692 k/\(0:Int)<2147483629/\CPow 10 18/\CMul b (if(10:Int)^(18:Int).toNat<=b then 1 else 0)/\2<=sizeLine /\
    ∀p,H p=none->Q (.ref p) (upd H p (.lst [.int (b*(if(10:Int)^(18:Int).toNat<=b then 1 else 0)),.int ((b%2147483629*48271+40692*k)%2147483629+1)])):=by
   intro b
   have y:=e b 2147483629 (by decide)
   have x:=e (b%2147483629*48271+40692*k) 2147483629 (by decide)
   refine⟨by decide,.inl ⟨by omega,by omega⟩,.inl ⟨by decide,by decide⟩,by decide,⟨by decide,by decide,by decide⟩,.inr ?_,by decide,λp r=>n p _ r ⟨_,_,rfl,by omega,by omega⟩⟩
   split <;> constructor <;> decide
  simp!;refine⟨.inl ⟨by decide,by decide⟩,c.map V.int,.inl d,?_⟩;rw[Ac];refine ite2 (λh=>?_) (λh=>?_)
  .obtain⟨z,g⟩:∃z,c[k.toNat]?=some z:=⟨c[k.toNat]'(by omega),by simp⟩;refine⟨a,_,k,.int z,rfl,rfl,d,jhd o (by rw[Ah,g];rfl),?_⟩;simp!;exact tail z
  .refine⟨c.map V.int,.inl d,?_⟩;rw[Ac];refine ite2 (λt=>?_) (λt=>?_)
   .refine⟨c.map V.int,.inl d,?_⟩;rw[Ac];have q:=e k (c.length:Int) (by omega);obtain⟨z,g⟩:∃z,c[(k%(c.length:Int)).toNat]?=some z:=⟨c[(k%(c.length:Int)).toNat]'(by omega),by simp⟩;refine⟨by omega,a,_,_,.int z,rfl,rfl,d,jhd q.1 (by rw[Ah,g];rfl),?_⟩;simp!;have v:=e z 2147483629 (by decide);refine⟨by decide,.inl ⟨by omega,by omega⟩,?_⟩;exact tail _
   .exact tail _
end
structure Letters(z:Str)(m:Nat):Prop where
 lo:1<=z.length
 hi:z.length<=m
 az:∀c∈z.cps.toList,97<=c/\c<=122
 nd:z.cps.toList.Nodup
def chV(c:Nat):V:=.str ⟨#[c]⟩
def jj4:Sp:=λvs H Q _=>∃(b:Addr)(m:Nat)(o:HO),vs=[.ref b,.int (m:Int)]/\H b=some o/\BoxO o/\1<=m/\m<=4/\∀z o' H',Letters z m->BoxO o'->H' b=some o'->Kp [b] H H'->Q (.str z) H'
theorem jho{α:Type}:∀(l:List α)(i:Nat)(x:α),l[i]?=some x->(x::l.eraseIdx i).Perm l
 |[],i,x,h=>by simp at h
 |a::l,0,x,h=>by simp at h;subst h;exact Wf _
 |a::l,i+1,x,h=>by
  rw[List.eraseIdx_cons_succ];exact(List.Perm.swap _ _ _).trans ((jho l i x (by simpa using h)).cons a)
theorem jjk{α β:Type}(f:α->β):∀(l:List α)(i:Nat),(l.map f).eraseIdx i=(l.eraseIdx i).map f
 |[],_=>rfl
 |_::_,0=>rfl
 |a::l,i+1=>by rw[Au,List.eraseIdx_cons_succ,List.eraseIdx_cons_succ,Au,jjk f l i]
theorem jsk:sgn (Str.ofString "abcdefghijklmnopqrstuvwxyz")=((List.range 26).map (97+·)).map chV:=by decide +kernel
structure TLetters(mg:Str->Option Value)(ft:Addr):Prop where
 n_len:mg "len"=none
 n_list:mg "list"=none
 n_range:mg "range"=none
 m0z:mg "_law_take"=some (.ref ft)
variable{fdt:FuncData}{ft:Addr}
section
variable{P:Program}{w:World}{K:PySem.W.Frag}{mg:Str->Option Value}{base:Heap}
abbrev yx:Stmt:=top 19
theorem zf:FnScope ["_law_box_here","_law_most","_law_pool","_law_found","_law_k"] ["_law_box_here","_law_most"] (jg yx):=⟨rfl,rfl,rfl,by decide +kernel,rfl,by decide +kernel,by decide +kernel⟩
theorem ok__law_letters(F:Fun K "_law_letters" "_law_letters" yx f fd)(T:TLetters mg ft)(F0z:Fun K "_law_take" "_law_take" y6 ft fdt)(b0z:Binds K fdt ["_law_box_here","_law_wide"] [])
  (u:FnOk P w K mg base CX0 1 ft fdt ["_law_box_here","_law_wide"] jic):FnOk P w K mg base CX0 2 f fd ["_law_box_here","_law_most"] jj4:=by
 refine F.ok zf (λvs H Q E h=>?_) (λab A M s H vs Q E S h=>?_)
 .obtain⟨b,m,o,rfl,_⟩:=h
  rfl
 .obtain⟨b,m,o,rfl,D,U,m1,m4,k⟩:=h
  refine⟨_,(QSs.h (jf (jo (i:=2) zf.nd rfl (by ac_rfl) (ju (call_listU rfl) (by rfl) T.n_list jbf (ja jbi jc)))
  (jf (jo (i:=3) zf.nd rfl (by ac_rfl) jbi)
  (jf (yh Ip rfl (yb rfl T.n_range (ja (j4 yw jh (jv u (S.mono (by decide)) rfl T.m0z F0z.kp b0z .nil kc (ja (qpv 0) (ja (qpv 1) jc)))) jc)) (jq (i:=4) zf.nd rfl (by ac_rfl)) (jj (jo (i:=3) zf.nd rfl (by ac_rfl) (j4 yw (qpv 3) (kh PySem.F.slot_list_pop PySem.F.type_list_pop mt_popU (qpv 2) (ja (jv u (S.mono (by decide)) rfl T.m0z F0z.kp b0z .nil kc (ja (qpv 0) (ja (jt jw (by rfl) T.n_len j3 (ja (qpv 2) jc)) jc))) jc) jcl)))))
  (jj (ka (qpv 3))))))),?_⟩
  simp!
  refine⟨by decide,λp C=>?_⟩
  have a:b≠p:=je D C
  obtain⟨c0,s0,rfl,_,_⟩:=id U
  refine⟨b,(m:Int),_,rfl,by rw[jd a];exact D,U,by omega,by omega,λd o1 Z Y J=>?_⟩
  simp!
  obtain⟨n,rfl⟩:∃n:Nat,d=(n:Int):=⟨d.toNat,by omega⟩
  have en:(1+(n:Int)).toNat=n+1:=by omega
  refine⟨by omega,by omega,?_⟩
  rw[en]
  refine jcr (λi σ q=>∃l R r v,σ=[some (.ref b),some (.int (m:Int)),some (.ref p),some (.str (toS l)),v]/\q b=some r/\BoxO r/\q p=some (.lst (R.map chV))/\Kp [b] H q/\l.length=i/\R.length+i=26 /\
   (l++R).Nodup/\∀c∈l++R,97<=c/\c<=122) ?_ ?_ ?_
  .refine⟨[],(List.range 26).map (97+·),o1,none,rfl,jb,J,?_,?_,rfl,by simp,?_,?_⟩
   .rw[jd a.symm,jb,jsk]
   .exact((Kp.refl [b] H).new C).set (by rw[jd a];exact D) (.inl (by simp))
   .decide
   .decide
  .rintro i σ q hi ⟨l,R,r,v,rfl,j,g,e,B,W,hR,z,G⟩
   simp! [e]
   obtain⟨c1,s1,rfl,_,_⟩:=id g
   refine⟨b,_,_,rfl,j,g,by rw[Ac];omega,by rw[Ac];omega,λd O Z Y I=>?_⟩
   rw[Ac]at Y
   have t:upd q b O p=some (.lst (R.map chV)):=by rw[jd a.symm];exact e
   simp! [t]
   obtain⟨c,y⟩:∃c,R[d.toNat]?=some c:=⟨R[d.toNat]'(by omega),by simp⟩
   have L:(R.map chV)[d.toNat]?=some (.str ⟨#[c]⟩):=by rw[Ah,y];rfl
   refine⟨Z,_,L,?_⟩
   simp!
   have N:=jho R d.toNat c y
   have X:((l++[c])++R.eraseIdx d.toNat).Perm (l++R):=by
    rw[A5];exact N.append_left l
   have aa:(R.eraseIdx d.toNat).length+1=R.length:=by
    have:=N.length_eq;simpa using this
   refine⟨?_,l++[c],R.eraseIdx d.toNat,O,_,⟨jti l c,rfl⟩,by rw[jd a,jb],I,jjk chV R _,?_,by simp[W],by omega,?_,?_⟩
   .rw[jgg]
    show l.length+1<=sizeLine
    have:sizeLine=16777216:=Iz
    omega
   .exact(B.set j (.inl (.head _))).set t (.inr C)
   .exact X.nodup_iff.mpr z
   .exact λx hx=>G x (X.mem_iff.mp hx)
  .rintro σ q ⟨l,R,r,v,rfl,j,g,e,B,W,hR,z,G⟩
   simp! [e]
   exact k (toS l) r q ⟨by rw[jgg];omega,by rw[jgg];omega,λc y=>G c (Io _ (by simpa[toS]using y)),by simpa[toS]using(O1.mp z).1⟩ g j B
end
variable{H:Hp}{b:Addr}
theorem jrx{a:Addr}{x y:HO}(h:a≠b):upd (upd H a x) b y=upd (upd H b y) a x:=by
 funext c;by_cases h1:c=a
 .subst h1;rw[jd h,jb,jb]
 .by_cases h2:c=b
  .subst h2;rw[jb,jd h1,jb]
  .rw[jd h2,jd h1,jd h1,jd h2]
variable{n:Nat}
theorem jq4{lo:Int}{D:Addr}{te:TE}{E:Ends}{r:L2.St}{f:HO}(P:V->Prop)(hb:H b=some f)(m:BoxO f)(t:H D=none)(hz:n<=sizeLine)
  (s:∀x H' o Q,H' b=some o->BoxO o->(∀v o',P v->BoxO o'->Q v (upd H' b o'))->te (some x::r) H' Q)
  (hn:∀v xs o',xs.length=n->(∀x∈xs,P x)->BoxO o'->E.nx (v::r) (upd (upd H b o') D (.lst xs))):jc5 (Itr lo n) (jc8 0) (jdj D te) E (none::r) (upd H D (.lst [])):=by
 have d:b≠D:=je hb t
 refine jcr (λi σ H'=>∃(v:Option V)(xs:List V)(o':HO),σ=v::r/\xs.length=i/\(∀x∈xs,P x)/\BoxO o'/\H'=upd (upd H b o') D (.lst xs)) ?_ ?_ ?_
 .refine⟨none,[],f,rfl,rfl,(λx h=>nomatch h),m,?_⟩
  have:upd H b f=H:=by
   funext c;by_cases h:c=b
   .subst h;rw[jb,hb]
   .rw[jd h]
  rw[this]
 .rintro i σ H' u ⟨v,xs,o',rfl,j,k,a,rfl⟩
  refine s _ _ o' _ (by rw[jd d,jb]) a λy g p l=>?_
  have e:upd (upd (upd H b o') D (.lst xs)) b g=upd (upd H b g) D (.lst xs):=by rw[jrx d.symm,jfb]
  refine⟨xs,by rw[e,jb];rfl,by omega,_,xs++[y],g,rfl,by simp[j],λx q=>?_,l,by rw[e,jfb]⟩
  rcases Ar.mp q with h|h
  .exact k x h
  .simp at h;subst h;exact p
 .rintro σ H' ⟨v,xs,o',rfl,j,k,a,rfl⟩
  exact hn v xs o' j k a
variable{H':Hp}{K:PySem.W.Frag}{S:List Addr}{xs:List V}
theorem _root_.L2.Kp.seq{a:Addr}(e:Kp S H H')(n:a∉S)(h:SqL K H a xs):SqL K H' a xs:=by
 rcases h with(h|⟨o,h⟩)|h
 .exact .inl (.inl (e.old _ _ h n))
 .exact .inl (.inr ⟨o,e.old _ _ h n⟩)
 .exact .inr h
theorem exQ{X:Cx}{a:List Stmt}{t:TS}{R:TS->Prop}(q:QSs X a t)(h:R t):∃t,PSs X a t/\R t:=⟨t,q.h,h⟩
theorem seqH{t u:TS}{D:Ends}{σ:L2.St}(h:∀u',u'=u->tSeq t u' D σ H):tSeq t u D σ H:=h u rfl
def nV(n:Nat):V:=.int (n:Int)
def dk(r:Nat):L2.Key×V:=(.inl (r:Int),.bl true)
variable{r:Nat}
theorem jpn{x:Nat}(z:(dk x).1=.inl (r:Int)):x=r:=Int.ofNat.inj (Sum.inl.inj z)
theorem jme(S:List Nat)(r:Nat):valV (S.map dk) (.inl (r:Int))=if r∈S then some (.bl true)else none:=by
 induction S with
 |nil=>rfl
 |cons x S ih =>
  rw[Au];by_cases h:x=r
  .subst h;rw[jc4 (p:=dk x) (r:=S.map dk) (k:=.inl (x:Int)) rfl,Al (.head _)];rfl
  .rw[jc3 (λz=>h (jpn z)),ih];by_cases h2:r∈S
   .rw[Al h2,Al (.tail _ h2)]
   .rw[Ai h2,Ai (λz=>(At.mp z).elim (λe=>h e.symm) h2)]
theorem jst(S:List Nat)(r:Nat):jfh (S.map dk) (.inl (r:Int))=(S.filter λx=>decide (x≠r)).map dk:=by
 unfold jfh;rw[Aax];congr 1;refine Aaf λx _=>?_;show decide ((dk x).1≠_)=_;exact decide_eq_decide.mpr ⟨λh z=>h (by rw[z];rfl),λh z=>h (jpn z)⟩
theorem jcg:∀(S T:List Nat),(T++S).Nodup->(S.map dk).foldl (λd kv=>putK d kv.1 kv.2) (T.map dk)=(T++S).map dk
 |[],T,_=>by simp
 |x::S,T,nd=>by
  have a:x∉T:=λh=>by
   rw[O1]at nd;exact nd.2.2 x h x (.head _) rfl
  rw[Au,List.foldl_cons,jlm _ (show valV (T.map dk) (dk x).1=none by rw[show(dk x).1=.inl (x:Int)from rfl,jme,Ai a])];have:=jcg S (T++[x]) (by simpa using nd);rw[A6]at this;rw[show T.map dk++[((dk x).1,(dk x).2)]=T.map dk++[x].map dk from rfl,this];simp
theorem jfw{S:List Nat}(nd:S.Nodup):jdm (S.map dk)=S.map dk:=by
 have:=jcg S [] (by simpa using nd);simpa[jdm]using this
variable{H1:Hp}{d:Addr}{o:HO}
theorem jnf(k:Kp [d] H H1)(h:H d=some o)(f:∀xs,o≠.tup xs):Kp [] H (upd H1 d o):=by
 refine⟨λa u e _=>?_,λa xs e=>?_,λa u e=>?_⟩
 .by_cases c:a=d
  .subst c;rw[jb];rw[h]at e;exact e
  .rw[jd c];exact k.old a u e (by simpa using c)
 .have c:a≠d:=λz=>by rw[z,h]at e;exact f xs (Aw e)
  rw[jd c];exact k.tup a xs e
 .by_cases c:a=d
  .exact⟨o,by rw[c,jb]⟩
  .obtain⟨b,g⟩:=k.dom a u e;exact⟨b,by rw[jd c];exact g⟩
theorem jd0(k:Kp S H H1){kvs:List (Key×V)}(hb:H1 b=some (.dK kvs))(h:b∈S\/H b=none):Kp S H (upd H1 b o):=by
 have g:∀c u,H c=some u->c∉S->c≠b:=λc u e n z=>by
  subst z;rcases h with h|h
  .exact n h
  .rw[h]at e;cases e
 refine⟨λc u e n=>by rw[jd (g c u e n)];exact k.old c u e n,λc d e=>?_,λc u e=>?_⟩
 .have a:=k.tup c d e;have:c≠b:=λz=>by rw[z,hb]at a;cases a
  rw[jd this];exact a
 .obtain⟨f,i⟩:=k.dom c u e;by_cases q:c=b
  .subst q;exact⟨o,jb⟩
  .exact⟨f,by rw[jd q];exact i⟩
def gsF(gs:List Nat)(L:List Nat)(p:Nat):List Nat:=L.foldl (λg r=>g.set r p) gs
theorem jiq(L:List Nat)(p:Nat):∀gs:List Nat,(gsF gs L p).length=gs.length:=by
 unfold gsF;induction L with
 |nil=>intro gs;rfl
 |cons x L ih=>intro gs;rw[List.foldl_cons,ih];simp
theorem jhr(L:List Nat)(p r:Nat):∀gs:List Nat,r<gs.length->(gsF gs L p)[r]?=if r∈L then some p else gs[r]?:=by
 unfold gsF;induction L with
 |nil=>intro gs _;simp
 |cons x L ih =>
  intro gs a;rw[List.foldl_cons,ih _ (by simpa using a),List.getElem?_set];by_cases h1:r∈L
  .rw[Al h1,Al (.tail _ h1)]
  .rw[Ai h1];by_cases h2:x=r
   .subst h2;rw[Al rfl,Al a,Al (.head _)]
   .rw[Ai h2,Ai (λz=>(At.mp z).elim (λe=>h2 e.symm) h1)]
theorem jrd(gs L:List Nat)(x p:Nat):gsF gs (L++[x]) p=(gsF gs L p).set x p:=by simp[gsF]
structure PS(H:Hp)(pp pg:Addr)(n:Nat)(ds:List Addr)(Ss:List (List Nat))(gs:List Nat):Prop where
 hp:H pp=some (.lst (ds.map V.ref))
 hg:H pg=some (.lst (gs.map nV))
 gl:gs.length=n
 dl:ds.length=Ss.length
 at_:∀(i:Nat) d S,ds[i]?=some d->Ss[i]?=some S->H d=some (.dK (S.map dk))
 nd:ds.Nodup
 ns:∀S∈Ss,S.Nodup
 mem:∀(i:Nat) S,Ss[i]?=some S->∀r,r∈S↔r<n/\gs[r]?=some i
 ne:pp≠pg
 n9:n<=1000
 gt:∀(r g:Nat),gs[r]?=some g->g<ds.length
variable{Ss:List (List Nat)}{ds:List Addr}{gs:List Nat}{pg pp:Addr}
theorem PS.kp(h:PS H pp pg n ds Ss gs)(k:Kp [] H H'):PS H' pp pg n ds Ss gs :=
 ⟨k.old _ _ h.hp (by simp),k.old _ _ h.hg (by simp),h.gl,h.dl,λi d S b a=>k.old _ _ (h.at_ i d S b a) Ae,h.nd,h.ns,h.mem,h.ne,h.n9,h.gt⟩
variable{i:Nat}
theorem PS.get(h:PS H pp pg n ds Ss gs){S:List Nat}(e:Ss[i]?=some S):∃d,ds[i]?=some d/\H d=some (.dK (S.map dk)):=by
 have b:=(Ab.mp e).1;have a:ds[i]?=some (ds[i]'(by rw[h.dl];exact b)):=Aa _;exact⟨_,a,h.at_ i _ S a e⟩
theorem jcw:∀{l zs:List Nat},l.Nodup->(∀x∈l,x∈zs)->l.length<=zs.length
 |[],_,_,_=>Op _
 |x::l,zs,nd,h=>by
  obtain⟨d,a⟩:=Ot.mp nd;have c:=h x (.head _);have:=jcw (l:=l) (zs:=zs.erase x) a λy b=>(Wv (λe:y=x=>d (e▸b))).mpr (h y (.tail _ b));rw[W8 c]at this;have f:0<zs.length:=Wh c;rw[List.length_cons];omega
theorem jc0{S:List Nat}(nd:S.Nodup)(h:∀r∈S,r<n):S.length<=n:=by
 have q:=jcw (zs:=List.range n) nd λx a=>Av.mpr (h x a);simpa using q
def prT(y x:V)(H:Hp):Prop:=∃t,x=.ref t/\H t=some (.tup [y,.bl true])
theorem jg0(y:V):Firm (prT y):=λS x b a k ⟨t,e,h⟩=>⟨t,e,k.tup _ _ h⟩
theorem ja8{H:Hp}:∀{L:List Nat}{xs:List V},Paired (λy x=>prT y x H) (L.map nV) xs->PairsK H xs (L.map dk)
 |[],xs,h=>by cases h;exact .nil
 |r::L,xs,h=>by
  rw[Au]at h
  cases h with
  |cons a t =>
   obtain⟨q,e,g⟩:=a;exact .cons ⟨q,e,g⟩ (ja8 t)
def notL(L:List Nat):V->Bool
 |.int i=>!decide (i.toNat∈L)
 |_=>false
theorem jrm(L S:List Nat):((S.map dk).map (λkv=>kV kv.1)).filter (notL L)=(S.filter λq=>!decide (q∈L)).map nV:=by
 rw[Az,show(λkv:L2.Key×V=>kV kv.1)∘dk=nV from rfl,Aax];congr 1
def jsh:Sp:=λvs H Q _=>∃(pp pg ps:Addr)(n:Nat)(ds:List Addr)(Ss:List (List Nat))(gs:List Nat)(i:Nat)(S L:List Nat),vs=[.ref pp,.ref pg,.int (i:Int),.ref ps]/\PS H pp pg n ds Ss gs/\Ss[i]?=some S/\H ps=some (.lst (L.map nV))/\L.Nodup/\(∀r∈L,r∈S)/\ps≠pp/\ps≠pg/\Ss.length<=1000 /\
 ((L=[]\/L.length=S.length)->∀H',Kp [] H H'->Q (.bl false) H') /\
 (¬(L=[]\/L.length=S.length)->∀(sh:List Nat)(d':Addr)(H':Hp),sh.Nodup->sh≠[]->H d'=none->(∀r∈sh,r∈S)->((∀r,r∈sh↔r∈L)\/∀r,r∈sh↔r∈S/\r∉L)->PS H' pp pg n (ds++[d']) (Ss.set i (S.filter λr=>!decide (r∈sh))++[sh]) (gsF gs sh ds.length)->Kp (pp::pg::ds) H H'->Q (.bl true) H')
structure TCut(mg:Str->Option Value):Prop where
 n_len:mg "len"=none
 n_dict:mg "dict"=none
section
variable{P:Program}{w:World}{K:PySem.W.Frag}{mg:Str->Option Value}{base:Heap}
abbrev z8:Stmt:=top 12
theorem ja1:FnScope ["parts","groups","number","share","part","inside","room"] ["parts","groups","number","share"] (jg z8):=⟨rfl,rfl,rfl,by decide +kernel,rfl,by decide +kernel,by decide +kernel⟩
theorem ok_cut(F:Fun K "cut" "cut" z8 f fd)(T:TCut mg):FnOk P w K mg base CX0 1 f fd ["parts","groups","number","share"] jsh:=by
 refine F.ok ja1 (λvs H Q E h=>?_) (λa7 A a9 s H vs Q E M h=>?_)
 .obtain⟨pp,pg,ps,n,I,Ss,gs,i,S,L,rfl,_⟩:=h;rfl
 .obtain⟨pp,pg,ps,n,I,Ss,gs,i,S,L,rfl,B,hS,hL,ai,ag,as,au,l9,kF,kT⟩:=h;have hu:=M.units;have bc:sizeLine=16777216:=Iz;have ay:(A.deeper (PyProof.Rows.envOfC (Str.ofString "cut") (jg z8) s.heap.objs.size f a7)).units+1<cLine:=by omega
  obtain⟨d,hd,G⟩:=B.get hS;have ad:=B.ns S (Ap hS);have Sn:S.length<=n:=jc0 ad λr M=>((B.mem i S hS r).mp M).1;have n9:=B.n9;have Ll:L.length<=S.length:=jcw ai ag;refine exQ (jf (jo (i:=4) ja1.nd rfl (by ac_rfl) (jr ix_U (qpv 0) (qpv 2) (λ_ _=>rfl)))
  (yf (ym (QW.pt (jap (j8 (zq hu) (jt jw (by rfl) T.n_len j3 (ja (qpv 3) jc)) jh (yd _)) (jaq (j8 (zq hu) (jt jw (by rfl) T.n_len j3 (ja (qpv 3) jc)) (jt jbn (by rfl) T.n_len j3 (ja (qpv 4) jc)) (yd _))))) (jj (ka zv)) ya)
  (yf (ym (j8 jcb (j4 zr jh (jt jw (by rfl) T.n_len j3 (ja (qpv 3) jc))) (jt jbn (by rfl) T.n_len j3 (ja (qpv 4) jc)) (yd _)) (jf (jo (i:=5) ja1.nd rfl (by ac_rfl) (ju (jar rfl hu) (by rfl) T.n_dict jbe (ja (ku rfl (jci (sc:=jg z8) (N:=["parts","groups","number","share","part","inside","room"]) (Nc:=["room"]) (js:=[none]) (by decide +kernel)) (j7 (K:=K) (qpv 3) rfl) (λ_ _ _ _=>(jq (i:=0) (show List.Nodup [("room":Str)]from by decide +kernel) rfl (by ac_rfl))) (λ_ _ _ _=>(y9 (ja (qpv 0) (ja zv jc))))) jc)))
  (jj (jb3 (jbd (i:=3) ja1.nd rfl (by ac_rfl) rfl (jci (sc:=jg z8) (N:=["parts","groups","number","share","part","inside","room"]) (Nc:=["room","inside"]) (js:=[none,some 5]) (by decide +kernel)) (jb2 (qpv 4)) (λ_ _ _ _=>(jq (i:=0) (show List.Nodup [("room":Str),("inside":Str)]from by decide +kernel) rfl (by ac_rfl))) (λ_ _ _ _=>(ja4 (jah ay (qpv 0) (qpv 1)) (by with_unfolding_all rfl))) (λ_ _ _ _=>(qpv 0)))))) ya)
  (jf (yh Ip rfl (j7 (K:=K) (qpv 3) rfl) (jq (i:=6) ja1.nd rfl (by ac_rfl)) (jf (kj (qpe_bmD PySem.F.slot_dict_pop PySem.F.type_dict_pop mt_popD (qpv 4) (ja (qpv 6) jc) jcl))
  (jj (ja3 (jt jw (by rfl) T.n_len j3 (ja (qpv 0) jc)) (jbj (qpv 1) (qpv 6) joy)))))
  (jf (kj (kh Ii Ij ki (qpv 0) (ja (ju (jar rfl hu) (by rfl) T.n_dict jbe (ja (ku rfl (jci (sc:=jg z8) (N:=["parts","groups","number","share","part","inside","room"]) (Nc:=["room"]) (js:=[none]) (by decide +kernel)) (j7 (K:=K) (qpv 3) rfl) (λ_ _ _ _=>(jq (i:=0) (show List.Nodup [("room":Str)]from by decide +kernel) rfl (by ac_rfl))) (λ_ _ _ _=>(y9 (ja (qpv 0) (ja zv jc))))) jc)) jc) jcl))
  (jj (ka zv))))))) ?_
  simp! [B.hp];refine⟨.ref d,jch (by rw[Ah,hd];rfl),?_⟩;refine⟨λσ' H'=>σ'=[some (.ref pp),some (.ref pg),some (.int (i:Int)),some (.ref ps),some (.ref d),none,none]/\H=H'/\¬(L=[]\/L.length=S.length),?_,?_⟩
  .simp! [hL];rw[Ac];refine ite2 (λh=>kF (.inl (Os.mp (by omega))) H (Kp.refl _ _)) (λh=>⟨d,S.map dk,rfl,.inl G,?_⟩);rw[Ac];dsimp only;rw[jg2];refine⟨_,rfl,ite2 (λh2=>kF (.inr (by have:=of_decide_eq_true h2;omega)) H (Kp.refl _ _)) (λh2=>⟨rfl,λz=>z.elim (λe=>h (by rw[e];rfl)) (λe=>h2 (by rw[e];simp))⟩)⟩
  rintro _ _ ⟨rfl,rfl,nn⟩;refine⟨λσ' H'=>∃(ps':Addr)(sh:List Nat)(v5:Option V),σ'=[some (.ref pp),some (.ref pg),some (.int (i:Int)),some (.ref ps'),some (.ref d),v5,none]/\H' ps'=some (.lst (sh.map nV))/\ps'≠pp/\ps'≠pg/\sh.Nodup/\sh≠[]/\(∀r∈sh,r∈S)/\((∀r,r∈sh↔r∈L)\/∀r,r∈sh↔r∈S/\r∉L)/\Kp [] H H',?_,?_⟩
  .simp! [hL];refine⟨.inl ⟨by decide,by decide⟩,d,S.map dk,rfl,.inl G,_,rfl,?_⟩;rw[Ac,Ac];refine ite2 (λh=>?_) (λh=>⟨ps,L,none,⟨rfl,rfl⟩,hL,as,au,ai,λz=>nn (.inl z),ag,.inl (λ_=>O2),Kp.refl _ _⟩);simp only[hL];intro D hD;refine jd3 prT jg0 hL hD (by rw[Ac];omega) (λj y H1 Q' hy k1 q=>?_) λv xs H3 Y a5 pr=>?_
   .simp!;exact⟨by omega,λt ht=>q _ _ ((Kp.refl [] H1).new ht) ⟨t,rfl,jb⟩⟩
   dsimp only;refine rDictK.of a5 (ja8 pr) λpi am=>?_;rw[jfw ai];have R:Kp [] H (upd H3 pi (.dK (L.map dk))):=Y.new am;have ax:d≠pi:=je (Y.old _ _ G Ae) am;have e4:upd H3 pi (.dK (L.map dk)) pi=some (.dK (L.map dk)):=jb;generalize upd H3 pi (.dK (L.map dk))=H4 at R e4⊢;have d4:=R.old _ _ G Ae;simp!;refine⟨d,λo u z=>?_,d,S.map dk,rfl,.inl ⟨d4,λo D2 ab=>?_⟩⟩
   .have z':H d=some (.frz o u):=z;rw[G]at z';cases z'
   have an:upd H4 d (.frz o (.dK (S.map dk))) pi=some (.dK (L.map dk)):=by rw[jd ax.symm];exact e4
   have Di:pi≠D2:=je an ab;have dD:d≠D2:=je jb ab;have a8:H4 D2=none:=by rwa[jd dD.symm]at ab
   have af:H D2=none:=R.free a8;refine jpf (notL L) id jb ab (by rw[Ac];omega) (λx hx l Q' q=>?_) (λx hx _ l Q' q=>?_) λvv=>?_
   .obtain⟨kv,a3,rfl⟩:=Am.mp hx;obtain⟨y,hy,rfl⟩:=Am.mp a3;simp!;refine⟨_,DGet.k (k:=.inl (y:Int)) (kvs:=L.map dk) (by rw[jd Di];exact an),?_⟩;rw[jme];have:notL L (kV (dk y).1)=!(if y∈L then some (V.bl true)else none).isSome:=by
     show(!decide (y∈L))=_;by_cases h:y∈L <;> simp[h]
    rw[<-this];exact q
   .simp!;exact q
   rw[Wi,jrm];dsimp only;have kz:Kp [d] H (upd (upd H4 d (.frz o (.dK (S.map dk)))) D2 (.lst ((S.filter λq=>!decide (q∈L)).map nV))):=(jd0 (R.mono (by simp)) d4 (.inl (by simp))).new ab;refine⟨o,.dK (S.map dk),by rw[jd dD,jb],S.filter λq=>!decide (q∈L),by rw[jd dD.symm,jb],?_,?_,ad.filter _,?_,λr M=>(Iy.mp M).1,.inr λr=>by simp[Iy],jnf kz G (λxs z=>nomatch z)⟩
   .exact λz=>by rw[z,B.hp]at af;cases af
   .exact λz=>by rw[z,B.hg]at af;cases af
   .intro z;have:S.length<=L.length:=jcw ad λr M=>by
     have:=Aaj.mp z r M;simpa using this
    exact nn (.inr (by omega))
  rintro _ H2 ⟨ps',sh,v5,rfl,aj,bb,av,Z,aw,subs,az,k2⟩;simp! [aj];have ah:=B.kp k2;have al:=k2.old _ _ G Ae;have d1:d≠pp:=λz=>by rw[z,B.hp]at G;cases G
  have d2:d≠pg:=λz=>by rw[z,B.hg]at G;cases G
  have d3:d≠ps':=λz=>by rw[z,aj]at al;cases al
  refine jdg (xs:=sh.map nV) (λj σ H'=>∃v6:Option V,σ=[some (.ref pp),some (.ref pg),some (.int (i:Int)),some (.ref ps'),some (.ref d),v5,v6]/\H' d=some (.dK ((S.filter λr=>!decide (r∈sh.take j)).map dk))/\H' pg=some (.lst ((gsF gs (sh.take j) I.length).map nV))/\H' ps'=some (.lst (sh.map nV))/\Kp [pg,d] H2 H') ?_ ?_ ?_ ?_
  .refine⟨none,rfl,?_,ah.hg,aj,Kp.refl _ _⟩;rw[al,show(S.filter λr=>!decide (r∈sh.take 0))=S from List.filter_eq_self.mpr λr _=>by simp]
  .rintro j σ H' _ ⟨v6,rfl,_,_,h,_⟩;exact h
  .rintro j x σ H3 hx ⟨v6,rfl,h1,h2,h3,Y⟩;rw[Ah]at hx;obtain⟨r,M,rfl⟩:=Ih.mp hx;have rs:=Ap M;have rS:=subs r rs;obtain⟨rn,rg⟩:=(B.mem i S hS r).mp rS;have nt:r∉sh.take j:=λz=>by
    obtain⟨m,hm⟩:=Il z;have a2:m<j:=by have:=(Ab.mp hm).1;rw[I0]at this;omega
    rw[List.getElem?_take,Al a2]at hm;have a0:=(Ab.mp hm).1;have:=(List.getElem?_inj a0 Z).mp (hm.trans M.symm);omega
   have tk:sh.take (j+1)=sh.take j++[r]:=by rw[Oe,M];rfl
   have ae:H3 pp=some (.lst (I.map V.ref)):=Y.old _ _ ah.hp (by simp[B.ne,d1.symm]);simp!;refine⟨⟨d,_,rfl,h1⟩,d,_,.inl (r:Int),.bl true,rfl,rfl,h1,?_,?_⟩
   .rw[jme,Al (Iy.mpr ⟨rS,by simpa using nt⟩)]
   rw[jst,List.filter_filter];have ef:S.filter (λx=>decide (x≠r) && !decide (x∈sh.take j))=S.filter λx=>!decide (x∈sh.take (j+1)):=Aaf λx _=>by
    rw[tk];by_cases c1:x=r
    .simp[c1]
    .simp[c1]
   rw[ef];have R:Kp [pg,d] H2 (upd H3 d (.dK ((S.filter λx=>!decide (x∈sh.take (j+1))).map dk))):=jd0 Y h1 (.inl (by simp));refine⟨_,by rw[jd d1.symm,ae];rfl,?_⟩;unfold nV;rw[jfz,jd d2.symm,h2];refine⟨_,rfl,r,?_,?_,?_,?_,?_⟩
   .unfold ixN;rw[Ac,jiq,B.gl,Al (by omega),Al (by omega)];simp
   .rw[jd d2,jb]
   .rw[jb,tk,jrd,List.map_set,Ac];rfl
   .rw[jd av,jd d3.symm];exact h3
   .exact R.set (by rw[jd d2.symm];exact h2) (.inl (by simp))
  .rintro σ H3 ⟨v6,rfl,h1,h2,h3,Y⟩;rw[Ac,Im]at h1 h2;have ae:H3 pp=some (.lst (I.map V.ref)):=Y.old _ _ ah.hp (by simp[B.ne,d1.symm]);have ba:sh.length<=S.length:=jcw Z subs;have a6:=B.dl;simp! [h3];refine⟨by rw[ae];rfl,λD hD=>?_⟩;refine jd3 prT jg0 h3 hD (by rw[Ac];omega) (λj y H1 Q' hy k1 q=>?_) λv xs H4 R a4 pr=>?_
   .simp!;exact⟨by omega,λt ht=>q _ _ ((Kp.refl [] H1).new ht) ⟨t,rfl,jb⟩⟩
   dsimp only;refine rDictK.of a4 (ja8 pr) λd' O=>?_;rw[jfw Z];have ak:=R.old _ _ ae Ae;have ac:pp≠d':=je ak O;have g4:=R.old _ _ h2 Ae;have ap:pg≠d':=je g4 O;have ao:=R.old _ _ h1 Ae;have aq:d≠d':=je ao O;have k5:Kp (pp::pg::I) H (upd (upd H4 d' (.dK (sh.map dk))) pp (.lst (I.map V.ref++[V.ref d']))):=by
    have a1:Kp (pp::pg::I) H H3:=(k2.mono (by simp)).trans (Y.mono (λx hx=>by
     simp only[At,Ae,U4]at hx;rcases hx with rfl|rfl
     .simp
     .exact .tail _ (.tail _ (Ap hd))))
    exact((a1.trans (R.mono (by simp))).new O).set (by rw[jd ac];exact ak) (.inl (by simp))
   refine⟨_,by rw[jd ac,ak];rfl,by rw[Ac];omega,kT nn sh d' _ Z aw (k2.free (Y.free (R.free O))) subs az ?_ k5⟩;have hi:i<I.length:=(Ab.mp hd).1;have ar:∀(j:Nat)(dd:Addr)(U:List Nat),I[j]?=some dd->Ss[j]?=some U->j≠i->upd (upd H4 d' (.dK (sh.map dk))) pp (.lst (I.map V.ref++[V.ref d'])) dd=some (.dK (U.map dk)):=λj dd U W C nj=>by
    have aa:=B.at_ j dd U W C;have c1:dd≠pp:=λz=>by rw[z,B.hp]at aa;cases aa
    have c2:dd≠pg:=λz=>by rw[z,B.hg]at aa;cases aa
    have c3:dd≠d:=λz=>by
     rw[z]at W;exact nj ((List.getElem?_inj (Ab.mp W).1 B.nd).mp (W.trans hd.symm))
    have q4:H4 dd=some (.dK (U.map dk)):=R.old _ _ (Y.old _ _ (k2.old _ _ aa Ae) (by simp[c2,c3])) (by simp);rw[jd c1,jd (je q4 O)];exact q4
   have fr:∀x∈I,x≠d':=λx hx z=>by
    obtain⟨j,hj⟩:=Il hx;have bd:=(Ab.mp hj).1;have C:Ss[j]?=some (Ss[j]'(by omega)):=Aa _;have hU:=B.at_ j x _ hj C;have:=R.dom x _ (Y.dom x _ (k2.old _ _ hU Ae)|>.choose_spec);obtain⟨o',e'⟩:=this;rw[z,O]at e';cases e'
   refine⟨by rw[jb,A6];rfl,by rw[jd B.ne.symm,jd ap];exact g4,by rw[jiq];exact B.gl,by simp[a6],λj dd U W C=>?_,?_,λU hU=>?_,λj U C r=>?_,B.ne,B.n9,λr g e=>?_⟩
   .rcases Aag j I.length with l|l|l
    .rw[A8 l]at W;rw[A8 (by rw[Wo];omega)]at C;by_cases c:j=i
     .subst c;rw[hd]at W
      cases W
      rw[Yk (by omega)]at C
      cases C
      rw[jd d1,jd aq];exact ao
     .rw[Yo (λz=>c z.symm)]at C;exact ar j dd U W C c
    .subst l;rw[A9 (Ao _)]at W;rw[A9 (by rw[Wo];omega),Wo,show I.length-Ss.length=0 by omega]at C;simp at W C;subst W C;rw[jd ac.symm,jb]
    .rw[Oh (by simp;omega)]at W
     cases W
   .rw[O1];exact⟨B.nd,by simp,λa ha b hb e=>fr a ha (e.trans (Ag.mp hb))⟩
   .rcases Ar.mp hU with h|h
    .rcases Yu h with h|rfl
     .exact B.ns U h
     .exact ad.filter _
    .cases Ag.mp h;exact Z
   .have X:r<n->(gsF gs sh I.length)[r]?=if r∈sh then some I.length else gs[r]?:=λM=>jhr sh I.length r gs (by rw[B.gl];exact M);rcases Aag j I.length with l|l|l
    .rw[A8 (by rw[Wo];omega)]at C;by_cases c:j=i
     .subst c;rw[Yk (by omega)]at C
      cases C
      rw[Iy];refine⟨fun⟨J,p⟩=>?_,fun⟨J,p⟩=>?_⟩
      .obtain⟨q1,q2⟩:=(B.mem j S hS r).mp J;refine⟨q1,?_⟩;rw[X q1,Ai (by simpa using p)];exact q2
      .rw[X J]at p;by_cases m:r∈sh
       .rw[Al m]at p;simp at p;omega
       .rw[Ai m]at p;exact⟨(B.mem j S hS r).mpr ⟨J,p⟩,by simpa using m⟩
     .rw[Yo (λz=>c z.symm)]at C;have mm:=B.mem j U C r;refine⟨λh=>?_,fun⟨J,p⟩=>?_⟩
      .obtain⟨q1,q2⟩:=mm.mp h;refine⟨q1,?_⟩;have m:r∉sh:=λm=>by
        have:=((B.mem i S hS r).mp (subs r m)).2;rw[q2]at this;simp at this;exact c this
       rw[X q1,Ai m];exact q2
      .rw[X J]at p;by_cases m:r∈sh
       .rw[Al m]at p;simp at p;omega
       .rw[Ai m]at p;exact mm.mpr ⟨J,p⟩
    .subst l;rw[A9 (by rw[Wo];omega),Wo,show I.length-Ss.length=0 by omega]at C;simp at C;subst C;refine⟨λh=>?_,fun⟨J,p⟩=>?_⟩
     .have q1:=((B.mem i S hS r).mp (subs r h)).1;exact⟨q1,by rw[X q1,Al h]⟩
     .rw[X J]at p;by_cases m:r∈sh
      .exact m
      .rw[Ai m]at p;have:=B.gt r _ p;omega
    .rw[Oh (by simp;omega)]at C
     cases C
   .have M:r<gs.length:=by
     have:=(Ab.mp e).1;rwa[jiq]at this
    rw[jhr sh I.length r gs M]at e;rw[Aq,List.length_cons,List.length_nil];by_cases m:r∈sh
    .rw[Al m]at e;simp at e;omega
    .rw[Ai m]at e;have:=B.gt r g e;omega
end
def lk(la:Nat->Addr)(g:Nat):L2.Key×V:=(.inl (g:Int),.ref (la g))
theorem jii(a:Nat->Addr)(b:List Nat)(g:Nat):valV (b.map (lk a)) (.inl (g:Int))=if g∈b then some (.ref (a g))else none:=by
 induction b with
 |nil=>rfl
 |cons x S ih =>
  rw[Au];by_cases h:x=g
  .subst h;rw[jc4 (p:=lk a x) (r:=S.map (lk a)) (k:=.inl (x:Int)) rfl,Al (.head _)];rfl
  .rw[jc3 (λz=>h (Int.ofNat.inj (Sum.inl.inj z))),ih];by_cases h2:g∈S
   .rw[Al h2,Al (.tail _ h2)]
   .rw[Ai h2,Ai (λz=>(At.mp z).elim (λe=>h e.symm) h2)]
structure LD(H0 H:Hp)(pl:Addr)(gk:List Nat)(la:Nat->Addr)(T:List Nat)(G:Nat->Nat):Prop where
 hl:H pl=some (.dK (gk.map (lk la)))
 nd:gk.Nodup
 inj:∀g∈gk,∀g'∈gk,la g=la g'->g=g'
 fr:∀g∈gk,H0 (la g)=none
 at_:∀g∈gk,H (la g)=some (.lst ((T.filter λq=>decide (G q=g)).map nV))
 all:∀q∈T,G q∈gk
 ne:∀g∈gk,∃q∈T,G q=g
theorem jk7{a:Nat->List Nat}{n:Nat}(le:∀r,(a r).length<=n):∀S:List Nat,(S.flatMap a).length<=S.length*n
 |[]=>by simp
 |x::S=>by
  have:=jk7 le S;have:=le x;rw[List.flatMap_cons,Aq,List.length_cons,Aa1];omega
theorem jja(T:List Nat)(G:Nat->Nat)(q g:Nat):(T++[q]).filter (λx=>decide (G x=g))=T.filter (λx=>decide (G x=g))++if G q=g then[q]else[]:=by
 rw[Yh];congr 1;by_cases h:G q=g <;> simp[h]
variable{G:Nat->Nat}
theorem jps{T:List Nat}{g:Nat}(h:∀x∈T,G x≠g):T.filter (λx=>decide (G x=g))=[]:=Aaj.mpr λx a=>by simpa using h x a
structure Src(H:Hp)(ps:Addr)(sl:List Addr)(Sr:Nat->List Nat)(n:Nat):Prop where
 hs:H ps=some (.lst (sl.map V.ref))
 ln:sl.length=n
 at_:∀(r:Nat) a,sl[r]?=some a->H a=some (.lst ((Sr r).map nV))
 lt:∀r q,q∈Sr r->q<n
 le:∀r,(Sr r).length<=n
theorem Src.kp{ps:Addr}{sl:List Addr}{b:Nat->List Nat}(h:Src H ps sl b n)(k:Kp [] H H'):Src H' ps sl b n :=
 ⟨k.old _ _ h.hs (by simp),h.ln,λr a e=>k.old _ _ (h.at_ r a e) Ae,h.lt,h.le⟩
def spLI:Sp:=λvs H Q _=>∃(d ps pg:Addr)(n:Nat)(S:List Nat)(sl:List Addr)(Sr:Nat->List Nat)(gs:List Nat),vs=[.ref d,.ref ps,.ref pg]/\H d=some (.dK (S.map dk))/\Src H ps sl Sr n/\H pg=some (.lst (gs.map nV))/\gs.length=n/\n<=1000/\S.length<=1000/\(∀r∈S,r<n) /\
 ∀pl gk la H',H pl=none->LD H H' pl gk la (S.flatMap Sr) (λq=>gs.getD q 0)->Kp [] H H'->Q (.ref pl) H'
section
variable{P:Program}{w:World}{K:PySem.W.Frag}{mg:Str->Option Value}{base:Heap}
abbrev yq:Stmt:=top 11
theorem zu:FnScope ["part","sources","groups","leading","room","source"] ["part","sources","groups"] (jg yq):=⟨rfl,rfl,rfl,by decide +kernel,rfl,by decide +kernel,by decide +kernel⟩
theorem ok_leading_into(F:Fun K "leading_into" "leading_into" yq f fd):FnOk P w K mg base CX0 1 f fd ["part","sources","groups"] spLI:=by
 refine F.ok zu (λvs H Q E h=>?_) (λaq A ar s H vs Q E hr h=>?_)
 .obtain⟨d,ps,pg,n,S,sl,C,Y,rfl,_⟩:=h;rfl
 .obtain⟨d,ps,pg,n,S,sl,C,Y,rfl,X,G,hg,gl,n9,s9,sn,k⟩:=h;have hu:=hr.units;have av:sizeLine=16777216:=Iz;have au:(A.deeper (PyProof.Rows.envOfC (Str.ofString "leading_into") (jg yq) s.heap.objs.size f aq)).units+1<cLine:=by omega
  refine exQ (jf (jo (i:=3) zu.nd rfl (by ac_rfl) jbq)
  (jf (jb3 (yh Ip rfl (jb2 (qpv 0)) (jq (i:=4) zu.nd rfl (by ac_rfl)) (jj (yh Ip rfl (j7 (K:=K) (jr ix_U (qpv 1) (qpv 4) (λ_ _=>rfl)) rfl) (jq (i:=5) zu.nd rfl (by ac_rfl)) (jj (kj (kh Ii Ij ki (qpe_dset (qpv 3) (jr ix_U (qpv 2) (qpv 5) (λ_ _=>rfl)) (kx jc) ⟨rfl,rfl,rfl,rfl⟩) (ja (qpv 5) jc) (jqg (jfa _) (jiu (jfa _) (jfa _)) jrl))))))))
  (jj (ka (qpv 3))))) ?_
  simp!;intro pl W;have T:d≠pl:=je X W;refine⟨d,λo u z=>?_,d,S.map dk,rfl,.inl ⟨by rw[jd T];exact X,λo=>?_⟩⟩
  .have z':H d=some (.frz o u):=z;rw[X]at z';cases z'
  refine jis (λi σ Z=>∃(v4 v5:Option V)(gk:List Nat)(t:Nat->Addr),σ=[some (.ref d),some (.ref ps),some (.ref pg),some (.ref pl),v4,v5]/\Z d=some (.frz o (.dK (S.map dk)))/\LD H Z pl gk t ((S.take i).flatMap C) (λq=>Y.getD q 0)/\Kp [d] H Z) ?_ ?_ ?_ ?_
  .refine⟨none,none,[],λ_=>0,rfl,jb,⟨by rw[jd T.symm,jb];rfl,Aa0,by simp,by simp,by simp,by simp,by simp⟩,jd0 (((Kp.refl [d] H).new W)) (by rw[jd T];exact X) (.inl (by simp))⟩
  .rintro i σ Z _ ⟨_,_,_,_,rfl,h,_⟩;exact h
  .rintro i kv σ H1 ae ⟨v4,v5,gk,t,rfl,h1,O,kp⟩;rw[Ah]at ae;obtain⟨r,ac,rfl⟩:=Ih.mp ae;have rS:=Ap ac;have rn:=sn r rS;have ea:sl[r]?=some (sl[r]'(by rw[G.ln];exact rn)):=Aa _;generalize sl[r]'(by rw[G.ln];exact rn)=a at ea;have ha:=G.at_ r a ea;have am:a≠d:=λz=>by rw[z,X]at ha;cases ha
   have ah:ps≠d:=λz=>by have:=G.hs;rw[z,X]at this;cases this
   have aj:pg≠d:=λz=>by rw[z,X]at hg;cases hg
   have ag:=kp.old _ _ G.hs (by simpa using ah);have af:=kp.old _ _ ha (by simpa using am);simp!;rw[show kV (dk r).1=V.int (r:Int)from rfl,jco,ag];refine⟨_,rfl,.ref a,jch (by rw[Ah,ea];rfl),?_⟩;simp only[af];have tk:(S.take (i+1)).flatMap C=(S.take i).flatMap C++C r:=by rw[Oe,ac];simp
   have as:=G.le r;refine jdg (xs:=(C r).map nV) (λj σ Z=>∃(v5:Option V)(gk:List Nat)(t:Nat->Addr),σ=[some (.ref d),some (.ref ps),some (.ref pg),some (.ref pl),some (.int (r:Int)),v5]/\Z d=some (.frz o (.dK (S.map dk)))/\LD H Z pl gk t ((S.take i).flatMap C++(C r).take j) (λq=>Y.getD q 0)/\Z a=some (.lst ((C r).map nV))/\Kp [d] H Z) ?_ ?_ ?_ ?_
   .exact⟨v5,gk,t,rfl,h1,by simpa using O,af,kp⟩
   .rintro j σ Z _ ⟨_,_,_,rfl,_,_,h,_⟩;exact h
   .rintro j x σ H2 B ⟨v5,gk,t,rfl,h2,b,N,M⟩;rw[Ah]at B;obtain⟨q,hq,rfl⟩:=Ih.mp B;have qn:=G.lt r q (Ap hq);have ao:=M.old _ _ hg (by simpa using aj);have tj:(C r).take (j+1)=(C r).take j++[q]:=by rw[Oe,hq];rfl
    have hT:((S.take i).flatMap C++(C r).take j).length<=1001000:=by
     have q1:=jk7 G.le (S.take i);have q2:(S.take i).length<=1000:=by rw[I0];omega
     have q3:=Nat.mul_le_mul q2 n9;have q4:((C r).take j).length<=n:=by rw[I0];omega
     rw[Aq];omega
    have ap:gk.length<=((S.take i).flatMap C++(C r).take j).length:=by
     have:=jcw (zs:=((S.take i).flatMap C++(C r).take j).map λq=>Y.getD q 0) b.nd λg l=>by
      obtain⟨x,B,e⟩:=b.ne g l;exact Am.mpr ⟨x,B,e⟩
     rwa[Ac]at this
    rw[tj,<-A5];generalize(S.take i).flatMap C++(C r).take j=U at b hT ap⊢;have gq:Y[q]?=some (Y.getD q 0):=by rw[Af,Aa (by omega)];rfl
    generalize hgd:Y.getD q 0=g at gq;simp!;refine⟨.inl ⟨_,.inl b.hl⟩,?_⟩;unfold nV;rw[jco,ao];refine⟨_,rfl,nV g,jch (by rw[Ah,gq];rfl),by omega,λp D=>⟨gk.map (lk t),by rw[jd (je b.hl D)];exact b.hl,.inl (g:Int),rfl,by rw[Ac];omega,λv hv=>?_,λhv=>?_⟩⟩
    .rw[jii]at hv;by_cases m:g∈gk
     .rw[Al m]at hv
      cases hv
      have I:=b.at_ g m;have np:t g≠p:=je I D;have R:=b.fr g m;have ak:t g≠d:=λz=>by rw[z,X]at R;cases R
      have an:t g≠a:=λz=>by rw[z,ha]at R;cases R
      have aa:t g≠pl:=λz=>by have:=b.hl;rw[<-z,I]at this;cases this
      have el:upd H2 p (.lst []) (t g)=some (.lst ((U.filter λx=>decide (Y.getD x 0=g)).map nV)):=by rw[jd np];exact I
      refine⟨by show(jcs _).isSome=true;rw[el];rfl,?_⟩;rw[jd4,el];refine⟨_,rfl,?_,?_,gk,t,⟨?_,b.nd,b.inj,b.fr,λL l=>?_,λx B=>?_,λL l=>?_⟩,?_,?_⟩
      .rw[Ac];have:=Oy (λx=>decide (Y.getD x 0=g)) U;omega
      .rw[jd ak.symm,jd (je h2 D)];exact h2
      .rw[jd aa.symm,jd (je b.hl D)];exact b.hl
      .rw[jja,hgd];by_cases c:L=g
       .subst c;rw[jb,Al rfl,A6];rfl
       .rw[Ai (λz=>c z.symm),O8,jd (λz=>c (b.inj L l g m z)),jd (je (b.at_ L l) D)];exact b.at_ L l
      .rcases Ar.mp B with h|h
       .exact b.all x h
       .cases Ag.mp h;rw[hgd];exact m
      .obtain⟨x,B,e⟩:=b.ne L l;exact⟨x,Io _ B,e⟩
      .rw[jd an.symm,jd (je N D)];exact N
      .exact(M.new D).set el (.inr R)
     .rw[Ai m]at hv;cases hv
    .rw[jii]at hv;have m:g∉gk:=λm=>by rw[Al m]at hv;cases hv
     have np:pl≠p:=je b.hl D;have ad:H p=none:=M.free D;have ai:∀x∈U,Y.getD x 0≠g:=λx B z=>m (z▸b.all x B);have J:∀x∈gk,(if x=g then p else t x)=t x:=λx B=>Ai (λz:x=g=>m (z▸B));have ek:putK (gk.map (lk t)) (.inl (g:Int)) (V.ref p)=(gk++[g]).map (lk λx=>if x=g then p else t x):=by
      rw[jlm _ (by rw[jii,Ai m]),A6];congr 1
      .exact Ib λx B=>by show(_,V.ref (t x))=(_,V.ref (if x=g then p else t x));rw[J x B]
      .unfold lk;simp
     rw[ek,jd np.symm,jb];have k3:Kp [d] H (upd (upd H2 p (.lst [])) pl (.dK ((gk++[g]).map (lk λx=>if x=g then p else t x)))):=jd0 (M.new D) (by rw[jd np];exact b.hl) (.inr W);refine⟨rfl,[],rfl,by rw[List.length_nil];omega,?_,gk++[g],λx=>if x=g then p else t x,⟨by rw[jd np,jb],?_,λx B y hy e=>?_,λx B=>?_,λL l=>?_,λx B=>?_,λL l=>?_⟩,?_,k3.set (by rw[jd np.symm,jb]) (.inr ad)⟩
     .rw[jd (je h2 D),jd T,jd (je h2 D)];exact h2
     .rw[O1];exact⟨b.nd,by simp,λx B y hy e=>m ((e.trans (Ag.mp hy))▸B)⟩
     .have ab:∀z∈gk++[g],z∈gk\/z=g:=λz hz=>by simpa using hz
      have fp:∀z∈gk,t z≠p:=λz hz=>je (b.at_ z hz) D;rcases ab x B with h|rfl <;> rcases ab y hy with h'|rfl
      .simp only[J x h,J y h']at e;exact b.inj x h y h' e
      .simp only[J x h,Wp]at e;exact absurd e (fp x h)
      .simp only[J y h',Wp]at e;exact absurd e.symm (fp y h')
      .rfl
     .rcases Ar.mp B with h|h
      .simp only[J x h];exact b.fr x h
      .cases Ag.mp h;simp only[Wp];exact ad
     .rw[jja,hgd];rcases Ar.mp l with h|h
      .have I:=b.at_ L h;have aa:t L≠pl:=λz=>by have:=b.hl;rw[<-z,I]at this;cases this
       simp only[J L h];rw[jd (je I D),jd aa,jd (je I D),Ai (λz:g=L=>m (by rw[z];exact h)),O8];exact I
      .cases Ag.mp h
       simp only[Wp];rw[jb,jps ai];rfl
     .rcases Ar.mp B with h|h
      .exact Io _ (b.all x h)
      .cases Ag.mp h;rw[hgd];simp
     .rcases Ar.mp l with h|h
      .obtain⟨x,B,e⟩:=b.ne L h;exact⟨x,Io _ B,e⟩
      .cases Ag.mp h
       exact⟨q,by simp,hgd⟩
     .have al:a≠pl:=λz=>by rw[z]at ha;rw[W]at ha;cases ha
      rw[jd (je N D),jd al,jd (je N D)];exact N
   .rintro σ H2 ⟨v5,gk,t,rfl,h2,b,N,M⟩;rw[Ac,Im,<-tk]at b;exact⟨_,_,rfl,h2,gk,t,b,M⟩
  .rintro σ H1 ⟨v4,v5,gk,t,rfl,h1,O,kp⟩;rw[Ac,Im]at O;simp!;refine⟨o,.dK (S.map dk),h1,?_⟩;have kb:=jnf kp X (λxs z=>nomatch z);have nf:∀g∈gk,t g≠d:=λg l z=>by have:=O.fr g l;rw[z,X]at this;cases this
   exact k pl gk t _ W ⟨by rw[jd T.symm];exact O.hl,O.nd,O.inj,O.fr,λg l=>by rw[jd (nf g l)];exact O.at_ g l,O.all,O.ne⟩ kb
end
def RowsM(H:Hp)(us:List V)(mv:List (List Nat)):Prop:=Paired (λv row=>∃a,v=.ref a/\H a=some (.tup (row.map nV))) us mv
variable{mv:List (List Nat)}{us:List V}
theorem RowsM.kp(k:Kp S H H')(h:RowsM H us mv):RowsM H' us mv:=Paired.mapP h λ_ _ ⟨a,e,h⟩=>⟨a,e,k.tup _ _ h⟩
theorem RowsM.get(h:RowsM H us mv){row:List Nat}(hi:mv[i]?=some row):∃a,us[i]?=some (.ref a)/\H a=some (.tup (row.map nV)):=by
 induction h generalizing i with
 |nil=>simp at hi
 |cons h _ ih =>
  cases i with
  |zero=>obtain⟨a,e,g⟩:=h;simp at hi;subst hi;exact⟨a,by simp[e],g⟩
  |succ i=>obtain⟨a,e,g⟩:=ih (by simpa using hi);exact⟨a,by simpa using e,g⟩
def dM(mv:List (List Nat))(r a:Nat):Nat:=(mv.getD r []).getD a 0
structure MvOk(mv:List (List Nat))(m:Nat):Prop where
 ln:∀row∈mv,row.length=m
 lt:∀row∈mv,∀x∈row,x<mv.length
variable{a m:Nat}
theorem MvOk.at_(h:MvOk mv m)(hr:r<mv.length)(ha:a<m):(mv.getD r [])[a]?=some (dM mv r a)/\dM mv r a<mv.length:=by
 have b:mv.getD r []∈mv:=by rw[Af,Aa hr];exact Iq _
 have c:a<(mv.getD r []).length:=by rw[h.ln _ b];exact ha
 have e:(mv.getD r [])[a]?=some (dM mv r a):=by unfold dM;rw[Af (l:=mv.getD r []),Aa c];rfl
 exact⟨e,h.lt _ b _ (Ap e)⟩
def srcF(mv:List (List Nat))(a i r:Nat):List Nat:=(List.range i).filter λq=>decide (dM mv q a=r)
def spLF:Sp:=λvs H Q _=>∃(pm:Addr)(us:List V)(mv:List (List Nat))(m a:Nat),vs=[.ref pm,.int (a:Int)]/\H pm=some (.tup us)/\RowsM H us mv/\MvOk mv m/\a<m/\mv.length<=1000 /\
 ∀ps sl H',H ps=none->(∀x∈sl,H x=none)->Src H' ps sl (srcF mv a mv.length) mv.length->Kp [] H H'->Q (.ref ps) H'
structure TLF(mg:Str->Option Value):Prop where
 n_enumerate:mg "enumerate"=none
section
variable{P:Program}{w:World}{K:PySem.W.Frag}{mg:Str->Option Value}{base:Heap}
abbrev zb:Stmt:=top 10
theorem jae:FnScope ["moves","sign","sources","room","row"] ["moves","sign"] (jg zb):=⟨rfl,rfl,rfl,by decide +kernel,rfl,by decide +kernel,by decide +kernel⟩
theorem ok_led_from(F:Fun K "led_from" "led_from" zb f fd)(T:TLF mg):FnOk P w K mg base CX0 1 f fd ["moves","sign"] spLF:=by
 refine F.ok jae (λvs H Q E h=>?_) (λaj A ah s H vs Q E hr h=>?_)
 .obtain⟨pm,W,b,m,a,rfl,_⟩:=h;rfl
 .obtain⟨pm,W,b,m,a,rfl,hm,Z,ok,am,n9,k⟩:=h;have hu:=hr.units;have ai:sizeLine=16777216:=Iz;have ul:W.length=b.length:=Iw Z;refine exQ (jf (jab (i:=2) jae.nd rfl (by ac_rfl) rfl (jci (sc:=jg zb) (N:=["moves","sign","sources","room","row"]) (Nc:=["room"]) (js:=[none]) (by decide +kernel)) (j7 (K:=K) (qpv 0) rfl) (λ_ _ _ _=>(jq (i:=0) (show List.Nodup [("room":Str)]from by decide +kernel) rfl (by ac_rfl))) (λ_ _ _ _=>(kx jc)))
  (jf (yh Ip rfl (jbr (K:=K) rfl rfl T.n_enumerate (ja (qpv 0) jc)) (ja2 (n:=2) rfl (ze (jq (i:=3) jae.nd rfl (by ac_rfl)) (ze (jq (i:=4) jae.nd rfl (by ac_rfl)) jau)) (K:=K) rfl) (jj (kj (kh Ii Ij ki (jr ix_U (qpv 2) (jr ix_U (qpv 4) (qpv 1) (λ_ _=>rfl)) (λ_ _=>rfl)) (ja (qpv 3) jc) (jiu (jfa _) (jiu (jfa _) (jfa _)))))))
  (jj (ka (qpv 2))))) ?_
  simp! [hm];intro D hD;refine jeo (xs:=W) (λi σ t=>∃(v:Option V)(d:List Addr),σ=[v]/\t D=some (.lst (d.map V.ref))/\d.length=i/\d.Nodup/\(∀x∈d,t x=some (.lst [])/\H x=none)/\Kp [] H t) ?_ ?_ ?_ ?_
  .exact⟨none,[],rfl,jb,rfl,Aa0,by simp,(Kp.refl [] H).new hD⟩
  .rintro i σ t _ ⟨_,_,rfl,_,_,_,_,B⟩;exact B.tup _ _ hm
  .rintro i x σ H1 g ⟨v,d,rfl,o,hl,nd,I,B⟩;have M:=(Ab.mp g).1;simp! [jdj];have J:∀x∈d,x≠D:=λx g z=>by
    have:=(I x g).1;rw[z,o]at this
    cases d with
    |nil=>cases g
    |cons y l=>simp at this
   refine⟨by omega,λp C=>⟨_,by rw[jd (je o C),o];rfl,by rw[Ac];omega,d++[p],by simp,by simp[hl],?_,λx g=>?_,(B.new C).set (by rw[jd (je o C)];exact o) (.inr hD)⟩⟩
   .rw[O1];exact⟨nd,by simp,λx g y hy e=>je (I x g).1 C (e.trans (Ag.mp hy))⟩
   .rcases Ar.mp g with h|h
    .obtain⟨X,q2⟩:=I x h;exact⟨by rw[jd (J x h),jd (je X C)];exact X,q2⟩
    .cases Ag.mp h
     exact⟨by rw[jd (je o C).symm,jb],B.free C⟩
  .rintro σ H1 ⟨v,d,rfl,o,hl,nd,I,B⟩;simp!;refine⟨⟨W,SqT.of (B.tup _ _ hm)⟩,?_⟩;have aa:∀(r:Nat)(x:Addr),d[r]?=some x->x≠D/\H x=none:=λr x e=>by
    obtain⟨X,q2⟩:=I x (Ap e);refine⟨λz=>?_,q2⟩;rw[z,o]at X
    cases d with
    |nil=>simp at e
    |cons y l=>simp at X
   refine jnl (xs:=W) (λi σ t=>∃(v3 v4:Option V),σ=[some (.ref pm),some (.int (a:Int)),some (.ref D),v3,v4]/\t D=some (.lst (d.map V.ref))/\(∀(r:Nat)(x:Addr),d[r]?=some x->t x=some (.lst ((srcF b a i r).map nV)))/\Kp [] H t) ⟨none,none,rfl,o,λr x e=>by rw[(I x (Ap e)).1];simp[srcF],B⟩ ?_ ?_ ?_
   .rintro i σ t _ ⟨_,_,rfl,_,_,ac⟩;exact ac.tup _ _ hm
   .rintro i x σ U tt g ⟨v3,v4,rfl,R,j,u⟩ ae;have M:i<b.length:=by rw[<-ul];exact(Ab.mp g).1
    obtain⟨e1,tl⟩:=ok.at_ M am;obtain⟨c,hc,af⟩:=(Z.kp u).get (show b[i]?=some (b.getD i [])by rw[Af,Aa M];rfl);rw[g]at hc
    cases hc
    refine⟨tt,[.int (i:Int),.ref c],rfl,SqT.of jb,rfl,⟨_,_,rfl,⟨_,_,rfl,rfl,?_⟩⟩⟩;have S:Kp [] U (upd U tt (.tup [.int (i:Int),.ref c])):=(Kp.refl [] U).new ae;generalize upd U tt (.tup [.int (i:Int),.ref c])=H3 at S⊢;have O:=S.old _ _ R Ae;have ag:=S.tup _ _ af;have ab:=u.trans S;simp! [O,ag];have G:d[dM b i a]?=some (d[dM b i a]'(by omega)):=Aa _;generalize d[dM b i a]'(by omega)=x at G;have L:=S.old _ _ (j _ x G) Ae;refine⟨nV (dM b i a),jch (by rw[Ah,e1];rfl),?_⟩;unfold nV;rw[jco,O];refine⟨_,rfl,.ref x,jch (by rw[Ah,G];rfl),by show(jcs _).isSome=true;rw[L];rfl,?_⟩;rw[jd4,L];obtain⟨J,ad⟩:=aa _ x G;refine⟨_,rfl,?_,_,_,⟨rfl,rfl⟩,by rw[jd J.symm];exact O,λr y Y=>?_,ab.set L (.inr ad)⟩
    .rw[Ac];have:=Oy (λq=>decide (dM b q a=dM b i a)) (List.range i);unfold srcF;rw[A1]at this;omega
    .have sn:srcF b a (i+1) r=srcF b a i r++if dM b i a=r then[i]else[]:=by
      unfold srcF;rw[O9,Yh];congr 1;by_cases h:dM b i a=r <;> simp[h]
     rw[sn];by_cases c:dM b i a=r
     .subst c;rw[G]at Y
      cases Y
      rw[jb,Al rfl,A6];rfl
     .have ny:y≠x:=λz=>by
       rw[z]at Y;exact c ((List.getElem?_inj (Ab.mp G).1 nd).mp (G.trans Y.symm))
      rw[jd ny,Ai c,O8];exact S.old _ _ (j r y Y) Ae
   .rintro σ U ⟨v3,v4,rfl,R,j,u⟩;simp!;rw[ul]at j;refine k D d U hD (λx g=>(I x g).2) ⟨R,by omega,j,λr q hq=>?_,λr=>?_⟩ u
    .have:=(Iy.mp hq).1;exact Av.mp this
    .have:=Oy (λq=>decide (dM b q a=r)) (List.range b.length);unfold srcF;rwa[A1]at this
end
def Ky(X:List Addr)(Hs H:Hp):Prop:=∀x u,Hs x=some u->x∉X->(∀kvs,u≠.dK kvs)->H x=some u
theorem Ky.refl(X:List Addr)(H:Hp):Ky X H H:=λ_ _ e _ _=>e
theorem Ky.kp{X:List Addr}{Hs:Hp}(h:Ky X Hs H)(k:Kp S H H')(c:∀x∈S,x∈X\/Hs x=none\/∃kvs,H x=some (.dK kvs)):Ky X Hs H':=λx u e b a=>k.old x u (h x u e b a) λm=>by
 rcases c x m with z|z|⟨kvs,z⟩
 .exact b z
 .rw[z]at e;cases e
 .rw[h x u e b a]at z;exact a kvs (Aw z)
structure SrA(H:Hp)(X:List Addr)(psr:Addr)(mv:List (List Nat))(m:Nat)(as:List Addr):Prop where
 nx:psr∉X
 hs:H psr=some (.lst (as.map V.ref))
 ln:as.length=m
 at_:∀(a:Nat) x,as[a]?=some x->x∉X/\∃sl,(∀y∈sl,y∉X)/\Src H x sl (srcF mv a mv.length) mv.length
theorem SrA.ky{Hs:Hp}{X:List Addr}{b:Addr}{as:List Addr}(h:SrA Hs X b mv m as)(k:Ky X Hs H):SrA H X b mv m as:=by
 refine⟨h.nx,k _ _ h.hs h.nx (λ_ z=>nomatch z),h.ln,λa x e=>?_⟩;obtain⟨d,g,c,s⟩:=h.at_ a x e;exact⟨d,g,c,k _ _ s.hs d (λ_ z=>nomatch z),s.ln,λr y f=>k _ _ (s.at_ r y f) (c y (Ap f)) (λ_ z=>nomatch z),s.lt,s.le⟩
def DuP(H:Hp)(xs:List V)(due:List (Nat×Nat)):Prop:=Paired (λv (q:Nat×Nat)=>∃t,v=.ref t/\H t=some (.tup [nV q.1,nV q.2])) xs due
theorem DuP.kp{due:List (Nat×Nat)}(k:Kp S H H')(h:DuP H xs due):DuP H' xs due:=Paired.mapP h λ_ _ ⟨t,e,g⟩=>⟨t,e,k.tup _ _ g⟩
theorem DuP.app{zs:List V}{d c:List (Nat×Nat)}(a:DuP H xs d)(b:DuP H zs c):DuP H (xs++zs) (d++c):=by
 induction a with
 |nil=>exact b
 |cons h _ ih=>exact .cons h ih
theorem DuP.last{due:List (Nat×Nat)}{q:Nat×Nat}(h:DuP H xs (due++[q])):∃ys t,xs=ys++[.ref t]/\DuP H ys due/\H t=some (.tup [nV q.1,nV q.2]):=by
 induction due generalizing xs with
 |nil =>
  cases h with
  |cons a b =>
   cases b
   obtain⟨t,rfl,g⟩:=a;exact⟨[],t,rfl,.nil,g⟩
 |cons d due ih =>
  cases h with
  |cons a b =>
   obtain⟨ys,t,e,c,g⟩:=ih b;exact⟨_::ys,t,by rw[e];rfl,.cons a c,g⟩
theorem gG{g:Nat}(hl:gs.length=n)(hr:r<n):gs[r]?=some g↔gs.getD r 0=g:=by
 rw[Af,Aa (by omega)];simp
theorem PS.memG(h:PS H pp pg n ds Ss gs){g:Nat}{S:List Nat}(e:Ss[g]?=some S)(r:Nat):r∈S↔r<n/\gs.getD r 0=g:=by
 rw[h.mem g S e r];exact⟨fun⟨a,b⟩=>⟨a,(gG h.gl a).mp b⟩,fun⟨a,b⟩=>⟨a,(gG h.gl a).mpr b⟩⟩
theorem PS.setL{x:Addr}(h:PS H pp pg n ds Ss gs)(k:Kp [x] H H')(c:H x=some (.lst xs))(n1:x≠pp)(n2:x≠pg):PS H' pp pg n ds Ss gs :=
 ⟨k.old _ _ h.hp (by simpa using n1.symm),k.old _ _ h.hg (by simpa using n2.symm),h.gl,h.dl,λi d S b a=>k.old _ _ (h.at_ i d S b a) (by
  have:=h.at_ i d S b a;simp only[Ag];intro z;rw[z,c]at this
  cases this),h.nd,h.ns,h.mem,h.ne,h.n9,h.gt⟩
structure GW(H0 Hs:Hp)(n:Nat)(pg pp pd:Addr)(H:Hp)(ds:List Addr)(Ss:List (List Nat))(gs:List Nat)(due:List (Nat×Nat)):Prop where
 ps:PS H pp pg n ds Ss gs
 ky:Ky [pp,pg] Hs H
 du:∃xs,H pd=some (.lst xs)/\DuP H xs due
 kp:Kp [] H0 H
 f1:H0 pp=none
 f2:H0 pg=none
 f3:H0 pd=none
 f4:Hs pd=none
 fd:∀d∈ds,H0 d=none
 n1:pd≠pp
 n2:pd≠pg
 ns:∀S∈Ss,S≠[]
theorem PS.isd(h:PS H pp pg n ds Ss gs)(hd:d∈ds):∃kvs,H d=some (.dK kvs):=by
 obtain⟨j,a⟩:=Il hd;have b:=(Ab.mp a).1;exact⟨_,h.at_ j d _ a (Aa (by have:=h.dl;omega))⟩
section
variable{H0 Hs H H':Hp}{n:Nat}{pg pp pd:Addr}{ds:List Addr}{Ss:List (List Nat)}{gs:List Nat}{due due':List (Nat×Nat)}
theorem GW.kp0(h:GW H0 Hs n pg pp pd H ds Ss gs due)(k:Kp [] H H'):GW H0 Hs n pg pp pd H' ds Ss gs due:=by
 obtain⟨a,e,d⟩:=h.du;exact⟨h.ps.kp k,h.ky.kp k (by simp),⟨a,k.old _ _ e Ae,d.kp k⟩,h.kp.trans k,h.f1,h.f2,h.f3,h.f4,h.fd,h.n1,h.n2,h.ns⟩
theorem GW.setd(h:GW H0 Hs n pg pp pd H ds Ss gs due){a:List V}(d:DuP H a due'):GW H0 Hs n pg pp pd (upd H pd (.lst a)) ds Ss gs due':=by
 obtain⟨c,e,_⟩:=h.du;have k:Kp [pd] H (upd H pd (.lst a)):=(Kp.refl [pd] H).set e (.inl (.head _));exact⟨h.ps.setL k e h.n1 h.n2,h.ky.kp k (λx b=>by simp at b;subst b;exact .inr (.inl h.f4)),⟨a,jb,d.kp k⟩,h.kp.set e (.inr h.f3),h.f1,h.f2,h.f3,h.f4,h.fd,h.n1,h.n2,h.ns⟩
theorem GW.cut(h:GW H0 Hs n pg pp pd H ds Ss gs due){d':Addr}{S sh c:List Nat}(p':PS H' pp pg n (ds++[d']) (Ss.set i S++[sh]) c)(k:Kp (pp::pg::ds) H H')(hd:H d'=none)(s1:S≠[])(j:sh≠[]):GW H0 Hs n pg pp pd H' (ds++[d']) (Ss.set i S++[sh]) c due:=by
 obtain⟨g,e,d⟩:=h.du;have f:pd∉pp::pg::ds:=λm=>by
  rcases At.mp m with z|m
  .exact h.n1 z
  rcases At.mp m with z|m
  .exact h.n2 z
  obtain⟨l,z⟩:=h.ps.isd m;rw[e]at z;cases z
 refine⟨p',h.ky.kp k λx a=>?_,⟨g,k.old _ _ e f,d.kp k⟩,h.kp.trans' k λx a=>.inr ?_,h.f1,h.f2,h.f3,h.f4,λx a=>?_,h.n1,h.n2,λU b=>?_⟩
 .rcases At.mp a with rfl|a
  .exact .inl (by simp)
  rcases At.mp a with rfl|a
  .exact .inl (by simp)
  exact .inr (.inr (h.ps.isd a))
 .rcases At.mp a with rfl|a
  .exact h.f1
  rcases At.mp a with rfl|a
  .exact h.f2
  exact h.fd x a
 .rcases Ar.mp a with a|a
  .exact h.fd x a
  .cases Ag.mp a;exact h.kp.free hd
 .rcases Ar.mp b with b|b
  .rcases Yu b with b|rfl
   .exact h.ns U b
   .exact s1
  .cases Ag.mp b;exact j
theorem GW.le(h:GW H0 Hs n pg pp pd H ds Ss gs due):ds.length<=n:=by
 have:=jcw (l:=List.range ds.length) (zs:=(List.range n).map λr=>gs.getD r 0) Iv λk a=>by
  have a:=Av.mp a;have e:Ss[k]?=some (Ss[k]'(by have:=h.ps.dl;omega)):=Aa _;obtain⟨r,b⟩:=List.exists_mem_of_ne_nil _ (h.ns _ (Ap e));obtain⟨d,c⟩:=(h.ps.memG e r).mp b;exact Am.mpr ⟨r,Av.mpr d,c⟩
 simpa using this
end
theorem mem_T{q:Nat}{S:List Nat}:q∈S.flatMap (srcF mv a n)↔q<n/\dM mv q a∈S:=by
 unfold srcF;simp only[List.mem_flatMap,Iy,Av,Oj];exact⟨fun⟨x,c,b,d⟩=>⟨b,d▸c⟩,fun⟨c,b⟩=>⟨_,b,c,rfl⟩⟩
theorem nd_T{mv:List (List Nat)}{a n:Nat}:∀{S:List Nat},S.Nodup->(S.flatMap (srcF mv a n)).Nodup
 |[],_=>Aa0
 |x::S,b=>by
  obtain⟨f,b⟩:=Ot.mp b;rw[List.flatMap_cons,O1];refine⟨(Iv).filter _,nd_T b,λy h z g e=>?_⟩;subst e;have d:=(mem_T.mp g).2;have c:=(Iy.mp h).2;simp at c;rw[c]at d;exact f d
theorem jm5{L S:List Nat}(nd:L.Nodup)(sub:∀r∈L,r∈S)(e:L.length=S.length)(hr:r∈S):r∈L:=Iu λn=>by
 have:=jcw (l:=r::L) (zs:=S) (Ot.mpr ⟨n,nd⟩) λx a=>by
  rcases At.mp a with rfl|a
  .exact hr
  .exact sub x a
 rw[List.length_cons]at this;omega
variable{M:Mc}
theorem CI.part{G0:Nat->Nat}{p0 g p:Nat}{rest:List Nat}(h:CI M G0 p0 i a (g::rest) G p)(d:g<p0)(hr:r<M.n):G r=g↔G0 r=g:=by
 obtain⟨f,c,b⟩:=h.par;refine⟨λe=>?_,λe=>?_⟩
 .rw[<-c r hr,e,b g d]
 .rw[h.un r hr (e▸.head _),e]
theorem jnv{L S sh:List Nat}(c:L.Nodup)(sub:∀r∈L,r∈S)(e:¬(L=[]\/L.length=S.length))(ndS:S.Nodup)(d:(∀r,r∈sh↔r∈L)\/∀r,r∈sh↔r∈S/\r∉L):S.filter (λr=>!decide (r∈sh))≠[]:=λz=>by
 have a:∀r∈S,r∈sh:=λr b=>by
  have:=Aaj.mp z r b;simpa using this
 rcases d with w|w
 .exact e (.inr (Nat.le_antisymm (jcw c sub) (jcw ndS λr b=>(w r).mp (a r b))))
 .cases hL:L with
  |nil=>exact e (.inl hL)
  |cons x L' =>
   have f:x∈L:=by rw[hL];exact .head _
   exact((w x).mp (a x (sub x f))).2 f
def mcOf(mv:List (List Nat))(m:Nat)(ys:List Bool):Mc:=⟨mv.length,m,dM mv,λr=>ys.getD r false⟩
variable{ys:List Bool}
theorem jdt(h:MvOk mv m):(mcOf mv m ys).ok:=⟨λ_ _ a b=>(h.at_ a b).2⟩
def allB(k m:Nat):List (Nat×Nat):=(List.range m).map λb=>(k,b)
theorem mem_allB{k k' b:Nat}:(k',b)∈allB k m↔k'=k/\b<m:=by
 unfold allB;simp only[Am,Av,Prod.mk.injEq];exact⟨fun⟨x,c,a,d⟩=>⟨a.symm,d▸c⟩,fun⟨c,a⟩=>⟨b,a,c.symm,rfl⟩⟩
def tkT(k:Nat)(y x:V)(H:Hp):Prop:=∃t,x=.ref t/\H t=some (.tup [nV k,y])
theorem jma(k:Nat)(y:V):Firm (tkT k y):=λS x c b a ⟨t,e,h⟩=>⟨t,e,a.tup _ _ h⟩
theorem jod{H:Hp}{k:Nat}:∀{L:List Nat}{xs:List V},Paired (λy x=>tkT k y x H) (L.map nV) xs->DuP H xs (L.map λb=>(k,b))
 |[],xs,h=>by cases h;exact .nil
 |r::L,xs,h=>by
  rw[Au]at h
  cases h with
  |cons a t =>
   obtain⟨q,e,g⟩:=a;exact .cons ⟨q,e,g⟩ (jod t)
theorem jb7{H:Hp}:∀{L:List Nat}{xs:List V},Paired (fun(i:Nat) x=>prT (.int (0+(i:Int))) x H) L xs->PairsK H xs (L.map dk)
 |[],xs,h=>by cases h;exact .nil
 |r::L,xs,h=>by
  cases h with
  |cons a t =>
   obtain⟨q,e,g⟩:=a;rw[Ui]at g;exact .cons ⟨q,e,g⟩ (jb7 t)
theorem PS.one(hp:H pp=some (.lst [.ref d]))(hg:H pg=some (.lst ((List.replicate n 0).map nV)))(hd:H d=some (.dK ((List.range n).map dk)))(ne:pp≠pg)(n9:n<=1000):PS H pp pg n [d] [List.range n] (List.replicate n 0):=by
 refine⟨hp,hg,by simp,rfl,λi x S a c=>?_,by simp,λS b=>?_,λi S e r=>?_,ne,n9,λr g e=>?_⟩
 .cases i with
  |zero=>simp at a c;subst a c;exact hd
  |succ i=>simp at a
 .simp at b;subst b;exact Iv
 .cases i with
  |zero=>simp at e;subst e;simp[Wb]
  |succ i=>simp at e
 .rw[Wb]at e;split at e
  .cases e;simp
  .cases e
def J1(H:Hp)(mv:List (List Nat))(m:Nat)(ys:List Bool)(H':Hp)(psg pg pp:Addr)(ds:List Addr)(Ss:List (List Nat))(gs:List Nat):Prop :=
 PS H' pp pg mv.length ds Ss gs/\H' psg=some (.lst ((List.range m).map nV))/\psg∉[pp,pg]/\Kp [] H H'/\H pp=none/\H pg=none/\(∀d∈ds,H d=none)/\(∀S∈Ss,S≠[]) /\
  ∀r s,r<mv.length->s<mv.length->(gs.getD r 0=gs.getD s 0↔ys.getD r false=ys.getD s false)
def spGR:Sp:=λvs H Q _=>∃(pm py:Addr)(us:List V)(mv:List (List Nat))(m:Nat)(ys:List Bool),vs=[.ref pm,.ref py]/\H pm=some (.tup us)/\RowsM H us mv/\MvOk mv m/\H py=some (.lst (ys.map V.bl))/\ys.length=mv.length/\1<=mv.length/\mv.length<=1000/\m<=1000 /\
 ∀(pg:Addr)(gs:List Nat)(H':Hp),H pg=none->H' pg=some (.lst (gs.map nV))->gs.length=mv.length->(∀r s,r<mv.length->s<mv.length->(gs.getD r 0=gs.getD s 0↔(mcOf mv m ys).eq r s))->(∀r,r<mv.length->gs.getD r 0<mv.length)->Kp [] H H'->Q (.ref pg) H'
structure TGR(mg:Str->Option Value)(fc fl fi:Addr):Prop where
 n_len:mg "len"=none
 n_list:mg "list"=none
 n_range:mg "range"=none
 n_dict:mg "dict"=none
 m_cut:mg "cut"=some (.ref fc)
 m4z:mg "led_from"=some (.ref fl)
 m17z:mg "leading_into"=some (.ref fi)
variable{fdc fdl:FuncData}{fl:Addr}
section
variable{P:Program}{w:World}{K:PySem.W.Frag}{mg:Str->Option Value}{base:Heap}
abbrev jy:Stmt:=top 9
theorem kn:FnScope ["moves","yes","signs","groups","parts","sources","due","part","task","leading"] ["moves","yes"] (jg jy):=⟨rfl,rfl,rfl,by decide +kernel,rfl,by decide +kernel,by decide +kernel⟩
theorem ok_groups_of_rooms{fc fi:Addr}{bw:FuncData}(F:Fun K "groups_of_rooms" "groups_of_rooms" jy f fd)(T:TGR mg fc fl fi)(F_cut:Fun K "cut" "cut" z8 fc fdc)(b_cut:Binds K fdc ["parts","groups","number","share"] [])
  (a0:FnOk P w K mg base CX0 1 fc fdc ["parts","groups","number","share"] jsh) (F4z:Fun K "led_from" "led_from" zb fl fdl) (b4z:Binds K fdl ["moves","sign"] [])
  (ed:FnOk P w K mg base CX0 1 fl fdl ["moves","sign"] spLF) (F17z:Fun K "leading_into" "leading_into" yq fi bw) (b17z:Binds K bw ["part","sources","groups"] [])
  (cv:FnOk P w K mg base CX0 1 fi bw ["part","sources","groups"] spLI):FnOk P w K mg base CX0 2 f fd ["moves","yes"] spGR:=by
 refine F.ok kn (λvs H Q E h=>?_) (λd9 A ee s H vs Q E B h=>?_)
 .obtain⟨pm,py,us,mv,m,ys,rfl,_⟩:=h
  rfl
 .obtain⟨pm,py,us,mv,m,ys,rfl,hm,bf,ok,hy,yl,n1,n9,m9,k⟩:=h
  have hu:=B.units
  have el:sizeLine=16777216:=Iz
  have bo:(A.deeper (PyProof.Rows.envOfC (Str.ofString "groups_of_rooms") (jg jy) s.heap.objs.size f d9)).units+1<cLine:=by omega
  have ul:us.length=mv.length:=Iw bf
  refine exQ (jf (jo (i:=2) kn.nd rfl (by ac_rfl) (ju (jba rfl) (by rfl) T.n_list jbf (ja (ju ja6 (by rfl) T.n_range jbw (ja (jt jw (by rfl) T.n_len j3 (ja (jr ix_U (qpv 0) jh (λ_ _=>rfl)) jc)) jc)) jc)))
  (jf (jab (i:=3) kn.nd rfl (by ac_rfl) rfl (jci (sc:=jg jy) (N:=["moves","yes","signs","groups","parts","sources","due","part","task","leading"]) (Nc:=["room"]) (js:=[none]) (by decide +kernel)) (j7 (K:=K) (qpv 0) rfl) (λ_ _ _ _=>(jq (i:=0) (show List.Nodup [("room":Str)]from by decide +kernel) rfl (by ac_rfl))) (λ_ _ _ _=>jh))
  (jf (jo (i:=4) kn.nd rfl (by ac_rfl) (kx (ja (ju (jar rfl hu) (by rfl) T.n_dict jbe (ja (ku rfl (jci (sc:=jg jy) (N:=["moves","yes","signs","groups","parts","sources","due","part","task","leading"]) (Nc:=["room"]) (js:=[none]) (by decide +kernel)) (yb rfl T.n_range (ja (jt jw (by rfl) T.n_len j3 (ja (qpv 0) jc)) jc)) (λ_ _ _ _=>(jq (i:=0) (show List.Nodup [("room":Str)]from by decide +kernel) rfl (by ac_rfl))) (λ_ _ _ _=>(y9 (ja (qpv 0) (ja zv jc))))) jc)) jc)))
  (yf (kj (jv a0 (B.mono (by decide)) rfl T.m_cut F_cut.kp b_cut .nil kc (ja (qpv 4) (ja (qpv 3) (ja jh (ja (jai rfl (jci (sc:=jg jy) (N:=["moves","yes","signs","groups","parts","sources","due","part","task","leading"]) (Nc:=["room","yes"]) (js:=[none,some 1]) (by decide +kernel)) (yb rfl T.n_range (ja (jt jw (by rfl) T.n_len j3 (ja (qpv 1) jc)) jc)) (λ_ _ _ _=>(jq (i:=0) (show List.Nodup [("room":Str),("yes":Str)]from by decide +kernel) rfl (by ac_rfl))) (λ_ _ _ _=>(zx (jr ix_U (qpv 1) (qpv 0) (λ_ _=>rfl)))) (λ_ _ _ _=>(qpv 0))) jc))))))
  (yf (jab (i:=5) kn.nd rfl (by ac_rfl) rfl (jci (sc:=jg jy) (N:=["moves","yes","signs","groups","parts","sources","due","part","task","leading"]) (Nc:=["sign","moves"]) (js:=[none,some 0]) (by decide +kernel)) (j7 (K:=K) (qpv 2) rfl) (λ_ _ _ _=>(jq (i:=0) (show List.Nodup [("sign":Str),("moves":Str)]from by decide +kernel) rfl (by ac_rfl))) (λ_ _ _ _=>(jv ed (B.mono (by decide)) rfl T.m4z F4z.kp b4z .nil kc (ja (qpv 1) (ja (qpv 0) jc)))))
  (jf (jo (i:=6) kn.nd rfl (by ac_rfl) (kx jc))
  (yf (yh Ip rfl (yb rfl T.n_range (ja (jt jw (by rfl) T.n_len j3 (ja (qpv 4) jc)) jc)) (jq (i:=7) kn.nd rfl (by ac_rfl)) (jj (kj (kh Y2 Y3 jas (qpv 6) (ja (ku rfl (jci (sc:=jg jy) (N:=["moves","yes","signs","groups","parts","sources","due","part","task","leading"]) (Nc:=["sign","part"]) (js:=[none,some 7]) (by decide +kernel)) (j7 (K:=K) (qpv 2) rfl) (λ_ _ _ _=>(jq (i:=0) (show List.Nodup [("sign":Str),("part":Str)]from by decide +kernel) rfl (by ac_rfl))) (λ_ _ _ _=>(y9 (ja (qpv 1) (ja (qpv 0) jc))))) jc) jcl))))
  (jf (z6 Ip (qpt_tru (qpv 6)) (jf (jo (i:=8) kn.nd rfl (by ac_rfl) (qpe_bmL0 PySem.F.slot_list_pop PySem.F.type_list_pop mt_pop0U (qpv 6) jcl))
  (jf (jo (i:=9) kn.nd rfl (by ac_rfl) (jv cv (B.mono (by decide)) rfl T.m17z F17z.kp b17z .nil kc (ja (jr ix_U (qpv 4) (jr ix_U (qpv 8) jh (λ_ _=>rfl)) (λ_ _=>rfl)) (ja (jr ix_U (qpv 5) (jr ix_U (qpv 8) jh (λ_ _=>rfl)) (λ_ _=>rfl)) (ja (qpv 3) jc)))))
  (jj (yh Ip rfl (jb2 (qpv 9)) (jq (i:=7) kn.nd rfl (by ac_rfl)) (jj (ym (zx (jv a0 (B.mono (by decide)) rfl T.m_cut F_cut.kp b_cut .nil kc (ja (qpv 4) (ja (qpv 3) (ja (qpv 7) (ja (jat bo (qpv 9) (qpv 7) (λ_ _=>rfl)) jc)))))) (jj (kj (kh Y2 Y3 jas (qpv 6) (ja (ku rfl (jci (sc:=jg jy) (N:=["moves","yes","signs","groups","parts","sources","due","part","task","leading"]) (Nc:=["sign","parts"]) (js:=[none,some 4]) (by decide +kernel)) (j7 (K:=K) (qpv 2) rfl) (λ_ _ _ _=>(jq (i:=0) (show List.Nodup [("sign":Str),("parts":Str)]from by decide +kernel) rfl (by ac_rfl))) (λ_ _ _ _=>(y9 (ja (j4 op_sub (jt jw (by rfl) T.n_len j3 (ja (qpv 1) jc)) jh) (ja (qpv 0) jc))))) jc) jcl))) ya)))))))
  (jj (ka (qpv 3))))))))))) ?_
  obtain⟨c0,dt,dh⟩:=bf.get (show mv[0]?=some (mv.getD 0 [])by rw[Af,Aa (by omega)];rfl)
  have l0:(mv.getD 0 []).length=m:=ok.ln _ (by rw[Af,Aa (by omega)];exact Iq _)
  refine seqH λu1 bo=>?_
  simp! [hm]
  refine⟨.ref c0,jch (j:=0) dt,?_⟩
  simp! [dh]
  rw[Ac,l0]
  refine⟨by omega,by omega,λpr di=>⟨0,m,jb,by decide,by decide,by omega,by omega,by omega,λM dg=>?_⟩⟩
  have k1:Kp [] H (upd (upd H pr (.rng 0 m)) M (.lst ((List.range ((m:Int)-0).toNat).map λi=>V.int (0+(i:Nat))))):=((Kp.refl [] H).new di).new dg
  have e1:upd (upd H pr (.rng 0 m)) M (.lst ((List.range ((m:Int)-0).toNat).map λi=>V.int (0+(i:Nat)))) M=some (.lst ((List.range m).map nV)):=by
   rw[jb,show((m:Int)-0).toNat=m by omega];congr 2;exact Ib λi _=>by rw[Ui];rfl
  generalize upd (upd H pr (.rng 0 m)) M (.lst ((List.range ((m:Int)-0).toNat).map λi=>V.int (0+(i:Nat))))=H1 at k1 e1⊢
  have ch:=k1.tup _ _ hm
  subst bo
  refine seqH λu2 df=>?_
  simp! [ch]
  intro pg ap
  refine jdo (λ_=>nV 0) ch ap (by omega) (λx hx l Q' q=>q) λvv=>?_
  have k2:Kp [] H (upd H1 pg (.lst (us.map λ_=>nV 0))):=k1.new ap
  have e2:upd H1 pg (.lst (us.map λ_=>nV 0)) pg=some (.lst ((List.replicate mv.length 0).map nV)):=by
   rw[jb,<-ul,List.map_replicate,List.map_const']
  have g2:upd H1 pg (.lst (us.map λ_=>nV 0)) M=some (.lst ((List.range m).map nV)):=by rw[jd (je e1 ap)];exact e1
  have an:=je e1 ap
  have aj:H pg=none:=k1.free ap
  generalize upd H1 pg (.lst (us.map λ_=>nV 0))=H2 at k2 e2 g2⊢
  dsimp only
  subst df
  refine seqH λu3 de=>?_
  simp!
  refine⟨us,by rw[k2.tup _ _ hm];rfl,by omega,by omega,λD1 dw=>?_⟩
  rw[show((us.length:Int)).toNat=mv.length by omega]
  refine jmh (λi=>prT (.int (0+(i:Int)))) (λi=>jg0 _) dw (by omega) (λi U Q' hi k' q=>?_) λv1 xs H3 k3 dd cx=>?_
  .simp!
   exact⟨by omega,λt ht=>q _ _ ((Kp.refl [] U).new ht) ⟨t,rfl,jb⟩⟩
  dsimp only
  refine rDictK.of dd (jb7 cx) λd0 ak=>⟨by omega,λpp ag=>?_⟩
  rw[jfw Iv]at ag⊢
  have k4:Kp [] H (upd (upd H3 d0 (.dK ((List.range mv.length).map dk))) pp (.lst [.ref d0])):=((k2.trans k3).new ak).new ag
  have bm:Kp [] H2 (upd (upd H3 d0 (.dK ((List.range mv.length).map dk))) pp (.lst [.ref d0])):=(k3.new ak).new ag
  have c7:d0≠pp:=je jb ag
  have g4:=bm.old _ _ g2 Ae
  have e4:=bm.old _ _ e2 Ae
  have c2:pg≠pp:=je ((k3.new ak).old _ _ e2 Ae) ag
  have bg:M≠pp:=je ((k3.new ak).old _ _ g2 Ae) ag
  have aq:H pp=none:=((k2.trans k3).new ak).free ag
  have az:H d0=none:=(k2.trans k3).free ak
  have a3:PS (upd (upd H3 d0 (.dK ((List.range mv.length).map dk))) pp (.lst [.ref d0])) pp pg mv.length [d0] [List.range mv.length] (List.replicate mv.length 0):=PS.one jb e4 (by rw[jd c7,jb]) c2.symm n9
  generalize upd (upd H3 d0 (.dK ((List.range mv.length).map dk))) pp (.lst [.ref d0])=H4 at k4 bm g4 e4 a3⊢
  subst de
  refine⟨λσ' U=>∃(M pg pp:Addr)(G:List Addr)(Ss:List (List Nat))(R:List Nat),σ'=[some (.ref pm),some (.ref py),some (.ref M),some (.ref pg),some (.ref pp),none,none,none,none,none]/\J1 H mv m ys U M pg pp G Ss R,?_,?_⟩
  .have bn:=k4.old _ _ hy Ae
   simp! [bn]
   rw[Ac,yl]
   refine⟨by omega,by omega,λD2 a8=>?_⟩
   have c1:py≠D2:=je bn a8
   refine jfq (λi=>ys.getD i false) (λi=>V.int (0+(i:Nat))) (by omega) (λi hi l Q' q=>?_) (λi hi _ l Q' q=>by simp!;exact q) λvv=>?_
   .simp!
    rw[jd c1,bn]
    exact⟨_,rfl,.bl (ys.getD i false),by rw[Ui];exact jch (by rw[Ah,Af,Aa (by omega)];rfl),_,rfl,q⟩
   dsimp only
   rw[show((mv.length:Int)).toNat=mv.length by omega]
   have dm:(((List.range mv.length).filter λi=>ys.getD i false).map λi=>V.int (0+(i:Nat)))=((List.range mv.length).filter λi=>ys.getD i false).map nV:=Ib λi _=>by rw[Ui];rfl
   rw[dm]
   have k5:Kp [] H4 (upd H4 D2 (.lst (((List.range mv.length).filter λi=>ys.getD i false).map nV))):=(Kp.refl [] H4).new a8
   have e5:upd H4 D2 (.lst (((List.range mv.length).filter λi=>ys.getD i false).map nV)) D2=some (.lst (((List.range mv.length).filter λi=>ys.getD i false).map nV)):=jb
   have c9:D2≠pp:=(je a3.hp a8).symm
   have c8:D2≠pg:=(je a3.hg a8).symm
   generalize upd H4 D2 (.lst (((List.range mv.length).filter λi=>ys.getD i false).map nV))=H5 at k5 e5⊢
   have I:∀r,r∈(List.range mv.length).filter (λi=>ys.getD i false)↔r<mv.length/\ys.getD r false=true:=λr=>by simp[Iy]
   have ab:((List.range mv.length).filter λi=>ys.getD i false).Nodup:=Iv.filter _
   have X:∀r∈(List.range mv.length).filter (λi=>ys.getD i false),r∈List.range mv.length:=λr B=>(Iy.mp B).1
   generalize(List.range mv.length).filter (λi=>ys.getD i false)=L at e5 I ab X
   have ae:=a3.kp k5
   have r0:∀r,r<mv.length->(List.replicate mv.length 0).getD r 0=0:=λr B=>by simp[Af,Wb,B]
   refine⟨pp,pg,D2,mv.length,[d0],[List.range mv.length],List.replicate mv.length 0,0,List.range mv.length,L,rfl,ae,rfl,e5,ab,X,c9,c8,by simp,λc H6 k6=>?_,λnn sh d' H6 c4 bi bt subs ar p6 k6=>?_⟩
   .refine⟨M,pg,pp,⟨rfl,rfl,rfl⟩,_,_,_,ae.kp k6,k6.old _ _ (k5.old _ _ g4 Ae) (by simp),by simp[bg,an],(k4.trans k5).trans k6,aq,aj,by simpa using az,λS hS=>?_,λr s B hs=>?_⟩
    .simp at hS;subst hS;intro z
     have:=O6 List.length z
     rw[A1,List.length_nil]at this;omega
    .rw[r0 r B,r0 s hs]
     refine⟨λ_=>?_,λ_=>rfl⟩
     rcases c with c|c
     .have no:∀r,r<mv.length->ys.getD r false=false:=λr B=>by
       have:=I r;rw[c]at this;simpa[B]using this
      rw[no r B,no s hs]
     .have al:∀r,r<mv.length->ys.getD r false=true:=λr B=>((I r).mp (jm5 ab X c (Av.mpr B))).2
      rw[al r B,al s hs]
   .have cm:∀r,r<mv.length->(gsF (List.replicate mv.length 0) sh [d0].length).getD r 0=if r∈sh then 1 else 0:=λr B=>by
     rw[Af,jhr sh _ r _ (by simpa using B)];by_cases c:r∈sh
     .rw[Al c,Al c];rfl
     .rw[Ai c,Ai c,<-Af,r0 r B]
    have b9:=k4.trans k5
    have d7:H5 d0=some (.dK ((List.range mv.length).map dk)):=ae.at_ 0 d0 _ rfl rfl
    refine⟨M,pg,pp,⟨rfl,rfl,rfl⟩,_,_,_,p6,k6.old _ _ (k5.old _ _ g4 Ae) ?_,by simp[bg,an],b9.trans' k6 (λx hx=>.inr ?_),aq,aj,λx hx=>?_,λS hS=>?_,λr s B hs=>?_⟩
    .simp only[At,Ae,U4,not_or]
     refine⟨bg,an,λz=>?_⟩
     have:=k5.old _ _ g4 Ae
     rw[z,d7]at this;cases this
    .simp only[At,Ae,U4]at hx
     rcases hx with rfl|rfl|rfl
     .exact aq
     .exact aj
     .exact az
    .simp only[List.cons_append,List.nil_append,At,Ae,U4]at hx
     rcases hx with rfl|rfl
     .exact az
     .exact b9.free bt
    .rcases Ar.mp hS with hS|hS
     .rcases Yu hS with hS|rfl
      .simp at hS;subst hS;intro z
       have:=O6 List.length z
       rw[A1,List.length_nil]at this;omega
      .exact jnv ab X nn Iv ar
     .cases Ag.mp hS;exact bi
    .rw[cm r B,cm s hs]
     rcases ar with w|w
     .have e1:∀r,r<mv.length->(r∈sh↔ys.getD r false=true):=λr B=>by rw[w,I];simp[B]
      simp only[e1 r B,e1 s hs]
      cases ys.getD r false <;> cases ys.getD s false <;> simp
     .have e1:∀r,r<mv.length->(r∈sh↔ys.getD r false=false):=λr B=>by rw[w,I];simp[B]
      simp only[e1 r B,e1 s hs]
      cases ys.getD r false <;> cases ys.getD s false <;> simp
  rintro _ H5 ⟨M,pg,pp,G,Ss,R,rfl,j1⟩
  obtain⟨ae,g5,an,k5,aq,aj,fd,ns,ye⟩:=j1
  obtain⟨V8,ck⟩:∃V8:L2.St->Hp->Prop,∀σ' U,V8 σ' U↔(∃(ad:Addr)(as:List Addr),σ'=[some (.ref pm),some (.ref py),some (.ref M),some (.ref pg),some (.ref pp),some (.ref ad),none,none,none,none]/\SrA U [pp,pg] ad mv m as/\Kp [] H5 U):=⟨_,λ_ _=>O2⟩
  refine⟨V8,?_,?_⟩
  .simp! [g5]
   intro D hD
   refine jdg (xs:=(List.range m).map nV) (λi σ U=>∃(v:Option V)(as:List Addr),σ=[v,some (.ref pm)]/\U D=some (.lst (as.map V.ref))/\as.length=i/\(∀(a:Nat) x,as[a]?=some x->H5 x=none/\x≠D/\∃sl,(∀y∈sl,H5 y=none/\y≠D)/\Src U x sl (srcF mv a mv.length) mv.length)/\Kp [] H5 U) ?_ ?_ ?_ ?_
   .exact⟨none,[],rfl,jb,rfl,by simp,(Kp.refl [] H5).new hD⟩
   .rintro i σ U _ ⟨_,_,rfl,_,_,_,kp⟩
    exact kp.old _ _ g5 Ae
   .rintro i x σ H6 hx ⟨v,as,rfl,av,al,bx,kp⟩
    rw[Ah]at hx
    obtain⟨r,bq,rfl⟩:=Ih.mp hx
    have hi:i<m:=by have:=(Ab.mp bq).1;simpa using this
    rw[Oz hi]at bq
    cases bq
    have b8:=k5.trans kp
    simp! [jdj]
    refine⟨pm,us,mv,m,i,rfl,b8.tup _ _ hm,bf.kp b8,ok,hi,n9,λps sl H7 br ce bd k7=>?_⟩
    have a7:=k7.old _ _ av Ae
    have ef:H5 D=none:=hD
    have b2:ps≠D:=λz=>by rw[z,av]at br;cases br
    have k8:Kp [D] H6 (upd H7 D (.lst (as.map V.ref++[.ref ps]))):=((k7.mono (by simp)).set a7 (.inl (.head _)))
    have db:Kp [D] H7 (upd H7 D (.lst (as.map V.ref++[.ref ps]))):=((Kp.refl [D] H7).set a7 (.inl (.head _)))
    refine⟨_,by rw[a7];rfl,by rw[Ac];omega,as++[ps],by rw[A6];rfl,by simp[al],λa x e=>?_,(kp.trans k7).set a7 (.inr hD)⟩
    have bb:∀{Hx Hy:Hp}{x:Addr}{sl:List Addr}{Sr:Nat->List Nat}{n:Nat},Kp [D] Hx Hy->x≠D->(∀y∈sl,y≠D)->Src Hx x sl Sr n->Src Hy x sl Sr n:=λk nx ny s=>⟨k.old _ _ s.hs (by simpa using nx),s.ln,λr y ey=>k.old _ _ (s.at_ r y ey) (by simpa using ny y (Ap ey)),s.lt,s.le⟩
    rcases Aag a as.length with l|l|l
    .rw[A8 l]at e
     obtain⟨q1,q2,be,q3,q4⟩:=bx a x e
     exact⟨q1,q2,be,q3,bb k8 q2 (λy hy=>(q3 y hy).2) q4⟩
    .subst l
     rw[A9 (Ao _)]at e
     simp at e
     subst e
     rw[al]
     have b1:∀y∈sl,y≠D:=λy hy z=>by have:=ce y hy;rw[z,av]at this;cases this
     exact⟨kp.free br,b2,sl,λy hy=>⟨kp.free (ce y hy),b1 y hy⟩,bb db b2 b1 bd⟩
    .rw[Oh (by simp;omega)]at e
     cases e
   .rintro σ H6 ⟨v,as,rfl,av,al,bx,kp⟩
    simp!
    have no:∀x,H5 x=none->x∉[pp,pg]:=λx hx m=>by
     simp only[At,Ae,U4]at m;rcases m with rfl|rfl
     .rw[ae.hp]at hx;cases hx
     .rw[ae.hg]at hx;cases hx
    refine(ck _ _).mpr ⟨_,as,rfl,⟨no D hD,av,by rw[al];simp,λa x e=>?_⟩,kp⟩
    obtain⟨q1,q2,be,q3,q4⟩:=bx a x e
    exact⟨no x q1,be,λy hy=>no y (q3 y hy).1,q4⟩
  intro σ' H6 Z
  obtain⟨ad,as,rfl,sr,k6⟩:=(ck _ _).mp Z
  clear Z
  have a2:=ae.kp k6
  have g6:=k6.old _ _ g5 Ae
  have cc:=k5.trans k6
  simp!
  refine⟨by omega,λpd ah=>?_⟩
  have ax:GW H H6 mv.length pg pp pd (upd H6 pd (.lst [])) G Ss R []:=⟨a2.kp ((Kp.refl [] H6).new ah),(Ky.refl _ H6).kp ((Kp.refl [] H6).new ah) (by simp),⟨[],jb,.nil⟩,cc.new ah,aq,aj,cc.free ah,ah,fd,(je a2.hp ah).symm,(je a2.hg ah).symm,ns⟩
  generalize upd H6 pd (.lst [])=H7 at ax⊢
  have dn:G.length<=mv.length:=ax.le
  have b0:∀{U:Hp}{G:List Addr}{Ss:List (List Nat)}{R:List Nat}{C:List (Nat×Nat)},GW H H6 mv.length pg pp pd U G Ss R C->U M=some (.lst ((List.range m).map nV)):=λg=>g.ky _ _ g6 an (λ_ z=>nomatch z)
  have bj:∀{p:Nat},p<=mv.length->p*m<=1000000:=λhp=>Og (Nat.mul_le_mul (Og hp n9) m9) (by decide)
  obtain⟨V7,bv⟩:∃V7:L2.St->Hp->Prop,∀σ' U,V7 σ' U↔(∃(v7:Option V)(C:List (Nat×Nat)),σ'=[some (.ref pm),some (.ref py),some (.ref M),some (.ref pg),some (.ref pp),some (.ref ad),some (.ref pd),v7,none,none]/\GW H H6 mv.length pg pp pd U G Ss R C/\(∀k b,(k,b)∈C↔k<G.length/\b<m)/\C.length=G.length*m):=⟨_,λ_ _=>O2⟩
  refine⟨V7,?_,?_⟩
  .simp! [ax.ps.hp]
   rw[Ac]
   refine⟨by omega,by omega,?_⟩
   rw[show((G.length:Int)).toNat=G.length by omega]
   obtain⟨V6,a6⟩:∃V6:Nat->L2.St->Hp->Prop,∀i σ U,V6 i σ U↔(∃(v7:Option V)(C:List (Nat×Nat)),σ=[some (.ref pm),some (.ref py),some (.ref M),some (.ref pg),some (.ref pp),some (.ref ad),some (.ref pd),v7,none,none]/\GW H H6 mv.length pg pp pd U G Ss R C/\(∀k b,(k,b)∈C↔k<i/\b<m)/\C.length=i*m):=⟨_,λ_ _ _=>O2⟩
   refine jcr V6 ((a6 _ _ _).mpr ⟨none,[],rfl,ax,by simp,by simp⟩) ?_ ?_
   .intro i σ H8 hi Z
    obtain⟨v7,C,rfl,gw,md,dl⟩:=(a6 _ _ _).mp Z
    clear Z
    have g8:=b0 gw
    obtain⟨xs,af,dp⟩:=gw.du
    have xl:xs.length=C.length:=Iw dp
    have ml:=bj (p:=i) (by omega)
    simp! [g8]
    refine⟨by show(jcs _).isSome=true;rw[af];rfl,λD hD=>?_⟩
    refine jd3 (tkT i) (jma i) g8 hD (by simp;omega) (λj y H1 Q' hy k1 q=>?_) λv zs H9 k9 dv pr=>?_
    .simp!
     rw[Ui]
     exact⟨by omega,λt ht=>q _ _ ((Kp.refl [] H1).new ht) ⟨t,rfl,jb⟩⟩
    have dz:DuP H9 zs (allB i m):=jod pr
    have zl:zs.length=m:=by rw[Iw dz];simp[allB]
    have dx:=gw.kp0 k9
    have dc:=k9.old _ _ af Ae
    dsimp only
    rw[dc,dv]
    refine⟨_,rfl,_,rfl,by omega,(a6 _ _ _).mpr ⟨_,C++allB i m,rfl,dx.setd ((dp.kp k9).app dz),λk' b=>?_,?_⟩⟩
    .rw[Ar,md,mem_allB]
     omega
    .rw[Aq,dl,Aa1];simp[allB]
   .intro σ H8 Z
    obtain⟨v7,C,rfl,gw,md,dl⟩:=(a6 _ _ _).mp Z
    clear Z
    exact(bv _ _).mpr ⟨v7,C,rfl,gw,md,dl⟩
  intro σ' H8 Z
  obtain⟨v7,C,rfl,gw,md,dl⟩:=(bv _ _).mp Z
  clear Z
  simp!
  have bk:=jdt (ys:=ys) ok
  obtain⟨W,hW⟩:∃W:Nat->L2.St->Hp->Prop,W=λμ σ' U=>∃(v7 v8 v9:Option V)(G:List Addr)(Ss:List (List Nat))(R:List Nat)(C:List (Nat×Nat)),σ'=[some (.ref pm),some (.ref py),some (.ref M),some (.ref pg),some (.ref pp),some (.ref ad),some (.ref pd),v7,v8,v9]/\GW H H6 mv.length pg pp pd U G Ss R C/\Pt (mcOf mv m ys) (λr=>R.getD r 0) G.length C/\C.length<=G.length*m/\μ=(mv.length-G.length)*(m+1)+C.length:=⟨_,rfl⟩
  refine⟨W,?_,?_⟩
  .rw[hW]
   refine⟨_,v7,none,none,G,Ss,R,C,rfl,gw,Pt.first (λr B=>gw.ps.gt r _ ((gG gw.ps.gl B).mpr rfl)) ye (λi a hi ha=>(md i a).mpr ⟨hi,ha⟩) (λi a h=>(md i a).mp h) bk,by omega,rfl⟩
  clear bv V7 gw md dl ye ns fd dn ax a2 ae C G Ss R
  intro μ σ H9 Z
  rw[hW]at Z
  obtain⟨v7,v8,v9,G,Ss,R,C,rfl,gw,pt,dl,rfl⟩:=Z
  obtain⟨xs,af,dp⟩:=gw.du
  have dn:=gw.le
  simp! [af]
  rcases List.eq_nil_or_concat C with rfl|⟨ai,q,rfl⟩
  .cases dp
   rw[Ai (by simp)]
   exact k pg R H9 aj gw.ps.hg gw.ps.gl (λr s B hs=>pt.done bk B hs) (λr B=>Ic (gw.ps.gt r _ ((gG gw.ps.gl B).mpr rfl)) dn) gw.kp
  rw[List.concat_eq_append]at dp pt dl⊢
  obtain⟨i,a⟩:=q
  obtain⟨bz,t,rfl,d6,ht⟩:=dp.last
  obtain⟨em,bu⟩:=pt.du i a (by simp)
  rw[Al (by simp)]
  refine⟨_,λ_ _ h=>h,.ref t,by simp,?_⟩
  rw[List.dropLast_concat]
  have O:=gw.setd d6
  have bp:upd H9 pd (.lst bz) t=some (.tup [nV i,nV a]):=(((Kp.refl [pd] H9).set af (.inl (.head _))).tup _ _ ht)
  generalize upd H9 pd (.lst bz)=ba at O bp⊢
  have bu:a<m:=bu
  have a1:=sr.ky O.ky
  have ei:Ss[i]?=some (Ss[i]'(by have:=O.ps.dl;omega)):=Aa _
  generalize Ss[i]'(by have:=O.ps.dl;omega)=S at ei
  obtain⟨d,hd,dq⟩:=O.ps.get ei
  have ea:as[a]?=some (as[a]'(by have:=a1.ln;omega)):=Aa _
  generalize as[a]'(by have:=a1.ln;omega)=x at ea
  obtain⟨_,sl,_,bd⟩:=a1.at_ a x ea
  rw[jco,bp]
  refine⟨_,rfl,nV i,jew _ _,?_⟩
  show rIxU (.ref pp) (.int (i:Int)) ba _
  rw[jco,O.ps.hp]
  refine⟨_,rfl,.ref d,jch (by rw[Ah,hd];rfl),?_⟩
  rw[jco,bp]
  refine⟨_,rfl,nV a,jfd _ _ _,?_⟩
  show rIxU (.ref ad) (.int (a:Int)) ba _
  rw[jco,a1.hs]
  refine⟨_,rfl,.ref x,jch (by rw[Ah,ea];rfl),?_⟩
  have mS:=O.ps.memG ei
  have b5:=O.ps.ns S (Ap ei)
  have Sn:S.length<=mv.length:=jc0 b5 λr B=>((mS r).mp B).1
  refine⟨d,x,pg,mv.length,S,sl,srcF mv a mv.length,R,rfl,dq,bd,O.ps.hg,O.ps.gl,n9,by omega,λr B=>((mS r).mp B).1,λpl gk la a9 cg ld cb=>⟨pl,gk.map (lk la),rfl,.inl ⟨ld.hl,λo=>?_⟩⟩⟩
  have ca:Kp [] ba (upd a9 pl (.frz o (.dK (gk.map (lk la))))):=jd0 cb ld.hl (.inr cg)
  have fz:upd a9 pl (.frz o (.dK (gk.map (lk la)))) pl=some (.frz o (.dK (gk.map (lk la)))):=jb
  have b7:∀g∈gk,upd a9 pl (.frz o (.dK (gk.map (lk la)))) (la g)=some (.lst (((S.flatMap (srcF mv a mv.length)).filter λq=>decide (R.getD q 0=g)).map nV)):=λg hg=>by
   have e:=ld.at_ g hg;rw[jd (λz=>by rw[z,ld.hl]at e;cases e)];exact e
  have cl:=O.kp0 ca
  obtain⟨eh,cd,d5⟩:=O.du
  have no:∀z,ba z=none->z∉[pp,pg,pd]:=λz hz mz=>by
   simp only[At,Ae,U4]at mz;rcases mz with rfl|rfl|rfl
   .rw[O.ps.hp]at hz;cases hz
   .rw[O.ps.hg]at hz;cases hz
   .rw[cd]at hz;cases hz
  have b3:=no pl cg
  have b4:∀g∈gk,la g∉[pp,pg,pd]:=λg hg=>no _ (ld.fr g hg)
  have c5:=ld.nd
  have eb:=ld.all
  have c3:=ld.ne
  clear ld cb cd d5
  generalize upd a9 pl (.frz o (.dK (gk.map (lk la))))=cr at ca fz b7 cl⊢
  have b6:∀r,r<mv.length->R.getD r 0<G.length:=λr B=>O.ps.gt r _ ((gG O.ps.gl B).mpr rfl)
  have ay:∀q,q∈S.flatMap (srcF mv a mv.length)↔q<mv.length/\R.getD (dM mv q a) 0=i:=λq=>by
   rw[mem_T];exact⟨fun⟨h1,h2⟩=>⟨h1,((mS _).mp h2).2⟩,fun⟨h1,h2⟩=>⟨h1,(mS _).mpr ⟨(ok.at_ h1 bu).2,h2⟩⟩⟩
  have c6:=nd_T (mv:=mv) (a:=a) (n:=mv.length) b5
  have en:ai.length+1<=G.length*m:=by simpa using dl
  have ek:=bj dn
  obtain⟨V9,am⟩:∃V9:Nat->L2.St->Hp->Prop,∀j σ U,V9 j σ U↔(∃(v7:Option V)(u:List Addr)(ac:List (List Nat))(aa:List Nat)(J:List (Nat×Nat)),σ=[some (.ref pm),some (.ref py),some (.ref M),some (.ref pg),some (.ref pp),some (.ref ad),some (.ref pd),v7,some (.ref t),some (.ref pl)]/\GW H H6 mv.length pg pp pd U u ac aa J/\Ky [pp,pg,pd] cr U/\CI (mcOf mv m ys) (λr=>R.getD r 0) G.length i a (gk.drop j) (λr=>aa.getD r 0) u.length /\
   (∀q∈ai,q∈J)/\(∀k b,G.length<=k->k<u.length->b<m->(k,b)∈J)/\(∀k b,(k,b)∈J->k<u.length/\b<m)/\J.length<=ai.length+(u.length-G.length)*m):=⟨_,λ_ _ _=>O2⟩
  refine jis V9 ?_ ?_ ?_ ?_
  .refine(am _ _ _).mpr ⟨v7,G,Ss,R,ai,rfl,cl,Ky.refl _ _,CI.init b6 λr B n e=>n (eb r ((ay r).mpr ⟨B,e⟩)),λq h=>h,λk b h1 h2=>by omega,λk b h=>pt.du k b (by simp[h]),by omega⟩
  .intro j σ U _ Z
   obtain⟨_,_,_,_,_,rfl,_,ky,_⟩:=(am _ _ _).mp Z
   exact ky _ _ fz b3 (λ_ z=>nomatch z)
  .intro j kv σ ec cj Z
   obtain⟨w7,u,ac,aa,J,rfl,Y,ky,ci,d1,d2,d3,cp⟩:=(am _ _ _).mp Z
   clear Z
   rw[Ah]at cj
   obtain⟨g,bs,rfl⟩:=Ih.mp cj
   have hj:=(Ab.mp bs).1
   have au:=Ap bs
   have dr:gk.drop j=g::gk.drop (j+1):=by
    rw[Ww hj,(Ab.mp bs).2]
   rw[dr]at ci
   have ng:g∉gk.drop (j+1):=by
    have:=c5.sublist (List.drop_sublist j gk);rw[dr]at this;exact(Ot.mp this).1
   obtain⟨q0,cf,cn⟩:=c3 g au
   have gp:g<G.length:=by rw[<-cn];exact b6 q0 ((ay q0).mp cf).1
   have cy:=ci.pp
   have pn:=Y.le
   have ej:=Y.ps.dl
   have eg:ac[g]?=some (ac[g]'(by omega)):=Aa _
   generalize ac[g]'(by omega)=S' at eg
   have a4:∀r,r∈S'↔r<mv.length/\R.getD r 0=g:=λr=>by
    rw[Y.ps.memG eg r];exact⟨fun⟨h1,h2⟩=>⟨h1,(ci.part gp h1).mp h2⟩,fun⟨h1,h2⟩=>⟨h1,(ci.part gp h1).mpr h2⟩⟩
   have ct:=Y.ps.ns S' (Ap eg)
   have hL:=ky _ _ (b7 g au) (b4 g au) (λ_ z=>nomatch z)
   have I:∀r,r∈(S.flatMap (srcF mv a mv.length)).filter (λq=>decide (R.getD q 0=g))↔r<mv.length/\R.getD (dM mv r a) 0=i/\R.getD r 0=g:=λr=>by
    rw[Iy,ay];simp[and_assoc]
   have ab:((S.flatMap (srcF mv a mv.length)).filter λq=>decide (R.getD q 0=g)).Nodup:=c6.filter _
   have cq:(S.flatMap (srcF mv a mv.length)).filter (λq=>decide (R.getD q 0=g))≠[]:=List.ne_nil_of_mem (Iy.mpr ⟨cf,by simpa using cn⟩)
   generalize(S.flatMap (srcF mv a mv.length)).filter (λq=>decide (R.getD q 0=g))=L at hL I ab cq
   have X:∀r∈L,r∈S':=λr B=>(a4 r).mpr ⟨((I r).mp B).1,((I r).mp B).2.2⟩
   have d4:=ky _ _ fz b3 (λ_ z=>nomatch z)
   have bh:=b4 g au
   simp only[At,Ae,U4,not_or]at bh
   rw[show kV (lk la g).1=V.int (g:Int)from rfl]
   simp!
   refine⟨.ref (la g),.inl ⟨gk.map (lk la),.inl (g:Int),.inr ⟨o,d4⟩,rfl,by rw[jii,Al au]⟩,?_⟩
   refine⟨pp,pg,la g,mv.length,u,ac,aa,g,S',L,rfl,Y.ps,eg,hL,ab,X,bh.1,bh.2.1,by omega,λc H14 ao=>⟨false,rfl,?_⟩,λnn sh d' H14 c4 bi bt subs ar p6 ao=>⟨true,rfl,?_⟩⟩
   .rw[Ai (by simp)]
    refine(am _ _ _).mpr ⟨_,u,ac,aa,J,rfl,Y.kp0 ao,ky.kp ao (by simp),ci.same λr B e=>?_,d1,d2,d3,cp⟩
    rcases c with c|c
    .exact absurd c cq
    .exact((I r).mp (jm5 ab X c ((a4 r).mpr ⟨B,e⟩))).2.1
   .rw[Al rfl]
    have s1:=jnv ab X nn ct ar
    have aw:=Y.cut p6 ao bt s1 bi
    have cz:=aw.le
    have l4:(u++[d']).length=u.length+1:=by simp
    rw[l4]at cz
    have d8:CI (mcOf mv m ys) (λr=>R.getD r 0) G.length i a (gk.drop (j+1)) (λr=>(gsF aa sh u.length).getD r 0) (u++[d']).length:=by
     rw[l4];refine ci.cut ng gp (sh:=sh) (λr B=>(a4 r).mp (subs r B)) ?_ λr B=>?_
     .rcases ar with w|w
      .exact .inl λr B e=>by rw[w,I];exact⟨λh=>h.2.1,λh=>⟨B,h,e⟩⟩
      .exact .inr λr B e=>by
        rw[w,I,a4];exact⟨λh z=>h.2 ⟨B,z,e⟩,λh=>⟨⟨B,e⟩,λz=>h z.2.1⟩⟩
     .show(gsF aa sh u.length).getD r 0=if r∈sh then u.length else aa.getD r 0;rw[Af,jhr sh _ r _ (by rw[Y.ps.gl];exact B)];by_cases c:r∈sh
      .rw[Al c,Al c];rfl
      .rw[Ai c,Ai c,Af]
    have da:Ky [pp,pg,pd] cr H14:=ky.kp ao λz hz=>by
     rcases At.mp hz with rfl|hz
     .exact .inl (by simp)
     rcases At.mp hz with rfl|hz
     .exact .inl (by simp)
     exact .inr (.inr (Y.ps.isd hz))
    have g4:=b0 aw
    obtain⟨xs,af,co⟩:=aw.du
    have xl:xs.length=J.length:=Iw co
    have ml:=bj (p:=u.length-G.length) (by omega)
    simp only[g4]
    refine⟨by rw[af];rfl,λD hD=>?_⟩
    refine jd3 (tkT u.length) (jma _) g4 hD (by simp;omega) (λj' y H1 Q' hy k1 q=>?_) λv zs cs a5 cu pr=>?_
    .have dj:=k1.old _ _ aw.ps.hp (by simp)
     simp! [dj]
     rw[Ac,l4,show((u.length+1:Nat):Int)-1=(u.length:Int)by omega]
     exact⟨by omega,λt ht=>q _ _ ((Kp.refl [] H1).new ht) ⟨t,rfl,jb⟩⟩
    have dz:DuP cs zs (allB u.length m):=jod pr
    have zl:zs.length=m:=by rw[Iw dz];simp[allB]
    have al:(allB u.length m).length=m:=by simp[allB]
    have dy:=aw.kp0 a5
    have bc:=a5.old _ _ af Ae
    dsimp only
    rw[bc,cu]
    refine⟨_,rfl,_,rfl,by omega,(am _ _ _).mpr ⟨_,_,_,_,J++allB u.length m,rfl,dy.setd ((co.kp a5).app dz),(da.kp a5 (by simp)).kp ((Kp.refl [pd] cs).set bc (.inl (.head _))) (λz hz=>.inl (by simp at hz;simp[hz])),d8,λq hq=>Io _ (d1 q hq),λk' b h1 h2 h3=>?_,λk' b h=>?_,?_⟩⟩
    .rw[l4]at h2
     rw[Ar,mem_allB]
     by_cases c:k'=u.length
     .exact .inr ⟨c,h3⟩
     .exact .inl (d2 k' b h1 (by omega) h3)
    .rw[l4]
     rcases Ar.mp h with h|h
     .have:=d3 k' b h;omega
     .have:=mem_allB.mp h;omega
    .rw[l4,Aq,al,show u.length+1-G.length=(u.length-G.length)+1 by omega,Aa1]
     omega
  .intro σ ec Z
   obtain⟨w7,u,ac,aa,J,rfl,Y,ky,ci,d1,d2,d3,cp⟩:=(am _ _ _).mp Z
   clear Z
   rw[Ac,List.drop_length]at ci
   have cw:=pt.task bk ci d1 d2 d3
   have pn:=Y.le
   have cy:=ci.pp
   have e1:(mv.length-G.length)*(m+1)=(mv.length-u.length)*(m+1)+(u.length-G.length)*m+(u.length-G.length):=by
    rw[show mv.length-G.length=(mv.length-u.length)+(u.length-G.length)by omega,Aa1,Nat.mul_succ (u.length-G.length) m];omega
   have e2:u.length*m=G.length*m+(u.length-G.length)*m:=by
    rw[<-Aa1];congr 1;omega
   refine⟨(mv.length-u.length)*(m+1)+J.length,?_,?_⟩
   .rw[Aq,List.length_cons,List.length_nil]
    omega
   .rw[hW]
    exact⟨w7,some (.ref t),some (.ref pl),u,ac,aa,J,rfl,Y,cw,by omega,rfl⟩
end
structure MG(G:Nat->Nat)(j:Nat)(fr:List Nat):Prop where
 lt:∀r∈fr,r<j
 inc:fr.Pairwise (λa b=>a<b)
 nd:(fr.map G).Nodup
 all:∀r,r<j->G r∈fr.map G
 fst:∀f∈fr,∀r,r<f->G r≠G f
theorem MG.nil(G:Nat->Nat):MG G 0 []:=⟨by simp,.nil,by simp,λr h=>by omega,by simp⟩
variable{fr:List Nat}
theorem MG.old{j:Nat}(h:MG G j fr)(m:G j∈fr.map G):MG G (j+1) fr :=
 ⟨λr a=>U8 (h.lt r a),h.inc,h.nd,λr a=>by
  rcases Nat.lt_or_ge r j with c|c
  .exact h.all r c
  .rw[show r=j by omega];exact m,h.fst⟩
theorem MG.new{j:Nat}(h:MG G j fr)(m:G j∉fr.map G):MG G (j+1) (fr++[j]):=by
 refine⟨λr d=>?_,?_,?_,λr d=>?_,λf k r d e=>?_⟩
 .rcases Ar.mp d with c|c
  .exact U8 (h.lt r c)
  .cases Ag.mp c;omega
 .rw[Ia];exact⟨h.inc,by simp,λa i b g=>by cases Ag.mp g;exact h.lt a i⟩
 .rw[A6,O1];exact⟨h.nd,by simp,λa i b g e=>m (by simp at g;rw[<-g,<-e];exact i)⟩
 .rw[A6,Ar];rcases Nat.lt_or_ge r j with c|c
  .exact .inl (h.all r c)
  .exact .inr (by simp[show r=j by omega])
 .rcases Ar.mp k with c|c
  .exact h.fst f c r d e
  .cases Ag.mp c
   exact m (e▸h.all r d)
structure Nmb(G:Nat->Nat)(fr:List Nat)(kvs:List (L2.Key×V)):Prop where
 num:∀x:Nat,valV kvs (.inl (x:Int))=if x∈fr.map G then some (nV ((fr.map G).idxOf x))else none
 kl:kvs.length<=fr.length
theorem Nmb.new{kvs:List (L2.Key×V)}(h:Nmb G fr kvs){j:Nat}(m:G j∉fr.map G):Nmb G (fr++[j]) (putK kvs (.inl (G j:Int)) (nV fr.length)):=by
 refine⟨λx=>?_,?_⟩
 .rw[jha,h.num,A6];by_cases c:x=G j
  .subst c;rw[Al rfl,Al (by simp),U9,Ai m];simp
  .rw[Ai (by simpa using λz:(x:Int)=G j=>c (by omega))];by_cases hx:x∈fr.map G
   .rw[Al hx,Al (Io _ hx),U9,Al hx]
   .rw[Ai hx,Ai (λz=>(Ar.mp z).elim hx (by simpa using c))]
 .have:=jda kvs (.inl (G j:Int)) (nV fr.length);have:=h.kl;rw[Aq,List.length_cons,List.length_nil];omega
def phi(G:Nat->Nat)(fr:List Nat)(r:Nat):Nat:=(fr.map G).idxOf (G r)
def phV(G:Nat->Nat)(fr:List Nat):V->V
 |.int i=>nV (phi G fr i.toNat)
 |v=>v
def mgR(mv:List (List Nat))(G:Nat->Nat)(fr:List Nat):List (List Nat):=fr.map λf=>(mv.getD f []).map (phi G fr)
def mgY(ys:List Bool)(fr:List Nat):List Bool:=fr.map λf=>ys.getD f false
def ysV(ys:List Bool):V->V
 |.int i=>.bl (ys.getD i.toNat false)
 |v=>v
def spMg:Sp:=λvs H Q _=>∃(pm py pg:Addr)(us:List V)(mv:List (List Nat))(m:Nat)(ys:List Bool)(gs:List Nat),vs=[.ref pm,.ref py,.ref pg]/\H pm=some (.tup us)/\RowsM H us mv/\MvOk mv m/\H py=some (.lst (ys.map V.bl))/\ys.length=mv.length/\H pg=some (.lst (gs.map nV))/\gs.length=mv.length/\1<=mv.length/\mv.length<=1000/\m<=1000 /\
 ∀(q a1 a2:Addr)(us':List V)(fr:List Nat)(H':Hp),MG (λr=>gs.getD r 0) mv.length fr->H' q=some (.tup [.ref a1,.ref a2])->H' a1=some (.tup us')->RowsM H' us' (mgR mv (λr=>gs.getD r 0) fr)->H' a2=some (.tup ((mgY ys fr).map V.bl))->Kp [] H H'->Q (.ref q) H'
structure TMg(mg:Str->Option Value):Prop where
 n_len:mg "len"=none
 n_tuple:mg "tuple"=none
 n_enumerate:mg "enumerate"=none
section
variable{P:Program}{w:World}{K:PySem.W.Frag}{mg:Str->Option Value}{base:Heap}
abbrev zi:Stmt:=top 8
theorem zw:FnScope ["moves","yes","groups","numbers","first_rooms","room","group","rows"] ["moves","yes","groups"] (jg zi):=⟨rfl,rfl,rfl,by decide +kernel,rfl,by decide +kernel,by decide +kernel⟩
theorem ok_merged(F:Fun K "merged" "merged" zi f fd)(T:TMg mg):FnOk P w K mg base CX0 1 f fd ["moves","yes","groups"] spMg:=by
 refine F.ok zw (λvs H Q E h=>?_) (λau A av s H vs Q E R h=>?_)
 .obtain⟨pm,py,pg,us,mv,m,J,gs,rfl,_⟩:=h;rfl
 .obtain⟨pm,py,pg,us,mv,m,J,gs,rfl,hm,ae,ok,hy,yl,hg,gl,n1,n9,m9,k⟩:=h;have hu:=R.units;have ax:sizeLine=16777216:=Iz;have ab:(A.deeper (PyProof.Rows.envOfC (Str.ofString "merged") (jg zi) s.heap.objs.size f au)).units+1<cLine:=by omega
  have ul:us.length=mv.length:=Iw ae;have X:∀r,r<mv.length->gs[r]?=some (gs.getD r 0):=λr R=>(gG gl R).mpr rfl;generalize hG:(λr=>gs.getD r 0)=G at k;have X:∀r,r<mv.length->gs[r]?=some (G r):=λr R=>by rw[<-hG];exact X r R
  refine exQ (jf (jo (i:=3) zw.nd rfl (by ac_rfl) jbq)
  (jf (jo (i:=4) zw.nd rfl (by ac_rfl) (kx jc))
  (jf (yh Ip rfl (qpi_enumF rfl T.n_enumerate (ja (qpv 2) jc)) (ja2 (n:=2) rfl (ze (jq (i:=5) zw.nd rfl (by ac_rfl)) (ze (jq (i:=6) zw.nd rfl (by ac_rfl)) jau)) (K:=K) rfl) (jj (ym (ja4 (jah ab (qpv 6) (qpv 3)) (by with_unfolding_all rfl)) (jf (ja9 ab (qpv 3) (qpv 6) (jt jw (by rfl) T.n_len j3 (ja (qpv 4) jc)) rfl)
  (jj (kj (kh Ii Ij ki (qpv 4) (ja (qpv 5) jc) jcl)))) ya)))
  (jf (jo (i:=7) zw.nd rfl (by ac_rfl) (kx jc))
  (jf (yh Ip rfl (j7 (K:=K) (qpv 4) rfl) (jq (i:=5) zw.nd rfl (by ac_rfl)) (jj (kj (kh Ii Ij ki (qpv 7) (ja (ju jz (by rfl) T.n_tuple kg (ja (ku rfl (jci (sc:=jg zi) (N:=["moves","yes","groups","numbers","first_rooms","room","group","rows"]) (Nc:=["target","numbers","groups"]) (js:=[none,some 3,some 2]) (by decide +kernel)) (j7 (K:=K) (jr ix_U (qpv 0) (qpv 5) (λ_ _=>rfl)) rfl) (λ_ _ _ _=>(jq (i:=0) (show List.Nodup [("target":Str),("numbers":Str),("groups":Str)]from by decide +kernel) rfl (by ac_rfl))) (λ_ _ _ _=>(jat ab (qpv 1) (jr ix_U (qpv 2) (qpv 0) (λ_ _=>rfl)) (λ_ _=>rfl)))) jc)) jc) jcl))))
  (jj (ka (y9 (ja (ju jz (by rfl) T.n_tuple kg (ja (qpv 7) jc)) (ja (ju jz (by rfl) T.n_tuple kg (ja (ku rfl (jci (sc:=jg zi) (N:=["moves","yes","groups","numbers","first_rooms","room","group","rows"]) (Nc:=["room","yes"]) (js:=[none,some 1]) (by decide +kernel)) (j7 (K:=K) (qpv 4) rfl) (λ_ _ _ _=>(jq (i:=0) (show List.Nodup [("room":Str),("yes":Str)]from by decide +kernel) rfl (by ac_rfl))) (λ_ _ _ _=>(jr ix_U (qpv 1) (qpv 0) (λ_ _=>rfl)))) jc)) jc)))))))))) ?_
  simp!;intro M ac;refine⟨by omega,λpf ad=>?_⟩;have U:M≠pf:=je jb ad;have k0:Kp [] H (upd (upd H M (.dK [])) pf (.lst [])):=((Kp.refl [] H).new ac).new ad;have ah:H pf=none:=((Kp.refl [] H).new ac).free ad;have g0:=k0.old _ _ hg Ae;refine⟨_,g0,?_⟩;refine js9 (xs:=gs.map nV) (λi σ C=>∃(Y v6:Option V)(a:List Nat)(b:List (L2.Key×V)),σ=[some (.ref pm),some (.ref py),some (.ref pg),some (.ref M),some (.ref pf),Y,v6,none]/\C M=some (.dK b)/\C pf=some (.lst (a.map nV))/\MG G i a/\Nmb G a b/\Kp [] H C) ?_ ?_ ?_ ?_
  .exact⟨none,none,[],[],rfl,by rw[jd U,jb],jb,MG.nil G,⟨λx=>by simp[valV],Ao _⟩,k0⟩
  .rintro i σ C _ ⟨_,_,_,_,rfl,_,_,_,_,p⟩;exact p.old _ _ hg Ae
  .rintro i x σ L tt O ⟨Y,v6,a,b,rfl,z,o,I,N,p⟩ ao;rw[Ah]at O;obtain⟨y,aa,rfl⟩:=Ih.mp O;have hi:i<mv.length:=by have:=(Ab.mp aa).1;omega
   rw[X i hi]at aa
   cases aa
   refine⟨tt,[.int (i:Int),nV (G i)],rfl,SqT.of jb,rfl,⟨_,_,rfl,⟨_,_,rfl,rfl,?_⟩⟩⟩;have kT:Kp [] L (upd L tt (.tup [.int (i:Int),nV (G i)])):=(Kp.refl [] L).new ao;generalize upd L tt (.tup [.int (i:Int),nV (G i)])=H2 at kT⊢;have z:=kT.old _ _ z Ae;have o:=kT.old _ _ o Ae;have p:=p.trans kT;have as:a.length<=i:=by
    have:=jcw (l:=a) (zs:=List.range i) (I.inc.imp λh=>by omega) λr R=>Av.mpr (I.lt r R);simpa using this
   have kl:=N.kl;simp!;refine⟨_,DGet.k (k:=.inl (G i:Int)) z,?_⟩;rw[N.num (G i)];by_cases c:G i∈a.map G
   .rw[Al c];simp only[Option.isSome_some,Wq,Ir,O4];exact⟨_,_,⟨rfl,rfl⟩,a,b,z,o,I.old c,N,p⟩
   .rw[Ai c];simp only[Option.isSome_none,Y8,Wp,o];refine⟨_,rfl,upd H2 M (.dK (putK b (.inl (G i:Int)) (nV a.length))),by rw[Ac];exact DPut.k (k:=.inl (G i:Int)) (v:=nV a.length) z (by omega),?_⟩;rw[jd U.symm,o];refine⟨rfl,_,rfl,by rw[Ac];omega,_,_,⟨rfl,rfl⟩,a++[i],_,by rw[jd U,jb],by rw[A6];rfl,I.new c,N.new c,?_⟩;exact(jd0 p z (.inr ac)).set (by rw[jd U.symm];exact o) (.inr ah)
  .rintro σ L ⟨Y,v6,a,b,rfl,z,o,I,N,p⟩;rw[Ac,gl]at I;simp!;refine⟨by omega,λpr W=>?_⟩;have as:a.length<=mv.length:=by
    have:=jcw (l:=a) (zs:=List.range mv.length) (I.inc.imp λh=>by omega) λr R=>Av.mpr (I.lt r R);simpa using this
   have kR:Kp [] L (upd L pr (.lst [])):=(Kp.refl [] L).new W;have eR:upd L pr (.lst []) pr=some (.lst []):=jb;have ag:H pr=none:=p.free W;have aj:M≠pr:=je z W;have ak:pf≠pr:=je o W;generalize upd L pr (.lst [])=H2 at kR eR⊢;have z:=kR.old _ _ z Ae;have o:=kR.old _ _ o Ae;have p:=p.trans kR;simp only[o];refine jdg (xs:=a.map nV) (λj σ C=>∃(Y:Option V)(e:List V),σ=[some (.ref pm),some (.ref py),some (.ref pg),some (.ref M),some (.ref pf),Y,v6,some (.ref pr)]/\C pr=some (.lst e)/\RowsM C e ((a.take j).map λf=>(mv.getD f []).map (phi G a))/\C M=some (.dK b)/\C pf=some (.lst (a.map nV))/\Kp [] H C) ?_ ?_ ?_ ?_
   .exact⟨Y,[],rfl,eR,.nil,z,o,p⟩
   .rintro j σ C _ ⟨_,_,rfl,_,_,_,h,_⟩;exact h
   .rintro j x σ B O ⟨Y,e,rfl,r3,R3,n3,f3,d⟩;rw[Ah]at O;obtain⟨u,hf,rfl⟩:=Ih.mp O;have fl:=I.lt u (Ap hf);obtain⟨c,hc,af⟩:=(ae.kp d).get (show mv[u]?=some (mv.getD u [])by rw[Af,Aa fl];rfl);have rm:mv.getD u []∈mv:=by rw[Af,Aa fl];exact Iq _
    have rl:=ok.ln _ rm;have ai:=ok.lt _ rm;have ap:=d.tup _ _ hm;have aw:e.length=j:=by
     rw[Iw R3,Ac,I0];have:=(Ab.mp hf).1;omega
    have jl:=(Ab.mp hf).1;simp! [r3];unfold nV;rw[jco,ap];refine⟨_,rfl,.ref c,jch hc,?_⟩;simp only[af];intro D Z;have am:M≠D:=je n3 Z;have g3:=d.old _ _ hg Ae;have an:pg≠D:=je g3 Z;refine jdo (phV G a) af Z (by rw[Ac];omega) (λx O l Q' q=>?_) λvv=>?_
    .obtain⟨t,ht,rfl⟩:=Am.mp O;have tl:=ai t ht;simp!;rw[show nV t=V.int (t:Int)from rfl,jco,jd an,g3];refine⟨_,rfl,nV (G t),jch (by rw[Ah,X t tl];rfl),nV (phi G a t),.inl ⟨b,.inl (G t:Int),.inl (by rw[jd am];exact n3),rfl,?_⟩,q⟩;rw[N.num (G t),Al (I.all t tl)];rfl
    dsimp only;refine jcj jb λl hl=>?_;have g:Kp [] B (upd (upd B D (.lst (((mv.getD u []).map nV).map (phV G a)))) l (.tup (((mv.getD u []).map nV).map (phV G a)))):=((Kp.refl [] B).new Z).new hl;have l4:upd (upd B D (.lst (((mv.getD u []).map nV).map (phV G a)))) l (.tup (((mv.getD u []).map nV).map (phV G a))) l=some (.tup (((mv.getD u []).map (phi G a)).map nV)):=by
     rw[jb,Az,Az];rfl
    generalize upd (upd B D (.lst (((mv.getD u []).map nV).map (phV G a)))) l (.tup (((mv.getD u []).map nV).map (phV G a)))=S at g l4⊢;have r4:=g.old _ _ r3 Ae;have k5:Kp [pr] S (upd S pr (.lst (e++[.ref l]))):=(Kp.refl [pr] S).set r4 (.inl (.head _));refine⟨e,by rw[r4];rfl,by omega,?_,by rw[jd aj];exact g.old _ _ n3 Ae,by rw[jd ak];exact g.old _ _ f3 Ae,(d.trans g).set r4 (.inr ag)⟩;rw[Oe,hf,A6];exact Wg ((R3.kp g).kp k5) ⟨l,rfl,k5.tup _ _ l4⟩
   .rintro σ B ⟨Y,e,rfl,r3,R3,n3,f3,d⟩;rw[Ac,Im]at R3;simp!;refine jcj r3 λa1 ar=>?_;have g:Kp [] B (upd B a1 (.tup e)):=(Kp.refl [] B).new ar;have e4:upd B a1 (.tup e) a1=some (.tup e):=jb;generalize upd B a1 (.tup e)=S at g e4⊢;have f4:=g.old _ _ f3 Ae;simp only[f4];intro D Z;have y4:=(d.trans g).old _ _ hy Ae;have al:py≠D:=je y4 Z;refine jdn (ysV J) f4 Z (by rw[Ac];omega) (λx O l Q' q=>?_) λvv=>?_
    .obtain⟨t,ht,rfl⟩:=Am.mp O;have tl:=I.lt t ht;simp!;rw[show nV t=V.int (t:Int)from rfl,jco,jd al,y4];exact⟨_,rfl,.bl (J.getD t false),jch (by rw[Ah,Af,Aa (by omega)];rfl),q⟩
    dsimp only;refine jcj jb λa2 aq=>⟨by omega,λq hq=>?_⟩;have k5:Kp [] S (upd (upd S D (.lst ((a.map nV).map (ysV J)))) a2 (.tup ((a.map nV).map (ysV J)))):=((Kp.refl [] S).new Z).new aq;have e5:upd (upd S D (.lst ((a.map nV).map (ysV J)))) a2 (.tup ((a.map nV).map (ysV J))) a2=some (.tup ((mgY J a).map V.bl)):=by
     rw[jb,Az];unfold mgY;rw[Az];rfl
    generalize upd (upd S D (.lst ((a.map nV).map (ysV J)))) a2 (.tup ((a.map nV).map (ysV J)))=H5 at k5 e5 hq⊢;have k6:Kp [] H5 (upd H5 q (.tup [.ref a1,.ref a2])):=(Kp.refl [] H5).new hq;exact k q a1 a2 e a _ I jb (k6.tup _ _ (k5.tup _ _ e4)) (((R3.kp g).kp k5).kp k6) (k6.tup _ _ e5) (((d.trans g).trans k5).trans k6)
end
def cu1(g:Nat->Nat->Nat)(r:Nat)(rs:List Nat)(a:Nat):List Nat:=if g r a∈rs then rs else rs++[g r a]
def cuR(g:Nat->Nat->Nat)(r a:Nat)(rs:List Nat):List Nat:=(List.range a).foldl (cu1 g r) rs
inductive Bf (g:Nat->Nat->Nat) (m first:Nat):Nat->List Nat->Prop
 |z:Bf g m first 0 [first]
 |s {j:Nat}{rs:List Nat}{r:Nat}:Bf g m first j rs->rs[j]?=some r->Bf g m first (j+1) (cuR g r m rs)
theorem jcy(g:Nat->Nat->Nat)(r a:Nat)(rs:List Nat):cuR g r (a+1) rs=cu1 g r (cuR g r a rs) a:=by
 unfold cuR;rw[O9,Uz];rfl
theorem je4(g:Nat->Nat->Nat)(r:Nat)(rs:List Nat)(a:Nat):∃t,cu1 g r rs a=rs++t:=by
 unfold cu1;split
 .exact⟨[],by simp⟩
 .exact⟨_,rfl⟩
theorem jd5(g:Nat->Nat->Nat)(r:Nat)(rs:List Nat):∀a,∃t,cuR g r a rs=rs++t
 |0=>⟨[],by simp[cuR]⟩
 |a+1=>by
  obtain⟨t,e⟩:=jd5 g r rs a;obtain⟨b,c⟩:=je4 g r (cuR g r a rs) a;exact⟨t++b,by rw[jcy,c,e,A5]⟩
theorem jsq(g:Nat->Nat->Nat)(r:Nat)(rs:List Nat)(a:Nat):g r a∈cu1 g r rs a:=by
 unfold cu1;split
 .assumption
 .simp
theorem jdy(g:Nat->Nat->Nat)(r:Nat)(rs:List Nat):∀a b,b<a->g r b∈cuR g r a rs
 |0,b,h=>by omega
 |a+1,b,h=>by
  rw[jcy];by_cases c:b=a
  .subst c;exact jsq g r _ b
  .obtain⟨t,e⟩:=je4 g r (cuR g r a rs) a;rw[e];exact Io _ (jdy g r rs a b (by omega))
variable{rs:List Nat}
theorem ixa{x:Nat}{t:List Nat}(h:x∈rs):(rs++t).idxOf x=rs.idxOf x:=by rw[U9,Al h]
structure BI(g:Nat->Nat->Nat)(m n first j:Nat)(rs:List Nat):Prop where
 nd:rs.Nodup
 lt:∀r∈rs,r<n
 z:rs[0]?=some first
 cl:∀r∈rs.take j,∀a,a<m->g r a∈rs
 jl:j<=rs.length
 rc:∀r∈rs,∃w:List Nat,(∀a∈w,a<m)/\w.foldl g first=r
theorem jtp{g:Nat->Nat->Nat}(h:rs.Nodup):(cu1 g r rs a).Nodup:=by
 unfold cu1;split
 .exact h
 .rename_i c;rw[O1];exact⟨h,by simp,λx d y b e=>c ((e.trans (Ag.mp b))▸d)⟩
theorem jem{g:Nat->Nat->Nat}{r:Nat}{rs:List Nat}(h:rs.Nodup):∀a,(cuR g r a rs).Nodup
 |0=>h
 |a+1=>by rw[jcy];exact jtp (jem h a)
theorem jdd{g:Nat->Nat->Nat}{r:Nat}{rs:List Nat}:∀a x,x∈cuR g r a rs->x∈rs\/∃b,b<a/\x=g r b
 |0,x,h=>.inl h
 |a+1,x,h=>by
  rw[jcy]at h;have:x∈cuR g r a rs\/x=g r a:=by
   unfold cu1 at h;split at h
   .exact .inl h
   .rcases Ar.mp h with h|h
    .exact .inl h
    .exact .inr (Ag.mp h)
  rcases this with h|h
  .rcases jdd a x h with h|⟨b,d,c⟩
   .exact .inl h
   .exact .inr ⟨b,by omega,c⟩
  .exact .inr ⟨a,by omega,h⟩
theorem Bf.inv{g:Nat->Nat->Nat}{first:Nat}(p:first<n)(gl:∀r a,r<n->a<m->g r a<n){j:Nat}(h:Bf g m first j rs):BI g m n first j rs:=by
 induction h with
 |z=>exact⟨by simp,by simpa using p,rfl,by simp,by simp,λr d=>⟨[],by simp,by simp at d;exact d.symm⟩⟩
 |@s j rs r _ d ih =>
  obtain⟨t,e⟩:=jd5 g r rs m;have l:=Ap d;have u:=(Ab.mp d).1;refine⟨jem ih.nd m,λx c=>?_,?_,λx c a f=>?_,?_,λx c=>?_⟩
  .rcases jdd m x c with h|⟨b,k,i⟩
   .exact ih.lt x h
   .rw[i];exact gl r b (ih.lt r l) k
  .rw[e,A8 (by omega)];exact ih.z
  .rw[e,Is (by omega),Oe,d]at c;rcases Ar.mp c with h|h
   .rw[e];exact Io _ (ih.cl x h a f)
   .simp at h;subst h;exact jdy g x rs m a f
  .rw[e,Aq];omega
  .rcases jdd m x c with h|⟨b,k,i⟩
   .exact ih.rc x h
   .obtain⟨w,o,q⟩:=ih.rc r l;refine⟨w++[b],λa f=>?_,by rw[Uz,q,i];rfl⟩;rcases Ar.mp f with h|h
    .exact o a h
    .cases Ag.mp h;exact k
structure NmI(rs:List Nat)(kvs:List (L2.Key×V)):Prop where
 num:∀x:Nat,valV kvs (.inl (x:Int))=if x∈rs then some (nV (rs.idxOf x))else none
 kl:kvs.length<=rs.length
theorem NmI.new{kvs:List (L2.Key×V)}(h:NmI rs kvs){y:Nat}(m:y∉rs):NmI (rs++[y]) (putK kvs (.inl (y:Int)) (nV rs.length)):=by
 refine⟨λx=>?_,?_⟩
 .rw[jha,h.num];by_cases c:x=y
  .subst c;rw[Al rfl,Al (by simp),U9,Ai m];simp
  .rw[Ai (by simpa using λz:(x:Int)=y=>c (by omega))];by_cases hx:x∈rs
   .rw[Al hx,Al (Io _ hx),ixa hx]
   .rw[Ai hx,Ai (λz=>(Ar.mp z).elim hx (by simpa using c))]
 .have:=jda kvs (.inl (y:Int)) (nV rs.length);have:=h.kl;rw[Aq,List.length_cons,List.length_nil];omega
def cuM(g:Nat->Nat->Nat)(m:Nat)(rs:List Nat):List (List Nat):=rs.map λr=>(List.range m).map λa=>rs.idxOf (g r a)
def spS(g:Nat->Nat->Nat)(n m:Nat)(R:Hp->Prop):Sp:=λvs H Q _=>∃r a:Nat,vs=[.int (r:Int),.int (a:Int)]/\r<n/\a<m/\R H/\∀H',Kp [] H H'->Q (.int (g r a:Nat)) H'
structure Lg(P:Program)(w:World)(K:PySem.W.Frag)(mg:Str->Option Value)(base:Heap)(fp:Addr)(o:Obj)(fd:FuncData)(psp:List Str)(g:Nat->Nat->Nat)(n m:Nat)(R:Hp->Prop):Prop where
 dat:o.data=.func fd
 fn:FnOk P w K mg base CX0 3 fp fd psp (spS g n m R)
 bi:Binds K fd psp []
 at_:∀H,R H->H fp=some (FZ o)
 kr:∀H H',Kp [] H H'->R H->R H'
def spCU(P:Program)(w:World)(K:PySem.W.Frag)(mg:Str->Option Value)(base:Heap):Sp:=λvs H Q _=>∃(fp:Addr)(o:Obj)(fd:FuncData)(psp:List Str)(g:Nat->Nat->Nat)(n m first:Nat)(R:Hp->Prop),Lg P w K mg base fp o fd psp g n m R/\R H/\vs=[.int (first:Int),.int (m:Int),.ref fp,.non,.int 0]/\first<n/\n<=1000/\m<=1000/\(∀r a,r<n->a<m->g r a<n) /\
 ∀(q a1 a2:Addr)(us':List V)(rs:List Nat)(H':Hp),Bf g m first rs.length rs->H' q=some (.tup [.ref a1,.ref a2])->H' a1=some (.lst (rs.map nV))->H' a2=some (.tup us')->RowsM H' us' (cuM g m rs)->Kp [] H H'->Q (.ref q) H'
structure TCU(mg:Str->Option Value):Prop where
 n_len:mg "len"=none
 n_tuple:mg "tuple"=none
 n_range:mg "range"=none
variable{td:Addr}
section
variable{P:Program}{w:World}{K:PySem.W.Frag}{mg:Str->Option Value}{base:Heap}
abbrev y8:Stmt:=top 4
theorem yc:FnScope ["first","signs","step","most","at","numbers","rooms","moves","room","row","sign","target"] ["first","signs","step","most","at"] (jg y8):=⟨rfl,rfl,rfl,by decide +kernel,rfl,by decide +kernel,by decide +kernel⟩
theorem ok_come_up(F:FunD K "come_up" "come_up" y8 f fd td)(T:TCU mg):FnOk P w K mg base CX0 4 f fd ["first","signs","step","most","at"] (spCU P w K mg base):=by
 refine F.ok yc (λvs H Q E h=>?_) (λav A aw s H vs Q E hr h=>?_)
 .obtain⟨fp,o,fd,aj,g,n,m,first,R,_,_,rfl,_⟩:=h;rfl
 .obtain⟨fp,o,au,aj,g,n,m,first,R,L,hR,rfl,f0,n9,m9,gl,k⟩:=h;have hu:=hr.units;have ax:sizeLine=16777216:=Iz;have ag:(A.deeper (PyProof.Rows.envOfC (Str.ofString "come_up") (jg y8) s.heap.objs.size f av)).units+1<cLine:=by omega
  refine exQ (jf (jo (i:=5) yc.nd rfl (by ac_rfl) (qpe_disp (qpps_cons (qpv 0) jh qpps_nil)))
  (jf (jo (i:=6) yc.nd rfl (by ac_rfl) (kx (ja (qpv 0) jc)))
  (jf (jo (i:=7) yc.nd rfl (by ac_rfl) (kx jc))
  (jf (z6 Ip (j8 jao (jt jw (by rfl) T.n_len j3 (ja (qpv 7) jc)) (jt jw (by rfl) T.n_len j3 (ja (qpv 6) jc)) (yd _)) (jf (jo (i:=8) yc.nd rfl (by ac_rfl) (jr ix_U (qpv 6) (jt jw (by rfl) T.n_len j3 (ja (qpv 7) jc)) (λ_ _=>rfl)))
  (jf (jo (i:=9) yc.nd rfl (by ac_rfl) (kx jc))
  (jf (yh Ip rfl (yb rfl T.n_range (ja (qpv 1) jc)) (jq (i:=10) yc.nd rfl (by ac_rfl)) (jf (jo (i:=11) yc.nd rfl (by ac_rfl) (jbp (P:=P) (w:=w) (K:=K) (mg:=mg) (base:=base) (k:=3) rfl rfl rfl rfl rfl 2 (hr.mono (by decide)) (ja (qpv 8) (ja (qpv 10) jc))))
  (yf (ym (ja4 (jah ag (qpv 11) (qpv 5)) (by with_unfolding_all rfl)) (yf (ym (j8 (zq hu) (jt jw (by rfl) T.n_len j3 (ja (qpv 6) jc)) (qpv 3) (yd _)) (jj jbs) ya)
  (jf (ja9 ag (qpv 5) (qpv 11) (jt jw (by rfl) T.n_len j3 (ja (qpv 6) jc)) rfl)
  (jj (kj (kh Ii Ij ki (qpv 6) (ja (qpv 11) jc) jcl))))) ya)
  (jj (kj (kh Ii Ij ki (qpv 9) (ja (jat ag (qpv 5) (qpv 11) (λ_ _=>rfl)) jc) jcl))))))
  (jj (kj (kh Ii Ij ki (qpv 7) (ja (ju jz (by rfl) T.n_tuple kg (ja (qpv 9) jc)) jc) jcl)))))))
  (jj (ka (y9 (ja (qpv 6) (ja (ju jz (by rfl) T.n_tuple kg (ja (qpv 7) jc)) jc))))))))) ?_
  simp!;intro e ab;refine⟨[(.inl (first:Int),.int 0)],rfl,by simp,by omega,λpr aa=>⟨by omega,λpv Z=>?_⟩⟩;have Y:e≠pr:=je jb aa;have af:e≠pv:=je (by rw[jd Y,jb]) Z;have ae:pr≠pv:=je jb Z;have k0:=(((Kp.refl [] H).new (o:=.dK (jeq [] [(.inl (first:Int),.int 0)])) ab).new (o:=.lst [.int (first:Int)]) aa).new (o:=.lst []) Z;have ao:H pr=none:=((Kp.refl [] H).new ab).free aa;have an:H pv=none:=(((Kp.refl [] H).new ab).new aa).free Z;obtain⟨W,hW⟩:∃W:Nat->L2.St->Hp->Prop,W=λμ σ d=>∃(rs:List Nat)(kvs:List (L2.Key×V))(p:List V)(j:Nat)(v8 v9 D C:Option V),σ=[some (.int (first:Int)),some (.int (m:Int)),some (.ref fp),some .non,some (.int 0),some (.ref e),some (.ref pr),some (.ref pv),v8,v9,D,C]/\Bf g m first j rs/\NmI rs kvs/\d e=some (.dK kvs)/\d pr=some (.lst (rs.map nV))/\d pv=some (.lst p)/\p.length=j/\RowsM d p ((rs.take j).map λr=>(List.range m).map λa=>rs.idxOf (g r a))/\Kp [] H d/\μ=n-j:=⟨_,rfl⟩;refine⟨W,?_,?_⟩
  .have n0:NmI [first] (jeq [] [(.inl (first:Int),.int 0)]):=NmI.new (rs:=[]) (kvs:=[]) ⟨λx=>by simp[valV],Ao _⟩ (y:=first) (by simp);rw[hW];exact⟨_,[first],_,[],0,none,none,none,none,rfl,.z,n0,by rw[jd af,jd Y,jb],by rw[jd ae,jb];rfl,jb,rfl,.nil,k0,rfl⟩
  intro μ σ H1 O;rw[hW]at O;obtain⟨rs,kvs,p,j,v8,v9,D,C,rfl,bf,N,B,u,I,ul,X,G,rfl⟩:=O;have bi:=bf.inv f0 gl;have rl:rs.length<=n:=jc0 bi.nd bi.lt;have jl:=bi.jl;simp! [u,I];rw[Ac,ul];by_cases c:j<rs.length
  .rw[Al (by simpa using c)];have er:rs[j]?=some (rs[j]):=Aa c;generalize rs[j]=r at er;have rn:=bi.lt r (Ap er);refine⟨_,λ_ _ h=>h,nV r,jch (by rw[Ah,er];rfl),by omega,λpw S=>⟨by omega,by omega,?_⟩⟩;rw[show((m:Int)).toNat=m by omega];have al:e≠pw:=je B S;have ak:pr≠pw:=je u S;have ap:pv≠pw:=je I S;have am:H pw=none:=G.free S;have kw:Kp [] H1 (upd H1 pw (.lst [])):=(Kp.refl [] H1).new S;obtain⟨W1,ac⟩:∃W1:Nat->L2.St->Hp->Prop,∀a σ d,W1 a σ d↔(∃(kvs:List (L2.Key×V))(D C:Option V),σ=[some (.int (first:Int)),some (.int (m:Int)),some (.ref fp),some .non,some (.int 0),some (.ref e),some (.ref pr),some (.ref pv),some (nV r),some (.ref pw),D,C]/\NmI (cuR g r a rs) kvs/\d e=some (.dK kvs)/\d pr=some (.lst ((cuR g r a rs).map nV))/\d pv=some (.lst p)/\d pw=some (.lst ((List.range a).map λb=>nV ((cuR g r a rs).idxOf (g r b))))/\RowsM d p ((rs.take j).map λr=>(List.range m).map λa=>rs.idxOf (g r a))/\Kp [] H d):=⟨_,λ_ _ _=>O2⟩;refine jcr W1 ?_ ?_ ?_
   .exact(ac _ _ _).mpr ⟨kvs,D,C,rfl,N,kw.old _ _ B Ae,kw.old _ _ u Ae,kw.old _ _ I Ae,jb,X.kp kw,G.trans kw⟩
   .intro a σ H2 ha O;obtain⟨kvs,D,C,rfl,N,B,u,I,U,X,G⟩:=(ac _ _ _).mp O;clear O;have cl:(cuR g r a rs).length<=n:=jc0 (jem bi.nd a) λx hx=>by
     rcases jdd a x hx with h|⟨b,h1,h2⟩
     .exact bi.lt x h
     .rw[h2];exact gl r b rn (by omega)
    simp!;rw[Ui];refine⟨o,au,L.dat,aj,spS g n m R,L.fn,L.bi,L.at_ _ (L.kr _ _ G hR),r,a,rfl,rn,ha,L.kr _ _ G hR,λM J=>?_⟩;have B:=J.old _ _ B Ae;have u:=J.old _ _ u Ae;have I:=J.old _ _ I Ae;have U:=J.old _ _ U Ae;have X:=X.kp J;have G:=G.trans J;have kl:=N.kl;clear J;obtain⟨W2,ah⟩:∃W2:L2.St->Hp->Prop,∀σ' d,W2 σ' d↔(∃(kvs:List (L2.Key×V)),σ'=[some (.int (first:Int)),some (.int (m:Int)),some (.ref fp),some .non,some (.int 0),some (.ref e),some (.ref pr),some (.ref pv),some (nV r),some (.ref pw),some (.int (a:Int)),some (.int (g r a:Nat))]/\NmI (cuR g r (a+1) rs) kvs/\d e=some (.dK kvs)/\d pr=some (.lst ((cuR g r (a+1) rs).map nV))/\d pv=some (.lst p)/\d pw=some (.lst ((List.range a).map λb=>nV ((cuR g r a rs).idxOf (g r b))))/\RowsM d p ((rs.take j).map λr=>(List.range m).map λa=>rs.idxOf (g r a))/\Kp [] H d):=⟨_,λ_ _=>O2⟩;refine⟨W2,?_,?_⟩
    .simp!;refine⟨_,DGet.k (k:=.inl (g r a:Int)) B,?_⟩;rw[N.num (g r a)];have ec:=jcy g r a rs;unfold cu1 at ec;by_cases c:g r a∈cuR g r a rs
     .rw[Al c]at ec;rw[Al c];simp only[Option.isSome_some,Wq,Ir,O4];exact(ah _ _).mpr ⟨kvs,rfl,by rw[ec];exact N,B,by rw[ec];exact u,I,U,X,G⟩
     .rw[Ai c]at ec;rw[Ai c];simp only[Option.isSome_none,Y8,Wp];refine⟨λσ' d=>σ'=[some (.int (first:Int)),some (.int (m:Int)),some (.ref fp),some .non,some (.int 0),some (.ref e),some (.ref pr),some (.ref pv),some (nV r),some (.ref pw),some (.int (a:Int)),some (.int (g r a:Nat))]/\M=d,?_,?_⟩
      .simp! [u];refine⟨rfl,_,rfl,?_⟩;rw[Ai (by simp)]
      rintro _ _ ⟨rfl,rfl⟩;simp! [u];have ad:upd M e (.dK (putK kvs (.inl (g r a:Int)) (nV (cuR g r a rs).length))) pr=some (.lst ((cuR g r a rs).map nV)):=by rw[jd Y.symm];exact u
      have kq:Kp [e] M (upd M e (.dK (putK kvs (.inl (g r a:Int)) (nV (cuR g r a rs).length)))):=jd0 (Kp.refl [e] M) B (.inl (by simp));have ar:Kp [pr] (upd M e (.dK (putK kvs (.inl (g r a:Int)) (nV (cuR g r a rs).length)))) (upd (upd M e (.dK (putK kvs (.inl (g r a:Int)) (nV (cuR g r a rs).length)))) pr (.lst ((cuR g r a rs).map nV++[.int (g r a:Nat)]))):=(Kp.refl [pr] _).set ad (.inl (.head _));refine⟨upd M e (.dK (putK kvs (.inl (g r a:Int)) (nV (cuR g r a rs).length))),by rw[Ac];exact DPut.k (k:=.inl (g r a:Int)) (v:=nV (cuR g r a rs).length) B (by omega),by rw[ad];rfl,_,by rw[ad];rfl,by rw[Ac];omega,(ah _ _).mpr ⟨_,rfl,by rw[ec];exact N.new c,by rw[jd Y,jb],by rw[jb,ec,A6];rfl,?_,?_,(X.kp kq).kp ar,(jd0 G B (.inr ab)).set ad (.inr ao)⟩⟩
      .rw[jd ae.symm,jd af.symm];exact I
      .rw[jd ak.symm,jd al.symm];exact U
    intro σ' H4 O;obtain⟨kvs,rfl,N,B,u,I,U,X,G⟩:=(ah _ _).mp O;clear O;simp! [U];have aq:∀x,Kp [pw] H4 (upd H4 pw (.lst ((List.range a).map (λb=>nV ((cuR g r a rs).idxOf (g r b)))++[x]))):=λx=>(Kp.refl [pw] H4).set U (.inl (.head _));refine⟨nV ((cuR g r (a+1) rs).idxOf (g r a)),.inl ⟨kvs,.inl (g r a:Int),.inl B,rfl,?_⟩,by rw[Ac,A1];omega,(ac _ _ _).mpr ⟨kvs,_,_,rfl,N,by rw[jd al];exact B,by rw[jd ak];exact u,by rw[jd ap];exact I,?_,X.kp (aq _),G.set U (.inr am)⟩⟩
    .rw[N.num,Al (jdy g r rs (a+1) a (by omega))]
    .rw[jb,O9,A6];refine O6 (λl=>some (HO.lst (l++[nV ((cuR g r (a+1) rs).idxOf (g r a))]))) (Ib λb hb=>?_);obtain⟨t,et⟩:=je4 g r (cuR g r a rs) a;rw[jcy,et,ixa (jdy g r rs a b (Av.mp hb))]
   .intro σ H2 O;obtain⟨kvs,D,C,rfl,N,B,u,I,U,R2,G⟩:=(ac _ _ _).mp O;clear O;simp!;refine⟨by rw[I];rfl,?_⟩;refine jcj U λl hl=>?_;have kl:Kp [] H2 (upd H2 l (.tup ((List.range m).map λb=>nV ((cuR g r m rs).idxOf (g r b))))):=(Kp.refl [] H2).new hl;have el:upd H2 l (.tup ((List.range m).map λb=>nV ((cuR g r m rs).idxOf (g r b)))) l=some (.tup (((List.range m).map λb=>(cuR g r m rs).idxOf (g r b)).map nV)):=by rw[jb,Az];rfl
    generalize upd H2 l (.tup ((List.range m).map λb=>nV ((cuR g r m rs).idxOf (g r b))))=M at kl el⊢;have ai:=kl.old _ _ I Ae;have kv:Kp [pv] M (upd M pv (.lst (p++[.ref l]))):=(Kp.refl [pv] M).set ai (.inl (.head _));refine⟨p,by rw[ai];rfl,by omega,n-(j+1),by omega,?_⟩;rw[hW];refine⟨cuR g r m rs,kvs,p++[.ref l],j+1,_,_,_,_,rfl,.s bf er,N,by rw[jd af];exact kl.old _ _ B Ae,by rw[jd ae];exact kl.old _ _ u Ae,jb,by simp[ul],?_,(G.trans kl).set ai (.inr an),rfl⟩;obtain⟨t,et⟩:=jd5 g r rs m;have e5:(cuR g r m rs).take (j+1)=rs.take j++[r]:=by rw[et,Is (by omega),Oe,er];rfl
    rw[e5,A6];have e6:(rs.take j).map (λr'=>(List.range m).map λa=>(cuR g r m rs).idxOf (g r' a))=(rs.take j).map λr'=>(List.range m).map λa=>rs.idxOf (g r' a):=Ib λx hx=>Ib λa ha=>by
     rw[et,ixa (bi.cl x hx a (Av.mp ha))]
    rw[e6];exact Wg ((R2.kp kl).kp kv) ⟨l,rfl,kv.tup _ _ el⟩
  .have ej:j=rs.length:=by omega
   subst ej;rw[Ai (by simpa using c)];refine jcj I λa2 as=>⟨by omega,λq hq=>?_⟩;rw[Im]at X;have k2:Kp [] H1 (upd H1 a2 (.tup p)):=(Kp.refl [] H1).new as;have J:Kp [] (upd H1 a2 (.tup p)) (upd (upd H1 a2 (.tup p)) q (.tup [.ref pr,.ref a2])):=(Kp.refl [] _).new hq;exact k q pr a2 p rs _ bf jb (J.old _ _ (k2.old _ _ u Ae) (by simp)) (J.tup _ _ jb) ((X.kp k2).kp J) ((G.trans k2).trans J)
end
abbrev LQ:Str:="least_from"++".<locals>."++"<lambda>"
structure TLm(P:Program)(w:World)(K:PySem.W.Frag)(mg:Str->Option Value)(base:Heap)(fcu fmg fgr c Pt:Addr)(pm:Value):Prop where
 n_len:mg "len"=none
 m3z:mg "come_up"=some (.ref fcu)
 m19z:mg "merged"=some (.ref fmg)
 m16z:mg "groups_of_rooms"=some (.ref fgr)
 pm:(mg "__name__").getD .none=pm
 hd:PySem.W.CodeHd base c Pt
 bl:base.BuiltinsAt mg Pt
structure LS(mv:List (List Nat))(m:Nat)(ys:List Bool)(first:Nat)(mv':List (List Nat))(ys':List Bool)(rs:List Nat)(G:Nat->Nat)(fr:List Nat):Prop where
 bf:Bf (dM mv) m first rs.length rs
 gr:∀r s,r<rs.length->s<rs.length->(G r=G s↔(mcOf (cuM (dM mv) m rs) m (rs.map λr=>ys.getD r false)).eq r s)
 mg:MG G rs.length fr
 em:mv'=mgR (cuM (dM mv) m rs) G fr
 ey:ys'=mgY (rs.map λr=>ys.getD r false) fr
variable{Pt p:Addr}
theorem jty(k:Kp [Pt] H H')(tb:TabOk H Pt LQ)(h:jdf (H p)=some xs):∃o,H' p=some o/\jdf (some o)=some xs:=by
 cases e:H p with
 |none=>rw[e]at h;cases h
 |some o =>
  refine⟨o,k.old _ _ e λm=>?_,by rw[<-e];exact h⟩;obtain⟨b,a,_⟩:=id tb;rw[Ag.mp m,a]at h
  cases h
def spLm(Pt:Addr):Sp:=λvs H Q _=>∃(pm py:Addr)(us:List V)(mv:List (List Nat))(m first:Nat)(ys:List Bool),vs=[.ref pm,.ref py,.int (first:Int)]/\H pm=some (.tup us)/\RowsM H us mv/\MvOk mv m/\jdf (H py)=some (ys.map V.bl)/\ys.length=mv.length/\first<mv.length/\mv.length<=1000/\m<=1000/\TabOk H Pt LQ /\
 ∀(q a1 a2:Addr)(us':List V)(mv':List (List Nat))(ys':List Bool)(rs:List Nat)(G:Nat->Nat)(fr:List Nat)(H':Hp),LS mv m ys first mv' ys' rs G fr->H' q=some (.tup [.ref a1,.ref a2])->H' a1=some (.tup us')->RowsM H' us' mv'->H' a2=some (.tup (ys'.map V.bl))->Kp [Pt] H H'->TabOk H' Pt LQ->Q (.ref q) H'
variable{C:List Value->Prop}{c fcu:Addr}
section
variable{P:Program}{w:World}{K:PySem.W.Frag}{mg:Str->Option Value}{base:Heap}
abbrev yv:Stmt:=top 7
theorem jag:FnScope ["moves","yes","first","came","answers"] ["moves","yes","first"] (jg yv):=⟨rfl,rfl,rfl,by decide +kernel,rfl,by decide +kernel,by decide +kernel⟩
def lamE:Expr:=match jx yv with
 |.Assign _ (.Call _ [_,_,l] _ _) _::_=>l
 |_=>.Name "" ⟨0,0,0,0⟩
def lamA:Arguments:=match lamE with
 |.Lambda a _ _ _=>a
 |_=>j6 (.Pass ⟨0,0,0,0⟩)
def lamB:Expr:=match lamE with
 |.Lambda _ b _ _=>b
 |_=>.Name "" ⟨0,0,0,0⟩
def lamS:Scope:=match lamE with
 |.Lambda _ _ c _=>c
 |_=>jg (.Pass ⟨0,0,0,0⟩)
theorem jui:LamScope ["room","sign"] ["moves"] lamS:=⟨rfl,rfl,rfl,by decide +kernel,by decide +kernel,by decide +kernel,by decide +kernel,λx h=>by
 have a:lamS.names=[(Str.ofString "room",.local),(Str.ofString "sign",.local),(Str.ofString "moves",.free)]:=rfl;rw[a]at h;by_cases h1:x=Str.ofString "moves"
 .rw[h1];exact .head _
 have b:(x == Str.ofString "moves")=false:=by simpa using h1
 simp only[List.lookup_cons,List.lookup_nil,b]at h;repeat (split at h <;> try (cases h))⟩
theorem us2(h:∀v0 v1:Value,C [v0,v1])(us:List Value)(e:us.length=2):C us:=by
 cases us with
 |nil=>exact absurd e.symm (Of _)
 |cons v0 us =>
  cases us with
  |nil=>exact absurd (Oa (e.symm)) (Of _)
  |cons v1 us =>
   cases us with
   |nil=>exact h v0 v1
   |cons _ _=>exact absurd (Oa (Oa (e))) (Of _)
theorem jdp{g:Nat->Nat->Nat}{first:Nat}(b:BI g m n first rs.length rs):MvOk (cuM g m rs) m:=by
 refine⟨λd c=>?_,λd c x e=>?_⟩
 .obtain⟨r,_,rfl⟩:=Am.mp c;simp
 .obtain⟨r,f,rfl⟩:=Am.mp c;obtain⟨a,h,rfl⟩:=Am.mp e;have:=A7.mpr (b.cl r (by rw[Im];exact f) a (Av.mp h));simpa[cuM]using this
theorem ok_least_from{Y Z:Addr}{aa ab:FuncData}{pm:Value}{ai:List Value}(F:Fun K "least_from" "least_from" yv f fd)(T:TLm P w K mg base fcu Y Z c Pt pm)(aw:fd.code=.ref c)
  (F3z:FunD K "come_up" "come_up" y8 fcu fdc td) (ba:Binds K fdc ["first","signs","step","most","at"] ai) (B:Vals [.non,.int 0] ai) (bb:FnOk P w K mg base CX0 4 fcu fdc ["first","signs","step","most","at"] (spCU P w K mg base))
  (F19z:Fun K "merged" "merged" zi Y aa) (b19z:Binds K aa ["moves","yes","groups"] []) (am:FnOk P w K mg base CX0 1 Y aa ["moves","yes","groups"] spMg)
  (F16z:Fun K "groups_of_rooms" "groups_of_rooms" jy Z ab) (b16z:Binds K ab ["moves","yes"] []) (an:FnOk P w K mg base CX0 2 Z ab ["moves","yes"] spGR):FnOk P w K mg base CX0 5 f fd ["moves","yes","first"] (spLm Pt):=by
 refine F.okC jag (λvs H Q E h=>?_) (λA ad s H vs Q E J h=>?_)
 .obtain⟨a,py,us,g,m,first,I,rfl,_⟩:=h
  rfl
 .obtain⟨a,py,us,g,m,first,I,rfl,ha,U,ok,hy,yl,f0,n9,m9,tb,k⟩:=h
  have hu:=J.units
  have bc:sizeLine=16777216:=Iz
  have ul:us.length=g.length:=Iw U
  refine exQ (jf (jo (i:=3) jag.nd rfl (by ac_rfl) (jbb [(0,s.heap.objs.size+1)] (by intro j hj;simp only[At,Ae,U4]at hj;rcases hj with rfl <;> exact⟨_,rfl,rfl,rfl,rfl⟩) bb (J.mono (by decide)) rfl T.m3z F3z.kp ba B (ja (qpv 2) (ja (jt jw (by rfl) T.n_len j3 (ja (jr ix_U (qpv 0) jh (λ_ _=>rfl)) jc)) (ja (jbc (Pt:=Pt) rfl T.pm aw T.hd T.bl) jc)))))
  (jf (jab (i:=4) jag.nd rfl (by ac_rfl) rfl (jci (sc:=jg yv) (N:=["moves","yes","first","came","answers"]) (Nc:=["room","yes"]) (js:=[none,some 1]) (by decide +kernel)) (j7 (K:=K) (jr ix_U (qpv 3) jh (λ_ _=>rfl)) rfl) (λ_ _ _ _=>(jq (i:=0) (show List.Nodup [("room":Str),("yes":Str)]from by decide +kernel) rfl (by ac_rfl))) (λ_ _ _ _=>(jr ix_U (qpv 1) (qpv 0) (λ_ _=>rfl))))
  (jj (ka (jv am (J.mono (by decide)) rfl T.m19z F19z.kp b19z .nil kc (ja (jr ix_U (qpv 3) jh (λ_ _=>rfl)) (ja (qpv 4) (ja (jv an (J.mono (by decide)) rfl T.m16z F16z.kp b16z .nil kc (ja (jr ix_U (qpv 3) jh (λ_ _=>rfl)) (ja (qpv 4) jc))) jc)))))))) ?_
  obtain⟨c0,ax,au⟩:=U.get (show g[0]?=some (g.getD 0 [])by rw[Af,Aa (by omega)];rfl)
  have l0:(g.getD 0 []).length=m:=ok.ln _ (by rw[Af,Aa (by omega)];exact Iq _)
  simp! [ha]
  refine⟨.ref c0,jch (j:=0) ax,?_⟩
  simp! [au]
  rw[Ac,l0]
  refine⟨tb,λfl c' ct G be k1 e1 cz aq=>?_⟩
  refine⟨λj hj=>by cases Ag.mp hj;exact⟨_,rfl⟩,λcs av=>?_⟩
  obtain⟨o,rfl,hn,u,ho,ru⟩:∃o,cs=[(s.heap.objs.size+1,o)]/\G (s.heap.objs.size+1)=none/\∃u,o.data=.cell (some u)/\RelV (.ref a) u:=by
   cases av with
   |cons h t =>
    cases t
    rename_i p;obtain⟨c1,o1⟩:=p;obtain⟨e1,e2,v,u,e3,e4,e5⟩:=h
    cases(Aw (Aw e3))
    cases(show c1=s.heap.objs.size+1 from e1)
    exact⟨o1,rfl,e2,u,e4,e5⟩
  generalize s.heap.objs.size+1=d at e1 hn
  have lk:∀b,b≠d->([(d,o)]:List (Addr×Obj)).lookup b=none:=λb h=>by
   rw[List.lookup_cons];have:(b == d)=false:=by simpa using h
   rw[this];rfl
  have sh:∀b v,G b=some v->jc7 G [(d,o)] b=some v:=λb v e=>by rw[jc1 (lk b (je e hn))];exact e
  have kS:Kp [] G (jc7 G [(d,o)]):=⟨λb v e _=>sh b v e,λb xs e=>sh b _ e,λb v e=>⟨v,sh b v e⟩⟩
  have a8:G fl=some (FZ (PySem.W.kla_obj "<lambda>" LQ lamA lamB lamS [("moves",d)] pm c' ct)):=e1
  have a9:Caps (jc7 G [(d,o)]) [("moves",d)] ["moves"] [.ref a]:=by
   have en:jc7 G [(d,o)] d=some (FZ o):=jd9 (by simp[List.lookup]);refine⟨rfl,λi x v q1 q2=>?_,λx hx=>?_,λp hp=>?_,λx y c q1 q2=>?_⟩
   .cases i with
    |zero=>cases q1;cases q2;exact⟨d,o,u,rfl,en,ho,ru⟩
    |succ i=>simp at q1
   .cases Ag.mp hx;exact⟨d,rfl⟩
   .cases Ag.mp hp;exact⟨o,some u,en,ho⟩
   .rw[List.lookup_cons]at q1 q2;split at q1
    .split at q2
     .rename_i z1 _ z2;rw[eq_of_beq z1,eq_of_beq z2]
     .cases q2
    .cases q1
  let R:Hp->Prop:=λH=>H fl=some (FZ (PySem.W.kla_obj "<lambda>" LQ lamA lamB lamS [("moves",d)] pm c' ct))/\CodeZ H c' LQ/\Caps H [("moves",d)] ["moves"] [.ref a]/\H a=some (.tup us)/\RowsM H us g
  have L:Lg P w K mg base fl (PySem.W.kla_obj "<lambda>" LQ lamA lamB lamS [("moves",d)] pm c' ct) (PySem.W.kla_fn "<lambda>" LQ lamA lamB lamS [("moves",d)] pm (.ref c') ct) ["room","sign"] (dM g) g.length m R:=by
   refine⟨rfl,jpu (fs:=["moves"]) jui (λvs H Q E h=>?_) (λvs H Q E h=>?_),.all (us2 λ_ _=>rfl),λH h=>h.1,λH H' k h=>⟨k.old _ _ h.1 (by simp),h.2.1.kp k (by simp),h.2.2.1.kp k (by simp),k.tup _ _ h.2.2.2.1,h.2.2.2.2.kp k⟩⟩
   .obtain⟨r,a,rfl,_⟩:=h;rfl
   .obtain⟨r,b,rfl,ah,hb,O,q⟩:=h;refine⟨O.1,O.2.1,[.ref a],O.2.2.1,λA ad s J=>⟨_,QE.h (jr ix_U (jr ix_U (qpv 2) (qpv 0) (λ_ _=>rfl)) (qpv 1) (λ_ _=>rfl)),?_⟩⟩;have ne:∀b v,H b=some v->(∀o,v≠FZ o)->b∉[d]:=λb v e n m=>by
     obtain⟨o2,u2,e2,_⟩:=O.2.2.1.fz _ (.head _);rw[Ag.mp m]at e;rw[show H d=some (FZ o2)from e2]at e;exact n o2 (Aw e).symm
    have tk:∀b xs,H b=some (.tup xs)->hideC H ([d]) b=some (.tup xs):=λb xs e=>by rw[jcn (ne b _ e (λ_ z=>by cases z))];exact e
    obtain⟨x,hx,ar⟩:=O.2.2.2.2.get (show g[r]?=some (g.getD r [])by rw[Af,Aa ah];rfl);have as:=tk _ _ ar;simp!;rw[tk _ _ O.2.2.2.1];refine⟨_,rfl,.ref x,jch hx,?_⟩;rw[jco,as];exact⟨_,rfl,nV (dM g r b),jch (by rw[Ah,(ok.at_ ah hb).1];rfl),λ_=>q _ (Kp.refl [] (hideC H [d])).backC⟩
  have O:R (jc7 G [(d,o)]):=⟨sh _ _ a8,cz.kp kS (by simp),a9,sh _ _ (k1.tup _ _ ha),(U.kp k1).kp kS⟩
  refine⟨fl,_,_,_,dM g,g.length,m,first,R,L,O,rfl,f0,n9,m9,λr a J ha=>(ok.at_ J ha).2,λq0 b1 b2 us1 C S bf az a5 a4 R2 k2=>?_⟩
  have k3:Kp [] G (hideC S [d]):=by
   have kk:=kS.trans k2;have ne:∀b v,G b=some v->b∉[d]:=λb v e m=>by rw[Ag.mp m,hn]at e;cases e
   exact⟨λb v e m=>by rw[jcn (ne b _ e)];exact kk.old b v e m,λb xs e=>by rw[jcn (ne b _ e)];exact kk.tup b xs e,λb v e=>by rw[jcn (ne b _ e)];exact kk.dom b v e⟩
  have a3:S d=some (FZ o):=k2.old _ _ (jd9 (by simp[List.lookup])) (by simp)
  have M:∀b v,S b=some v->(∀o,v≠FZ o)->hideC S [d] b=some v:=λb v e n=>by
   rw[jcn (λm=>by
    rw[Ag.mp m,a3]at e;exact n o (Aw e).symm)]
   exact e
  have q3:=M _ _ az (λ_ z=>by cases z)
  have ac:=M _ _ a5 (λ_ z=>by cases z)
  have al:=M _ _ a4 (λ_ z=>by cases z)
  have R3:RowsM (hideC S [d]) us1 (cuM (dM g) m C):=Paired.mapP R2 λ_ _ ⟨b,z1,z2⟩=>⟨b,z1,M _ _ z2 (λ_ z=>by cases z)⟩
  have X:Kp [Pt] H (hideC S [d]):=k1.trans (k3.mono (by simp))
  have ae:TabOk (hideC S [d]) Pt LQ:=aq.kp k3 (by simp) (by simp)
  dsimp only
  rw[show(List.map Prod.fst [(d,o)])=[d]from rfl]
  generalize hideC S [d]=H3 at q3 ac al R3 X ae⊢
  have bi:=bf.inv f0 (λr a J ha=>(ok.at_ J ha).2)
  have rl:C.length<=g.length:=jc0 bi.nd bi.lt
  have r1:1<=C.length:=(Ab.mp bi.z).1
  have ml:(cuM (dM g) m C).length=C.length:=by simp[cuM]
  obtain⟨o3,y3,ao⟩:=jty X tb hy
  rw[jco,q3]
  refine⟨_,rfl,.ref b1,jew _ _,?_⟩
  simp only[ac]
  intro D hD
  refine jdn (ysV I) ac hD (by rw[Ac];omega) (λx hx l Q' q=>?_) λvv=>?_
  .obtain⟨t,ht,rfl⟩:=Am.mp hx
   have tl:=bi.lt t ht
   simp!
   rw[show nV t=V.int (t:Int)from rfl,jco,jd (je y3 hD),y3,ao]
   exact⟨_,rfl,.bl (I.getD t false),jch (by rw[Ah,Af,Aa (by omega)];rfl),q⟩
  dsimp only
  have k4:Kp [] H3 (upd H3 D (.lst ((C.map nV).map (ysV I)))):=(Kp.refl [] H3).new hD
  have e4:upd H3 D (.lst ((C.map nV).map (ysV I))) D=some (.lst ((C.map λr=>I.getD r false).map V.bl)):=by
   rw[jb,Az,Az];rfl
  generalize upd H3 D (.lst ((C.map nV).map (ysV I)))=H4 at k4 e4⊢
  have q4:=k4.tup _ _ q3
  have ak:=k4.tup _ _ al
  have R4:=R3.kp k4
  have aj:=jdp bi
  rw[jco,q4]
  refine⟨_,rfl,.ref b2,jfd _ _ _,?_⟩
  rw[jco,q4]
  refine⟨_,rfl,.ref b2,jfd _ _ _,?_⟩
  refine⟨b2,D,us1,cuM (dM g) m C,m,C.map λr=>I.getD r false,rfl,ak,R4,aj,e4,by rw[ml,Ac],by omega,by omega,m9,λpg gs H5 bd a0 gl gr _ k5=>?_⟩
  rw[ml]at gr
  refine⟨b2,D,pg,us1,cuM (dM g) m C,m,C.map λr=>I.getD r false,gs,rfl,k5.tup _ _ ak,R4.kp k5,aj,k5.old _ _ e4 Ae,by rw[ml,Ac],a0,gl,by omega,by omega,m9,λq a1 a2 ap fr H6 af ay a7 R6 a6 k6=>?_⟩
  have ag:=(k4.trans k5).trans k6
  rw[ml]at af
  exact k q a1 a2 ap _ _ C _ fr H6 ⟨bf,gr,af,rfl,rfl⟩ ay a7 R6 a6 (X.trans (ag.mono (by simp))) (ae.kp ag (by simp) (by simp))
end
def spLe(Pt:Addr):Sp:=λvs H Q _=>∃(p pm py:Addr)(z:Str)(us:List V)(mv:List (List Nat))(m:Nat)(ys:List Bool),vs=[.ref p]/\H p=some (.tup [.str z,.ref pm,.ref py])/\H pm=some (.tup us)/\RowsM H us mv/\MvOk mv m/\jdf (H py)=some (ys.map V.bl)/\ys.length=mv.length/\1<=mv.length/\mv.length<=1000/\m<=1000/\TabOk H Pt LQ /\
 ∀(q a1 a2:Addr)(us':List V)(mv':List (List Nat))(ys':List Bool)(rs:List Nat)(G:Nat->Nat)(fr:List Nat)(H':Hp),LS mv m ys 0 mv' ys' rs G fr->H' q=some (.tup [.str z,.ref a1,.ref a2])->H' a1=some (.tup us')->RowsM H' us' mv'->H' a2=some (.tup (ys'.map V.bl))->Kp [Pt] H H'->TabOk H' Pt LQ->Q (.ref q) H'
structure TLe(mg:Str->Option Value)(fl:Addr):Prop where
 m18z:mg "least_from"=some (.ref fl)
section
variable{P:Program}{w:World}{K:PySem.W.Frag}{mg:Str->Option Value}{base:Heap}
abbrev jac:Stmt:=top 6
theorem jb4:FnScope ["machine","lean"] ["machine"] (jg jac):=⟨rfl,rfl,rfl,by decide +kernel,rfl,by decide +kernel,by decide +kernel⟩
theorem ok_least(F:Fun K "least" "least" jac f fd)(T:TLe mg fl)(F18z:Fun K "least_from" "least_from" yv fl fdl)(b18z:Binds K fdl ["moves","yes","first"] [])
  (b:FnOk P w K mg base CX0 5 fl fdl ["moves","yes","first"] (spLm Pt)):FnOk P w K mg base CX0 6 f fd ["machine"] (spLe Pt):=by
 refine F.ok jb4 (λS H Q E h=>?_) (λab A x s H S Q E M h=>?_)
 .obtain⟨p,D,C,z,B,J,m,y,rfl,_⟩:=h
  rfl
 .obtain⟨p,D,C,z,B,J,m,y,rfl,N,hm,n,X,hy,R,n1,Y,Z,U,k⟩:=h
  have hu:=M.units
  have aa:sizeLine=16777216:=Iz
  refine exQ (jf (jo (i:=1) jb4.nd rfl (by ac_rfl) (jv b (M.mono (by decide)) rfl T.m18z F18z.kp b18z .nil kc (ja (jr ix_U (qpv 0) jh (λ_ _=>rfl)) (ja (jr ix_U (qpv 0) jh (λ_ _=>rfl)) (ja jh jc)))))
  (jj (ka (y9 (ja (jr ix_U (qpv 0) jh (λ_ _=>rfl)) (ja (jr ix_U (qpv 1) jh (λ_ _=>rfl)) (ja (jr ix_U (qpv 1) jh (λ_ _=>rfl)) jc))))))) ?_
  simp! [N]
  refine⟨D,C,B,J,m,0,y,rfl,hm,n,X,hy,R,by omega,Y,Z,U,λq d c j o g W G fr e ls O v R1 u L l=>?_⟩
  have r:=L.tup _ _ N
  dsimp only
  rw[r]
  refine⟨_,rfl,.str z,jew _ _,?_⟩
  rw[jco,O]
  refine⟨_,rfl,.ref d,jew _ _,?_⟩
  rw[jco,O]
  refine⟨_,rfl,.ref c,jfd _ _ _,by omega,λI t=>?_⟩
  have a:Kp [] e (upd e I (.tup [.str z,.ref d,.ref c])):=(Kp.refl [] e).new t
  exact k I d c j o g W G fr _ ls jb (a.tup _ _ v) (R1.kp a) (a.tup _ _ u) (L.trans (a.mono (by simp))) (l.kp a (by simp) (by simp))
end
def Mc.rc(M:Mc)(r:Nat):Prop:=∃w,M.ws w/\M.led 0 w=r
structure LeanM(M M':Mc)(h:Nat->Nat):Prop where
 ok:M'.ok
 n1:1<=M'.n
 le:M'.n<=M.n
 mm:M'.m=M.m
 z:h 0=0
 lt:∀r,M.rc r->h r<M'.n
 st:∀r a,M.rc r->a<M.m->h (M.d r a)=M'.d (h r) a
 ye:∀r,M.rc r->M'.y (h r)=M.y r
 inj:∀r s,M.rc r->M.rc s->(h r=h s↔M.eq r s)
 sur:∀k,k<M'.n->∃r,M.rc r/\h r=k
theorem Mc.rc_lt(ok:M.ok)(n1:1<=M.n)(h:M.rc r):r<M.n:=by
 obtain⟨w,a,rfl⟩:=h;exact Mc.led_lt ok (by omega) a
theorem Mc.rc_step(h:M.rc r)(ha:a<M.m):M.rc (M.d r a):=by
 obtain⟨w,c,rfl⟩:=h;refine⟨w++[a],λb e=>?_,by unfold Mc.led;rw[Uz];rfl⟩;rcases Ar.mp e with h|h
 .exact c b h
 .cases Ag.mp h;exact ha
theorem jdc{α β:Type}{f:α->β}{l:List α}{x:α}{d:β}(h:l[i]?=some x):(l.map f).getD i d=f x:=by
 rw[Af,Ah,h];rfl
theorem jhj{g:Nat->Nat->Nat}(h:rs[i]?=some r)(ha:a<m):dM (cuM g m rs) i a=rs.idxOf (g r a):=by
 unfold dM cuM;rw[jdc h,jdc (Oz ha)]
theorem jum{k f:Nat}(ok:MvOk mv m)(h:fr[k]?=some f)(hf:f<mv.length)(ha:a<m):dM (mgR mv G fr) k a=phi G fr (dM mv f a):=by
 unfold dM mgR;rw[jdc h];exact jdc (ok.at_ hf ha).1
theorem MG.z{j:Nat}(h:MG G j fr)(hj:0<j):phi G fr 0=0:=by
 have m:=h.all 0 hj;obtain⟨f,b,e⟩:=Am.mp m;have k:f=0:=Iu λc=>h.fst f b 0 (by omega) e.symm;subst k;obtain⟨i,a⟩:=Il b;have d:i=0:=Iu λc=>by
  have g:=(Ab.mp a).1;have l:=(Ab.mp a).2;have:=(Ou.mp h.inc) 0 i (by omega) g (by omega);omega
 subst d;unfold phi
 cases fr with
 |nil=>simp at a
 |cons x r=>simp at a;subst a;simp
theorem MG.at_{j:Nat}(h:MG G j fr)(hr:r<j):∃f,fr[phi G fr r]?=some f/\G f=G r/\f<j/\phi G fr r<fr.length:=by
 have m:=h.all r hr;have l:=A7.mpr m;have e:=Oc l;rw[Ac]at l;rw[Ud]at e;exact⟨_,Aa l,e,h.lt _ (Iq _),l⟩
variable{s:Nat}
theorem MG.phi_eq{j:Nat}(h:MG G j fr)(hr:r<j)(hs:s<j):phi G fr r=phi G fr s↔G r=G s:=by
 refine⟨λe=>?_,λe=>by unfold phi;rw[e]⟩;obtain⟨f,a,d,_⟩:=h.at_ hr;obtain⟨g,c,b,_⟩:=h.at_ hs;rw[e,c]at a
 cases a
 rw[<-d,b]
theorem MG.phi_at{j:Nat}(h:MG G j fr){k f:Nat}(e:fr[k]?=some f):phi G fr f=k:=by
 have a:=(Ab.mp e).1;have l:k<(fr.map G).length:=by rw[Ac];exact a
 have b:(fr.map G)[k]=G f:=by rw[Ud,(Ab.mp e).2]
 unfold phi;rw[<-b];exact h.nd.idxOf_getElem k l
variable{mv':List (List Nat)}{ys':List Bool}
theorem LS.lean(S:LS mv m ys 0 mv' ys' rs G fr)(ok:MvOk mv m)(n1:1<=mv.length):LeanM (mcOf mv m ys) (mcOf mv' m ys') (λr=>phi G fr (rs.idxOf r))/\MvOk mv' m/\ys'.length=mv'.length:=by
 have q:=S.bf.inv (n:=mv.length) (by omega) (λr a c i=>(ok.at_ c i).2);have rl:rs.length<=mv.length:=jc0 q.nd q.lt;have r1:1<=rs.length:=(Ab.mp q.z).1;have o:=jdp q;have C:(cuM (dM mv) m rs).length=rs.length:=by simp[cuM]
 have M1:=jdt (ys:=rs.map λr=>ys.getD r false) o;have j:∀r,(mcOf mv m ys).rc r↔r∈rs:=λr=>by
  refine⟨fun⟨w,g,e⟩=>?_,λh=>?_⟩
  .subst e;have:∀(w:List Nat)(r:Nat),(mcOf mv m ys).ws w->r∈rs->(mcOf mv m ys).led r w∈rs:=λw=>by
    induction w with
    |nil=>intro r _ h;exact h
    |cons a w ih =>
     intro r g h;exact ih _ (λb K=>g b (.tail _ K)) (q.cl r (by rw[Im];exact h) a (g a (.head _)))
   exact this w 0 g (Ap q.z)
  .obtain⟨w,g,e⟩:=q.rc r h;exact⟨w,g,e⟩
 have d:∀r,r∈rs->rs.idxOf r<rs.length:=λr h=>A7.mpr h;have D:∀r,r∈rs->rs[rs.idxOf r]?=some r:=λr h=>by rw[Aa (d r h),Oc]
 have Y:∀r a,r∈rs->a<m->dM (cuM (dM mv) m rs) (rs.idxOf r) a=rs.idxOf (dM mv r a):=λr a h i=>jhj (D r h) i;have R:∀r a,r∈rs->a<m->dM mv r a∈rs:=λr a h i=>q.cl r (by rw[Im];exact h) a i;have E:∀(w:List Nat)(r:Nat),(∀a∈w,a<m)->r∈rs->(mcOf (cuM (dM mv) m rs) m (rs.map λr=>ys.getD r false)).led (rs.idxOf r) w=rs.idxOf ((mcOf mv m ys).led r w)/\(mcOf mv m ys).led r w∈rs:=λw=>by
  induction w with
  |nil=>intro r _ h;exact⟨rfl,h⟩
  |cons a w ih =>
   intro r g h;have i:=g a (.head _);have:=ih (dM mv r a) (λb K=>g b (.tail _ K)) (R r a h i);refine⟨?_,this.2⟩;show(mcOf (cuM (dM mv) m rs) m (rs.map λr=>ys.getD r false)).led (dM (cuM (dM mv) m rs) (rs.idxOf r) a) w=_;rw[Y r a h i];exact this.1
 have T:∀r,r∈rs->(rs.map λr=>ys.getD r false).getD (rs.idxOf r) false=ys.getD r false:=λr h=>jdc (D r h);have Q:∀r s,r∈rs->s∈rs->((mcOf (cuM (dM mv) m rs) m (rs.map λr=>ys.getD r false)).eq (rs.idxOf r) (rs.idxOf s)↔(mcOf mv m ys).eq r s):=λr s c v=>by
  have u:∀w,(∀a∈w,a<m)->∀r,r∈rs->(mcOf (cuM (dM mv) m rs) m (rs.map λr=>ys.getD r false)).y ((mcOf (cuM (dM mv) m rs) m (rs.map λr=>ys.getD r false)).led (rs.idxOf r) w)=(mcOf mv m ys).y ((mcOf mv m ys).led r w):=λw g r c=>by
   obtain⟨e1,M⟩:=E w r g c;rw[e1];exact T _ M
  refine⟨λh w g=>?_,λh w g=>?_⟩
  .rw[<-u w g r c,<-u w g s v];exact h w g
  .rw[u w g r c,u w g s v];exact h w g
 have P:mv'.length=fr.length:=by rw[S.em];simp[mgR]
 have N:ys'.length=fr.length:=by rw[S.ey];simp[mgY]
 have W:∀{k f:Nat},fr[k]?=some f->f<(cuM (dM mv) m rs).length:=λe=>by rw[C];exact S.mg.lt _ (Ap e)
 have A:MvOk mv' m:=by
  rw[S.em];refine⟨λO p=>?_,λO p x hx=>?_⟩
  .obtain⟨f,J,rfl⟩:=Am.mp p;rw[Ac];have:f<(cuM (dM mv) m rs).length:=by rw[C];exact S.mg.lt f J
   exact o.ln _ (by rw[Af,Aa this];exact Iq _)
  .obtain⟨f,J,rfl⟩:=Am.mp p;obtain⟨t,ht,rfl⟩:=Am.mp hx;have:f<(cuM (dM mv) m rs).length:=by rw[C];exact S.mg.lt f J
   have U:=o.lt _ (by rw[Af,Aa this];exact Iq _) t ht;rw[C]at U;obtain⟨_,_,_,_,l⟩:=S.mg.at_ U;simpa[mgR]using l
 refine⟨⟨jdt A,?_,?_,rfl,?_,λr h=>?_,λr a h i=>?_,λr h=>?_,λr s c v=>?_,λk I=>?_⟩,A,by rw[P,N]⟩
 .show 1<=mv'.length;obtain⟨_,_,_,_,l⟩:=S.mg.at_ (show 0<rs.length by omega);omega
 .show mv'.length<=mv.length;have:=jcw (l:=fr) (zs:=List.range rs.length) (S.mg.inc.imp λh=>by omega) λr c=>Av.mpr (S.mg.lt r c);rw[A1]at this;omega
 .have:rs.idxOf 0=0:=by
   have z:=q.z
   cases hrs:rs with
   |nil=>rw[hrs]at z;cases z
   |cons x l=>rw[hrs]at z;simp at z;subst z;simp
  show phi G fr (rs.idxOf 0)=0;rw[this];exact S.mg.z (by omega)
 .have c:=(j r).mp h;obtain⟨_,_,_,_,l⟩:=S.mg.at_ (d r c);show _<mv'.length;omega
 .have c:=(j r).mp h;obtain⟨f,e,L,B,l⟩:=S.mg.at_ (d r c);have i:a<m:=i;show phi G fr (rs.idxOf (dM mv r a))=dM mv' (phi G fr (rs.idxOf r)) a;rw[S.em,jum o e (W e) i,<-Y r a c i];have H:=(o.at_ (show rs.idxOf r<(cuM (dM mv) m rs).length by rw[C];exact d r c) i).2;have F:=(o.at_ (W e) i).2;rw[C]at H F;refine(S.mg.phi_eq H F).mpr ((S.gr _ _ H F).mpr ?_);exact Mc.eq_step ((S.gr _ _ (d r c) B).mp L.symm) i
 .have c:=(j r).mp h;obtain⟨f,e,L,B,l⟩:=S.mg.at_ (d r c);show ys'.getD (phi G fr (rs.idxOf r)) false=ys.getD r false;rw[S.ey];unfold mgY;rw[jdc e,<-T r c];exact Mc.eq_y ((S.gr _ _ B (d r c)).mp L)
 .have c:=(j r).mp c;have v:=(j s).mp v;show phi G fr (rs.idxOf r)=phi G fr (rs.idxOf s)↔_;rw[S.mg.phi_eq (d r c) (d s v),S.gr _ _ (d r c) (d s v),Q r s c v]
 .have I:k<fr.length:=by have:k<mv'.length:=I;omega
  have e:fr[k]?=some fr[k]:=Aa I;have X:=S.mg.lt _ (Ap e);have M:rs[fr[k]]?=some (rs[fr[k]]):=Aa X;have Z:=Ap M;refine⟨rs[fr[k]],(j _).mpr Z,?_⟩;show phi G fr (rs.idxOf rs[fr[k]])=k;rw[q.nd.idxOf_getElem _ X];exact S.mg.phi_at e
structure MH(H:Hp)(p:Addr)(z:Str)(pm py:Addr)(us:List V)(mv:List (List Nat))(m:Nat)(ys:List Bool):Prop where
 hp:H p=some (.tup [.str z,.ref pm,.ref py])
 hm:H pm=some (.tup us)
 rw:RowsM H us mv
 ok:MvOk mv m
 hy:H py=some (.tup (ys.map V.bl))
 yl:ys.length=mv.length
 n1:1<=mv.length
 n9:mv.length<=1000
 m9:m<=1000
variable{pm:Addr}
theorem MH.kp{z:Str}{py:Addr}(k:Kp S H H')(h:MH H p z pm py us mv m ys):MH H' p z pm py us mv m ys :=
 ⟨k.tup _ _ h.hp,k.tup _ _ h.hm,h.rw.kp k,h.ok,k.tup _ _ h.hy,h.yl,h.n1,h.n9,h.m9⟩
theorem Bf.det{g:Nat->Nat->Nat}{f j:Nat}{a:List Nat}(h:Bf g m f j rs)(h':Bf g m f j a):rs=a:=by
 induction h generalizing a with
 |z=>cases h';rfl
 |s h hr ih =>
  cases h' with
  |s h' hr' =>
   cases ih h'
   rw[hr]at hr'
   cases hr'
   rfl
theorem Bf.back{g:Nat->Nat->Nat}{m f:Nat}:∀{j':Nat}{rs':List Nat},Bf g m f j' rs'->∀j,j<=j'->∃rs,Bf g m f j rs/\(j<j'->∃r,rs[j]?=some r)
 |0,rs',h,j,hj=>by
  have:j=0:=by omega
  subst this;exact⟨rs',h,λz=>by omega⟩
 |j'+1,_,.s h hr,j,hj=>by
  by_cases c:j=j'+1
  .subst c;exact⟨_,.s h hr,λz=>by omega⟩
  .by_cases d:j=j'
   .subst d;exact⟨_,h,λ_=>⟨_,hr⟩⟩
   .obtain⟨rs,b,a⟩:=Bf.back h j (by omega);exact⟨rs,b,λ_=>a (by omega)⟩
theorem Bf.full_one{g:Nat->Nat->Nat}{f:Nat}{a:List Nat}(h:Bf g m f rs.length rs)(h':Bf g m f a.length a):rs=a:=by
 have b:∀{rs a:List Nat},Bf g m f rs.length rs->Bf g m f a.length a->rs.length<=a.length->rs=a:=fun{rs a} h h' l=>by
  by_cases c:rs.length<a.length
  .obtain⟨k,j,i⟩:=Bf.back h' rs.length l;have e:=Bf.det h j;subst e;obtain⟨r,d⟩:=i c;have:=(Ab.mp d).1;omega
  .have e:rs.length=a.length:=by omega
   rw[<-e]at h';exact Bf.det h h'
 by_cases c:rs.length<=a.length
 .exact b h h' c
 .exact(b h' h (by omega)).symm
variable{h:Nat->Nat}
theorem Bf.image{g g':Nat->Nat->Nat}{n' f:Nat}{P:Nat->Prop}(w:P f)(st:∀r,P r->∀a,a<m->P (g r a)/\h (g r a)=g' (h r) a)(E:h f<n')(gl:∀r a,r<n'->a<m->g' r a<n'){j:Nat}(B:Bf g m f j rs) :
  Bf g' m (h f) (ddp ((rs.take j).map h)).length (ddp (rs.map h))/\(∀r∈rs,P r)/\j<=rs.length:=by
 induction B with
 |z=>exact⟨by simpa[ddp,dd1]using(Bf.z:Bf g' m (h f) 0 [h f]),by simpa using w,by simp⟩
 |@s j rs r B hr ih =>
  obtain⟨b,n,I⟩:=ih
  have v:=Ap hr
  have H:=(Ab.mp hr).1
  have D:=n r v
  have l:∀a,a<=m->ddp ((cuR g r a rs).map h)=cuR g' (h r) a (ddp (rs.map h))/\∀x∈cuR g r a rs,P x:=λa=>by
   induction a with
   |zero=>intro _;exact⟨rfl,n⟩
   |succ a ih =>
    intro C;obtain⟨e,p⟩:=ih (by omega);obtain⟨y,F⟩:=st r D a (by omega);rw[jcy,jcy,<-e];unfold cu1;rw[<-F];by_cases c:g r a∈cuR g r a rs
    .rw[Al c,Al ((jdb _ _).mpr (Am.mpr ⟨_,c,rfl⟩))];exact⟨rfl,p⟩
    .rw[Ai c,A6,List.map_singleton,jd6];refine⟨rfl,λx A=>?_⟩;rcases Ar.mp A with q|q
     .exact p x q
     .cases Ag.mp q;exact y
  obtain⟨e,p⟩:=l m (Ao _)
  obtain⟨t,o⟩:=jd5 g r rs m
  have u:(cuR g r m rs).take (j+1)=rs.take j++[r]:=by rw[o,Is (by omega),Oe,hr];rfl
  refine⟨?_,p,by rw[o,Aq];omega⟩
  rw[u,A6,List.map_singleton,jd6,e]
  obtain⟨t2,d⟩:=jmu ((rs.take (j+1)).map h) ((rs.drop (j+1)).map h)
  rw[<-A6,Oq,Oe,hr]at d
  have d:ddp (rs.map h)=ddp ((rs.take j).map h++[h r])++t2:=by
   rw[d];congr 2;simp
  rw[jd6]at d
  unfold dd1 at d⊢
  by_cases c:h r∈ddp ((rs.take j).map h)
  .rw[Al c]at d⊢
   have G:=b.inv E gl
   have k:(ddp (rs.map h)).take (ddp ((rs.take j).map h)).length=ddp ((rs.take j).map h):=by rw[d,Is (Ao _),Im]
   have i:∀a,a<=m->cuR g' (h r) a (ddp (rs.map h))=ddp (rs.map h):=λa=>by
    induction a with
    |zero=>intro _;rfl
    |succ a ih =>
     intro C;rw[jcy,ih (by omega)];unfold cu1;exact Al (G.cl (h r) (by rw[k];exact c) a (by omega))
   rw[i m (Ao _)]
   exact b
  .rw[Ai c]at d⊢
   rw[Aq,List.length_singleton]
   refine .s b ?_
   rw[d,A8 (by rw[Aq,List.length_singleton];omega),A9 (Ao _)]
   simp
theorem jlx(ok:MvOk mv m)(n1:1<=mv.length)(bf:Bf (dM mv) m 0 rs.length rs)(r:Nat):(mcOf mv m ys).rc r↔r∈rs:=by
 have d:=bf.inv (n:=mv.length) (by omega) (λr a f i=>(ok.at_ f i).2);refine⟨fun⟨w,c,e⟩=>?_,λh=>?_⟩
 .subst e;have:∀(w:List Nat)(r:Nat),(mcOf mv m ys).ws w->r∈rs->(mcOf mv m ys).led r w∈rs:=λw=>by
   induction w with
   |nil=>intro r _ h;exact h
   |cons a w ih =>
    intro r c h;exact ih _ (λb g=>c b (.tail _ g)) (d.cl r (by rw[Im];exact h) a (c a (.head _)))
  exact this w 0 c (Ap d.z)
 .obtain⟨w,c,e⟩:=d.rc r h;exact⟨w,c,e⟩
variable{M1 M2:Mc}{h1:Nat->Nat}
theorem LeanM.one{h2:Nat->Nat}(m:LeanM M M1 h1)(L2':LeanM M M2 h2)(rc:∀r,M.rc r↔r∈rs)(g1:RGr (rs.map h1))(g2:RGr (rs.map h2)) :
  M1.n=M2.n/\(∀r,M.rc r->h1 r=h2 r):=by
 have e:rs.map h1=rs.map h2:=by
  refine RGr.one g1 g2 (by simp) λi j h k=>?_;rw[Ac]at h k;rw[Ah,Ah,Ah,Ah,Aa h,Aa k];have p:=(rc _).mpr (Iq h);have o:=(rc _).mpr (Iq k);show some (h1 rs[i])=some (h1 rs[j])↔some (h2 rs[i])=some (h2 rs[j]);rw[Aae,Aae,m.inj _ _ p o,L2'.inj _ _ p o]
 have l:∀r,M.rc r->h1 r=h2 r:=λr d=>by
  obtain⟨i,h⟩:=Il ((rc r).mp d);have q:(rs.map h1)[i]?=(rs.map h2)[i]?:=by rw[e]
  rw[Ah,Ah,h]at q;exact Aw q
 refine⟨?_,l⟩
 have s:∀{A B:Mc}{f g:Nat->Nat},LeanM M A f->LeanM M B g->(∀r,M.rc r->f r=g r)->A.n<=B.n:=fun{A B f g} la lb hfg=>by
  by_cases c:A.n=0
  .omega
  .obtain⟨r,d,t⟩:=la.sur (A.n-1) (by omega);have:=lb.lt r d;rw[<-hfg r d,t]at this;omega
 have a:=s m L2' l
 have b:=s L2' m λr d=>(l r d).symm
 omega
variable{mv2:List (List Nat)}{ys2:List Bool}
theorem LeanM.same{f:List (List Nat)}{g:List Bool}{h2:Nat->Nat}(i:LeanM M (mcOf f m g) h1)(L2':LeanM M (mcOf mv2 m ys2) h2)(v:MvOk f m)(u:MvOk mv2 m)(l1:g.length=f.length)(l2:ys2.length=mv2.length)(rc:∀r,M.rc r↔r∈rs)(g1:RGr (rs.map h1))(g2:RGr (rs.map h2)):f=mv2/\g=ys2:=by
 obtain⟨p,s⟩:=LeanM.one i L2' rc g1 g2;have p:f.length=mv2.length:=p;have z:m=M.m:=i.mm;have w:∀k a,k<f.length->a<m->dM f k a=dM mv2 k a:=λk a o A=>by
  obtain⟨r,h,e⟩:=i.sur k o;have l:=i.st r a h (by omega);have n:=L2'.st r a h (by omega);rw[s _ (Mc.rc_step h (by omega)),n,<-s r h,e]at l;exact l.symm
 have t:∀k,k<f.length->g.getD k false=ys2.getD k false:=λk o=>by
  obtain⟨r,h,e⟩:=i.sur k o;have l:=i.ye r h;have n:=L2'.ye r h;rw[e]at l;rw[<-s r h,e]at n;exact l.trans n.symm
 constructor
 .refine Uc p λk a b=>?_;have y:=v.ln _ (Iq a);have x:=u.ln _ (Iq b);refine Uc (by omega) λj c d=>?_;have q:=w k j a (by omega);unfold dM at q;simp only[Af,Aa a,Aa b,Option.getD_some,Aa c,Aa d]at q;exact q
 .refine Uc (by omega) λk a b=>?_;have q:=t k (by omega);simp only[Af,Aa a,Aa b,Option.getD_some]at q;exact q
theorem LS.rg{first:Nat}(S:LS mv m ys first mv' ys' rs G fr)(nd:rs.Nodup):RGr (rs.map λr=>phi G fr (rs.idxOf r)):=by
 have e:rs.map (λr=>phi G fr (rs.idxOf r))=(List.range rs.length).map (phi G fr):=by
  refine Uc (by simp) λi a b=>?_;rw[Ud,Ud,Ox,nd.idxOf_getElem i (by simpa using a)]
 rw[e];intro i k h j q;rw[Ah]at h;obtain⟨r,s,rfl⟩:=Ih.mp h;obtain⟨d,n⟩:=Ab.mp s;rw[Ox]at n;rw[A1]at d;subst n;obtain⟨f,l,t,y,x⟩:=S.mg.at_ d;have g:j<fr.length:=by omega
 have u:fr[j]?=some fr[j]:=Aa g;have v:fr[j]<f:=by
  obtain⟨p,o⟩:=Ab.mp l;rw[<-o];exact(Ou.mp S.mg.inc) j _ g p q
 have w:f<=i:=by
  by_cases c:f<=i
  .exact c
  .exact absurd t.symm (S.mg.fst f (Ap l) i (by omega))
 refine⟨fr[j],by omega,?_⟩;rw[Ah,Oz (by omega)];exact O6 some (S.mg.phi_at u)
theorem LeanM.anew(L:LeanM M (mcOf mv m ys) h)(ok:MvOk mv m)(yl:ys.length=mv.length)(bf:Bf (dM mv) m 0 rs.length rs){f:List Nat}(q:∀r,M.rc r↔r∈f)(E:Bf M.d m 0 f.length f) :
  LeanM M (mcOf (cuM (dM mv) m rs) m (rs.map λr=>ys.getD r false)) (λr=>rs.idxOf (h r))/\RGr (f.map λr=>rs.idxOf (h r))/\rs.length=mv.length:=by
 have F:1<=mv.length:=L.n1
 have A:m=M.m:=L.mm
 have l:=bf.inv (n:=mv.length) (by omega) (λr a b j=>(ok.at_ b j).2)
 have z:M.rc 0:=⟨[],by simp[Mc.ws],rfl⟩
 have v:=Bf.image (g:=M.d) (g':=dM mv) (h:=h) (P:=M.rc) (n':=mv.length) z (λr b a j=>⟨Mc.rc_step b (by omega),L.st r a b (by omega)⟩) (by rw[L.z];omega) (λr a b j=>(ok.at_ b j).2) E
 rw[L.z,Im]at v
 have y:rs=ddp (f.map h):=Bf.full_one bf v.1
 have inr:∀r,M.rc r->h r∈rs:=λr b=>by rw[y,jdb];exact Am.mpr ⟨r,(q r).mp b,rfl⟩
 have t:∀k,k<mv.length->k∈rs:=λk i=>by
  obtain⟨r,b,e⟩:=L.sur k i;rw[<-e];exact inr r b
 have u:rs.length=mv.length:=by
  have G:rs.length<=mv.length:=jc0 l.nd l.lt;have D:=L2.nodup_len (List.range mv.length) rs Iv λx C=>t x (Av.mp C);rw[A1]at D;omega
 have o:∀r,r∈rs->rs.idxOf r<rs.length:=λr h=>A7.mpr h
 have c:∀r,r∈rs->rs[rs.idxOf r]?=some r:=λr h=>by rw[Aa (o r h),Oc]
 have p:(cuM (dM mv) m rs).length=rs.length:=by simp[cuM]
 refine⟨⟨jdt (jdp l),by show 1<=(cuM (dM mv) m rs).length;omega,by show(cuM (dM mv) m rs).length<=M.n;have:=L.le;rw[p,u];exact this,A,?_,λr b=>?_,λr a b j=>?_,λr b=>?_,λr s b w=>?_,λk i=>?_⟩,?_,u⟩
 .show rs.idxOf (h 0)=0
  rw[L.z]
  have:=l.z
  cases rs with
  |nil=>simp at this
  |cons x r=>simp at this;subst this;simp
 .show rs.idxOf (h r)<(cuM (dM mv) m rs).length
  rw[p];exact o _ (inr r b)
 .show rs.idxOf (h (M.d r a))=dM (cuM (dM mv) m rs) (rs.idxOf (h r)) a
  rw[jhj (c _ (inr r b)) (by omega)]
  exact O6 rs.idxOf (L.st r a b j)
 .show(rs.map λr=>ys.getD r false).getD (rs.idxOf (h r)) false=_
  rw[jdc (c _ (inr r b))]
  exact L.ye r b
 .rw[<-L.inj r s b w]
  refine⟨λe=>?_,λe=>by show rs.idxOf (h r)=rs.idxOf (h s);rw[e]⟩
  have a:=c _ (inr r b)
  have e:rs.idxOf (h r)=rs.idxOf (h s):=e
  rw[e,c _ (inr s w)]at a
  exact(Aw a).symm
 .have i:k<rs.length:=by rw[<-p];exact i
  have B:=l.lt _ (Iq i)
  obtain⟨r,b,e⟩:=L.sur _ B
  exact⟨r,b,by show rs.idxOf (h r)=k;rw[e];exact l.nd.idxOf_getElem k i⟩
 .have:=jpl (f.map h)
  rw[<-y,Az]at this
  exact this
theorem jsu(L:List Nat):(L.map nV).all jdh=true:=Aal.mpr λx a=>by
 obtain⟨t,_,rfl⟩:=Am.mp a;rfl
theorem jht(L:List Nat)(t:Nat):inV (nV t) (L.map nV)=decide (t∈L):=by
 unfold inV;induction L with
 |nil=>rfl
 |cons x L ih =>
  rw[Au,List.any_cons,ih];have:eqV (nV x) (nV t)=decide (x=t):=by
   show decide (_=_)=_;exact decide_eq_decide.mpr ⟨λz=>Int.ofNat.inj z,λz=>by rw[z]⟩
  rw[this];by_cases h:x=t
  .subst h;simp
  .have a:¬t=x:=λz=>h z.symm;simp[h,a]
def spNb:Sp:=λvs H Q _=>∃(pm py:Addr)(z:Str)(us:List V)(mv:List (List Nat))(m:Nat)(ys:List Bool),vs=[.str z,.ref pm,.ref py]/\H pm=some (.tup us)/\RowsM H us mv/\MvOk mv m/\H py=some (.tup (ys.map V.bl))/\ys.length=mv.length/\1<=mv.length/\mv.length<=1000/\m<=1000 /\
 ∀(q a1 a2:Addr)(us':List V)(rs:List Nat)(H':Hp),Bf (dM mv) m 0 rs.length rs->H' q=some (.tup [.str z,.ref a1,.ref a2])->H' a1=some (.tup us')->RowsM H' us' (cuM (dM mv) m rs)->H' a2=some (.tup ((rs.map λr=>ys.getD r false).map V.bl))->Kp [] H H'->Q (.ref q) H'
def ixV(rs:List Nat):V->V
 |.int t=>.int (rs.idxOf t.toNat:Nat)
 |v=>v
def yV(ys:List Bool):V->V
 |.int t=>.bl (ys.getD t.toNat false)
 |v=>v
def rowP(mv:List (List Nat))(m:Nat)(rs:List Nat)(y v:V)(H:Hp):Prop:=∃a,v=.ref a/\∃r,y=nV r/\H a=some (.tup (((List.range m).map λa=>rs.idxOf (dM mv r a)).map nV))
theorem jqp(mv:List (List Nat))(m:Nat)(rs:List Nat)(y:V):Firm (rowP mv m rs y):=λS x d c k ⟨a,e,r,b,h⟩=>⟨a,e,r,b,k.tup _ _ h⟩
theorem jse{mv:List (List Nat)}{m:Nat}{b:List Nat}{H:Hp}:∀{rs:List Nat}{xs:List V},Paired (λy x=>rowP mv m b y x H) (rs.map nV) xs->RowsM H xs (rs.map λr=>(List.range m).map λa=>b.idxOf (dM mv r a))
 |[],_,.nil=>.nil
 |r::rs,_,.cons ⟨a,e,r',e2,h⟩ t=>by
  have:r=r':=by
   unfold nV at e2;have:=V.int.inj e2;omega
  subst this;exact .cons ⟨a,e,h⟩ (jse t)
theorem js0(rs:List Nat)(t:Nat):(rs.map λx:Nat=>(x:Int)).idxOf (t:Int)=rs.idxOf t:=by
 induction rs with
 |nil=>rfl
 |cons x rs ih =>
  rw[Au,Yj,Yj,ih];have:((x:Int) == (t:Int))=(x == t):=by
   by_cases c:x=t
   .subst c;simp
   .rw[Ue.mpr c,Ue.mpr (by omega)]
  rw[this]
theorem jiv(rs:List Nat):rs.map nV=(rs.map λx:Nat=>(x:Int)).map V.int:=by rw[Az];rfl
variable{Q:VK}
theorem jfj{l:Addr}{t:Nat}(e:H l=some (.lst (rs.map nV)))(a:t∈rs)(q:Q (.int (rs.idxOf t:Nat)) H):jeg (.ref l) [.int (t:Int)] H Q:=by
 rw[jiv]at e;refine joh e (Am.mpr ⟨t,a,rfl⟩) ?_;rw[js0];exact q
structure TNb(mg:Str->Option Value):Prop where
 n_len:mg "len"=none
 n_tuple:mg "tuple"=none
section
variable{P:Program}{w:World}{K:PySem.W.Frag}{mg:Str->Option Value}{base:Heap}
abbrev yg:Stmt:=top 24
theorem yz:FnScope ["_law_letters_here","_law_moves","_law_yes","_law_order","_law_at","_law_goal","_law_rows"] ["_law_letters_here","_law_moves","_law_yes"] (jg yg):=⟨rfl,rfl,rfl,by decide +kernel,rfl,by decide +kernel,by decide +kernel⟩
theorem ok__law_numbered(F:Fun K "_law_numbered" "_law_numbered" yg f fd)(T:TNb mg):FnOk P w K mg base CX0 1 f fd ["_law_letters_here","_law_moves","_law_yes"] spNb:=by
 refine F.ok yz (λvs H Q E h=>?_) (λap A am s H vs Q E hr h=>?_)
 .obtain⟨pm,py,z,us,d,m,ys,rfl,_⟩:=h;rfl
 .obtain⟨pm,py,z,us,d,m,ys,rfl,hm,U,ok,hy,yl,n1,n9,m9,k⟩:=h;have hu:=hr.units;have an:sizeLine=16777216:=Iz;have ul:us.length=d.length:=Iw U;have gl:∀r a,r<d.length->a<m->dM d r a<d.length:=λr a hr ha=>(ok.at_ hr ha).2;refine exQ (jf (jo (i:=3) yz.nd rfl (by ac_rfl) (kx (ja jh jc)))
  (jf (jo (i:=4) yz.nd rfl (by ac_rfl) jh)
  (jf (z6 Ip (j8 jao (qpv 4) (jt jw (by rfl) T.n_len j3 (ja (qpv 3) jc)) (yd _)) (jf (yh Ip rfl (j7 (K:=K) (jr ix_U (qpv 1) (jr ix_U (qpv 3) (qpv 4) (λ_ _=>rfl)) (λ_ _=>rfl)) rfl) (jq (i:=5) yz.nd rfl (by ac_rfl)) (jj (ym (j8 (op_notinU (K:=K) rfl) (qpv 5) (qpv 3) (by with_unfolding_all rfl)) (jj (kj (kh Ii Ij ki (qpv 3) (ja (qpv 5) jc) jcl))) ya)))
  (jj (jo (i:=4) yz.nd rfl (by ac_rfl) (j4 yw (qpv 4) jh)))))
  (jf (jo (i:=6) yz.nd rfl (by ac_rfl) (ju jz (by rfl) T.n_tuple kg (ja (ku rfl (jci (sc:=jg yg) (N:=["_law_letters_here","_law_moves","_law_yes","_law_order","_law_at","_law_goal","_law_rows"]) (Nc:=["_law_room","_law_order","_law_moves"]) (js:=[none,some 3,some 1]) (by decide +kernel)) (j7 (K:=K) (qpv 3) rfl) (λ_ _ _ _=>(jq (i:=0) (show List.Nodup [("_law_room":Str),("_law_order":Str),("_law_moves":Str)]from by decide +kernel) rfl (by ac_rfl))) (λ_ _ _ _=>(ju jz (by rfl) T.n_tuple kg (ja (ku rfl (jci (sc:=jrq {kind:=.function,names:=[(".0",.local),("_law_room",.local),("tuple",.globalImplicit),("_law_moves",.free),("_law_order",.free)],isGenerator:=false,isCoroutine:=false} (jg yg)) (N:=["_law_room","_law_order","_law_moves"]) (Nc:=["_law_goal","_law_order"]) (js:=[none,some 1]) (by decide +kernel)) (j7 (K:=K) (jr ix_U (qpv 2) (qpv 0) (λ_ _=>rfl)) rfl) (λ_ _ _ _=>(jq (i:=0) (show List.Nodup [("_law_goal":Str),("_law_order":Str)]from by decide +kernel) rfl (by ac_rfl))) (λ_ _ _ _=>(kh Wd We (jaf hu) (qpv 1) (ja (qpv 0) jc) jcl))) jc)))) jc)))
  (jj (ka (y9 (ja (qpv 0) (ja (qpv 6) (ja (ju jz (by rfl) T.n_tuple kg (ja (ku rfl (jci (sc:=jg yg) (N:=["_law_letters_here","_law_moves","_law_yes","_law_order","_law_at","_law_goal","_law_rows"]) (Nc:=["_law_room","_law_yes"]) (js:=[none,some 2]) (by decide +kernel)) (j7 (K:=K) (qpv 3) rfl) (λ_ _ _ _=>(jq (i:=0) (show List.Nodup [("_law_room":Str),("_law_yes":Str)]from by decide +kernel) rfl (by ac_rfl))) (λ_ _ _ _=>(jr ix_U (qpv 1) (qpv 0) (λ_ _=>rfl)))) jc)) jc)))))))))) ?_
  simp!;refine⟨by omega,λpr ad=>?_⟩;refine⟨λμ σ S=>∃(j:Nat)(rs:List Nat)(M:Option V),σ=[some (.str z),some (.ref pm),some (.ref py),some (.ref pr),some (.int (j:Int)),M,none]/\Bf (dM d) m 0 j rs/\S pr=some (.lst (rs.map nV))/\Kp [] H S/\μ=d.length-j,⟨_,0,[0],none,rfl,.z,jb,(Kp.refl [] H).new ad,rfl⟩,?_⟩;rintro μ σ H1 ⟨j,rs,M,rfl,bf,e1,J,rfl⟩;have v:=bf.inv (n:=d.length) (by omega) gl;have rl:rs.length<=d.length:=jc0 v.nd v.lt;have jl:=v.jl;have ak:=J.tup _ _ hm;have ag:=U.kp J;simp! [e1];rw[Ac];by_cases c:j<rs.length
  .rw[Al (by simpa using c)];have er:rs[j]?=some (rs[j]):=Aa c;generalize rs[j]=r at er;have G:=v.lt r (Ap er);obtain⟨cr,X,g⟩:=ag.get (show d[r]?=some (d.getD r [])by rw[Af,Aa G];rfl);have p:(d.getD r []).length=m:=ok.ln _ (by rw[Af,Aa G];exact Iq _);refine⟨_,λ_ _ h=>h,?_⟩;refine⟨nV r,jch (by rw[Ah,er];rfl),?_⟩;unfold nV;rw[jco,ak];refine⟨_,rfl,.ref cr,jch X,?_⟩;simp only[g];refine jeo (xs:=(d.getD r []).map nV) (λa σ S=>∃(M:Option V),σ=[some (.str z),some (.ref pm),some (.ref py),some (.ref pr),some (.int (j:Int)),M,none]/\S pr=some (.lst ((cuR (dM d) r a rs).map nV))/\S cr=some (.tup ((d.getD r []).map nV))/\Kp [] H S) ⟨M,rfl,e1,g,J⟩ ?_ ?_ ?_
   .rintro a σ S _ ⟨_,rfl,_,h,_⟩;exact h
   .rintro a x σ B L ⟨M,rfl,e,r2,C⟩;rw[Ah]at L;obtain⟨t,R,rfl⟩:=Ih.mp L;have ha:a<m:=by have:=(Ab.mp R).1;omega
    have td:t=dM d r a:=by have:=(ok.at_ G ha).1;rw[R]at this;exact Aw this
    simp! [e];refine rInU.lst e rfl (jsu _) ?_;rw[jht,jcy];unfold cu1;rw[<-td];have cl:(cuR (dM d) r a rs).length<=d.length:=jc0 (jem v.nd a) λx L=>by
     rcases jdd a x L with h|⟨b,h1,h2⟩
     .exact v.lt x h
     .rw[h2];exact gl r b G (by omega)
    by_cases h:t∈cuR (dM d) r a rs
    .refine⟨_,rfl,?_⟩;rw[Al h,Ai (by simp[h])];exact⟨e,r2,C⟩
    .refine⟨_,rfl,?_⟩;rw[Ai h,Al (by simp[h]),e];refine⟨rfl,_,rfl,by rw[Ac];omega,by rw[A6];rfl,?_,C.set e (.inr ad)⟩;rw[jd (λz=>by rw[z,e]at r2;cases r2)];exact r2
   .rintro σ B ⟨M,rfl,e,r2,C⟩;rw[Ac,p]at e;simp!;exact⟨d.length-(j+1),by omega,j+1,cuR (dM d) r m rs,_,⟨rfl,rfl⟩,.s bf er,e,C,rfl⟩
  .have ej:j=rs.length:=by omega
   subst ej;rw[Ai (by simpa using c)];intro D hD;have ao:H D=none:=J.free hD;refine jd3 (rowP d m rs) (jqp d m rs) e1 hD (by rw[Ac];omega) (λi y B Q' hy k2 q=>?_) λvv xs B k2 e ah=>?_
   .rw[Ah]at hy;obtain⟨r,aa,rfl⟩:=Ih.mp hy;have G:=v.lt r (Ap aa);have aj:=(J.trans k2).tup _ _ hm;have al:=k2.old _ _ e1 Ae;obtain⟨cr,X,g⟩:=((U.kp J).kp k2).get (show d[r]?=some (d.getD r [])by rw[Af,Aa G];rfl);have u:d.getD r []=(List.range m).map (dM d r):=by
     have p:(d.getD r []).length=m:=ok.ln _ (by rw[Af,Aa G];exact Iq _);refine Uc (by simpa using p) λa I O=>?_;rw[Ud,Ox];have:=(ok.at_ G (show a<m by omega)).1;rw[Aa I]at this;exact Aw this
    simp! [nV,aj];refine⟨.ref cr,jch X,?_⟩;simp only[g];intro D2 Z;refine jdo (ixV rs) g Z (by rw[u];simp;omega) (λx L l aq q'=>?_) λvv=>?_
    .obtain⟨t,R,rfl⟩:=Am.mp L;have tm:t∈rs:=by
      rw[u]at R;obtain⟨a,ha,rfl⟩:=Am.mp R;exact v.cl r (by rw[Im];exact Ap aa) a (Av.mp ha)
     have e3:=((Kp.refl [] B).new (o:=.lst l) Z).old _ _ al Ae;simp! [nV,e3];exact jfj e3 tm q'
    dsimp only;refine jcj jb λO W=>?_;refine q (.ref O) _ (((Kp.refl [] B).new Z).new W) ⟨O,rfl,r,rfl,?_⟩;rw[jb,u,Az,Az,Az];rfl
   have R2:=jse ah;dsimp only;refine jcj e λI ac=>?_;have k3:Kp [] H1 (upd B I (.tup xs)):=k2.new ac;have ae:upd B I (.tup xs) I=some (.tup xs):=jb;have R3:=R2.kp ((Kp.refl [] B).new (o:=.tup xs) ac);generalize upd B I (.tup xs)=H3 at k3 ae R3⊢;have af:=k3.old _ _ e1 Ae;have ai:=(J.trans k3).tup _ _ hy;rw[af];intro D3 Y;refine jdn (yV ys) af Y (by rw[Ac];omega) (λx L l Q' q=>?_) λvv=>?_
   .obtain⟨t,R,rfl⟩:=Am.mp L;have tn:=v.lt t R;have y4:=((Kp.refl [] H3).new (o:=.lst l) Y).tup _ _ ai;simp! [nV,y4];exact⟨.bl (ys.getD t false),jch (by rw[Ah,Af,Aa (by omega)];rfl),q⟩
   dsimp only;refine jcj jb λO W=>⟨by omega,λq3 ab=>?_⟩;have kA:Kp [] H3 (upd (upd (upd H3 D3 (.lst ((rs.map nV).map (yV ys)))) O (.tup ((rs.map nV).map (yV ys)))) q3 (.tup [.str z,.ref I,.ref O])):=(((Kp.refl [] H3).new Y).new W).new ab;refine k q3 I O xs rs _ bf jb (kA.tup _ _ ae) (R3.kp kA) ?_ ((J.trans k3).trans kA);rw[jd (je jb ab),jb,Az,Az];rfl
end
def Mc.eqN(M:Mc)(i r s:Nat):Prop:=∀w,M.ws w->w.length<=i->M.y (M.led r w)=M.y (M.led s w)
theorem Mc.eqN_succ(M:Mc)(i r s:Nat):M.eqN (i+1) r s↔M.eqN i r s/\∀a,a<M.m->M.eqN i (M.d r a) (M.d s a):=by
 refine⟨λh=>⟨λw c f=>h w c (by omega),λa j w c f=>h (a::w) (λb g=>(At.mp g).elim (λe=>e▸j) (c b)) (by rw[List.length_cons];omega)⟩,fun⟨l,k⟩ w c f=>?_⟩
 cases w with
 |nil=>exact l [] c (by simp)
 |cons a w=>exact k a (c a (.head _)) w (λb g=>c b (.tail _ g)) (by rw[List.length_cons]at f;omega)
theorem Mc.eqN_eq(ok:M.ok)(st:∀r s,r<M.n->s<M.n->M.eqN i r s->M.eqN (i+1) r s)(hr:r<M.n)(hs:s<M.n):M.eqN i r s↔M.eq r s:=by
 refine⟨λh=>?_,λh w c _=>h w c⟩;have e:∀(w:List Nat)(r s:Nat),r<M.n->s<M.n->M.ws w->M.eqN i r s->M.y (M.led r w)=M.y (M.led s w):=λw=>by
  induction w with
  |nil=>intro r s _ _ c h;exact h [] c (by simp)
  |cons a w ih =>
   intro r s hr hs c h;have d:=c a (.head _);exact ih _ _ (ok.lt r a hr d) (ok.lt s a hs d) (λb f=>c b (.tail _ f)) (((M.eqN_succ i r s).mp (st r s hr hs h)).2 a d)
 exact λw c=>e w r s hr hs c h
theorem jkz:∀{V L:List Nat},V.Nodup->(∀x∈V,x∈L)->L.length<=V.length->L.Nodup
 |[],L,_,_,hl=>by
  have:L=[]:=Os.mp (Nat.le_zero.mp hl);subst this;exact .nil
 |x::V,L,nd,sub,hl=>by
  obtain⟨g,d⟩:=Ot.mp nd;have b:=sub x (.head _);have h:=W8 b;rw[List.length_cons]at hl;have i:=jkz (V:=V) (L:=L.erase x) d (λy a=>(Wv (λe:y=x=>g (e▸a))).mpr (sub y (.tail _ a))) (by omega);have f:x∉L.erase x:=λq=>by
   have:=L2.nodup_len (x::V) (L.erase x) nd λy a=>by
    by_cases c:y=x
    .subst c;exact q
    .exact(Wv c).mpr (sub y a)
   rw[List.length_cons]at this;have:=Wh b;omega
  exact(List.perm_cons_erase b).nodup_iff.mpr (Ot.mpr ⟨f,i⟩)
theorem jsn{f g:List Nat}(hl:f.length=g.length)(rf:∀i j:Nat,i<g.length->j<g.length->g[i]?=g[j]?->f[i]?=f[j]?):(ddp f).length<=(ddp g).length/\((ddp g).length<=(ddp f).length->∀i j:Nat,i<g.length->j<g.length->f[i]?=f[j]?->g[i]?=g[j]?):=by
 let φ:Nat->Nat:=λv=>f.getD (g.idxOf v) 0
 have l:∀i,i<g.length->φ (g.getD i 0)=f.getD i 0:=λi k=>by
  have n:g[i]?=some (g.getD i 0):=by rw[Af,Aa k];rfl
  have m:=Ap n;have q:=A7.mpr m;have e:g[g.idxOf (g.getD i 0)]?=some (g.getD i 0):=by rw[Aa q,Oc]
  have:=rf _ i q k (e.trans n.symm);show f.getD (g.idxOf (g.getD i 0)) 0=f.getD i 0;rw[Af,this,<-Af]
 have o:∀u∈ddp f,u∈(ddp g).map φ:=λu D=>by
  obtain⟨i,k⟩:=Il ((jdb _ _).mp D);have q:=(Ab.mp k).1;refine Am.mpr ⟨g.getD i 0,(jdb _ _).mpr (by rw[Af,Aa (by omega)];exact Iq _),?_⟩;rw[l i (by omega),Af,k];rfl
 have t:=L2.nodup_len _ _ (je5 f) o;rw[Ac]at t;refine⟨t,λh i j k w e=>?_⟩;have C:=jkz (je5 f) o (by rw[Ac];exact h);have n:g[i]?=some (g.getD i 0):=by rw[Af,Aa k];rfl
 have x:g[j]?=some (g.getD j 0):=by rw[Af,Aa w];rfl
 have E:φ (g.getD i 0)=φ (g.getD j 0):=by rw[l i k,l j w,Af,Af,e]
 rw[n,x];obtain⟨a,p⟩:=Il ((jdb g _).mpr (Ap n));obtain⟨b,r⟩:=Il ((jdb g _).mpr (Ap x));have J:=(Ab.mp p).1;have I:=(Ab.mp r).1;have G:((ddp g).map φ)[a]?=some (φ (g.getD i 0)):=by rw[Ah,p];rfl
 have F:((ddp g).map φ)[b]?=some (φ (g.getD i 0)):=by rw[Ah,r,E];rfl
 have H:a=b:=by
  by_cases c:a=b
  .exact c
  .obtain⟨B,A⟩:=Ab.mp G;obtain⟨z,y⟩:=Ab.mp F;have s:=Ou.mp C;by_cases d:a<b
   .exact absurd (A.trans y.symm) (s a b B z d)
   .exact absurd (y.trans A.symm) (s b a z B (by omega))
 rw[H,r]at p;exact p.symm
structure CLI(M:Mc)(i:Nat)(cl:List Nat):Prop where
 ln:cl.length=M.n
 eq:∀r s,r<M.n->s<M.n->(cl.getD r 0=cl.getD s 0↔M.eqN i r s)
def keyL(M:Mc)(cl:List Nat)(r:Nat):List Nat:=cl.getD r 0::(List.range M.m).map λa=>cl.getD (M.d r a) 0
variable{cl:List Nat}
theorem js5(ok:M.ok)(C:CLI M i cl)(hr:r<M.n)(hs:s<M.n):keyL M cl r=keyL M cl s↔M.eqN (i+1) r s:=by
 rw[M.eqN_succ];unfold keyL;rw[List.cons.injEq,C.eq r s hr hs];refine and_congr_right λ_=>⟨λh a b=>?_,λh=>Ib λa b=>?_⟩
 .have q:((List.range M.m).map λa=>cl.getD (M.d r a) 0)[a]?=((List.range M.m).map λa=>cl.getD (M.d s a) 0)[a]?:=by rw[h]
  rw[Ah,Ah,Oz b]at q;exact(C.eq _ _ (ok.lt r a hr b) (ok.lt s a hs b)).mp (Aw q)
 .have b:=Av.mp b;exact(C.eq _ _ (ok.lt r a hr b) (ok.lt s a hs b)).mpr (h a b)
theorem CLI.next(ok:M.ok)(C:CLI M i cl){ks:List (List Nat)}(nd:ks.Nodup)(mem:∀k,k∈ks↔k∈(List.range M.n).map (keyL M cl)) :
  CLI M (i+1) ((List.range M.n).map λr=>ks.idxOf (keyL M cl r))/\(ddp ((List.range M.n).map λr=>ks.idxOf (keyL M cl r))).length=ks.length/\∀x,x∈(List.range M.n).map (λr=>ks.idxOf (keyL M cl r))↔x<ks.length:=by
 have d:∀r,r<M.n->keyL M cl r∈ks:=λr c=>(mem _).mpr (Am.mpr ⟨r,Av.mpr c,rfl⟩)
 have g:∀r,r<M.n->((List.range M.n).map λr=>ks.idxOf (keyL M cl r)).getD r 0=ks.idxOf (keyL M cl r):=λr c=>by
  rw[Af,Ah,Oz c];rfl
 have l:∀{a b:List Nat},a∈ks->b∈ks->ks.idxOf a=ks.idxOf b->a=b:=fun{a b} ha hb e=>by
  have m:ks[ks.idxOf a]?=some a:=by rw[Aa (A7.mpr ha),Oc]
  have o:ks[ks.idxOf b]?=some b:=by rw[Aa (A7.mpr hb),Oc]
  rw[e,o]at m;exact(Aw m).symm
 have f:∀x,x∈(List.range M.n).map (λr=>ks.idxOf (keyL M cl r))↔x<ks.length:=λx=>by
  constructor
  .intro h;obtain⟨r,c,rfl⟩:=Am.mp h;exact A7.mpr (d r (Av.mp c))
  .intro h;obtain⟨r,c,e⟩:=Am.mp ((mem _).mp (Iq h));exact Am.mpr ⟨r,c,by rw[e];exact nd.idxOf_getElem x h⟩
 refine⟨⟨by simp,λr s c j=>?_⟩,?_,f⟩
 .rw[g r c,g s j,<-js5 ok C c j]
  exact⟨λe=>l (d r c) (d s j) e,λe=>by rw[e]⟩
 .have p:(ddp ((List.range M.n).map λr=>ks.idxOf (keyL M cl r))).Perm (List.range ks.length):=(U2 (je5 _) Iv).mpr λx=>by rw[jdb,f,Av]
  rw[p.length_eq,A1]
theorem CLI.mono{a:List Nat}(C:CLI M i cl)(b:CLI M (i+1) a):(ddp cl).length<=(ddp a).length/\((ddp a).length<=(ddp cl).length->∀r s,r<M.n->s<M.n->M.eqN i r s->M.eqN (i+1) r s):=by
 have l:∀{c:List Nat}{j:Nat},CLI M j c->∀r s,r<M.n->s<M.n->(c[r]?=c[s]?↔M.eqN j r s):=fun{c j} D r s k d=>by
  have w:=D.ln;rw[<-D.eq r s k d,Af,Af,Aa (by omega),Aa (by omega)];simp
 have t:cl.length=a.length:=by rw[C.ln,b.ln]
 obtain⟨v,u⟩:=jsn (f:=cl) (g:=a) t λq p o m e=>by
  rw[b.ln]at o m;exact(l C q p o m).mpr (((M.eqN_succ _ _ _).mp ((l b q p o m).mp e)).1)
 refine⟨v,λh r s k d e=>?_⟩;have:=u h r s (by rw[b.ln];exact k) (by rw[b.ln];exact d) ((l C r s k d).mpr e);exact(l b r s k d).mp this
section
variable{mv:List (List Nat)}{m:Nat}{ys:List Bool}{rs:List Nat}
theorem jsa(ok:MvOk mv m)(n1:1<=mv.length)(bf:Bf (dM mv) m 0 rs.length rs)(hr:r∈rs)(ha:a<m):dM (cuM (dM mv) m rs) (rs.idxOf r) a=rs.idxOf (dM mv r a)/\dM mv r a∈rs:=by
 have c:=bf.inv (n:=mv.length) (by omega) (λr a hr ha=>(ok.at_ hr ha).2);have b:rs[rs.idxOf r]?=some r:=by rw[Aa (A7.mpr hr),Oc]
 exact⟨jhj b ha,c.cl r (by rw[Im];exact hr) a ha⟩
theorem jnn(ok:MvOk mv m)(n1:1<=mv.length)(bf:Bf (dM mv) m 0 rs.length rs)(ys':List Bool):∀(w:List Nat)(r:Nat),(∀a∈w,a<m)->r∈rs->(mcOf (cuM (dM mv) m rs) m ys').led (rs.idxOf r) w=rs.idxOf ((mcOf mv m ys).led r w)/\(mcOf mv m ys).led r w∈rs
 |[],r,_,h=>⟨rfl,h⟩
 |a::w,r,hw,h=>by
  obtain⟨e,q⟩:=jsa ok n1 bf h (hw a (.head _));have:=jnn ok n1 bf ys' w (dM mv r a) (λb c=>hw b (.tail _ c)) q;refine⟨?_,this.2⟩;show(mcOf (cuM (dM mv) m rs) m ys').led (dM (cuM (dM mv) m rs) (rs.idxOf r) a) w=_;rw[e];exact this.1
theorem jor(h:r∈rs):(rs.map λr=>ys.getD r false).getD (rs.idxOf r) false=ys.getD r false :=
 jdc (by rw[Aa (A7.mpr h),Oc])
theorem jt3(ok:MvOk mv m)(n1:1<=mv.length)(bf:Bf (dM mv) m 0 rs.length rs)(hr:r∈rs)(hs:s∈rs):(mcOf (cuM (dM mv) m rs) m (rs.map λr=>ys.getD r false)).eq (rs.idxOf r) (rs.idxOf s)↔(mcOf mv m ys).eq r s:=by
 have c:∀w,(∀a∈w,a<m)->∀r,r∈rs->(mcOf (cuM (dM mv) m rs) m (rs.map λr=>ys.getD r false)).y ((mcOf (cuM (dM mv) m rs) m (rs.map λr=>ys.getD r false)).led (rs.idxOf r) w)=(mcOf mv m ys).y ((mcOf mv m ys).led r w):=λw b r hr=>by
  obtain⟨e,d⟩:=jnn (ys:=ys) ok n1 bf (rs.map λr=>ys.getD r false) w r b hr;rw[e];exact jor d
 refine⟨λh w b=>?_,λh w b=>?_⟩
 .rw[<-c w b r hr,<-c w b s hs];exact h w b
 .rw[c w b r hr,c w b s hs];exact h w b
def mvN(mvC:List (List Nat))(m:Nat)(cl order:List Nat):List (List Nat):=order.map λone=>(List.range m).map λa=>order.idxOf (cl.getD (dM mvC (cl.idxOf one) a) 0)
def ysN(ysC:List Bool)(cl order:List Nat):List Bool:=order.map λone=>ysC.getD (cl.idxOf one) false
structure Ord(cl order:List Nat)(many:Nat):Prop where
 nd:order.Nodup
 mem:∀x,x∈order↔x<many
 z:order[0]?=some (cl.getD 0 0)
theorem jle(ok:MvOk mv m)(n1:1<=mv.length)(bf:Bf (dM mv) m 0 rs.length rs){b:List Nat}{c:Nat}(ln:cl.length=rs.length)
  (H:∀r s,r<rs.length->s<rs.length->(cl.getD r 0=cl.getD s 0↔(mcOf (cuM (dM mv) m rs) m (rs.map λr=>ys.getD r false)).eq r s)) (dn:∀x,x∈cl↔x<c) (O:Ord cl b c) :
  LeanM (mcOf mv m ys) (mcOf (mvN (cuM (dM mv) m rs) m cl b) m (ysN (rs.map λr=>ys.getD r false) cl b)) (λr=>b.idxOf (cl.getD (rs.idxOf r) 0))/\MvOk (mvN (cuM (dM mv) m rs) m cl b) m/\(ysN (rs.map λr=>ys.getD r false) cl b).length=(mvN (cuM (dM mv) m rs) m cl b).length/\(mvN (cuM (dM mv) m rs) m cl b).length=c:=by
 have D:=bf.inv (n:=mv.length) (by omega) (λr a l g=>(ok.at_ l g).2)
 have X:1<=rs.length:=(Ab.mp D.z).1
 have W:rs.length<=mv.length:=jc0 D.nd D.lt
 have M:=jdp D
 have Y:(cuM (dM mv) m rs).length=rs.length:=by simp[cuM]
 have N:b.length=c:=by
  have p:b.Perm (List.range c):=(U2 O.nd Iv).mpr λx=>by rw[O.mem,Av]
  rw[p.length_eq,A1]
 have i:∀r,r<rs.length->cl.getD r 0∈b:=λr l=>(O.mem _).mpr ((dn _).mp (by rw[Af,Aa (by omega)];exact Iq _))
 have G:∀x,x<c->cl.idxOf x<rs.length/\cl.getD (cl.idxOf x) 0=x:=λx u=>by
  have P:=(dn x).mpr u;have Q:=A7.mpr P;exact⟨by omega,by rw[Af,Aa Q,Oc];rfl⟩
 have y:∀{x},x∈b->b.idxOf x<b.length:=λh=>A7.mpr h
 have t:∀{x},x∈b->b[b.idxOf x]?=some x:=λh=>by rw[Aa (y h),Oc]
 have C:(mvN (cuM (dM mv) m rs) m cl b).length=b.length:=by simp[mvN]
 have A:∀r a,r<rs.length->a<m->dM (cuM (dM mv) m rs) r a<rs.length:=λr a l g=>by
  have:=(M.at_ (show r<(cuM (dM mv) m rs).length by omega) g).2;omega
 have U:∀{x a:Nat},x∈b->a<m->dM (mvN (cuM (dM mv) m rs) m cl b) (b.idxOf x) a=b.idxOf (cl.getD (dM (cuM (dM mv) m rs) (cl.idxOf x) a) 0):=fun{x a} u g=>by
  show((mvN (cuM (dM mv) m rs) m cl b).getD (b.idxOf x) []).getD a 0=_;unfold mvN;rw[jdc (t u),jdc (Oz g)]
 have F:MvOk (mvN (cuM (dM mv) m rs) m cl b) m:=by
  refine⟨λL o=>?_,λL o x u=>?_⟩
  .obtain⟨w,_,rfl⟩:=Am.mp o;simp
  .obtain⟨w,S,rfl⟩:=Am.mp o;obtain⟨a,g,rfl⟩:=Am.mp u;rw[C];exact y (i _ (A _ a (G w ((O.mem w).mp S)).1 (Av.mp g)))
 have d:∀r,r∈rs->rs.idxOf r<rs.length:=λr h=>A7.mpr h
 have B:=jlx (ys:=ys) ok n1 bf
 have K:∀{k k' a:Nat},k<rs.length->k'<rs.length->a<m->cl.getD k 0=cl.getD k' 0->cl.getD (dM (cuM (dM mv) m rs) k a) 0=cl.getD (dM (cuM (dM mv) m rs) k' a) 0:=fun{k k' a} v hk' g e=>by
  have q:=(H k k' v hk').mp e;exact(H _ _ (A k a v g) (A k' a hk' g)).mpr (Mc.eq_step q g)
 refine⟨⟨jdt F,?_,?_,rfl,?_,λr l=>?_,λr a l g=>?_,λr l=>?_,λr s l R=>?_,λk v=>?_⟩,F,by simp[ysN,mvN],by rw[C,N]⟩
 .show 1<=(mvN (cuM (dM mv) m rs) m cl b).length
  rw[C]
  exact(Ab.mp O.z).1
 .show(mvN (cuM (dM mv) m rs) m cl b).length<=mv.length
  rw[C,N]
  have:=L2.nodup_len (List.range c) cl Iv λx u=>(dn x).mpr (Av.mp u)
  rw[A1]at this
  omega
 .show b.idxOf (cl.getD (rs.idxOf 0) 0)=0
  have T:rs.idxOf 0=0:=by
   have:=D.z
   cases rs with
   |nil=>simp at this
   |cons x r=>simp at this;subst this;simp
  rw[T]
  have J:=O.z
  cases b with
  |nil=>simp at J
  |cons x r=>simp at J;subst J;simp
 .show b.idxOf _<(mvN (cuM (dM mv) m rs) m cl b).length
  rw[C];exact y (i _ (d r ((B r).mp l)))
 .have j:=(B r).mp l
  obtain⟨e,q⟩:=jsa ok n1 bf j g
  show b.idxOf (cl.getD (rs.idxOf (dM mv r a)) 0)=dM (mvN (cuM (dM mv) m rs) m cl b) (b.idxOf (cl.getD (rs.idxOf r) 0)) a
  have E:=i _ (d r j)
  rw[U E g,<-e]
  have f:=G _ ((O.mem _).mp E)
  rw[K (d r j) f.1 g f.2.symm]
 .have j:=(B r).mp l
  have E:=i _ (d r j)
  show(ysN (rs.map λr=>ys.getD r false) cl b).getD (b.idxOf (cl.getD (rs.idxOf r) 0)) false=ys.getD r false
  unfold ysN
  rw[jdc (t E),<-jor (ys:=ys) j]
  have f:=G _ ((O.mem _).mp E)
  exact(Mc.eq_y ((H _ _ (d r j) f.1).mp f.2.symm)).symm
 .have j:=(B r).mp l
  have I:=(B s).mp R
  show b.idxOf (cl.getD (rs.idxOf r) 0)=b.idxOf (cl.getD (rs.idxOf s) 0)↔_
  rw[<-jt3 (ys:=ys) ok n1 bf j I,<-H _ _ (d r j) (d s I)]
  refine⟨λe=>?_,λe=>by rw[e]⟩
  have a:=t (i _ (d r j))
  rw[e,t (i _ (d s I))]at a
  exact(Aw a).symm
 .have v:k<b.length:=by rw[<-C];exact v
  have f:=G b[k] ((O.mem _).mp (Iq v))
  refine⟨rs[cl.idxOf b[k]]'(f.1),(B _).mpr (Iq f.1),?_⟩
  show b.idxOf (cl.getD (rs.idxOf (rs[cl.idxOf b[k]]'(f.1))) 0)=k
  rw[D.nd.idxOf_getElem _ f.1,f.2]
  exact O.nd.idxOf_getElem k v
end
theorem Mc.led_app'(M:Mc)(r:Nat)(w u:List Nat):M.led r (w++u)=M.led (M.led r w) u:=by unfold Mc.led;rw[Uz]
variable{u w:List Nat}
theorem jik(h:M.ws w)(h2:M.ws u):M.ws (w++u):=λa b=>(Ar.mp b).elim (h a) (h2 a)
theorem LeanM.led{M c:Mc}{h:Nat->Nat}(L:LeanM M c h):∀{w:List Nat}{r:Nat},M.rc r->M.ws w->c.led (h r) w=h (M.led r w)/\M.rc (M.led r w)
 |[],r,hr,_=>⟨rfl,hr⟩
 |a::w,r,hr,hw=>by
  have e:=hw a (.head _);have:=LeanM.led L (w:=w) (Mc.rc_step hr e) λb f=>hw b (.tail _ f);show c.led (c.d (h r) a) w=h (M.led (M.d r a) w)/\_;rw[<-L.st r a hr e];exact this
theorem LeanM.ws{a:Mc}(L:LeanM M a h):a.ws w↔M.ws w:=by unfold Mc.ws;rw[L.mm]
theorem ji9{f:List Nat}(h:RGr f):∀i,i<=f.length->∃k,ddp (f.take i)=List.range k/\∀x,x∈f.take i↔x<k
 |0,_=>⟨0,by simp[ddp],by simp⟩
 |i+1,hi=>by
  obtain⟨k,e,m⟩:=ji9 h i (by omega);have a:f[i]?=some f[i]:=Aa (by omega);generalize f[i]=x at a;have j:f.take (i+1)=f.take i++[x]:=by rw[Oe,a];rfl
  rw[j,jd6,e];unfold dd1;by_cases c:x<k
  .rw[Al (Av.mpr c)];refine⟨k,rfl,λy=>?_⟩;rw[Ar,m,Ag];exact⟨λq=>q.elim id λz=>z▸c,.inl⟩
  .rw[Ai (λz=>c (Av.mp z))];have g:x=k:=by
    by_cases d:k<x
    .obtain⟨n,l,b⟩:=h i x a k d;have:k∈f.take i:=by
      rw[<-Ow l]at b;exact Ap b
     have:=(m k).mp this;omega
    .omega
   subst g;refine⟨x+1,by rw[O9],λy=>?_⟩;rw[Ar,m,Ag];omega
theorem jhk{f:List Nat}(h:RGr f)(mem:∀x,x∈f↔x<n):ddp f=List.range n:=by
 obtain⟨k,e,m⟩:=ji9 h f.length (Ao _);rw[Im]at e m;have:k=n:=by
  by_cases c:k<n
  .have:=(m k).mp ((mem k).mpr c);omega
  .by_cases d:n<k
   .have:=(mem n).mp ((m n).mpr d);omega
   .omega
 rw[e,this]
theorem LeanM.can(L:LeanM M (mcOf mv m ys) h)(ok:MvOk mv m){f:List Nat}(i:∀r,M.rc r↔r∈f)(s:Bf M.d m 0 f.length f) :
  (RGr (f.map h)->Bf (dM mv) m 0 mv.length (List.range mv.length))/\(Bf (dM mv) m 0 mv.length (List.range mv.length)->RGr (f.map h)):=by
 have v:m=M.m:=L.mm
 have u:1<=mv.length:=L.n1
 have z:M.rc 0:=⟨[],by simp[Mc.ws],rfl⟩
 have k:=(Bf.image (g:=M.d) (g':=dM mv) (h:=h) (P:=M.rc) (n':=mv.length) z (λr c a p=>⟨Mc.rc_step c (by omega),L.st r a c (by omega)⟩) (by rw[L.z];omega) (λr a c p=>(ok.at_ c p).2) s).1
 rw[L.z,Im]at k
 have o:∀x,x∈f.map h↔x<mv.length:=λx=>by
  constructor
  .intro q;obtain⟨r,c,rfl⟩:=Am.mp q;exact L.lt r ((i r).mpr c)
  .intro q;obtain⟨r,c,e⟩:=L.sur x q;exact Am.mpr ⟨r,(i r).mp c,e⟩
 refine⟨λj=>?_,λb=>?_⟩
 .have e:=jhk j o
  rw[e,A1]at k
  exact k
 .have t:Bf (dM mv) m 0 (List.range mv.length).length (List.range mv.length):=by rw[A1];exact b
  have e:=Bf.full_one k t
  have j:=jpl (f.map h)
  rw[e,Az]at j
  have:f.map ((λx=>(List.range mv.length).idxOf x)∘h)=f.map h:=Ib λr c=>by
   have l:=L.lt r ((i r).mpr c);show(List.range mv.length).idxOf (h r)=h r;have l:h r<(List.range mv.length).length:=by rw[A1];exact l
   have:=(Iv (n:=mv.length)).idxOf_getElem (h r) l;rw[Ox]at this;exact this
  rw[this]at j
  exact j
variable{N:Mc}
theorem LeanM.refl(L:LeanM M N h):LeanM N N id/\∀k,N.rc k↔k<N.n:=by
 have z:M.rc 0:=⟨[],by simp[Mc.ws],rfl⟩;have c:∀k,N.rc k↔k<N.n:=λk=>by
  constructor
  .rintro⟨w,b,rfl⟩;exact Mc.led_lt L.ok L.n1 b
  .intro m;obtain⟨r,⟨w,b,e⟩,u⟩:=L.sur k m;refine⟨w,L.ws.mpr b,?_⟩;have:=(L.led z b).1;rw[L.z,e,u]at this;exact this
 refine⟨⟨L.ok,L.n1,Ao _,rfl,rfl,λr i=>(c r).mp i,λr a _ _=>rfl,λr _=>rfl,λr s i t=>?_,λk m=>⟨k,(c k).mpr m,rfl⟩⟩,c⟩;obtain⟨l,g,x⟩:=L.sur r ((c r).mp i);obtain⟨j,f,v⟩:=L.sur s ((c s).mp t);show r=s↔_;rw[<-x,<-v,L.inj l j g f];have d:∀r,M.rc r->∀w,M.ws w->N.y (N.led (h r) w)=M.y (M.led r w):=λr i w b=>by
  obtain⟨p,o⟩:=L.led i b;rw[p,L.ye _ o]
 refine⟨λq w b=>?_,λq w b=>?_⟩
 .rw[d l g w (L.ws.mp b),d j f w (L.ws.mp b)];exact q w (L.ws.mp b)
 .rw[<-d l g w b,<-d j f w b];exact q w (L.ws.mpr b)
def Lang(M1 M2:Mc):Prop:=M1.m=M2.m/\∀w,M1.ws w->M1.y (M1.led 0 w)=M2.y (M2.led 0 w)
theorem Lang.symm(h:Lang M1 M2):Lang M2 M1:=⟨h.1.symm,λw a=>(h.2 w (by unfold Mc.ws at a⊢;rw[h.1];exact a)).symm⟩
theorem Lang.trans{M3:Mc}(h:Lang M1 M2)(h':Lang M2 M3):Lang M1 M3:=⟨h.1.trans h'.1,λw a=>(h.2 w a).trans (h'.2 w (by unfold Mc.ws at a⊢;rw[<-h.1];exact a))⟩
theorem LeanM.tells(L:LeanM M N h):Lang M N:=by
 have z:M.rc 0:=⟨[],by simp[Mc.ws],rfl⟩;refine⟨L.mm.symm,λw c=>?_⟩;obtain⟨a,b⟩:=L.led z c;rw[L.z]at a;rw[a,L.ye _ b]
theorem LeanM.lang(L:LeanM M1 N h1)(D:M2.ok)(n2:1<=M2.n)(o:Lang M1 M2):∃h2,LeanM M2 N h2:=by
 obtain⟨A,o⟩:=o;have z:M1.rc 0:=⟨[],by simp[Mc.ws],rfl⟩;have g:∀w,M2.ws w↔M1.ws w:=λw=>by unfold Mc.ws;rw[A]
 have i:∀w,M1.ws w->M1.rc (M1.led 0 w):=λw f=>⟨w,f,rfl⟩;have H:∀r,∃k:Nat,M2.rc r->∃w,M2.ws w/\M2.led 0 w=r/\h1 (M1.led 0 w)=k:=λr=>by
  by_cases c:M2.rc r
  .obtain⟨w,f,e⟩:=c;exact⟨h1 (M1.led 0 w),λ_=>⟨w,f,e,rfl⟩⟩
  .exact⟨0,λq=>absurd q c⟩
 let h2:Nat->Nat:=λr=>Classical.choose (H r)
 have F:∀r,M2.rc r->∃w,M2.ws w/\M2.led 0 w=r/\h1 (M1.led 0 w)=h2 r:=λr=>Classical.choose_spec (H r);have h:∀w,M2.ws w->h2 (M2.led 0 w)=h1 (M1.led 0 w):=λw f=>by
  obtain⟨J,t,e,O⟩:=F _ ⟨w,f,rfl⟩;rw[<-O];refine(L.inj _ _ (i J ((g _).mp t)) (i w ((g _).mp f))).mpr λu j=>?_;rw[<-Mc.led_app',<-Mc.led_app',o _ (jik ((g _).mp t) j),o _ (jik ((g _).mp f) j),Mc.led_app',Mc.led_app',e]
 have I:∀w,M2.ws w->N.y (h1 (M1.led 0 w))=M2.y (M2.led 0 w):=λw f=>by rw[L.ye _ (i w ((g _).mp f)),o w ((g _).mp f)]
 refine⟨h2,L.ok,L.n1,?_,by rw[L.mm,A],?_,λr l=>?_,λr a l G=>?_,λr l=>?_,λr s l K=>?_,λk p=>?_⟩
 .have C:∀k,k<N.n->∃r,M2.rc r/\h2 r=k:=λk p=>by
   obtain⟨r,⟨w,f,e⟩,B⟩:=L.sur k p;exact⟨M2.led 0 w,⟨w,(g _).mpr f,rfl⟩,by rw[h w ((g _).mpr f),e,B]⟩
  have:=L2.nodup_len (List.range N.n) ((List.range M2.n).map h2) Iv λk p=>by
   obtain⟨r,l,e⟩:=C k (Av.mp p);exact Am.mpr ⟨r,Av.mpr (Mc.rc_lt D n2 l),e⟩
  rw[Ac,A1,A1]at this;exact this
 .have:=h [] (by simp[Mc.ws]);exact this.trans L.z
 .obtain⟨w,f,rfl⟩:=l;rw[h w f];exact L.lt _ (i w ((g _).mp f))
 .obtain⟨w,f,rfl⟩:=l;have E:M2.ws (w++[a]):=jik f (λb M=>by cases Ag.mp M;exact G);have e:M2.d (M2.led 0 w) a=M2.led 0 (w++[a]):=by rw[Mc.led_app'];rfl
  have P:M1.d (M1.led 0 w) a=M1.led 0 (w++[a]):=by rw[Mc.led_app'];rfl
  rw[e,h _ E,<-P,h w f];exact L.st _ a (i w ((g _).mp f)) (by rw[A];exact G)
 .obtain⟨w,f,rfl⟩:=l;rw[h w f];exact I w f
 .obtain⟨w,f,rfl⟩:=l;obtain⟨v,x,rfl⟩:=K;rw[h w f,h v x,L.inj _ _ (i w ((g _).mp f)) (i v ((g _).mp x))];have m:∀w,M2.ws w->∀u,M2.ws u->M1.y (M1.led (M1.led 0 w) u)=M2.y (M2.led (M2.led 0 w) u):=λw f u j=>by
   rw[<-Mc.led_app',<-Mc.led_app'];exact o _ ((g _).mp (jik f j))
  refine⟨λq u j=>?_,λq u j=>?_⟩
  .rw[<-m w f u j,<-m v x u j];exact q u ((g _).mp j)
  .rw[m w f u ((g _).mpr j),m v x u ((g _).mpr j)];exact q u ((g _).mpr j)
 .obtain⟨r,⟨w,f,e⟩,B⟩:=L.sur k p;exact⟨M2.led 0 w,⟨w,(g _).mpr f,rfl⟩,by rw[h w ((g _).mpr f),e,B]⟩
structure Lst(M:Mc)(mv:List (List Nat))(m:Nat)(ys:List Bool):Prop where
 h:∃h,LeanM M (mcOf mv m ys) h
 b:Bf (dM mv) m 0 mv.length (List.range mv.length)
 ok:MvOk mv m
 yl:ys.length=mv.length
theorem Lst.one{c:List (List Nat)}{e:List Bool}(a:Lst M1 c m e)(b:Lst M2 mv2 m ys2)(o:Lang M1 M2):c=mv2/\e=ys2:=by
 obtain⟨s,g⟩:=a.h;obtain⟨q,i⟩:=b.h;obtain⟨k,n⟩:=g.refl;obtain⟨p,l⟩:=i.lang g.ok g.n1 (o.symm.trans g.tells);have f:∀r,(mcOf c m e).rc r↔r∈List.range c.length:=λr=>by rw[Av];exact n r
 have j:Bf (mcOf c m e).d m 0 (List.range c.length).length (List.range c.length):=by rw[A1];exact a.b
 exact LeanM.same k l a.ok b.ok a.yl b.yl f ((k.can a.ok f j).2 a.b) ((l.can b.ok f j).2 b.b)
theorem jp4(h:i<n):(List.range n).idxOf i=i:=by
 have a:i<(List.range n).length:=by rw[A1];exact h
 have:=(Iv (n:=n)).idxOf_getElem i a;rw[Ox]at this;exact this
theorem jh6(ok:MvOk mv m)(h1:r<mv.length):mv.getD r []=(List.range m).map (dM mv r):=by
 have b:mv.getD r []∈mv:=by rw[Af,Aa h1];exact Iq _
 refine Uc (by simpa using ok.ln _ b) λa d c=>?_;rw[Ud,Ox];have:=(ok.at_ h1 (show a<m by simpa using c)).1;rw[Aa d]at this;exact Aw this
theorem jq5(ok:MvOk mv m):cuM (dM mv) m (List.range mv.length)=mv:=by
 unfold cuM;refine Uc (by simp) λi d b=>?_;rw[Ud,Ox];have e:mv[i]=mv.getD i []:=by rw[Af,Aa b];rfl
 rw[e,jh6 ok b];refine Ib λa c=>jp4 (ok.at_ b (Av.mp c)).2
theorem jtn(h:ys.length=n):(List.range n).map (λr=>ys.getD r false)=ys:=by
 subst h;refine Uc (by simp) λi b a=>?_;rw[Ud,Ox,Af,Aa a];rfl
section
variable{mv mv':List (List Nat)}{m first:Nat}{ys ys':List Bool}{rs fr:List Nat}{G:Nat->Nat}
theorem jpx(ok:MvOk mv m)(c:first<mv.length)(bf:Bf (dM mv) m first rs.length rs)(hr:r∈rs)(ha:a<m):dM (cuM (dM mv) m rs) (rs.idxOf r) a=rs.idxOf (dM mv r a)/\dM mv r a∈rs:=by
 have d:=bf.inv (n:=mv.length) c (λr a hr ha=>(ok.at_ hr ha).2);have b:rs[rs.idxOf r]?=some r:=by rw[Aa (A7.mpr hr),Oc]
 exact⟨jhj b ha,d.cl r (by rw[Im];exact hr) a ha⟩
theorem jpw(ok:MvOk mv m)(d:first<mv.length)(bf:Bf (dM mv) m first rs.length rs):rs.idxOf first=0/\first∈rs:=by
 have e:=bf.inv (n:=mv.length) d (λr a b c=>(ok.at_ b c).2);have:=e.z
 cases rs with
 |nil=>simp at this
 |cons x r=>simp at this;subst this;simp
theorem jk8(ok:MvOk mv m)(f:first<mv.length)(bf:Bf (dM mv) m first rs.length rs)(d c:List Bool):∀(w:List Nat)(r:Nat),(∀a∈w,a<m)->r∈rs->(mcOf (cuM (dM mv) m rs) m d).led (rs.idxOf r) w=rs.idxOf ((mcOf mv m c).led r w)/\(mcOf mv m c).led r w∈rs
 |[],r,_,h=>⟨rfl,h⟩
 |a::w,r,hw,h=>by
  obtain⟨e,q⟩:=jpx ok f bf h (hw a (.head _));have:=jk8 ok f bf d c w (dM mv r a) (λb g=>hw b (.tail _ g)) q;refine⟨?_,this.2⟩;show(mcOf (cuM (dM mv) m rs) m d).led (dM (cuM (dM mv) m rs) (rs.idxOf r) a) w=_;rw[e];exact this.1
theorem jm4(ok:MvOk mv m)(l:first<mv.length)(bf:Bf (dM mv) m first rs.length rs):Bf (dM (cuM (dM mv) m rs)) m 0 rs.length (List.range rs.length):=by
 have o:=bf.inv (n:=mv.length) l (λr a c b=>(ok.at_ c b).2);have p:=jdp o;have B:(cuM (dM mv) m rs).length=rs.length:=by simp[cuM]
 obtain⟨z,s⟩:=jpw ok l bf;have y:1<=rs.length:=(Ab.mp o.z).1;have f:=(Bf.image (g:=dM mv) (g':=dM (cuM (dM mv) m rs)) (h:=rs.idxOf) (P:=(·∈rs)) (n':=rs.length) s (λr c a b=>let⟨e,q⟩:=jpx ok l bf c b;⟨q,e.symm⟩) (by rw[z];omega) (λr a c b=>by have:=(p.at_ (show r<(cuM (dM mv) m rs).length by omega) b).2;omega) bf).1;rw[z,Im]at f;have e:rs.map rs.idxOf=List.range rs.length:=by
  refine Uc (by simp) λi A w=>?_;rw[Ud,Ox,o.nd.idxOf_getElem i (by simpa using w)]
 have d:ddp (List.range rs.length)=List.range rs.length:=by
  refine jhk (λi k v j t=>?_) (λx=>Av);obtain⟨u,e⟩:=Ab.mp v;rw[Ox]at e;rw[A1]at u;subst e;exact⟨j,t,Oz (by omega)⟩
 rw[e,d,A1]at f;exact f
theorem LS.self(S:LS mv m ys first mv' ys' rs G fr)(ok:MvOk mv m)(e:first<mv.length):LS (cuM (dM mv) m rs) m (rs.map λr=>ys.getD r false) 0 mv' ys' (List.range rs.length) G fr:=by
 have j:=S.bf.inv (n:=mv.length) e (λr a b h=>(ok.at_ b h).2);have c:=jdp j;have i:(cuM (dM mv) m rs).length=rs.length:=by simp[cuM]
 have g:cuM (dM (cuM (dM mv) m rs)) m (List.range rs.length)=cuM (dM mv) m rs:=by
  have:=jq5 c;rw[i]at this;exact this
 have f:(List.range rs.length).map (λr=>(rs.map λr=>ys.getD r false).getD r false)=rs.map λr=>ys.getD r false:=jtn (by simp);refine⟨by rw[A1];exact jm4 ok e S.bf,λr s b d=>?_,by rw[A1];exact S.mg,?_,?_⟩
 .rw[A1]at b d;rw[g,f];exact S.gr r s b d
 .rw[g];exact S.em
 .rw[f];exact S.ey
theorem LS.lst(S:LS mv m ys first mv' ys' rs G fr)(ok:MvOk mv m)(d:first<mv.length):Lst (mcOf (cuM (dM mv) m rs) m (rs.map λr=>ys.getD r false)) mv' m ys':=by
 have f:=S.bf.inv (n:=mv.length) d (λr a j k=>(ok.at_ j k).2);have c:=jdp f;have p:(cuM (dM mv) m rs).length=rs.length:=by simp[cuM]
 have o:1<=rs.length:=(Ab.mp f.z).1;have h:=S.self ok d;obtain⟨L,b,e⟩:=h.lean c (by omega);have l:=jm4 ok d S.bf;have g:Bf (dM (cuM (dM mv) m rs)) m 0 (List.range rs.length).length (List.range rs.length):=by rw[A1];exact l
 have i:=jlx (ys:=rs.map λr=>ys.getD r false) c (by omega) g;exact⟨⟨_,L⟩,(L.can b i g).1 (h.rg Iv),b,e⟩
theorem LS.tells(S:LS mv m ys first mv' ys' rs G fr)(ok:MvOk mv m)(b:first<mv.length)(w:List Nat)(d:∀a∈w,a<m):(mcOf (cuM (dM mv) m rs) m (rs.map λr=>ys.getD r false)).y ((mcOf (cuM (dM mv) m rs) m (rs.map λr=>ys.getD r false)).led 0 w)=(mcOf mv m ys).y ((mcOf mv m ys).led first w):=by
 obtain⟨z,c⟩:=jpw ok b S.bf;obtain⟨e,q⟩:=jk8 ok b S.bf (rs.map λr=>ys.getD r false) ys w first d c;rw[z]at e;rw[e];exact jor q
end
theorem js7(ok:MvOk mv m)(n1:1<=mv.length)(bf:Bf (dM mv) m 0 rs.length rs){b:List Nat}{c:Nat}(ln:cl.length=rs.length)
  (p:∀r s,r<rs.length->s<rs.length->(cl.getD r 0=cl.getD s 0↔(mcOf (cuM (dM mv) m rs) m (rs.map λr=>ys.getD r false)).eq r s)) (dn:∀x,x∈cl↔x<c) (O:Ord cl b c) {rs3:List Nat}
  (i:Bf (dM (mvN (cuM (dM mv) m rs) m cl b)) m 0 rs3.length rs3) :
  Lst (mcOf mv m ys) (cuM (dM (mvN (cuM (dM mv) m rs) m cl b)) m rs3) m (rs3.map λr=>(ysN (rs.map λr=>ys.getD r false) cl b).getD r false):=by
 obtain⟨L,d,f,t⟩:=jle ok n1 bf ln p dn O
 have h:=jlx (ys:=ys) ok n1 bf
 obtain⟨j,k,q⟩:=L.anew d f i h bf
 have g:=i.inv (n:=(mvN (cuM (dM mv) m rs) m cl b).length) L.n1 (λr a l o=>(d.at_ l o).2)
 have e:=jdp g
 exact⟨⟨_,j⟩,(j.can e h bf).1 k,e,by simp[cuM]⟩
def jkj:Sp:=λvs H Q _=>∃(p pm py:Addr)(z:Str)(us:List V)(mv:List (List Nat))(m:Nat)(ys:List Bool),vs=[.ref p]/\MH H p z pm py us mv m ys/\mv.length<=75/\1<=m /\
 ∀(q a1 a2:Addr)(us':List V)(mv':List (List Nat))(ys':List Bool)(H':Hp),Lst (mcOf mv m ys) mv' m ys'->H' q=some (.tup [.str z,.ref a1,.ref a2])->H' a1=some (.tup us')->RowsM H' us' mv'->H' a2=some (.tup (ys'.map V.bl))->Kp [] H H'->Q (.ref q) H'
structure TLst(mg:Str->Option Value)(fn:Addr):Prop where
 n_range:mg "range"=none
 n_tuple:mg "tuple"=none
 n_len:mg "len"=none
 n_sorted:mg "sorted"=none
 n_int:mg "int"=none
 n_set:mg "set"=none
 m8z:mg "_law_numbered"=some (.ref fn)
def boV:V->V
 |.bl b=>.int (if b then 1 else 0)
 |v=>v
def cl0(ys:List Bool):List Nat:=ys.map λb=>if b then 1 else 0
def gtN(cl:List Nat):V->V
 |.int t=>.int (cl.getD t.toNat 0:Nat)
 |v=>v
def cI(l:List Nat):List Int:=l.map λx:Nat=>(x:Int)
theorem jhg:∀{a b:List Nat},cI a=cI b->a=b
 |[],[],_=>rfl
 |[],_::_,h=>by cases h
 |_::_,[],h=>by cases h
 |x::a,y::b,h=>by
  have h:(x:Int)::cI a=(y:Int)::cI b:=h;injection h with h1 h2;rw[jhg h2,show x=y by omega]
theorem jpc:∀k:List Nat,(cI k).map Int.toNat=k
 |[]=>rfl
 |x::k=>by
  show((x:Int)).toNat::(cI k).map Int.toNat=x::k;rw[jpc k,Int.toNat_natCast]
def kxV(bs':List Addr)(kf:Addr->List Int):V->V
 |.ref b=>.int ((bs'.map kf).idxOf (kf b):Nat)
 |v=>v
theorem jfe(l:List Nat):(cI l).map V.int=l.map nV:=by unfold cI;rw[Az];rfl
theorem jp1(ks:List (List Nat))(k:List Nat):(ks.map cI).idxOf (cI k)=ks.idxOf k:=by
 induction ks with
 |nil=>rfl
 |cons x ks ih =>
  rw[Au,Yj,Yj,ih];have:(cI x == cI k)=(x == k):=by
   by_cases c:x=k
   .subst c;simp
   .rw[Ue.mpr c,Ue.mpr λz=>c (jhg z)]
  rw[this]
def jcz(H:Hp)(b:Addr):List Int:=match H b with
 |some (.tup vs)=>vs.map λv=>match v with|.int i=>i|_=>0
 |_=>[]
theorem jdz{k:List Int}(e:H b=some (.tup (k.map V.int))):jcz H b=k:=by
 unfold jcz;rw[e];show(k.map V.int).map _=k;rw[Az];exact(Ib (λ_ _=>rfl)).trans (Wi k)
theorem jms{c:List Int}(nd:c.Nodup)(mem:∀x,x∈c↔x∈cl.map λx:Nat=>(x:Int)):c.length=(ddp cl).length:=by
 have a:((ddp cl).map λx:Nat=>(x:Int)).Nodup:=U7.mpr (List.Pairwise.imp (λh=>by omega) (je5 cl));have p:c.Perm ((ddp cl).map λx:Nat=>(x:Int)):=(U2 nd a).mpr λx=>by
  rw[mem,Am,Am];exact⟨fun⟨y,h,e⟩=>⟨y,(jdb _ _).mpr h,e⟩,fun⟨y,h,e⟩=>⟨y,(jdb _ _).mp h,e⟩⟩
 rw[p.length_eq,Ac]
theorem cli0(yl:ys.length=mv.length):CLI (mcOf mv m ys) 0 (cl0 ys):=by
 have g:∀r,r<mv.length->(cl0 ys).getD r 0=if ys.getD r false then 1 else 0:=λr a=>by
  unfold cl0;rw[Af,Ah,Af,Aa (by omega)];rfl
 refine⟨by simp[cl0,mcOf,yl],λr s a b=>?_⟩;rw[g r a,g s b];refine⟨λe w d c=>?_,λh=>?_⟩
 .rw[Os.mp (Nat.le_zero.mp c)];show ys.getD r false=ys.getD s false;revert e
  cases ys.getD r false <;> cases ys.getD s false <;> simp
 .have:ys.getD r false=ys.getD s false:=h [] (by simp[Mc.ws]) (Ao _);rw[this]
theorem RowsM.snoc{a:Addr}{row:List Nat}(h:RowsM H us mv)(e:H a=some (.tup (row.map nV))):RowsM H (us++[.ref a]) (mv++[row]):=by
 unfold RowsM at h⊢;induction h with
 |nil=>exact .cons ⟨a,rfl,e⟩ .nil
 |cons r _ ih=>exact .cons r ih
section
variable{P:Program}{w:World}{K:PySem.W.Frag}{mg:Str->Option Value}{base:Heap}
abbrev ko:Stmt:=top 25
theorem j9:FnScope ["_law_machine_here","_law_letters_here","_law_moves","_law_yes","_law_classes","_law_many","_law_keys","_law_room","_law_some","_law_firsts","_law_begin","_law_order","_law_rows","_law_one"] ["_law_machine_here"] (jg ko):=⟨rfl,rfl,rfl,by decide +kernel,rfl,by decide +kernel,by decide +kernel⟩
theorem ok__law_least{fn:Addr}{a5:FuncData}(F:Fun K "_law_least" "_law_least" ko f fd)(T:TLst mg fn)(F8z:Fun K "_law_numbered" "_law_numbered" yg fn a5)(b8z:Binds K a5 ["_law_letters_here","_law_moves","_law_yes"] [])(br:FnOk P w K mg base CX0 1 fn a5 ["_law_letters_here","_law_moves","_law_yes"] spNb):FnOk P w K mg base CX0 2 f fd ["_law_machine_here"] jkj:=by
 refine F.ok j9 (λvs H Q E h=>?_) (λcu A co s H vs Q E hr h=>?_)
 .obtain⟨p,pm,py,z,us,mv,m,ys,rfl,_⟩:=h;rfl
 .obtain⟨p,pm,py,z,us,mv,m,ys,rfl,M,cs,m1,k⟩:=h;have hu:=hr.units;have ct:sizeLine=16777216:=Iz;have m9:=M.m9;refine exQ (jf (ja3 (jv br (hr.mono (by decide)) rfl T.m8z F8z.kp b8z .nil kc (ja (jr ix_U (qpv 0) jh (λ_ _=>rfl)) (ja (jr ix_U (qpv 0) jh (λ_ _=>rfl)) (ja (jr ix_U (qpv 0) jh (λ_ _=>rfl)) jc)))) (ja2 (n:=3) rfl (ze (jq (i:=1) j9.nd rfl (by ac_rfl)) (ze (jq (i:=2) j9.nd rfl (by ac_rfl)) (ze (jq (i:=3) j9.nd rfl (by ac_rfl)) jau))) (K:=K) rfl))
  (jf (jo (i:=4) j9.nd rfl (by ac_rfl) (ku rfl (jci (sc:=jg ko) (N:=["_law_machine_here","_law_letters_here","_law_moves","_law_yes","_law_classes","_law_many","_law_keys","_law_room","_law_some","_law_firsts","_law_begin","_law_order","_law_rows","_law_one"]) (Nc:=["_law_one"]) (js:=[none]) (by decide +kernel)) (j7 (K:=K) (qpv 3) rfl) (λ_ _ _ _=>(jq (i:=0) (show List.Nodup [("_law_one":Str)]from by decide +kernel) rfl (by ac_rfl))) (λ_ _ _ _=>(ju jbm (by rfl) T.n_int jcc (ja (qpv 0) jc)))))
  (jf (jo (i:=5) j9.nd rfl (by ac_rfl) jh)
  (yf (z6 Ip (j8 jao (qpv 5) (ja7 rfl rfl T.n_len rfl T.n_set (qpv 4)) (yd _)) (jf (jo (i:=5) j9.nd rfl (by ac_rfl) (ja7 rfl rfl T.n_len rfl T.n_set (qpv 4)))
  (jf (jo (i:=6) j9.nd rfl (by ac_rfl) (kx jc))
  (jf (yh Ip rfl (yb rfl T.n_range (ja (jt jw (by rfl) T.n_len j3 (ja (qpv 3) jc)) jc)) (jq (i:=7) j9.nd rfl (by ac_rfl)) (jj (kj (kh Ii Ij ki (qpv 6) (ja (j4 yw (y9 (ja (jr ix_U (qpv 4) (qpv 7) (λ_ _=>rfl)) jc)) (ju jz (by rfl) T.n_tuple kg (ja (ku rfl (jci (sc:=jg ko) (N:=["_law_machine_here","_law_letters_here","_law_moves","_law_yes","_law_classes","_law_many","_law_keys","_law_room","_law_some","_law_firsts","_law_begin","_law_order","_law_rows","_law_one"]) (Nc:=["_law_goal","_law_classes"]) (js:=[none,some 4]) (by decide +kernel)) (j7 (K:=K) (jr ix_U (qpv 2) (qpv 7) (λ_ _=>rfl)) rfl) (λ_ _ _ _=>(jq (i:=0) (show List.Nodup [("_law_goal":Str),("_law_classes":Str)]from by decide +kernel) rfl (by ac_rfl))) (λ_ _ _ _=>(jr ix_U (qpv 1) (qpv 0) (λ_ _=>rfl)))) jc))) jc) jcl))))
  (jf (jo (i:=8) j9.nd rfl (by ac_rfl) (qpe_sortedSetA rfl hu rfl T.n_sorted rfl T.n_set (qpv 6)))
  (jj (jo (i:=4) j9.nd rfl (by ac_rfl) (ku rfl (jci (sc:=jg ko) (N:=["_law_machine_here","_law_letters_here","_law_moves","_law_yes","_law_classes","_law_many","_law_keys","_law_room","_law_some","_law_firsts","_law_begin","_law_order","_law_rows","_law_one"]) (Nc:=["_law_key","_law_some"]) (js:=[none,some 8]) (by decide +kernel)) (j7 (K:=K) (qpv 6) rfl) (λ_ _ _ _=>(jq (i:=0) (show List.Nodup [("_law_key":Str),("_law_some":Str)]from by decide +kernel) rfl (by ac_rfl))) (λ_ _ _ _=>(kh Wd We (jaf hu) (qpv 1) (ja (qpv 0) jc) jcl))))))))))
  (jf (jo (i:=9) j9.nd rfl (by ac_rfl) (ku rfl (jci (sc:=jg ko) (N:=["_law_machine_here","_law_letters_here","_law_moves","_law_yes","_law_classes","_law_many","_law_keys","_law_room","_law_some","_law_firsts","_law_begin","_law_order","_law_rows","_law_one"]) (Nc:=["_law_one","_law_classes"]) (js:=[none,some 4]) (by decide +kernel)) (yb rfl T.n_range (ja (qpv 5) jc)) (λ_ _ _ _=>(jq (i:=0) (show List.Nodup [("_law_one":Str),("_law_classes":Str)]from by decide +kernel) rfl (by ac_rfl))) (λ_ _ _ _=>(kh Wd We (jaf hu) (qpv 1) (ja (qpv 0) jc) jcl))))
  (jf (jo (i:=10) j9.nd rfl (by ac_rfl) (jr ix_U (qpv 4) jh (λ_ _=>rfl)))
  (yf (jo (i:=11) j9.nd rfl (by ac_rfl) (j4 yw (kx (ja (qpv 10) jc)) (jai rfl (jci (sc:=jg ko) (N:=["_law_machine_here","_law_letters_here","_law_moves","_law_yes","_law_classes","_law_many","_law_keys","_law_room","_law_some","_law_firsts","_law_begin","_law_order","_law_rows","_law_one"]) (Nc:=["_law_one","_law_begin"]) (js:=[none,some 10]) (by decide +kernel)) (yb rfl T.n_range (ja (qpv 5) jc)) (λ_ _ _ _=>(jq (i:=0) (show List.Nodup [("_law_one":Str),("_law_begin":Str)]from by decide +kernel) rfl (by ac_rfl))) (λ_ _ _ _=>(j8 (ja0 hu) (qpv 0) (qpv 1) (yd _))) (λ_ _ _ _=>(qpv 0)))))
  (jf (jo (i:=12) j9.nd rfl (by ac_rfl) (kx jc))
  (yf (yh Ip rfl (j7 (K:=K) (qpv 11) rfl) (jq (i:=13) j9.nd rfl (by ac_rfl)) (jj (kj (kh Ii Ij ki (qpv 12) (ja (ju jz (by rfl) T.n_tuple kg (ja (ku rfl (jci (sc:=jg ko) (N:=["_law_machine_here","_law_letters_here","_law_moves","_law_yes","_law_classes","_law_many","_law_keys","_law_room","_law_some","_law_firsts","_law_begin","_law_order","_law_rows","_law_one"]) (Nc:=["_law_goal","_law_order","_law_classes"]) (js:=[none,some 11,some 4]) (by decide +kernel)) (j7 (K:=K) (jr ix_U (qpv 2) (jr ix_U (qpv 9) (qpv 13) (λ_ _=>rfl)) (λ_ _=>rfl)) rfl) (λ_ _ _ _=>(jq (i:=0) (show List.Nodup [("_law_goal":Str),("_law_order":Str),("_law_classes":Str)]from by decide +kernel) rfl (by ac_rfl))) (λ_ _ _ _=>(kh Wd We (jaf hu) (qpv 1) (ja (jr ix_U (qpv 2) (qpv 0) (λ_ _=>rfl)) jc) jcl))) jc)) jc) jcl))))
  (jj (ka (jv br (hr.mono (by decide)) rfl T.m8z F8z.kp b8z .nil kc (ja (qpv 1) (ja (ju jz (by rfl) T.n_tuple kg (ja (qpv 12) jc)) (ja (ju jz (by rfl) T.n_tuple kg (ja (ku rfl (jci (sc:=jg ko) (N:=["_law_machine_here","_law_letters_here","_law_moves","_law_yes","_law_classes","_law_many","_law_keys","_law_room","_law_some","_law_firsts","_law_begin","_law_order","_law_rows","_law_one"]) (Nc:=["_law_one","_law_yes","_law_firsts"]) (js:=[none,some 3,some 9]) (by decide +kernel)) (j7 (K:=K) (qpv 11) rfl) (λ_ _ _ _=>(jq (i:=0) (show List.Nodup [("_law_one":Str),("_law_yes":Str),("_law_firsts":Str)]from by decide +kernel) rfl (by ac_rfl))) (λ_ _ _ _=>(jr ix_U (qpv 1) (jr ix_U (qpv 2) (qpv 0) (λ_ _=>rfl)) (λ_ _=>rfl)))) jc)) jc))))))))))))))) ?_
  simp! [M.hp];refine⟨pm,py,z,us,mv,m,ys,rfl,M.hm,M.rw,M.ok,M.hy,M.yl,M.n1,M.n9,M.m9,λq b1 b2 us1 X H1 bf eq bn R1 am k1=>?_⟩;have bi:=bf.inv (n:=mv.length) M.n1 (λr a hr ha=>(M.ok.at_ hr ha).2);have rl:X.length<=mv.length:=jc0 bi.nd bi.lt;have r1:1<=X.length:=(Ab.mp bi.z).1;have ag:=jdp bi;have cL:(cuM (dM mv) m X).length=X.length:=by simp[cuM]
  have yl:(X.map λr=>ys.getD r false).length=X.length:=by simp
  have af:∀{d order:List Nat}{many:Nat},d.length=X.length->(∀r s,r<X.length->s<X.length->(d.getD r 0=d.getD s 0↔(mcOf (cuM (dM mv) m X) m (X.map λr=>ys.getD r false)).eq r s))->(∀x,x∈d↔x<many)->Ord d order many->MvOk (mvN (cuM (dM mv) m X) m d order) m/\∀{ad:List Nat},Bf (dM (mvN (cuM (dM mv) m X) m d order)) m 0 ad.length ad->Lst (mcOf mv m ys) (cuM (dM (mvN (cuM (dM mv) m X) m d order)) m ad) m (ad.map λr=>(ysN (X.map λr=>ys.getD r false) d order).getD r false):=fun{d order many} h1 h2 h3 h4=>⟨(jle M.ok M.n1 bf h1 h2 h3 h4).2.1,fun{ad} h5=>js7 M.ok M.n1 bf h1 h2 h3 h4 h5⟩;generalize hC:cuM (dM mv) m X=C at R1 ag cL af;generalize hY:(X.map λr=>ys.getD r false)=B at am yl af;generalize hn:X.length=n at rl r1 cL yl af;have cq:us1.length=n:=by rw[<-cL];exact Iw R1
  have a8:=jdt (ys:=B) ag;have bz:B.length=C.length:=by omega
  have Cn:(mcOf C m B).n=n:=cL;refine⟨q,_,rfl,SqT.of eq,rfl,⟨_,_,rfl,⟨_,_,rfl,⟨_,_,rfl,rfl,?_⟩⟩⟩⟩;simp! [am];intro D hD;refine jdo boV am hD (by rw[Ac];omega) (λx S l Q' q=>?_) λvv=>?_
  .obtain⟨b,_,rfl⟩:=Am.mp S;simp!;exact q
  dsimp only;have k2:Kp [] H1 (upd H1 D (.lst ((B.map V.bl).map boV))):=(Kp.refl [] H1).new hD;have e2:upd H1 D (.lst ((B.map V.bl).map boV)) D=some (.lst ((cl0 B).map nV)):=by
   rw[jb,Az];unfold cl0;rw[Az];congr 2;refine Ib λb _=>?_
   cases b <;> rfl
  generalize upd H1 D (.lst ((B.map V.bl).map boV))=H2 at k2 e2⊢;obtain⟨V0,bh⟩:∃V0:L2.St->Hp->Prop,∀L y,V0 L y↔(∃(d:List Nat)(many:Nat)(pc:Addr)(v6 Z v8:Option V),L=[some (.ref p),some (.str z),some (.ref b1),some (.ref b2),some (.ref pc),some (.int (many:Int)),v6,Z,v8,none,none,none,none,none]/\y pc=some (.lst (d.map nV))/\d.length=n/\(∀r s,r<n->s<n->(d.getD r 0=d.getD s 0↔(mcOf C m B).eq r s))/\(∀x,x∈d↔x<many)/\Kp [] H1 y):=⟨_,λ_ _=>O2⟩;refine⟨V0,?_,?_⟩
  .obtain⟨V1,a0⟩:∃V1:Nat->L2.St->Hp->Prop,∀μ L y,V1 μ L y↔(∃(i:Nat)(d:List Nat)(many:Nat)(pc:Addr)(v6 Z v8:Option V),L=[some (.ref p),some (.str z),some (.ref b1),some (.ref b2),some (.ref pc),some (.int (many:Int)),v6,Z,v8,none,none,none,none,none]/\y pc=some (.lst (d.map nV))/\CLI (mcOf C m B) i d/\(i=0/\many=0\/∃i' clp,i=i'+1/\CLI (mcOf C m B) i' clp/\many=(ddp clp).length/\∀x,x∈d↔x<(ddp d).length)/\many<=n/\Kp [] H1 y/\μ=n-many):=⟨_,λ_ _ _=>O2⟩;refine⟨V1,⟨_,(a0 _ _ _).mpr ⟨0,cl0 B,0,D,none,none,none,rfl,e2,cli0 bz,.inl ⟨rfl,rfl⟩,Op _,k2,rfl⟩⟩,?_⟩;intro μ σ H3 G;obtain⟨i,d,many,pc,v6,Z,v8,rfl,e3,CL,st,mn,k3,rfl⟩:=(a0 _ _ _).mp G;clear G;have ao:d.length=n:=by rw[CL.ln,Cn]
   have dl:(ddp d).length<=n:=by
    have:=L2.nodup_len (ddp d) d (je5 d) λx S=>(jdb _ _).mp S;omega
   have d1:1<=(ddp d).length:=by
    cases d with
    |nil=>simp at ao;omega
    |cons x l=>exact Wh ((jdb (x::l) x).mpr (.head _))
   simp!;refine⟨d.map λx:Nat=>(x:Int),by rw[e3,jiv],by rw[Ac];omega,λc nd ab=>?_⟩;rw[jms nd ab];by_cases cc:many<(ddp d).length
   .rw[Al (by simpa using cc)];obtain⟨V2,bg⟩:∃V2:L2.St->Hp->Prop,∀L y,V2 L y↔(∃(ah:List Nat)(ap:Addr)(v6 Z v8:Option V),L=[some (.ref p),some (.str z),some (.ref b1),some (.ref b2),some (.ref ap),some (.int ((ddp d).length:Int)),v6,Z,v8,none,none,none,none,none]/\y ap=some (.lst (ah.map nV))/\CLI (mcOf C m B) (i+1) ah/\(∀x,x∈ah↔x<(ddp ah).length)/\Kp [] H1 y):=⟨_,λ_ _=>O2⟩;refine⟨V2,λL y G=>?_,?_⟩
    .obtain⟨ah,ap,w6,w7,w8,h1,h2,h3,h4,h5⟩:=(bg _ _).mp G;exact⟨n-(ddp d).length,by omega,(a0 _ _ _).mpr ⟨i+1,ah,(ddp d).length,ap,w6,w7,w8,h1,h2,h3,.inr ⟨i,d,rfl,CL,rfl,h4⟩,dl,h5,rfl⟩⟩
    refine⟨d.map λx:Nat=>(x:Int),by rw[e3,jiv],by rw[Ac];omega,λc nd ab=>?_⟩;rw[jms nd ab];refine⟨by omega,λpk bc=>?_⟩;have kK:Kp [] H3 (upd H3 pk (.lst [])):=(Kp.refl [] H3).new bc;have e4:upd H3 pk (.lst []) pk=some (.lst []):=jb;generalize upd H3 pk (.lst [])=H4 at kK e4⊢;rw[(k3.trans kK).tup _ _ am];refine⟨_,rfl,by rw[Ac];omega,by rw[Ac];omega,?_⟩;rw[Ac,yl,show((n:Int)).toNat=n by omega];obtain⟨V3,av⟩:∃V3:Nat->L2.St->Hp->Prop,∀j σ y,V3 j σ y↔(∃(Y:List Addr)(Z:Option V),σ=[some (.ref p),some (.str z),some (.ref b1),some (.ref b2),some (.ref pc),some (.int ((ddp d).length:Int)),some (.ref pk),Z,v8,none,none,none,none,none]/\y pk=some (.lst (Y.map V.ref))/\Y.length=j/\(∀(r:Nat)(b:Addr),Y[r]?=some b->y b=some (.tup ((cI (keyL (mcOf C m B) d r)).map V.int)))/\Kp [] H3 y):=⟨_,λ_ _ _=>O2⟩;refine jcr V3 ((av _ _ _).mpr ⟨[],Z,rfl,e4,rfl,λr b e=>by simp at e,kK⟩) ?_ ?_
    .intro j σ H5 hj G;obtain⟨Y,Z,rfl,e5,bl,bt,k5⟩:=(av _ _ _).mp G;clear G;have bq:=k5.old _ _ e3 Ae;have bx:=(k3.trans k5).tup _ _ bn;obtain⟨cr,az,au⟩:=(R1.kp (k3.trans k5)).get (show C[j]?=some (C.getD j [])by rw[Af,Aa (by omega)];rfl);simp! [e5,bq,Ui];refine⟨nV (d.getD j 0),jch (by rw[Ah,Af,Aa (by omega)];rfl),by omega,λt1 b9=>?_⟩;have kA:Kp [] H5 (upd H5 t1 (.tup [nV (d.getD j 0)])):=(Kp.refl [] H5).new b9;have f1:upd H5 t1 (.tup [nV (d.getD j 0)]) t1=some (.tup [nV (d.getD j 0)]):=jb;generalize upd H5 t1 (.tup [nV (d.getD j 0)])=H6 at kA f1⊢;have aw:=kA.tup _ _ au;have cm:=kA.old _ _ bq Ae;rw[kA.tup _ _ bx];refine⟨_,rfl,.ref cr,jch az,?_⟩;dsimp only;rw[aw];intro D2 R;have jC:j<C.length:=by omega
     have J:=jh6 ag jC;refine jdo (gtN d) aw R (by rw[J];simp;omega) (λx S l Q' q=>?_) λvv=>?_
     .obtain⟨t,ht,rfl⟩:=Am.mp S;have tn:t<n:=by
       rw[J]at ht;obtain⟨a,ha,rfl⟩:=Am.mp ht;rw[<-cL];exact(ag.at_ jC (Av.mp ha)).2
      have e7:=((Kp.refl [] H6).new (o:=.lst l) R).old _ _ cm Ae;simp! [nV,e7];refine⟨.int (d.getD t 0:Nat),jch (by rw[Ah,Af,Aa (by omega)];rfl),?_⟩;exact q
     dsimp only;refine jcj jb λt2 ae=>?_;have er:((C.getD j []).map nV).map (gtN d)=((List.range m).map λa=>d.getD (dM C j a) 0).map nV:=by
      rw[J,Az,Az,Az];rfl
     rw[er]at ae⊢;have kB:Kp [] H6 (upd (upd H6 D2 (.lst (((List.range m).map λa=>d.getD (dM C j a) 0).map nV))) t2 (.tup (((List.range m).map λa=>d.getD (dM C j a) 0).map nV))):=((Kp.refl [] H6).new R).new ae;have f2:upd (upd H6 D2 (.lst (((List.range m).map λa=>d.getD (dM C j a) 0).map nV))) t2 (.tup (((List.range m).map λa=>d.getD (dM C j a) 0).map nV)) t2=some (.tup (((List.range m).map λa=>d.getD (dM C j a) 0).map nV)):=jb;generalize upd (upd H6 D2 (.lst (((List.range m).map λa=>d.getD (dM C j a) 0).map nV))) t2 (.tup (((List.range m).map λa=>d.getD (dM C j a) 0).map nV))=U at kB f2⊢;refine rAddW.tup (kB.tup _ _ f1) f2 (by simp) (by simp;omega) (by simp;omega) λt3 b8=>?_;have kC:Kp [] U (upd U t3 (.tup ([nV (d.getD j 0)]++((List.range m).map λa=>d.getD (dM C j a) 0).map nV))):=(Kp.refl [] U).new b8;have f3:upd U t3 (.tup ([nV (d.getD j 0)]++((List.range m).map λa=>d.getD (dM C j a) 0).map nV)) t3=some (.tup ((cI (keyL (mcOf C m B) d j)).map V.int)):=by
      rw[jb,jfe];rfl
     generalize upd U t3 (.tup ([nV (d.getD j 0)]++((List.range m).map λa=>d.getD (dM C j a) 0).map nV))=H8 at kC f3⊢;have ay:Kp [] H5 H8:=(kA.trans kB).trans kC;have e8:=ay.old _ _ e5 Ae;rw[e8];refine⟨_,rfl,by rw[Ac];omega,(av _ _ _).mpr ⟨Y++[t3],_,rfl,by rw[jb,A6];rfl,by rw[Aq,bl];rfl,λr b I=>?_,(k5.trans ay).set e8 (.inr bc)⟩⟩;have nb:∀{b:Addr}{xs:List V},H8 b=some (.tup xs)->b≠pk:=fun{b xs} h z=>by rw[z,e8]at h;cases h
     by_cases c1:r<Y.length
     .rw[A8 c1]at I;have:=ay.tup _ _ (bt r b I);rw[jd (nb this)];exact this
     .rw[A9 (by omega)]at I;have:r=Y.length:=by have:=(Ab.mp I).1;simp at this;omega
      subst this;simp at I;subst I;rw[jd (nb f3),bl];exact f3
    .intro σ H5 G;obtain⟨Y,Z,rfl,e5,bl,bt,k5⟩:=(av _ _ _).mp G;clear G;simp!;have ab:∀b∈Y,∃r,r<n/\H5 b=some (.tup ((cI (keyL (mcOf C m B) d r)).map V.int)):=λb I=>by
      obtain⟨r,as⟩:=Il I;exact⟨r,by have:=(Ab.mp as).1;omega,bt r b as⟩
     refine⟨Y,e5,jcz H5,λb I=>?_,by omega,λps W ca a6 nd mm=>?_⟩
     .obtain⟨r,_,e⟩:=ab b I;rw[jdz e];exact⟨e,by simp[cI,keyL]⟩
     have ax:∀(r:Nat)(b:Addr),Y[r]?=some b->jcz H5 b=cI (keyL (mcOf C m B) d r):=λr b I=>jdz (bt r b I);let ks:List (List Nat):=W.map λb=>(jcz H5 b).map Int.toNat
     have ek:W.map (jcz H5)=ks.map cI:=by
      show _=(W.map λb=>(jcz H5 b).map Int.toNat).map cI;rw[Az];refine Ib λb I=>?_;obtain⟨r,as⟩:=Il (a6 b I);show jcz H5 b=cI ((jcz H5 b).map Int.toNat);rw[ax r b as,jpc]
     have eb:Y.map (jcz H5)=((List.range n).map (keyL (mcOf C m B) d)).map cI:=by
      refine Wr λr=>?_;rw[Ah,Ah,Ah];by_cases c1:r<n
      .rw[Oz c1];have I:Y[r]?=some Y[r]:=Aa (by omega);rw[I];exact O6 some (ax r _ I)
      .rw[Oh (by omega),Oh (by rw[A1];omega)];rfl
     have b4:ks.Nodup:=by
      rw[ek]at nd;exact List.Pairwise.imp (λh e=>h (by rw[e])) (U7.mp nd)
     have b5:∀k,k∈ks↔k∈(List.range (mcOf C m B).n).map (keyL (mcOf C m B) d):=λk=>by
      have q:=mm (cI k);rw[ek,eb]at q;have ba:∀l:List (List Nat),cI k∈l.map cI↔k∈l:=λl=>⟨λh=>by obtain⟨x,h1,h2⟩:=Am.mp h;rw[<-jhg h2];exact h1,λh=>Am.mpr ⟨k,h,rfl⟩⟩;rw[ba,ba]at q;rw[Cn];exact q
     obtain⟨bu,dc,dn⟩:=CLI.next a8 CL b4 b5;rw[Cn]at bu dc dn;have kS:Kp [] H5 (upd H5 ps (.lst (W.map V.ref))):=(Kp.refl [] H5).new ca;have e6:upd H5 ps (.lst (W.map V.ref)) ps=some (.lst (W.map V.ref)):=jb;generalize upd H5 ps (.lst (W.map V.ref))=H6 at kS e6⊢;have bp:=kS.old _ _ e5 Ae;rw[bp];intro D2 R;refine jdn (kxV W (jcz H5)) bp R (by rw[Ac];omega) (λx S l Q' q=>?_) λvv=>?_
     .obtain⟨b,I,rfl⟩:=Am.mp S;obtain⟨r,_,bm⟩:=ab b I;have kN:=(Kp.refl [] H6).new (o:=.lst l) R;have bo:=kN.old _ _ e6 Ae;have b6:=jdz bm;simp! [bo];refine joj (kf:=jcz H5) bo (λb' cf=>?_) (kN.tup _ _ (kS.tup _ _ (by rw[b6];exact bm))) ((mm _).mpr (Am.mpr ⟨b,I,rfl⟩)) q;obtain⟨r',_,bk⟩:=ab b' (a6 b' cf);rw[jdz bk];exact kN.tup _ _ (kS.tup _ _ bk)
     dsimp only;refine(bg _ _).mpr ⟨_,D2,_,_,_,rfl,?_,bu,λx=>by rw[dc];exact dn x,(k3.trans k5).trans (kS.new R)⟩;rw[jb,Az,Az];congr 2;refine Wr λr=>?_;rw[Ah,Ah];by_cases c1:r<n
     .rw[Oz c1];have I:Y[r]?=some Y[r]:=Aa (by omega);rw[I];show some (V.int ((W.map (jcz H5)).idxOf (jcz H5 Y[r]):Nat))=some (V.int (ks.idxOf (keyL (mcOf C m B) d r):Nat));rw[ax r _ I,ek,jp1]
     .rw[Oh (by omega),Oh (by rw[A1];omega)];rfl
   .rw[Ai (by simpa using cc)];rcases st with⟨_,rfl⟩|⟨i',clp,rfl,CLp,rfl,dn⟩
    .omega
    have sb:=(CLp.mono CL).2 (by omega);have le:=(CLp.mono CL).1;have me:(ddp clp).length=(ddp d).length:=by omega
    refine(bh _ _).mpr ⟨d,(ddp clp).length,pc,_,_,_,rfl,e3,ao,λr s hr hs=>?_,by rw[me];exact dn,k3⟩;rw[CL.eq r s (by rw[Cn];exact hr) (by rw[Cn];exact hs),<-Mc.eqN_eq a8 sb (by rw[Cn];exact hr) (by rw[Cn];exact hs)];exact⟨λq=>((Mc.eqN_succ _ _ _ _).mp q).1,λq=>sb r s (by rw[Cn];exact hr) (by rw[Cn];exact hs) q⟩
  intro L H3 G;obtain⟨d,many,pc,v6,Z,v8,rfl,e3,ao,ce,dn,k3⟩:=(bh _ _).mp G;clear G;have mn:many<=n:=by
   have:=L2.nodup_len (List.range many) d Iv λx S=>(dn x).mpr (Av.mp S);rw[A1]at this;omega
  have c0:d.getD 0 0<many:=(dn _).mp (by rw[Af,Aa (by omega)];exact Iq _);simp!;refine⟨by omega,by omega,λD2 R=>?_⟩;rw[show((many:Int)).toNat=many by omega];refine joa (λi=>nV (d.idxOf i)) (by omega) (λi hi l Q' q=>?_) λvv=>?_
  .have e4:=((Kp.refl [] H3).new (o:=.lst l) R).old _ _ e3 Ae;simp! [e4,Ui];exact jfj e4 ((dn i).mpr hi) q
  dsimp only;have k4:Kp [] H3 (upd H3 D2 (.lst ((List.range many).map λi=>nV (d.idxOf i)))):=(Kp.refl [] H3).new R;have f4:upd H3 D2 (.lst ((List.range many).map λi=>nV (d.idxOf i))) D2=some (.lst (((List.range many).map d.idxOf).map nV)):=by rw[jb,Az];rfl
  generalize upd H3 D2 (.lst ((List.range many).map λi=>nV (d.idxOf i)))=H4 at k4 f4⊢;have e4:=k4.old _ _ e3 Ae;rw[e4];refine⟨_,rfl,nV (d.getD 0 0),jch (j:=0) (by rw[Ah,Af,Aa (by omega)];rfl),?_⟩;obtain⟨V4,be⟩:∃V4:L2.St->Hp->Prop,∀L y,V4 L y↔(∃(po:Addr)(order:List Nat),L=[some (.ref p),some (.str z),some (.ref b1),some (.ref b2),some (.ref pc),some (.int (many:Int)),v6,Z,v8,some (.ref D2),some (.int (d.getD 0 0:Nat)),some (.ref po),none,none]/\y po=some (.lst (order.map nV))/\Ord d order many/\Kp [] H4 y):=⟨_,λ_ _=>O2⟩;refine⟨V4,?_,?_⟩
  .simp!;refine⟨by omega,λpo cb=>⟨by omega,by omega,λD3 bj=>?_⟩⟩;rw[show((many:Int)).toNat=many by omega];have kO:Kp [] H4 (upd H4 po (.lst [nV (d.getD 0 0)])):=(Kp.refl [] H4).new cb;have f5:upd H4 po (.lst [nV (d.getD 0 0)]) po=some (.lst [nV (d.getD 0 0)]):=jb;generalize upd H4 po (.lst [nV (d.getD 0 0)])=H5 at kO f5 bj⊢;refine jfq (λi=>i != d.getD 0 0) nV (by omega) (λi hi l Q' q=>?_) (λi hi hp l Q' q=>?_) λvv=>?_
   .simp! [Ui];rw[show nV (d.getD 0 0)=.int (d.getD 0 0:Nat)from rfl,jg5];refine⟨_,rfl,?_⟩;rw[show(!decide ((i:Int)=(d.getD 0 0:Nat)))=(i != d.getD 0 0)by
     rw[Ur];simp;omega]
    exact q
   .simp! [Ui];exact q
   dsimp only;have kD:Kp [] H5 (upd H5 D3 (.lst (((List.range many).filter λi=>i != d.getD 0 0).map nV))):=(Kp.refl [] H5).new bj;refine rAddW.lst (kD.old _ _ f5 Ae) jb (by
    have:=Oy (λi=>i != d.getD 0 0) (List.range many);rw[A1]at this;simp only[Ac,List.length_cons,List.length_nil];omega) λp2 cd=>?_
   refine(be _ _).mpr ⟨p2,d.getD 0 0::(List.range many).filter λi=>i != d.getD 0 0,rfl,?_,⟨?_,λx=>?_,rfl⟩,(kO.trans kD).new cd⟩
   .rw[jb];rfl
   .refine Ot.mpr ⟨λh=>?_,List.Nodup.sublist List.filter_sublist Iv⟩;have:=(Iy.mp h).2;simp at this
   .rw[At,Iy,Av,bne_iff_ne];constructor
    .rintro(rfl|⟨h,_⟩)
     .exact c0
     .exact h
    .intro h;by_cases c:x=d.getD 0 0
     .exact .inl c
     .exact .inr ⟨h,c⟩
  intro L H5 G;obtain⟨po,order,rfl,e5,O,k5⟩:=(be _ _).mp G;clear G;obtain⟨b0,af⟩:=af ao ce dn O;have ol:order.length=many:=by
   have a:=L2.nodup_len (List.range many) order Iv λx S=>(O.mem x).mpr (Av.mp S);have b:=L2.nodup_len order (List.range many) O.nd λx S=>Av.mpr ((O.mem x).mp S);rw[A1]at a b;omega
  simp!;refine⟨by omega,λpw bb=>?_⟩;have kW:Kp [] H5 (upd H5 pw (.lst [])):=(Kp.refl [] H5).new bb;have e6:upd H5 pw (.lst []) pw=some (.lst []):=jb;generalize upd H5 pw (.lst [])=H6 at kW e6⊢;have a7:(mvN C m d order).length=order.length:=by simp[mvN]
  have aq:Kp [] H3 H5:=k4.trans k5;have ac:∀u∈order,d.idxOf u<n:=λu ho=>by
   rw[<-ao];exact A7.mpr ((dn u).mpr ((O.mem u).mp ho))
  have ai:∀g,g<n->d.getD g 0∈order:=λg hg=>(O.mem _).mpr ((dn _).mp (by rw[Af,Aa (by omega)];exact Iq _));obtain⟨V5,bd⟩:∃V5:L2.St->Hp->Prop,∀L y,V5 L y↔(∃(us3:List V)(aa:Option V),L=[some (.ref p),some (.str z),some (.ref b1),some (.ref b2),some (.ref pc),some (.int (many:Int)),v6,Z,v8,some (.ref D2),some (.int (d.getD 0 0:Nat)),some (.ref po),some (.ref pw),aa]/\y pw=some (.lst us3)/\RowsM y us3 (mvN C m d order)/\Kp [] H5 y):=⟨_,λ_ _=>O2⟩;refine⟨V5,?_,?_⟩
  .simp! [kW.old _ _ e5 Ae];obtain⟨V6,al⟩:∃V6:Nat->L2.St->Hp->Prop,∀i L y,V6 i L y↔(∃(us3:List V)(aa:Option V),L=[some (.ref p),some (.str z),some (.ref b1),some (.ref b2),some (.ref pc),some (.int (many:Int)),v6,Z,v8,some (.ref D2),some (.int (d.getD 0 0:Nat)),some (.ref po),some (.ref pw),aa]/\y pw=some (.lst us3)/\RowsM y us3 ((mvN C m d order).take i)/\Kp [] H5 y):=⟨_,λ_ _ _=>O2⟩;refine jdg (xs:=order.map nV) V6 ((al _ _ _).mpr ⟨[],none,rfl,e6,.nil,kW⟩) ?_ ?_ ?_
   .intro i σ y _ G;obtain⟨_,_,_,_,_,h⟩:=(al _ _ _).mp G;exact h.old _ _ e5 Ae
   .intro i x σ U S G;obtain⟨us3,aa,rfl,e7,R7,k7⟩:=(al _ _ _).mp G;clear G;rw[Ah]at S;obtain⟨u,ho,rfl⟩:=Ih.mp S;have om:=Ap ho;have on:u<many:=(O.mem u).mp om;have jn:=ac u om;have f7:=(k5.trans k7).old _ _ f4 Ae;have a9:=(k3.trans aq).trans k7;have ch:=a9.tup _ _ bn;have cp:us3.length<=order.length:=by
     have:=Iw R7;rw[I0,a7]at this;omega
    obtain⟨cr,az,au⟩:=(R1.kp a9).get (show C[d.idxOf u]?=some (C.getD (d.idxOf u) [])by rw[Af,Aa (by omega)];rfl);simp! [e7,nV,f7];refine⟨nV (d.idxOf u),jch (by rw[Ah,Ah,Oz on];rfl),?_⟩;simp! [nV,ch];refine⟨.ref cr,jch az,?_⟩;dsimp only;rw[au];intro D4 a4;have jC:d.idxOf u<C.length:=by omega
    have J:=jh6 ag jC;have ck:=(aq.trans k7).old _ _ e3 Ae;have ci:=k7.old _ _ e5 Ae;refine jdo (λv=>ixV order (gtN d v)) au a4 (by rw[J];simp;omega) (λx S l Q' q=>?_) λvv=>?_
    .obtain⟨t,ht,rfl⟩:=Am.mp S;have tn:t<n:=by
      rw[J]at ht;obtain⟨a,ha,rfl⟩:=Am.mp ht;rw[<-cL];exact(ag.at_ jC (Av.mp ha)).2
     have kN:=(Kp.refl [] U).new (o:=.lst l) a4;have cj:=kN.old _ _ ck Ae;have an:=kN.old _ _ ci Ae;simp! [nV,cj];refine⟨by rw[an];rfl,.int (d.getD t 0:Nat),jch (by rw[Ah,Af,Aa (by omega)];rfl),?_⟩;exact jfj an (ai t tn) q
    dsimp only;refine jcj jb λt2 ae=>?_;have er:((C.getD (d.idxOf u) []).map nV).map (λv=>ixV order (gtN d v))=((List.range m).map λa=>order.idxOf (d.getD (dM C (d.idxOf u) a) 0)).map nV:=by
     rw[J,Az,Az,Az];rfl
    rw[er]at ae⊢;generalize hrow:(List.range m).map (λa=>order.idxOf (d.getD (dM C (d.idxOf u) a) 0))=row at ae⊢;have kB:Kp [] U (upd (upd U D4 (.lst (row.map nV))) t2 (.tup (row.map nV))):=((Kp.refl [] U).new a4).new ae;have f2:upd (upd U D4 (.lst (row.map nV))) t2 (.tup (row.map nV)) t2=some (.tup (row.map nV)):=jb;generalize upd (upd U D4 (.lst (row.map nV))) t2 (.tup (row.map nV))=H8 at kB f2⊢;have e8:=kB.old _ _ e7 Ae;rw[e8];have tk:(mvN C m d order).take (i+1)=(mvN C m d order).take i++[row]:=by
     have:(mvN C m d order)[i]?=some row:=by
      unfold mvN;rw[Ah,ho,<-hrow];rfl
     rw[Oe,this];rfl
    have kP:Kp [pw] H8 (upd H8 pw (.lst (us3++[.ref t2]))):=(Kp.refl [pw] H8).set e8 (.inl (.head _));exact⟨_,rfl,by omega,(al _ _ _).mpr ⟨_,_,rfl,jb,by rw[tk];exact((R7.kp kB).snoc f2).kp kP,(k7.trans kB).set e8 (.inr bb)⟩⟩
   .intro σ U G;obtain⟨us3,aa,rfl,e7,R7,k7⟩:=(al _ _ _).mp G;clear G;rw[Ac,<-a7,Im]at R7;exact(bd _ _).mpr ⟨us3,aa,rfl,e7,R7,k7⟩
  intro L U G;obtain⟨us3,aa,rfl,e7,R7,k7⟩:=(bd _ _).mp G;clear G;simp!;refine jcj e7 λak bw=>?_;have k8:Kp [] U (upd U ak (.tup us3)):=(Kp.refl [] U).new bw;have e8:upd U ak (.tup us3) ak=some (.tup us3):=jb;generalize upd U ak (.tup us3)=H8 at k8 e8⊢;have ar:=k7.trans k8;have an:=ar.old _ _ e5 Ae;rw[an];intro D5 a3;refine jdn (λv=>yV B (ixV d v)) an a3 (by rw[Ac];omega) (λx S l Q' q=>?_) λvv=>?_
  .obtain⟨u,ho,rfl⟩:=Am.mp S;have jn:=ac u ho;have kN:=(Kp.refl [] H8).new (o:=.lst l) a3;have f8:=(k5.trans (ar.trans kN)).old _ _ f4 Ae;have cg:=(((k3.trans aq).trans ar).trans kN).tup _ _ am;simp! [nV,f8];refine⟨nV (d.idxOf u),jch (by rw[Ah,Ah,Oz ((O.mem u).mp ho)];rfl),?_⟩;simp! [nV,cg];refine⟨.bl (B.getD (d.idxOf u) false),jch (by rw[Ah,Af,Aa (by omega)];rfl),?_⟩;exact q
  dsimp only;have ey:(order.map nV).map (λv=>yV B (ixV d v))=(ysN B d order).map V.bl:=by
   unfold ysN;rw[Az,Az];rfl
  rw[ey]at *;refine jcj jb λaj bv=>?_;have k9:Kp [] H8 (upd (upd H8 D5 (.lst ((ysN B d order).map V.bl))) aj (.tup ((ysN B d order).map V.bl))):=((Kp.refl [] H8).new a3).new bv;have e9:upd (upd H8 D5 (.lst ((ysN B d order).map V.bl))) aj (.tup ((ysN B d order).map V.bl)) aj=some (.tup ((ysN B d order).map V.bl)):=jb;generalize upd (upd H8 D5 (.lst ((ysN B d order).map V.bl))) aj (.tup ((ysN B d order).map V.bl))=H9 at k9 e9⊢;refine⟨ak,aj,z,us3,_,m,_,rfl,k9.tup _ _ e8,(R7.kp (k8.trans k9)),b0,e9,by simp[ysN,mvN],by omega,by omega,M.m9,λq3 a1 a2 us4 ad cn b3 g1 g2 g3 g4 b7=>?_⟩;exact k q3 a1 a2 us4 _ _ cn (af b3) g1 g2 g3 g4 ((((k1.trans k3).trans aq).trans (ar.trans k9)).trans b7)
end
def tz(z:Str)(w:List Nat):Str:=toS (w.map λa=>z.cps.toList.getD a 0)
theorem jmc(z:Str)(w:List Nat):(tz z w).length=w.length:=by simp[tz,jgg]
theorem jut{z:Str}{c:Nat}(h:(tz z w).cps.toList[i]?=some c):∃a,w[i]?=some a/\c=z.cps.toList.getD a 0:=by
 have:(tz z w).cps.toList=w.map λa=>z.cps.toList.getD a 0:=by simp[tz,toS]
 rw[this,Ah]at h;obtain⟨a,d,b⟩:=Ih.mp h;exact⟨a,d,b.symm⟩
theorem juu{z u:Str}(h:∀c∈u.cps.toList,c∈z.cps.toList):∃w,u=tz z w/\(∀a∈w,a<z.length)/\w.length=u.length:=by
 refine⟨u.cps.toList.map λc=>z.cps.toList.idxOf c,?_,λa f=>?_,by simp[Str.length]⟩
 .have e:(u.cps.toList.map λc=>z.cps.toList.idxOf c).map (λa=>z.cps.toList.getD a 0)=u.cps.toList:=by
   rw[Az];refine(Ib λc b=>?_).trans (Wi _);show z.cps.toList.getD (z.cps.toList.idxOf c) 0=c;have d:=A7.mpr (h c b);rw[Af,Aa d,Oc];rfl
  unfold tz;rw[e];simp[toS]
 .obtain⟨c,b,rfl⟩:=Am.mp f;have:=A7.mpr (h c b);simpa[Str.length]using this
theorem plc_at{z:Str}(nd:z.cps.toList.Nodup)(h:a<z.length):z.cps.toList.getD a 0∈z.cps.toList/\plc z.cps.toList (z.cps.toList.getD a 0)=(a:Int):=by
 have b:a<z.cps.toList.length:=by simpa[Str.length]using h
 have e:z.cps.toList.getD a 0=z.cps.toList[a]:=by rw[Af,Aa b];rfl
 have m:z.cps.toList[a]∈z.cps.toList:=Iq b;rw[e];refine⟨m,?_⟩;unfold plc;rw[Al m,nd.idxOf_getElem a b]
def spLt:Sp:=λvs H Q _=>∃(p pm py:Addr)(z:Str)(us:List V)(mv:List (List Nat))(m:Nat)(ys:List Bool)(u:List Nat),vs=[.ref p,.str (tz z u)]/\MH H p z pm py us mv m ys/\z.length=m/\z.cps.toList.Nodup/\(∀a∈u,a<m)/\u.length<=1000/\Q (.bl ((mcOf mv m ys).y ((mcOf mv m ys).led 0 u))) H
structure TLt(mg:Str->Option Value)(fl:Addr):Prop where
 m11z:mg "_law_led"=some (.ref fl)
def jsi:Sp:=λvs H Q _=>∃(p pm py:Addr)(z:Str)(us:List V)(mv:List (List Nat))(m:Nat)(ys:List Bool)(r:Nat)(u:List Nat),vs=[.ref p,.int (r:Int),.str (tz z u)]/\MH H p z pm py us mv m ys/\z.length=m/\z.cps.toList.Nodup/\r<mv.length/\(∀a∈u,a<m)/\u.length<=1000/\Q (.int ((mcOf mv m ys).led r u:Nat)) H
section
variable{P:Program}{w:World}{K:PySem.W.Frag}{mg:Str->Option Value}{base:Heap}
abbrev zn:Stmt:=top 22
theorem jan:FnScope ["_law_machine_here","_law_room","_law_text_here","_law_letter"] ["_law_machine_here","_law_room","_law_text_here"] (jg zn):=⟨rfl,rfl,rfl,by decide +kernel,rfl,by decide +kernel,by decide +kernel⟩
abbrev zg:Stmt:=top 23
theorem sc__law_lets:FnScope ["_law_machine_here","_law_text_here"] ["_law_machine_here","_law_text_here"] (jg zg):=⟨rfl,rfl,rfl,by decide +kernel,rfl,by decide +kernel,by decide +kernel⟩
theorem ok__law_led(F:Fun K "_law_led" "_law_led" zn f fd):FnOk P w K mg base CX0 1 f fd ["_law_machine_here","_law_room","_law_text_here"] jsi:=by
 refine F.ok jan (λx H Q E h=>?_) (λU A q s H x Q E N h=>?_)
 .obtain⟨p,J,I,z,y,d,m,ys,r,u,rfl,_⟩:=h;rfl
 .obtain⟨p,J,I,z,y,d,m,ys,r,u,rfl,M,W,L,C,t,X,k⟩:=h;have Y:=N.units;have l:=jdt (ys:=ys) M.ok;refine exQ (jf (yh Ip rfl (j7 (K:=K) (qpv 2) rfl) (jq (i:=3) jan.nd rfl (by ac_rfl)) (jj (jo (i:=1) jan.nd rfl (by ac_rfl) (jr ix_U (jr ix_U (jr ix_U (qpv 0) jh (λ_ _=>rfl)) (qpv 1) (λ_ _=>rfl)) (qpe_bmT PySem.F.slot_str_index PySem.F.type_str_index mt_indexU (jr ix_U (qpv 0) jh (λ_ _=>rfl)) (ja (qpv 3) jc)) (λ_ _=>rfl)))))
  (jj (ka (qpv 1)))) ?_
  simp!;refine jlh (λi σ j=>∃e:Option V,σ=[some (.ref p),some (.int ((mcOf d m ys).led r (u.take i):Nat)),some (.str (tz z u)),e]/\j=H) ⟨none,rfl,rfl⟩ ?_ ?_
  .rintro i c σ j R ⟨e,rfl,rfl⟩;obtain⟨a,v,rfl⟩:=jut R;have T:=t a (Ap v);obtain⟨G,D⟩:=plc_at L (show a<z.length by omega);have g:(mcOf d m ys).led r (u.take i)<d.length:=Mc.led_lt l C λb S=>t b (Uy S);have B:u.take (i+1)=u.take i++[a]:=by rw[Oe,v];rfl
   rw[B,Mc.led_app'];generalize(mcOf d m ys).led r (u.take i)=r1 at g⊢;have O:d[r1]?=some (d.getD r1 []):=by rw[Af,Aa g];rfl
   obtain⟨c,n,o⟩:=M.rw.get O;simp! [M.hp,M.hm];refine⟨.ref c,jch n,_,rfl,G,?_⟩;rw[D,jco,o];exact⟨_,rfl,_,jch (by rw[Ah,(M.ok.at_ g T).1];rfl),_,⟨rfl,rfl⟩,rfl⟩
  .rintro σ j ⟨e,rfl,rfl⟩;rw[jmc,Im];simp!;exact k
theorem ok__law_lets(F:Fun K "_law_lets" "_law_lets" zg f fd)(T:TLt mg fl)(F11z:Fun K "_law_led" "_law_led" zn fl fdl)(b11z:Binds K fdl ["_law_machine_here","_law_room","_law_text_here"] [])(b:FnOk P w K mg base CX0 1 fl fdl ["_law_machine_here","_law_room","_law_text_here"] jsi):FnOk P w K mg base CX0 2 f fd ["_law_machine_here","_law_text_here"] spLt:=by
 refine F.ok sc__law_lets (λr H Q E h=>?_) (λx A g s H r Q E o h=>?_)
 .obtain⟨p,l,j,z,i,a,m,ys,u,rfl,_⟩:=h;rfl
 .obtain⟨p,l,j,z,i,a,m,ys,u,rfl,M,q,v,n,t,k⟩:=h;have B:=o.units;have d:=jdt (ys:=ys) M.ok;refine exQ (jj (ka (jr ix_U (jr ix_U (qpv 0) jh (λ_ _=>rfl)) (jv b (o.mono (by decide)) rfl T.m11z F11z.kp b11z .nil kc (ja (qpv 0) (ja jh (ja (qpv 1) jc)))) (λ_ _=>rfl)))) ?_;simp! [M.hp];refine⟨p,l,j,z,i,a,m,ys,0,u,rfl,M,q,v,M.n1,n,t,?_⟩;have c:(mcOf a m ys).led 0 u<a.length:=Mc.led_lt d M.n1 n;dsimp only;rw[jco,M.hy];exact⟨_,rfl,_,jch (by rw[Ah,Aa (by rw[M.yl];exact c)];rfl),by
   have e:(mcOf a m ys).y ((mcOf a m ys).led 0 u)=ys[(mcOf a m ys).led 0 u]'(by rw[M.yl];exact c):=by
    show ys.getD _ false=_;rw[Af,Aa (by rw[M.yl];exact c)];rfl
   rw[<-e];exact k⟩
end
def La(mv:List (List Nat))(m:Nat)(ys:List Bool)(r:Nat)(w:List Nat):Bool:=(mcOf mv m ys).y ((mcOf mv m ys).led r w)
theorem La.app(mv:List (List Nat))(m:Nat)(ys:List Bool)(r:Nat)(u w:List Nat):La mv m ys r (u++w)=La mv m ys ((mcOf mv m ys).led r u) w:=by unfold La;rw[Mc.led_app']
def Tl(mv:List (List Nat))(m:Nat)(ys:List Bool)(L:List Nat->Bool):Prop:=∃M:Mc,Lst M mv m ys/\∀w,(∀a∈w,a<m)->M.y (M.led 0 w)=L w
section
variable{mv mv':List (List Nat)}{m first:Nat}{ys ys':List Bool}{L L':List Nat->Bool}
theorem Tl.ok(h:Tl mv m ys L):MvOk mv m:=h.elim λ_ h=>h.1.ok
theorem Tl.yl(h:Tl mv m ys L):ys.length=mv.length:=h.elim λ_ h=>h.1.yl
theorem Tl.n1(h:Tl mv m ys L):1<=mv.length:=h.elim λ_ h=>h.1.h.elim λ_ l=>l.n1
theorem Tl.congr(h:Tl mv m ys L)(q:∀w,(∀a∈w,a<m)->L w=L' w):Tl mv m ys L':=by
 obtain⟨M,l,t⟩:=h;exact⟨M,l,λw b=>(t w b).trans (q w b)⟩
theorem Tl.lang(h:Tl mv m ys L)(c:∀a∈w,a<m):La mv m ys 0 w=L w:=by
 obtain⟨M,l,t⟩:=h;obtain⟨g,d⟩:=l.h;obtain⟨b,q⟩:=d.tells;have b:M.m=m:=b;rw[<-t w c,q w (λa e=>by rw[b];exact c a e)];rfl
theorem Tl.one(a:Tl mv m ys L)(b:Tl mv' m ys' L')(q:∀w,(∀a∈w,a<m)->L w=L' w):mv=mv'/\ys=ys':=by
 obtain⟨o,f,i⟩:=a;obtain⟨M2,e,g⟩:=b;obtain⟨r,n⟩:=f.h;obtain⟨p,l⟩:=e.h;have d:m=o.m:=n.mm;have j:m=M2.m:=l.mm;refine f.one e ⟨by rw[<-d,j],λw c=>?_⟩;have c:∀a∈w,a<m:=λa k=>by rw[d];exact c a k
 rw[i w c,g w c,q w c]
theorem LS.tl(S:LS mv m ys first mv' ys' rs G fr)(ok:MvOk mv m)(b:first<mv.length):Tl mv' m ys' (La mv m ys first)/\mv'.length<=mv.length:=by
 refine⟨⟨_,S.lst ok b,S.tells ok b⟩,?_⟩;obtain⟨g,h⟩:=(S.lst ok b).h;have c:=S.bf.inv (n:=mv.length) b (λr a d f=>(ok.at_ d f).2);have i:rs.length<=mv.length:=jc0 c.nd c.lt;have e:mv'.length<=(cuM (dM mv) m rs).length:=h.le;rw[show(cuM (dM mv) m rs).length=rs.length by simp[cuM]]at e;omega
end
def RS(H:Hp)(q:Addr)(z:Str)(m n:Nat)(L:List Nat->Bool):Prop:=∃(a1 a2:Addr)(us:List V)(mv:List (List Nat))(ys:List Bool),MH H q z a1 a2 us mv m ys/\Tl mv m ys L/\mv.length<=n
variable{L:List Nat->Bool}
theorem RS.kp{q:Addr}{z:Str}(k:Kp S H H')(h:RS H q z m n L):RS H' q z m n L:=by
 obtain⟨e,d,b,c,a,M,t⟩:=h;exact⟨e,d,b,c,a,M.kp k,t⟩
def kN(x:Nat):L2.Key:=.inl (x:Int)
theorem jlc(l:List Nat):(l.map kN).map kV=l.map nV:=by rw[Az];rfl
variable{l:List Nat}
theorem jts{k:List Nat}(h:l.map kN=k.map kN):l=k:=by
 refine(List.map_inj_right λx y e=>?_).mp h;have:(x:Int)=y:=Sum.inl.inj e;omega
theorem jng(k:Kp S H H1){kvs:List (List L2.Key×V)}(hb:H1 b=some (.dT kvs))(h:b∈S\/H b=none):Kp S H (upd H1 b o):=by
 have g:∀c u,H c=some u->c∉S->c≠b:=λc u e n z=>by
  subst z;rcases h with h|h
  .exact n h
  .rw[h]at e;cases e
 refine⟨λc u e n=>by rw[jd (g c u e n)];exact k.old c u e n,λc d e=>?_,λc u e=>?_⟩
 .have a:=k.tup c d e;have:c≠b:=λz=>by rw[z,hb]at a;cases a
  rw[jd this];exact a
 .obtain⟨f,i⟩:=k.dom c u e;by_cases q:c=b
  .subst q;exact⟨o,jb⟩
  .exact⟨f,by rw[jd q];exact i⟩
structure NmT(dec:Nat->List Nat)(n:Nat)(rs:List Nat)(kvs:List (List L2.Key×V)):Prop where
 num:∀x,x<n->valV kvs ((dec x).map kN)=if x∈rs then some (nV (rs.idxOf x))else none
 kl:kvs.length<=rs.length
theorem NmT.new{dec:Nat->List Nat}{kvs:List (List L2.Key×V)}(h:NmT dec n rs kvs)(inj:∀x y,x<n->y<n->dec x=dec y->x=y){y:Nat}(b:y<n)(m:y∉rs):NmT dec n (rs++[y]) (putK kvs ((dec y).map kN) (nV rs.length)):=by
 refine⟨λx a=>?_,?_⟩
 .rw[jha,h.num x a];by_cases c:x=y
  .subst c;rw[Al rfl,Al (by simp),U9,Ai m];simp
  .rw[Ai (λz=>c (inj x y a b (jts z)))];by_cases hx:x∈rs
   .rw[Al hx,Al (Io _ hx),ixa hx]
   .rw[Ai hx,Ai (λz=>(Ar.mp z).elim hx (by simpa using c))]
 .have:=jda kvs ((dec y).map kN) (nV rs.length);have:=h.kl;rw[Aq,List.length_cons,List.length_nil];omega
def spST(g:Nat->Nat->Nat)(dec:Nat->List Nat)(n m:Nat)(R:Hp->Prop):Sp:=λvs H Q _=>∃(b:Addr)(r a:Nat),vs=[.ref b,.int (a:Int)]/\H b=some (.tup ((dec r).map nV))/\r<n/\a<m/\R H/\∀(b':Addr)(H':Hp),Kp [] H H'->H' b'=some (.tup ((dec (g r a)).map nV))->Q (.ref b') H'
structure LgT(P:Program)(w:World)(K:PySem.W.Frag)(mg:Str->Option Value)(base:Heap)(fp:Addr)(o:Obj)(fd:FuncData)(psp:List Str)(g:Nat->Nat->Nat)(dec:Nat->List Nat)(n m:Nat)(R:Hp->Prop):Prop where
 dat:o.data=.func fd
 fn:FnOk P w K mg base CX0 3 fp fd psp (spST g dec n m R)
 bi:Binds K fd psp []
 at_:∀H,R H->H fp=some (FZ o)
 kr:∀H H',Kp [] H H'->R H->R H'
def spCT(P:Program)(w:World)(K:PySem.W.Frag)(mg:Str->Option Value)(base:Heap):Sp:=λvs H Q _=>∃(fp b0:Addr)(o:Obj)(fd:FuncData)(psp:List Str)(g:Nat->Nat->Nat)(dec:Nat->List Nat)(n m first most:Nat)(R:Hp->Prop),LgT P w K mg base fp o fd psp g dec n m R/\R H/\vs=[.ref b0,.int (m:Int),.ref fp,.int (most:Int),.int 0]/\H b0=some (.tup ((dec first).map nV))/\first<n/\n<=most/\n<=1000/\m<=1000/\(∀r a,r<n->a<m->g r a<n)/\(∀x y,x<n->y<n->dec x=dec y->x=y) /\
 ∀(q a1 a2:Addr)(vs' us':List V)(rs:List Nat)(H':Hp),Bf g m first rs.length rs->H' q=some (.tup [.ref a1,.ref a2])->H' a1=some (.lst vs')->RowsM H' vs' (rs.map dec)->H' a2=some (.tup us')->RowsM H' us' (cuM g m rs)->Kp [] H H'->Q (.ref q) H'
section
variable{P:Program}{w:World}{K:PySem.W.Frag}{mg:Str->Option Value}{base:Heap}
theorem ok_come_upT(F:FunD K "come_up" "come_up" y8 f fd td)(T:TCU mg):FnOk P w K mg base CX0 4 f fd ["first","signs","step","most","at"] (spCT P w K mg base):=by
 refine F.ok yc (λu H Q E h=>?_) (λa4 A a5 s H u Q E hr h=>?_)
 .obtain⟨fp,b0,o,fd,aq,g,d,n,m,first,most,R,_,_,rfl,_⟩:=h;rfl
 .obtain⟨fp,b0,o,a3,aq,g,d,n,m,first,most,R,L,hR,rfl,am,f0,nm,n9,m9,gl,au,k⟩:=h;have hu:=hr.units;have a6:sizeLine=16777216:=Iz;have ae:(A.deeper (PyProof.Rows.envOfC (Str.ofString "come_up") (jg y8) s.heap.objs.size f a4)).units+1<cLine:=by omega
  refine exQ (jf (jo (i:=5) yc.nd rfl (by ac_rfl) (qpe_disp1 ae (qpv 0) jh))
  (jf (jo (i:=6) yc.nd rfl (by ac_rfl) (kx (ja (qpv 0) jc)))
  (jf (jo (i:=7) yc.nd rfl (by ac_rfl) (kx jc))
  (jf (z6 Ip (j8 jao (jt jw (by rfl) T.n_len j3 (ja (qpv 7) jc)) (jt jw (by rfl) T.n_len j3 (ja (qpv 6) jc)) (yd _)) (jf (jo (i:=8) yc.nd rfl (by ac_rfl) (jr ix_U (qpv 6) (jt jw (by rfl) T.n_len j3 (ja (qpv 7) jc)) (λ_ _=>rfl)))
  (jf (jo (i:=9) yc.nd rfl (by ac_rfl) (kx jc))
  (jf (yh Ip rfl (yb rfl T.n_range (ja (qpv 1) jc)) (jq (i:=10) yc.nd rfl (by ac_rfl)) (jf (jo (i:=11) yc.nd rfl (by ac_rfl) (jbp (P:=P) (w:=w) (K:=K) (mg:=mg) (base:=base) (k:=3) rfl rfl rfl rfl rfl 2 (hr.mono (by decide)) (ja (qpv 8) (ja (qpv 10) jc))))
  (yf (ym (ja4 (jah ae (qpv 11) (qpv 5)) (by with_unfolding_all rfl)) (yf (ym (j8 (zq hu) (jt jw (by rfl) T.n_len j3 (ja (qpv 6) jc)) (qpv 3) (yd _)) (jj jbs) ya)
  (jf (ja9 ae (qpv 5) (qpv 11) (jt jw (by rfl) T.n_len j3 (ja (qpv 6) jc)) rfl)
  (jj (kj (kh Ii Ij ki (qpv 6) (ja (qpv 11) jc) jcl))))) ya)
  (jj (kj (kh Ii Ij ki (qpv 9) (ja (jat ae (qpv 5) (qpv 11) (λ_ _=>rfl)) jc) jcl))))))
  (jj (kj (kh Ii Ij ki (qpv 7) (ja (ju jz (by rfl) T.n_tuple kg (ja (qpv 9) jc)) jc) jcl)))))))
  (jj (ka (y9 (ja (qpv 6) (ja (ju jz (by rfl) T.n_tuple kg (ja (qpv 7) jc)) jc))))))))) ?_
  simp!;intro pn ac;have az:b0≠pn:=je am ac;refine⟨_,rfl,(d first).map kN,by rw[jd az,jlc];exact am,by show 0<sizeLine;omega,by omega,λpr ag=>⟨by omega,λpv af=>?_⟩⟩;have ad:pn≠pr:=je jb ag;have ak:pn≠pv:=je (by rw[jd ad,jb]) af;have aj:pr≠pv:=je jb af;have k0:=(((Kp.refl [] H).new (o:=.dT (putK [] ((d first).map kN) (.int 0))) ac).new (o:=.lst [.ref b0]) ag).new (o:=.lst []) af;have ax:H pr=none:=((Kp.refl [] H).new ac).free ag;have aw:H pv=none:=(((Kp.refl [] H).new ac).new ag).free af;obtain⟨W0,ao⟩:∃W0:Nat->L2.St->Hp->Prop,∀μ σ p,W0 μ σ p↔(∃(rs:List Nat)(kvs:List (List L2.Key×V))(u D:List V)(j:Nat)(v8 v9 O M:Option V),σ=[some (.ref b0),some (.int (m:Int)),some (.ref fp),some (.int (most:Int)),some (.int 0),some (.ref pn),some (.ref pr),some (.ref pv),v8,v9,O,M]/\Bf g m first j rs/\NmT d n rs kvs/\p pn=some (.dT kvs)/\p pr=some (.lst u)/\RowsM p u (rs.map d)/\p pv=some (.lst D)/\D.length=j/\RowsM p D ((rs.take j).map λr=>(List.range m).map λa=>rs.idxOf (g r a))/\Kp [] H p/\μ=n-j):=⟨_,λ_ _ _=>O2⟩;refine⟨W0,?_,?_⟩
  .have n0:NmT d n [first] (putK [] ((d first).map kN) (.int 0)):=NmT.new (rs:=[]) (kvs:=[]) ⟨λx _=>by simp[valV],Ao _⟩ au (y:=first) f0 (by simp);exact⟨_,(ao _ _ _).mpr ⟨[first],_,[.ref b0],[],0,none,none,none,none,rfl,.z,n0,by rw[jd ak,jd ad,jb],by rw[jd aj,jb],.cons ⟨b0,rfl,k0.tup _ _ am⟩ .nil,jb,rfl,.nil,k0,rfl⟩⟩
  intro μ σ H1 hW;obtain⟨rs,kvs,u,D,j,v8,v9,O,M,rfl,bf,N,J,I,C,W,ul,R1,U,rfl⟩:=(ao _ _ _).mp hW;clear hW;have bi:=bf.inv f0 gl;have rl:rs.length<=n:=jc0 bi.nd bi.lt;have jl:=bi.jl;have vl:u.length=rs.length:=by have:=Iw C;rw[Ac]at this;exact this
  simp! [I,W];rw[vl,ul];by_cases c:j<rs.length
  .rw[Al (by simpa using c)];have er:rs[j]?=some (rs[j]):=Aa c;generalize rs[j]=r at er;have rn:=bi.lt r (Ap er);obtain⟨br,a0,B⟩:=C.get (show(rs.map d)[j]?=some (d r)by rw[Ah,er];rfl);refine⟨_,λ_ _ h=>h,.ref br,jch a0,by omega,λpw ab=>⟨by omega,by omega,?_⟩⟩;rw[show((m:Int)).toNat=m by omega];have as:pn≠pw:=je J ab;have ar:pr≠pw:=je I ab;have ay:pv≠pw:=je W ab;have av:H pw=none:=U.free ab;have kw:Kp [] H1 (upd H1 pw (.lst [])):=(Kp.refl [] H1).new ab;obtain⟨W1,ah⟩:∃W1:Nat->L2.St->Hp->Prop,∀a σ p,W1 a σ p↔(∃(kvs:List (List L2.Key×V))(u:List V)(O M:Option V),σ=[some (.ref b0),some (.int (m:Int)),some (.ref fp),some (.int (most:Int)),some (.int 0),some (.ref pn),some (.ref pr),some (.ref pv),some (.ref br),some (.ref pw),O,M]/\NmT d n (cuR g r a rs) kvs/\p pn=some (.dT kvs)/\p pr=some (.lst u)/\RowsM p u ((cuR g r a rs).map d)/\p pv=some (.lst D)/\p pw=some (.lst ((List.range a).map λb=>nV ((cuR g r a rs).idxOf (g r b))))/\RowsM p D ((rs.take j).map λr=>(List.range m).map λa=>rs.idxOf (g r a))/\Kp [] H p/\p br=some (.tup ((d r).map nV))):=⟨_,λ_ _ _=>O2⟩;refine jcr W1 ?_ ?_ ?_
   .exact(ah _ _ _).mpr ⟨kvs,u,O,M,rfl,N,kw.old _ _ J Ae,kw.old _ _ I Ae,C.kp kw,kw.old _ _ W Ae,jb,R1.kp kw,U.trans kw,kw.tup _ _ B⟩
   .intro a σ H2 ha hW;obtain⟨kvs,u,O,M,rfl,N,J,I,C,W,e4,R1,U,B⟩:=(ah _ _ _).mp hW;clear hW;have cl:(cuR g r a rs).length<=n:=jc0 (jem bi.nd a) λx hx=>by
     rcases jdd a x hx with h|⟨b,h1,h2⟩
     .exact bi.lt x h
     .rw[h2];exact gl r b rn (by omega)
    simp!;rw[Ui];refine⟨o,a3,L.dat,aq,spST g d n m R,L.fn,L.bi,L.at_ _ (L.kr _ _ U hR),br,r,a,rfl,B,rn,ha,L.kr _ _ U hR,λbt Y G Z=>?_⟩;have J:=G.old _ _ J Ae;have I:=G.old _ _ I Ae;have W:=G.old _ _ W Ae;have e4:=G.old _ _ e4 Ae;have C:=C.kp G;have B:=G.tup _ _ B;have R1:=R1.kp G;have U:=U.trans G;have kl:=N.kl;have gn:=gl r a rn ha;have X:Y bt=some (.tup (((d (g r a)).map kN).map kV)):=by rw[jlc];exact Z
    clear G;obtain⟨W2,an⟩:∃W2:L2.St->Hp->Prop,∀σ' p,W2 σ' p↔(∃(kvs:List (List L2.Key×V))(u:List V),σ'=[some (.ref b0),some (.int (m:Int)),some (.ref fp),some (.int (most:Int)),some (.int 0),some (.ref pn),some (.ref pr),some (.ref pv),some (.ref br),some (.ref pw),some (.int (a:Int)),some (.ref bt)]/\NmT d n (cuR g r (a+1) rs) kvs/\p pn=some (.dT kvs)/\p pr=some (.lst u)/\RowsM p u ((cuR g r (a+1) rs).map d)/\p pv=some (.lst D)/\p pw=some (.lst ((List.range a).map λb=>nV ((cuR g r a rs).idxOf (g r b))))/\RowsM p D ((rs.take j).map λr=>(List.range m).map λa=>rs.idxOf (g r a))/\Kp [] H p/\p br=some (.tup ((d r).map nV))/\p bt=some (.tup ((d (g r a)).map nV))):=⟨_,λ_ _=>O2⟩;refine⟨W2,?_,?_⟩
    .simp!;refine⟨_,DGet.t (k:=(d (g r a)).map kN) J X,?_⟩;rw[N.num (g r a) gn];have ec:=jcy (g:=g) (r:=r) (a:=a) (rs:=rs);unfold cu1 at ec;by_cases c:g r a∈cuR g r a rs
     .rw[Al c]at ec;rw[Al c];simp only[Option.isSome_some,Wq,Ir,O4];exact(an _ _).mpr ⟨kvs,u,rfl,by rw[ec];exact N,J,I,by rw[ec];exact C,W,e4,R1,U,B,Z⟩
     .rw[Ai c]at ec;rw[Ai c];simp only[Option.isSome_none,Y8,Wp];have a7:(cuR g r a rs).length+1<=n:=by
       have:=jc0 (S:=cuR g r a rs++[g r a]) (n:=n) (by
        rw[O1];exact⟨jem bi.nd a,by simp,λx hx y hy e=>c ((e.trans (Ag.mp hy))▸hx)⟩) (λx hx=>by
        rcases Ar.mp hx with h|h
        .rcases jdd a x h with h|⟨b,h1,h2⟩
         .exact bi.lt x h
         .rw[h2];exact gl r b rn (by omega)
        .cases Ag.mp h;exact gn)
       simpa using this
      have vl:u.length=(cuR g r a rs).length:=by have:=Iw C;rw[Ac]at this;exact this
      refine⟨λσ' p=>σ'=[some (.ref b0),some (.int (m:Int)),some (.ref fp),some (.int (most:Int)),some (.int 0),some (.ref pn),some (.ref pr),some (.ref pv),some (.ref br),some (.ref pw),some (.int (a:Int)),some (.ref bt)]/\Y=p,?_,?_⟩
      .simp! [I];rw[Ai (by omega)];trivial
      rintro _ _ ⟨rfl,rfl⟩;simp! [I];have ai:upd Y pn (.dT (putK kvs ((d (g r a)).map kN) (nV (cuR g r a rs).length))) pr=some (.lst u):=by rw[jd ad.symm];exact I
      have kq:Kp [pn] Y (upd Y pn (.dT (putK kvs ((d (g r a)).map kN) (nV (cuR g r a rs).length)))):=jng (Kp.refl [pn] Y) J (.inl (by simp));have aa:Kp [pr] (upd Y pn (.dT (putK kvs ((d (g r a)).map kN) (nV (cuR g r a rs).length)))) (upd (upd Y pn (.dT (putK kvs ((d (g r a)).map kN) (nV (cuR g r a rs).length)))) pr (.lst (u++[.ref bt]))):=(Kp.refl [pr] _).set ai (.inl (.head _));refine⟨upd Y pn (.dT (putK kvs ((d (g r a)).map kN) (nV (cuR g r a rs).length))),by rw[vl];exact DPut.t (k:=(d (g r a)).map kN) (v:=nV (cuR g r a rs).length) J X (by omega),by rw[ai];rfl,_,by rw[ai];rfl,by omega,(an _ _).mpr ⟨_,_,rfl,by rw[ec];exact N.new au gn c,by rw[jd ad,jb],jb,?_,?_,?_,(R1.kp kq).kp aa,(jng U J (.inr ac)).set ai (.inr ax),aa.tup _ _ (kq.tup _ _ B),aa.tup _ _ (kq.tup _ _ Z)⟩⟩
      .rw[ec,A6];exact Wg ((C.kp kq).kp aa) ⟨bt,rfl,aa.tup _ _ (kq.tup _ _ Z)⟩
      .rw[jd aj.symm,jd ak.symm];exact W
      .rw[jd ar.symm,jd as.symm];exact e4
    intro σ' H4 hW;obtain⟨kvs,u,rfl,N,J,I,C,W,e4,R1,U,B,Z⟩:=(an _ _).mp hW;clear hW;simp! [e4];have X:H4 bt=some (.tup (((d (g r a)).map kN).map kV)):=by rw[jlc];exact Z
    have al:∀x,Kp [pw] H4 (upd H4 pw (.lst ((List.range a).map (λb=>nV ((cuR g r a rs).idxOf (g r b)))++[x]))):=λx=>(Kp.refl [pw] H4).set e4 (.inl (.head _));refine⟨nV ((cuR g r (a+1) rs).idxOf (g r a)),.inr ⟨kvs,(d (g r a)).map kN,bt,.inl J,rfl,X,?_⟩,by rw[Ac,A1];omega,(ah _ _ _).mpr ⟨kvs,u,_,_,rfl,N,by rw[jd as];exact J,by rw[jd ar];exact I,C.kp (al _),by rw[jd ay];exact W,?_,R1.kp (al _),U.set e4 (.inr av),(al _).tup _ _ B⟩⟩
    .rw[N.num _ gn,Al (jdy g r rs (a+1) a (by omega))]
    .rw[jb,O9,A6];refine O6 (λl=>some (HO.lst (l++[nV ((cuR g r (a+1) rs).idxOf (g r a))]))) (Ib λb hb=>?_);obtain⟨t,et⟩:=je4 g r (cuR g r a rs) a;rw[jcy,et,ixa (jdy g r rs a b (Av.mp hb))]
   .intro σ H2 hW;obtain⟨kvs,u,O,M,rfl,N,J,I,C,W,e4,R2,U,B⟩:=(ah _ _ _).mp hW;clear hW;simp!;refine⟨by rw[W];rfl,?_⟩;refine jcj e4 λl hl=>?_;have kl:Kp [] H2 (upd H2 l (.tup ((List.range m).map λb=>nV ((cuR g r m rs).idxOf (g r b))))):=(Kp.refl [] H2).new hl;have el:upd H2 l (.tup ((List.range m).map λb=>nV ((cuR g r m rs).idxOf (g r b)))) l=some (.tup (((List.range m).map λb=>(cuR g r m rs).idxOf (g r b)).map nV)):=by rw[jb,Az];rfl
    generalize upd H2 l (.tup ((List.range m).map λb=>nV ((cuR g r m rs).idxOf (g r b))))=Y at kl el⊢;have ap:=kl.old _ _ W Ae;have kv:Kp [pv] Y (upd Y pv (.lst (D++[.ref l]))):=(Kp.refl [pv] Y).set ap (.inl (.head _));refine⟨D,by rw[ap];rfl,by omega,n-(j+1),by omega,(ao _ _ _).mpr ⟨cuR g r m rs,kvs,u,D++[.ref l],j+1,_,_,_,_,rfl,.s bf er,N,by rw[jd ak];exact kl.old _ _ J Ae,by rw[jd aj];exact kl.old _ _ I Ae,(C.kp kl).kp kv,jb,by simp[ul],?_,(U.trans kl).set ap (.inr aw),rfl⟩⟩;obtain⟨t,et⟩:=jd5 g r rs m;have C:(cuR g r m rs).take (j+1)=rs.take j++[r]:=by rw[et,Is (by omega),Oe,er];rfl
    rw[C,A6];have e6:(rs.take j).map (λr'=>(List.range m).map λa=>(cuR g r m rs).idxOf (g r' a))=(rs.take j).map λr'=>(List.range m).map λa=>rs.idxOf (g r' a):=Ib λx hx=>Ib λa ha=>by
     rw[et,ixa (bi.cl x hx a (Av.mp ha))]
    rw[e6];exact Wg ((R2.kp kl).kp kv) ⟨l,rfl,kv.tup _ _ el⟩
  .have ej:j=rs.length:=by omega
   subst ej;rw[Ai (by simpa using c)];refine jcj W λa2 a1=>⟨by omega,λq hq=>?_⟩;rw[Im]at R1;have k2:Kp [] H1 (upd H1 a2 (.tup D)):=(Kp.refl [] H1).new a1;have G:Kp [] (upd H1 a2 (.tup D)) (upd (upd H1 a2 (.tup D)) q (.tup [.ref pr,.ref a2])):=(Kp.refl [] _).new hq;exact k q pr a2 u D rs _ bf jb (G.old _ _ (k2.old _ _ I Ae) (by simp)) ((C.kp k2).kp G) (G.tup _ _ jb) ((R1.kp k2).kp G) ((U.trans k2).trans G)
end
def iN(x:Nat):Int:=x
theorem jp0(l:List Nat):(l.map iN).map V.int=l.map nV:=by rw[Az];rfl
def pre(mv:List (List Nat))(a N:Nat)(l:List Nat):List Nat:=(List.range N).filter λq=>decide (dM mv q a∈l)
theorem pre_sorted{ns:List Int}{N:Nat}(nd:l.Nodup)(pm:ns.Perm ((l.flatMap (srcF mv a N)).map iN))(pw:ns.Pairwise (·<=·)):ns=(pre mv a N l).map iN:=by
 have f:(pre mv a N l).Pairwise (·<·):=List.pairwise_lt_range.filter _;have e:(l.flatMap (srcF mv a N)).Perm (pre mv a N l):=by
  refine(U2 ?_ (f.imp λh=>A2 h)).mpr λq=>?_
  .refine List.pairwise_flatMap.mpr ⟨λr _=>(Iv).filter _,nd.imp λh x i y g z=>h ?_⟩;subst z;simp only[srcF,Iy,Oj]at i g;rw[<-i.2,g.2]
  .simp only[List.mem_flatMap,srcF,pre,Iy,Oj];exact⟨fun⟨r,d,c,j⟩=>⟨c,j▸d⟩,fun⟨d,c⟩=>⟨_,c,d,rfl⟩⟩
 refine List.Perm.eq_of_pairwise (le:=(·<=·)) (λa b _ _ d c=>Int.le_antisymm d c) pw ?_ (pm.trans (e.map _));rw[U7];exact f.imp λh=>by unfold iN;omega
theorem jca(mv:List (List Nat))(a N:Nat)(nd:l.Nodup):(l.flatMap (srcF mv a N)).length<=N:=by
 refine jc0 ?_ λr d=>?_
 .refine List.pairwise_flatMap.mpr ⟨λr _=>(Iv).filter _,nd.imp λh x b y c z=>h ?_⟩;subst z;simp only[srcF,Iy,Oj]at b c;rw[<-b.2,c.2]
 .obtain⟨x,_,b⟩:=List.mem_flatMap.mp d;simp only[srcF,Iy,Av]at b;exact b.1
def spAS:Sp:=λvs H Q _=>∃(ps b:Addr)(sl:List Addr)(mv:List (List Nat))(a N:Nat)(l:List Nat),vs=[.ref ps,.ref b]/\Src H ps sl (srcF mv a N) N/\H b=some (.tup (l.map nV))/\l.Nodup/\(∀r∈l,r<N)/\N<=1000/\∀(q:Addr)(H':Hp),Kp [] H H'->H' q=some (.tup ((pre mv a N l).map nV))->Q (.ref q) H'
structure TAS(mg:Str->Option Value):Prop where
 n_tuple:mg "tuple"=none
 n_sorted:mg "sorted"=none
section
variable{P:Program}{w:World}{K:PySem.W.Frag}{mg:Str->Option Value}{base:Heap}
abbrev za:Stmt:=top 15
theorem jad:FnScope ["sources","rooms","gathered","room"] ["sources","rooms"] (jg za):=⟨rfl,rfl,rfl,by decide +kernel,rfl,by decide +kernel,by decide +kernel⟩
theorem ok_all_sources(F:Fun K "all_sources" "all_sources" za f fd)(T:TAS mg):FnOk P w K mg base CX0 1 f fd ["sources","rooms"] spAS:=by
 refine F.ok jad (λM H Q E h=>?_) (λab A G s H M Q E hr h=>?_)
 .obtain⟨B,b,v,d,a,N,l,rfl,_⟩:=h;rfl
 .obtain⟨B,b,v,d,a,N,l,rfl,S,D,C,X,n9,k⟩:=h;have hu:=hr.units;have aa:sizeLine=16777216:=Iz;refine exQ (jf (jo (i:=2) jad.nd rfl (by ac_rfl) (kx jc))
  (jf (yh Ip rfl (j7 (K:=K) (qpv 1) rfl) (jq (i:=3) jad.nd rfl (by ac_rfl)) (jj (kj (kh Y2 Y3 jas (qpv 2) (ja (jr ix_U (qpv 0) (qpv 3) (λ_ _=>rfl)) jc) jcl))))
  (jj (ka (ju jz (by rfl) T.n_tuple kg (ja (jt call_sortedIA (by rfl) T.n_sorted jbk (ja (qpv 2) jc)) jc)))))) ?_
  simp!;refine⟨by omega,λpg j=>?_⟩;have W:b≠pg:=je D j;have Z:Kp [] H (upd H pg (.lst [])):=(Kp.refl [] H).new j;rw[jd W,D];refine jeo (xs:=l.map nV) (λi σ g=>∃u:Option V,σ=[some (.ref B),some (.ref b),some (.ref pg),u]/\g pg=some (.lst (((l.take i).flatMap (srcF d a N)).map nV))/\Kp [] H g) ⟨none,rfl,jb,Z⟩ ?_ ?_ ?_
  .rintro i σ g _ ⟨u,rfl,_,m⟩;exact m.tup _ _ D
  .rintro i x σ g J ⟨u,rfl,n,m⟩;rw[Ah]at J;obtain⟨r,t,rfl⟩:=Ih.mp J;have I:=X r (Ap t);have o:=S.kp m;have y:v[r]?=some (v[r]'(by rw[o.ln];exact I)):=Aa _;generalize v[r]'(by rw[o.ln];exact I)=c at y;have hc:=o.at_ r c y;have O:(l.take (i+1)).flatMap (srcF d a N)=(l.take i).flatMap (srcF d a N)++srcF d a N r:=by rw[Oe,t];simp
   have gl:=jca d a N (C.sublist (List.take_sublist i l));have cl:=o.le r;have nc:c≠pg:=λz=>by
    have L:=S.at_ r c y;rw[z,j]at L;cases L
   simp! [o.hs];refine⟨by rw[n];rfl,?_⟩;show rIxU (.ref B) (.int (r:Int)) g _;rw[jco,o.hs];refine⟨_,rfl,.ref c,jch (by rw[Ah,y];rfl),?_⟩;rw[jer,n,hc];exact⟨_,rfl,_,rfl,by simp only[Ac];omega,by rw[jb,O,A6],m.set n (.inr j)⟩
  .rintro σ g ⟨u,rfl,n,m⟩;rw[Ac,Im]at n;have gl:=jca d a N C;simp!;refine⟨pg,(l.flatMap (srcF d a N)).map iN,rfl,by rw[jp0];exact n,by rw[Ac];omega,λp ns hp U R=>?_⟩;have e:=pre_sorted C U R;subst e;rw[jp0];refine jcj jb λq hq=>?_;have Y:Kp [] g (upd g p (.lst ((pre d a N l).map nV))):=(Kp.refl [] g).new hp;exact k q _ ((m.trans Y).new hq) jb
end
section
variable{mv:List (List Nat)}{m:Nat}{ys:List Bool}
def subW(mv:List (List Nat))(m:Nat)(ys:List Bool)(u:List Nat):List Nat:=(List.range mv.length).filter λq=>La mv m ys q u.reverse
theorem jiz(u:List Nat)(q:Nat):q∈subW mv m ys u↔q<mv.length/\La mv m ys q u.reverse=true:=by
 unfold subW;rw[Iy,Av]
theorem jl7(ok:MvOk mv m)(u:List Nat)(ha:a<m):pre mv a mv.length (subW mv m ys u)=subW mv m ys (u++[a]):=by
 unfold pre;rw[show subW mv m ys (u++[a])=(List.range mv.length).filter λq=>La mv m ys q (u++[a]).reverse from rfl];refine Aaf λq c=>?_;have b:=Av.mp c;rw[Ur,Oj,jiz,Aay];exact⟨λh=>h.2,λh=>⟨(ok.at_ b ha).2,h⟩⟩
theorem jt6(u:List Nat):(subW mv m ys u).Nodup:=Iv.filter _
theorem jk0:∀l:List (List Nat),∃l':List (List Nat),l'.Nodup/\(∀x,x∈l'↔x∈l)/\l'.length<=l.length
 |[]=>⟨[],.nil,λ_=>O2,Ao _⟩
 |x::l=>by
  obtain⟨l',n,e,h⟩:=jk0 l;by_cases c:x∈l
  .refine⟨l',n,λy=>?_,by rw[List.length_cons];omega⟩;rw[e,At];exact⟨.inr,λq=>q.elim (λz=>z▸c) id⟩
  .refine⟨x::l',Ot.mpr ⟨λq=>c ((e x).mp q),n⟩,λy=>?_,by simpa using h⟩;rw[At,At,e]
structure Sets(mv:List (List Nat))(m:Nat)(ys:List Bool)(B:Nat)(R:List (List Nat)):Prop where
 nd:R.Nodup
 le:R.length<=B
 by_:∀x∈R,∃u,(∀a∈u,a<m)/\x=subW mv m ys u
 all:∀u,(∀a∈u,a<m)->subW mv m ys u∈R
theorem jn0{B:Nat}{Ls:List (List Nat)}(h1:Ls.length<=B)(h2:∀u,(∀a∈u,a<m)->subW mv m ys u∈Ls):∃R,Sets mv m ys B R:=by
 classical
 obtain⟨b,n,e,h⟩:=jk0 Ls;refine⟨b.filter λx=>decide (∃u,(∀a∈u,a<m)/\x=subW mv m ys u),n.filter _,?_,λx d=>?_,λu c=>?_⟩
 .have:=Oy (λx=>decide (∃u,(∀a∈u,a<m)/\x=subW mv m ys u)) b;omega
 .have:=(Iy.mp d).2;simpa using this
 .exact Iy.mpr ⟨(e _).mpr (h2 u c),by simpa using⟨u,c,rfl⟩⟩
def decS(R:List (List Nat))(i:Nat):List Nat:=R.getD i []
def goS(mv:List (List Nat))(R:List (List Nat))(i a:Nat):Nat:=R.idxOf (pre mv a mv.length (decS R i))
variable{B:Nat}{R:List (List Nat)}
theorem Sets.dec(S:Sets mv m ys B R)(hi:i<R.length):∃u,(∀a∈u,a<m)/\decS R i=subW mv m ys u:=by
 have:decS R i∈R:=by unfold decS;rw[Af,Aa hi];exact Iq _
 exact S.by_ _ this
theorem jhl{x:List Nat}(h:x∈R):R.idxOf x<R.length/\decS R (R.idxOf x)=x:=by
 have a:=A7.mpr h;refine⟨a,?_⟩;unfold decS;rw[Af,Aa a,Oc];rfl
theorem Sets.go(S:Sets mv m ys B R)(ok:MvOk mv m)(hi:i<R.length)(ha:a<m):goS mv R i a<R.length/\decS R (goS mv R i a)=pre mv a mv.length (decS R i):=by
 obtain⟨u,c,e⟩:=S.dec hi;refine jhl ?_;rw[e,jl7 ok u ha];exact S.all _ λb d=>(Ar.mp d).elim (c b) λh=>by cases Ag.mp h;exact ha
theorem Sets.inj(S:Sets mv m ys B R)(x y:Nat)(a:x<R.length)(hy:y<R.length)(e:decS R x=decS R y):x=y:=by
 unfold decS at e;simp only[Af,Aa a,Aa hy,Option.getD_some]at e;exact(List.getElem_inj S.nd).mp e
theorem Sets.led(S:Sets mv m ys B R)(ok:MvOk mv m):∀(u v:List Nat)(i:Nat),i<R.length->decS R i=subW mv m ys v->(∀a∈u,a<m)->(∀a∈v,a<m)->u.foldl (goS mv R) i<R.length/\decS R (u.foldl (goS mv R) i)=subW mv m ys (v++u)
 |[],v,i,hi,e,_,_=>⟨hi,by rw[O8];exact e⟩
 |a::u,v,i,hi,e,hu,hv=>by
  have d:=hu a (.head _);obtain⟨g,f⟩:=S.go ok hi d;have:=Sets.led S ok u (v++[a]) (goS mv R i a) g (by rw[f,e,jl7 ok v d]) (λb c=>hu b (.tail _ c)) λb c=>(Ar.mp c).elim (hv b) λh=>by cases Ag.mp h;exact d
  rw[A5]at this;exact this
theorem jpg{g:Nat->Nat->Nat}{n first:Nat}{rs:List Nat}(bi:BI g m n first rs.length rs)(y:List Bool):∀(u:List Nat)(r:Nat),(∀a∈u,a<m)->r∈rs->(mcOf (cuM g m rs) m y).led (rs.idxOf r) u=rs.idxOf (u.foldl g r)/\u.foldl g r∈rs
 |[],r,_,h=>⟨rfl,h⟩
 |a::u,r,hu,h=>by
  have d:=hu a (.head _);have c:rs[rs.idxOf r]?=some r:=by rw[Aa (A7.mpr h),Oc]
  have q:=bi.cl r (by rw[Im];exact h) a d;have:=jpg bi y u (g r a) (λb e=>hu b (.tail _ e)) q;refine⟨?_,this.2⟩;show(mcOf (cuM g m rs) m y).led (dM (cuM g m rs) (rs.idxOf r) a) u=_;rw[jhj c d];exact this.1
def accS(R:List (List Nat))(i:Nat):Bool:=decide (0∈decS R i)
theorem Sets.tells(S:Sets mv m ys B R)(ok:MvOk mv m)(n1:1<=mv.length)(bf:Bf (goS mv R) m (R.idxOf (subW mv m ys [])) rs.length rs)(u:List Nat)(hu:∀a∈u,a<m):La (cuM (goS mv R) m rs) m (rs.map (accS R)) 0 u=La mv m ys 0 u.reverse:=by
 have j:=S.all [] (by simp);obtain⟨e,n⟩:=jhl j;have f:=bf.inv e λr a k l=>(S.go ok k l).1;have c:rs.idxOf (R.idxOf (subW mv m ys []))=0/\R.idxOf (subW mv m ys [])∈rs:=by
  have:=f.z
  cases rs with
  |nil=>simp at this
  |cons x r=>simp at this;subst this;simp
 obtain⟨d,g⟩:=jpg f (rs.map (accS R)) u _ hu c.2;rw[c.1]at d;obtain⟨o,i⟩:=S.led ok u [] _ e n hu (by simp);unfold La at *;rw[d];show(rs.map (accS R)).getD _ false=_;have b:rs[rs.idxOf (u.foldl (goS mv R) (R.idxOf (subW mv m ys [])))]?=some (u.foldl (goS mv R) (R.idxOf (subW mv m ys []))):=by rw[Aa (A7.mpr g),Oc]
 rw[jdc b];unfold accS;rw[i,List.nil_append,Ur,Oj,jiz];exact⟨λh=>h.2,λh=>⟨n1,h⟩⟩
def subs:Nat->List (List Nat)
 |0=>[[]]
 |n+1=>subs n++(subs n).map (·++[n])
theorem jl8:∀n,(subs n).length=2^n
 |0=>rfl
 |n+1=>by rw[subs,Aq,Ac,jl8 n,Nat.pow_succ];omega
theorem ji0(p:Nat->Bool):∀n,(List.range n).filter p∈subs n
 |0=>by simp[subs]
 |n+1=>by
  rw[O9,Yh,subs,Ar];by_cases c:p n=true
  .exact .inr (Am.mpr ⟨_,ji0 p n,by simp[c]⟩)
  .exact .inl (by simpa[c]using ji0 p n)
theorem jh9(h:mv.length<=6):∃R,Sets mv m ys 64 R:=by
 refine jn0 (Ls:=subs mv.length) ?_ λu _=>ji0 _ _;rw[jl8];exact Nat.pow_le_pow_right (by omega) h
theorem joz(ok:MvOk mv m)(n1:1<=mv.length)(t:Tl mv2 m ys2 (λu=>La mv m ys 0 u.reverse)):∃R,Sets mv2 m ys2 mv.length R:=by
 classical
 obtain⟨M,l,_⟩:=id t;obtain⟨p,L⟩:=l.h;obtain⟨_,i⟩:=L.refl;have g:∀q,∃v:List Nat,q<mv2.length->(∀a∈v,a<m)/\(mcOf mv2 m ys2).led 0 v=q:=λq=>by
  by_cases c:q<mv2.length
  .obtain⟨v,d,b⟩:=(i q).mpr c;exact⟨v,λ_=>⟨d,b⟩⟩
  .exact⟨[],λh=>absurd h c⟩
 let v:Nat->List Nat:=λq=>Classical.choose (g q)
 have j:∀q,q<mv2.length->(∀a∈v q,a<m)/\(mcOf mv2 m ys2).led 0 (v q)=q:=λq=>Classical.choose_spec (g q);refine jn0 (Ls:=(List.range mv.length).map λr=>(List.range mv2.length).filter λq=>La mv m ys r (v q).reverse) (by simp) λu f=>?_;refine Am.mpr ⟨(mcOf mv m ys).led 0 u,Av.mpr (Mc.led_lt (jdt ok) n1 f),?_⟩;refine Aaf λq n=>?_;obtain⟨d,b⟩:=j q (Av.mp n);have k:∀a∈v q++u.reverse,a<m:=λa o=>(Ar.mp o).elim (d a) λh=>f a (Oi.mp h);have e:=t.lang k;rw[La.app,b,Aay,Aaw,La.app]at e;exact e.symm
end
abbrev AQ:Str:="about_of"++".<locals>."++"<lambda>"
structure TAb(P:Program)(w:World)(K:PySem.W.Frag)(mg:Str->Option Value)(base:Heap)(fle flf fcu fas c Pt:Addr)(pm:Value):Prop where
 n_len:mg "len"=none
 n_range:mg "range"=none
 n_tuple:mg "tuple"=none
 n_enumerate:mg "enumerate"=none
 m1z:mg "least"=some (.ref fle)
 m4z:mg "led_from"=some (.ref flf)
 m3z:mg "come_up"=some (.ref fcu)
 m15z:mg "all_sources"=some (.ref fas)
 pm:(mg "__name__").getD .none=pm
 hd:PySem.W.CodeHd base c Pt
 bl:base.BuiltinsAt mg Pt
def spAb(P1 P2:Addr):Sp:=λvs H Q _=>∃(p a1 a2:Addr)(z:Str)(us:List V)(mv:List (List Nat))(m:Nat)(ys:List Bool)(B:Nat),vs=[.ref p,.int 400]/\MH H p z a1 a2 us mv m ys/\z.length=m/\1<=m/\B<=400/\(∀mvL ysL,Tl mvL m ysL (La mv m ys 0)->mvL.length<=mv.length->∃R,Sets mvL m ysL B R)/\TabOk H P1 LQ/\TabOk H P2 AQ /\
 ∀(q:Addr)(H':Hp),RS H' q z m B (λu=>La mv m ys 0 u.reverse)->Kp [P1,P2] H H'->TabOk H' P1 LQ->TabOk H' P2 AQ->Q (.ref q) H'
structure SrL(H:Hp)(psr:Addr)(mv:List (List Nat))(m:Nat)(as:List Addr):Prop where
 hs:H psr=some (.lst (as.map V.ref))
 ln:as.length=m
 at_:∀(a:Nat) x,as[a]?=some x->∃sl,Src H x sl (srcF mv a mv.length) mv.length
theorem SrL.kp{b:Addr}{as:List Addr}(h:SrL H b mv m as)(k:Kp [] H H'):SrL H' b mv m as :=
 ⟨k.old _ _ h.hs (by simp),h.ln,λa x e=>let⟨sl,s⟩:=h.at_ a x e;⟨sl,s.kp k⟩⟩
variable{P1 P2:Addr}
theorem jf5{q1 q2:Str}(ne:P2≠P1)(t1:TabOk H P1 q1)(t2:TabOk H P2 q2)(k:Kp [P1] H H'):TabOk H' P2 q2:=by
 refine t2.kp k (by simpa using ne) λc o e m=>?_;obtain⟨b,a,_⟩:=t1;rw[Ag.mp m,a]at e
 cases e
theorem jjz{H:Hp}:∀{us:List V}{mv:List (List Nat)},RowsM H us mv->∃bs:List Addr,us=bs.map V.ref/\bs.length=mv.length/\∀b∈bs,∃row∈mv,H b=some (.tup (row.map nV))
 |[],[],_=>⟨[],rfl,rfl,by simp⟩
 |_::us,row::mv,.cons ⟨a,e,h⟩ t=>by
  obtain⟨bs,g,d,q⟩:=jjz t;refine⟨a::bs,by rw[e,g];rfl,by simp[d],λb c=>?_⟩;rcases At.mp c with rfl|c
  .exact⟨row,.head _,h⟩
  .obtain⟨r,f,q⟩:=q b c;exact⟨r,.tail _ f,q⟩
def zeV(H:Hp):V->V
 |.ref b=>.bl (decide ((0:Int)∈jcz H b))
 |v=>v
theorem jnx{H:Hp}{R:List (List Nat)}:∀{us:List V}{rs:List Nat},RowsM H us (rs.map (decS R))->us.map (zeV H)=(rs.map (accS R)).map V.bl
 |[],[],_=>rfl
 |_::us,r::rs,.cons ⟨a,e,h⟩ t=>by
  subst e;rw[Au,Au,Au,jnx t];congr 1;show V.bl (decide ((0:Int)∈jcz H a))=V.bl (decide (0∈decS R r));rw[show jcz H a=cI (decS R r)from jdz (by rw[jfe];exact h)];congr 1;rw[Ur,Oj,Oj];unfold cI;simp
section
variable{P:Program}{w:World}{K:PySem.W.Frag}{mg:Str->Option Value}{base:Heap}
abbrev yu:Stmt:=top 14
theorem z5:FnScope ["machine","most","lean","sources","first","came"] ["machine","most"] (jg yu):=⟨rfl,rfl,rfl,by decide +kernel,rfl,by decide +kernel,by decide +kernel⟩
def jom:Expr:=match jx yu with
 |_::_::_::.Assign _ (.Call _ [_,_,l,_] _ _) _::_=>l
 |_=>.Name "" ⟨0,0,0,0⟩
def jke:Arguments:=match jom with
 |.Lambda a _ _ _=>a
 |_=>j6 (.Pass ⟨0,0,0,0⟩)
def jkf:Expr:=match jom with
 |.Lambda _ b _ _=>b
 |_=>.Name "" ⟨0,0,0,0⟩
def lamS2:Scope:=match jom with
 |.Lambda _ _ c _=>c
 |_=>jg (.Pass ⟨0,0,0,0⟩)
theorem jtz:LamScope ["rooms","sign"] ["sources"] lamS2:=⟨rfl,rfl,rfl,by decide +kernel,by decide +kernel,by decide +kernel,by decide +kernel,λx h=>by
 have a:lamS2.names=[(Str.ofString "rooms",.local),(Str.ofString "sign",.local),(Str.ofString "sources",.free),(Str.ofString "all_sources",.globalImplicit)]:=rfl;rw[a]at h;by_cases h1:x=Str.ofString "sources"
 .rw[h1];exact .head _
 have b:(x == Str.ofString "sources")=false:=by simpa using h1
 simp only[List.lookup_cons,List.lookup_nil,b]at h;repeat (split at h <;> try (cases h))⟩
theorem ok_about_of{av au aw bw:Addr}{ag af ah:FuncData}{pm:Value}{bc:List Value}(nP:Pt≠P1)(F:FunD K "about_of" "about_of" yu f fd bw)(T:TAb P w K mg base av au fcu aw c Pt pm)(ch:fd.code=.ref c)
  (F1z:Fun K "least" "least" jac av ag) (b1z:Binds K ag ["machine"] []) (bj:FnOk P w K mg base CX0 6 av ag ["machine"] (spLe P1))
  (F4z:Fun K "led_from" "led_from" zb au af) (b4z:Binds K af ["moves","sign"] []) (cr:FnOk P w K mg base CX0 1 au af ["moves","sign"] spLF)
  (F3z:FunD K "come_up" "come_up" y8 fcu fdc td) (cp:Binds K fdc ["first","signs","step","most","at"] bc) (J:Vals [.int 0] bc) (cu:FnOk P w K mg base CX0 4 fcu fdc ["first","signs","step","most","at"] (spCT P w K mg base))
  (F15z:Fun K "all_sources" "all_sources" za aw ah) (b15z:Binds K ah ["sources","rooms"] []) (bu:FnOk P w K mg base CX0 1 aw ah ["sources","rooms"] spAS):FnOk P w K mg base CX0 7 f fd ["machine","most"] (spAb P1 Pt):=by
 refine F.okC z5 (λvs H Q E h=>?_) (λA ay s H vs Q E hr h=>?_)
 .obtain⟨p,a1,a2,z,us,mv,m,ys,B,rfl,_⟩:=h
  rfl
 .obtain⟨p,a1,a2,z,us,mv,m,ys,B,rfl,M,zl,m1,b4,hB,a0,bz,k⟩:=h
  have hu:=hr.units
  have c3:sizeLine=16777216:=Iz
  have m9:=M.m9
  refine exQ (jf (jo (i:=2) z5.nd rfl (by ac_rfl) (jv bj (hr.mono (by decide)) rfl T.m1z F1z.kp b1z .nil kc (ja (qpv 0) jc)))
  (jf (jo (i:=3) z5.nd rfl (by ac_rfl) (ku rfl (jci (sc:=jg yu) (N:=["machine","most","lean","sources","first","came"]) (Nc:=["sign","lean"]) (js:=[none,some 2]) (by decide +kernel)) (yb rfl T.n_range (ja (jt jw (by rfl) T.n_len j3 (ja (jr ix_U (qpv 2) jh (λ_ _=>rfl)) jc)) jc)) (λ_ _ _ _=>(jq (i:=0) (show List.Nodup [("sign":Str),("lean":Str)]from by decide +kernel) rfl (by ac_rfl))) (λ_ _ _ _=>(jv cr (hr.mono (by decide)) rfl T.m4z F4z.kp b4z .nil kc (ja (jr ix_U (qpv 1) jh (λ_ _=>rfl)) (ja (qpv 0) jc))))))
  (jf (jo (i:=4) z5.nd rfl (by ac_rfl) (ju jz (by rfl) T.n_tuple kg (ja (jai rfl (jci (sc:=jg yu) (N:=["machine","most","lean","sources","first","came"]) (Nc:=["room","answer"]) (js:=[none,none]) (by decide +kernel)) (jbr (K:=K) rfl rfl T.n_enumerate (ja (jr ix_U (qpv 2) jh (λ_ _=>rfl)) jc)) (λ_ _ _ _=>(ja2 (n:=2) rfl (ze (jq (i:=0) (show List.Nodup [("room":Str),("answer":Str)]from by decide +kernel) rfl (by ac_rfl)) (ze (jq (i:=1) (show List.Nodup [("room":Str),("answer":Str)]from by decide +kernel) rfl (by ac_rfl)) jau)) (K:=K) rfl)) (λ_ _ _ _=>(zx (qpv 1))) (λ_ _ _ _=>(qpv 0))) jc)))
  (jf (jo (i:=5) z5.nd rfl (by ac_rfl) (jbb [(3,s.heap.objs.size+2)] (by intro j hj;simp only[At,Ae,U4]at hj;rcases hj with rfl <;> exact⟨_,rfl,rfl,rfl,rfl⟩) cu (hr.mono (by decide)) rfl T.m3z F3z.kp cp J (ja (qpv 4) (ja (jt jw (by rfl) T.n_len j3 (ja (jr ix_U (qpv 2) jh (λ_ _=>rfl)) jc)) (ja (jbc (Pt:=Pt) rfl T.pm ch T.hd T.bl) (ja (qpv 1) jc))))))
  (jj (ka (jv bj (hr.mono (by decide)) rfl T.m1z F1z.kp b1z .nil kc (ja (y9 (ja (jr ix_U (qpv 2) jh (λ_ _=>rfl)) (ja (jr ix_U (qpv 5) jh (λ_ _=>rfl)) (ja (ku rfl (jci (sc:=jg yu) (N:=["machine","most","lean","sources","first","came"]) (Nc:=["rooms"]) (js:=[none]) (by decide +kernel)) (j7 (K:=K) (jr ix_U (qpv 5) jh (λ_ _=>rfl)) rfl) (λ_ _ _ _=>(jq (i:=0) (show List.Nodup [("rooms":Str)]from by decide +kernel) rfl (by ac_rfl))) (λ_ _ _ _=>(jal (jbx (K:=K) rfl) jh (qpv 0) (by with_unfolding_all rfl)))) jc)))) jc)))))))) ?_
  refine seqH λu1 cc=>?_
  simp!
  refine⟨p,a1,a2,z,us,mv,m,ys,rfl,M.hp,M.hm,M.rw,M.ok,by rw[M.hy];rfl,M.yl,M.n1,M.n9,M.m9,a0,λq0 c1 c2 uc d ysL cw G0 c5 H1 S f0 f1 Rc f2 k1 bt=>?_⟩
  obtain⟨tl,ll⟩:=S.tl M.ok M.n1
  have bo:=jf5 nP a0 bz k1
  have L1:MH H1 q0 z c1 c2 uc d m ysL:=⟨f0,f1,Rc,tl.ok,f2,tl.yl,tl.n1,by have:=M.n9;omega,m9⟩
  obtain⟨R,hR⟩:=hB d ysL tl ll
  subst cc
  refine seqH λu2 cb=>?_
  simp! [L1.hp,zl]
  refine⟨by omega,by omega,by omega,λD hD=>?_⟩
  rw[show((m:Int)).toNat=m by omega]
  obtain⟨W1,ab⟩:∃W1:Nat->L2.St->Hp->Prop,∀i σ H',W1 i σ H'↔(∃(v:Option V)(as:List Addr),σ=[v,some (.ref q0)]/\H' D=some (.lst (as.map V.ref))/\as.length=i/\(∀(a:Nat) x,as[a]?=some x->x≠D/\∃C,(∀y∈C,y≠D)/\Src H' x C (srcF d a d.length) d.length)/\Kp [] H1 H'):=⟨_,λ_ _ _=>O2⟩
  refine jcr W1 ((ab _ _ _).mpr ⟨none,[],rfl,jb,rfl,by simp,(Kp.refl [] H1).new hD⟩) ?_ ?_
  .intro i σ H6 hi Y
   obtain⟨v,as,rfl,ar,al,cq,kp⟩:=(ab _ _ _).mp Y
   clear Y
   have L6:=L1.kp kp
   simp! [jdj,L6.hp]
   refine⟨c1,uc,d,m,i,by rw[Ui],L6.hm,L6.rw,tl.ok,hi,L1.n9,λps C G a7 ce b0 k7=>?_⟩
   have ak:=k7.old _ _ ar Ae
   have a4:ps≠D:=λz=>by rw[z,ar]at a7;cases a7
   have a3:∀y∈C,y≠D:=λy hy z=>by have:=ce y hy;rw[z,ar]at this;cases this
   have k8:Kp [D] H6 (upd G D (.lst (as.map V.ref++[.ref ps]))):=((k7.mono (by simp)).set ak (.inl (.head _)))
   have b8:Kp [D] G (upd G D (.lst (as.map V.ref++[.ref ps]))):=((Kp.refl [D] G).set ak (.inl (.head _)))
   have ap:∀{Hx Hy:Hp}{x:Addr}{C:List Addr}{Sr:Nat->List Nat}{n:Nat},Kp [D] Hx Hy->x≠D->(∀y∈C,y≠D)->Src Hx x C Sr n->Src Hy x C Sr n:=λk nx ny s=>⟨k.old _ _ s.hs (by simpa using nx),s.ln,λr y ey=>k.old _ _ (s.at_ r y ey) (by simpa using ny y (Ap ey)),s.lt,s.le⟩
   refine⟨_,by rw[ak];rfl,by rw[Ac];omega,(ab _ _ _).mpr ⟨_,as++[ps],rfl,by rw[jb,A6];rfl,by simp[al],λa x e=>?_,(kp.trans k7).set ak (.inr hD)⟩⟩
   rcases Aag a as.length with l|l|l
   .rw[A8 l]at e
    obtain⟨q2,b3,q3,q4⟩:=cq a x e
    exact⟨q2,b3,q3,ap k8 q2 q3 q4⟩
   .subst l
    rw[A9 (Ao _)]at e
    simp at e
    subst e
    rw[al]
    exact⟨a4,C,a3,ap b8 a4 a3 b0⟩
   .rw[Oh (by simp;omega)]at e
    cases e
  intro σ H2 Y
  obtain⟨v,as,rfl,ad,al,bg,k2⟩:=(ab _ _ _).mp Y
  clear Y ab W1
  have an:=L1.kp k2
  have SL:SrL H2 D d m as:=⟨ad,al,λa x e=>let⟨_,C,_,s⟩:=bg a x e;⟨C,s⟩⟩
  have br:=bt.kp k2 (by simp) (by simp)
  have bn:=bo.kp k2 (by simp) (by simp)
  clear bg
  dsimp only
  subst cb
  refine seqH λu3 ca=>?_
  simp! [an.hp]
  refine⟨⟨_,SqT.of an.hy⟩,λE1 a8=>?_⟩
  have yl:=tl.yl
  obtain⟨W2,I⟩:∃W2:Nat->L2.St->Hp->Prop,∀i σ H',W2 i σ H'↔(∃(v0 v1:Option V),σ=[v0,v1]/\H' E1=some (.lst (((List.range i).filter λq=>ysL.getD q false).map nV))/\Kp [] H2 H'):=⟨_,λ_ _ _=>O2⟩
  refine jnl (xs:=ysL.map V.bl) W2 ((I _ _ _).mpr ⟨_,_,rfl,jb,(Kp.refl [] H2).new a8⟩) (λi σ H' _ Y=>?_) (λi x σ H3 Tt hx Y hT=>?_) (λσ H3 Y=>?_)
  .obtain⟨_,_,_,_,kp⟩:=(I _ _ _).mp Y
   exact kp.tup _ _ an.hy
  .obtain⟨v0,v1,rfl,e3,k3⟩:=(I _ _ _).mp Y
   clear Y
   rw[Ah]at hx
   obtain⟨y,hy,rfl⟩:=Ih.mp hx
   have hi:=(Ab.mp hy).1
   have ey:ysL.getD i false=y:=by rw[Af,hy];rfl
   have kT:Kp [] H3 (upd H3 Tt (.tup [.int (i:Int),.bl y])):=(Kp.refl [] H3).new hT
   have e4:=kT.old _ _ e3 Ae
   refine⟨Tt,_,rfl,SqT.of jb,rfl,⟨_,_,rfl,⟨_,_,rfl,rfl,?_⟩⟩⟩
   generalize upd H3 Tt (.tup [.int (i:Int),.bl y])=H4 at kT e4⊢
   simp! [jei]
   have fr:(List.range (i+1)).filter (λq=>ysL.getD q false)=(List.range i).filter (λq=>ysL.getD q false)++(if y=true then[i]else[]):=by
    rw[O9,Yh];congr 1;simp only[List.filter_cons,List.filter_nil,ey]
   have fl:=Oy (λq=>ysL.getD q false) (List.range i)
   rw[A1]at fl
   have n9:=L1.n9
   cases y with
   |true =>
    rw[Al rfl]at fr⊢
    simp! [jdj,e4]
    refine⟨by rw[Ac];omega,(I _ _ _).mpr ⟨_,_,rfl,by rw[jb,fr,A6];rfl,(k3.trans kT).set e4 (.inr a8)⟩⟩
   |false =>
    rw[Ai (by simp)]at fr⊢
    exact(I _ _ _).mpr ⟨_,_,rfl,by rw[fr,O8];exact e4,k3.trans kT⟩
  obtain⟨v0,v1,rfl,e3,k3⟩:=(I _ _ _).mp Y
  clear Y I W2
  rw[Ac,yl]at e3
  simp!
  refine jcj e3 λt0 cd=>?_
  have kA:Kp [] H2 (upd H3 t0 (.tup (((List.range d.length).filter λq=>ysL.getD q false).map nV))):=k3.new cd
  have a9:upd H3 t0 (.tup (((List.range d.length).filter λq=>ysL.getD q false).map nV)) t0=some (.tup ((subW d m ysL []).map nV)):=jb
  generalize upd H3 t0 (.tup (((List.range d.length).filter λq=>ysL.getD q false).map nV))=HA at kA a9⊢
  have LA:=an.kp kA
  have SA:=SL.kp kA
  have bp:=br.kp kA (by simp) (by simp)
  have O:=bn.kp kA (by simp) (by simp)
  have b7:Kp [P1] H HA:=k1.trans ((k2.trans kA).mono (by simp))
  subst ca
  refine seqH λu4 b9=>?_
  simp!
  refine⟨_,by rw[LA.hp];rfl,_,rfl,?_⟩
  simp!
  rw[zl]
  refine⟨by omega,O,λfl c' ct H5 c4 k5 e5 cz bm=>?_⟩
  refine⟨λj hj=>by cases Ag.mp hj;exact⟨_,rfl⟩,λcs cg=>?_⟩
  obtain⟨o,rfl,hn,u,ho,ru⟩:∃o,cs=[(s.heap.objs.size+2,o)]/\H5 (s.heap.objs.size+2)=none/\∃u,o.data=.cell (some u)/\RelV (.ref D) u:=by
   cases cg with
   |cons h t =>
    cases t
    rename_i p;obtain⟨c1,o1⟩:=p;obtain⟨e1,e2,v,u,e3,e4,e5⟩:=h
    cases(Aw (Aw e3))
    cases(show c1=s.heap.objs.size+2 from e1)
    exact⟨o1,rfl,e2,u,e4,e5⟩
  have bb:H5 fl=some (FZ (PySem.W.kla_obj "<lambda>" AQ jke jkf lamS2 [("sources",s.heap.objs.size+2)] pm c' ct)):=e5
  clear e5
  generalize s.heap.objs.size+2=g at bb hn⊢
  have lk:∀b,b≠g->([(g,o)]:List (Addr×Obj)).lookup b=none:=λb h=>by
   rw[List.lookup_cons];have:(b == g)=false:=by simpa using h
   rw[this];rfl
  have sh:∀b v,H5 b=some v->jc7 H5 [(g,o)] b=some v:=λb v e=>by rw[jc1 (lk b (je e hn))];exact e
  have kS:Kp [] H5 (jc7 H5 [(g,o)]):=⟨λb v e _=>sh b v e,λb xs e=>sh b _ e,λb v e=>⟨v,sh b v e⟩⟩
  have en:jc7 H5 [(g,o)] g=some (FZ o):=jd9 (by simp[List.lookup])
  have co:Caps (jc7 H5 [(g,o)]) [("sources",g)] ["sources"] [.ref D]:=by
   refine⟨rfl,λi x v q1 q2=>?_,λx hx=>?_,λp hp=>?_,λx y c q1 q2=>?_⟩
   .cases i with
    |zero=>cases q1;cases q2;exact⟨g,o,u,rfl,en,ho,ru⟩
    |succ i=>simp at q1
   .cases Ag.mp hx;exact⟨g,rfl⟩
   .cases Ag.mp hp;exact⟨o,some u,en,ho⟩
   .rw[List.lookup_cons]at q1 q2;split at q1
    .split at q2
     .rename_i z1 _ z2;rw[eq_of_beq z1,eq_of_beq z2]
     .cases q2
    .cases q1
  have b5:D∉[Pt]:=λX=>by
   obtain⟨ps,hp,_⟩:=O;rw[<-Ag.mp X,SA.hs]at hp
   cases hp
  have nL:∀x xs,HA x=some (.lst xs)->x∉[Pt]:=λx xs e X=>by
   obtain⟨ps,hp,_⟩:=O;rw[<-Ag.mp X,e]at hp
   cases hp
  have S5:SrL H5 D d m as:=⟨k5.old _ _ SA.hs b5,SA.ln,λa x e=>by
   obtain⟨C,U⟩:=SA.at_ a x e;exact⟨C,k5.old _ _ U.hs (nL _ _ U.hs),U.ln,λr y ey=>k5.old _ _ (U.at_ r y ey) (nL _ _ (U.at_ r y ey)),U.lt,U.le⟩⟩
  have L5:=LA.kp k5
  have bq:=jf5 nP.symm O bp k5
  obtain⟨RR,ac⟩:∃RR:Hp->Prop,∀H,RR H↔(H fl=some (FZ (PySem.W.kla_obj "<lambda>" AQ jke jkf lamS2 [("sources",g)] pm c' ct))/\CodeZ H c' AQ/\Caps H [("sources",g)] ["sources"] [.ref D]/\SrL H D d m as):=⟨_,λ_=>O2⟩
  have LG:LgT P w K mg base fl (PySem.W.kla_obj "<lambda>" AQ jke jkf lamS2 [("sources",g)] pm c' ct) (PySem.W.kla_fn "<lambda>" AQ jke jkf lamS2 [("sources",g)] pm (.ref c') ct) ["rooms","sign"] (goS d R) (decS R) R.length m RR:=by
   refine⟨rfl,jpu (fs:=["sources"]) jtz (λvs H Q E h=>?_) (λvs H Q E h=>?_),.all (us2 λ_ _=>rfl),λH h=>((ac H).mp h).1,λH H' k h=>?_⟩
   .obtain⟨b,r,a,rfl,_⟩:=h;rfl
   .obtain⟨b,r,a,rfl,hb,a6,ha,aq,q⟩:=h;obtain⟨R1,R2,R3,R4⟩:=(ac H).mp aq;refine⟨R1,R2,[.ref D],R3,λA ay s hr=>⟨_,QE.h (jv bu (hr.mono (by decide)) rfl T.m15z F15z.kp b15z .nil kc (ja (jr ix_U (qpv 2) (qpv 1) (λ_ _=>rfl)) (ja (qpv 0) jc))),?_⟩⟩;simp!;have hx:∀x v,H x=some v->(∀o,v≠FZ o)->hideC H [g] x=some v:=λx v e nn=>by
     rw[jcn (λX=>by
      obtain⟨o2,u2,e2,_⟩:=R3.fz _ (.head _);rw[Ag.mp X]at e;rw[show H g=some (FZ o2)from e2]at e;exact nn o2 (Aw e).symm)]
     exact e
    obtain⟨ux,c0,ed⟩:=hR.dec a6;have ea:as[a]?=some (as[a]'(by rw[R4.ln];exact ha)):=Aa _;generalize as[a]'(by rw[R4.ln];exact ha)=x at ea;obtain⟨C,U⟩:=R4.at_ a x ea;refine⟨_,by rw[hx _ _ R4.hs (λ_ z=>by cases z)];rfl,.ref x,jch (by rw[Ah,ea];rfl),?_⟩;refine⟨x,b,C,d,a,d.length,decS R r,rfl,⟨hx _ _ U.hs (λ_ z=>by cases z),U.ln,λr y ey=>hx _ _ (U.at_ r y ey) (λ_ z=>by cases z),U.lt,U.le⟩,hx _ _ hb (λ_ z=>by cases z),by rw[ed];exact jt6 _,λq hq=>by rw[ed]at hq;exact((jiz _ _).mp hq).1,L1.n9,λb' H' k' ba hc=>q b' _ k'.backC ?_⟩;rw[jc6 (λX=>by have:=hc _ X;rw[ba]at this;cases this),ba,(hR.go tl.ok a6 ha).2]
   .obtain⟨R1,R2,R3,R4⟩:=(ac H).mp h;exact(ac H').mpr ⟨k.old _ _ R1 Ae,R2.kp k (by simp),R3.kp k (by simp),R4.kp k⟩
  have aq:RR (jc7 H5 [(g,o)]):=(ac _).mpr ⟨sh _ _ bb,cz.kp kS (by simp),co,S5.kp kS⟩
  obtain⟨i0,e0⟩:=jhl (hR.all [] (by simp))
  have rB:=hR.le
  refine⟨fl,t0,_,_,_,goS d R,decS R,R.length,m,R.idxOf (subW d m ysL []),400,RR,LG,aq,rfl,by rw[sh _ _ (k5.tup _ _ a9),e0],i0,by omega,by omega,m9,λr a hr ha=>(hR.go tl.ok hr ha).1,hR.inj,λq1 b1 b2 az us1 L H6 bf cj cn Rv cm R2 k6=>?_⟩
  have kk:=kS.trans k6
  have aj:Kp [] H5 (hideC H6 [g]):=by
   have ne:∀b v,H5 b=some v->b∉[g]:=λb v e X=>by rw[Ag.mp X,hn]at e;cases e
   exact⟨λb v e X=>by rw[jcn (ne b _ e)];exact kk.old b v e X,λb xs e=>by rw[jcn (ne b _ e)];exact kk.tup b xs e,λb v e=>by rw[jcn (ne b _ e)];exact kk.dom b v e⟩
  have ck:H6 g=some (FZ o):=k6.old _ _ en Ae
  have aa:∀b v,H6 b=some v->(∀o,v≠FZ o)->hideC H6 [g] b=some v:=λb v e nn=>by
   rw[jcn (λX=>by
    rw[Ag.mp X,ck]at e;exact nn o (Aw e).symm)]
   exact e
  have q7:=aa _ _ cj (λ_ z=>by cases z)
  have ax:=aa _ _ cn (λ_ z=>by cases z)
  have be:=aa _ _ cm (λ_ z=>by cases z)
  have am:RowsM (hideC H6 [g]) az (L.map (decS R)):=Paired.mapP Rv λ_ _ ⟨b,z1,z2⟩=>⟨b,z1,aa _ _ z2 (λ_ z=>by cases z)⟩
  have bh:RowsM (hideC H6 [g]) us1 (cuM (goS d R) m L):=Paired.mapP R2 λ_ _ ⟨b,z1,z2⟩=>⟨b,z1,aa _ _ z2 (λ_ z=>by cases z)⟩
  have L7:=L5.kp aj
  have ae:=bq.kp aj (by simp) (by simp)
  have ao:=bm.kp aj (by simp) (by simp)
  have a5:Kp [P1,Pt] H (hideC H6 [g]):=(b7.mono (by simp)).trans ((k5.mono (by simp)).trans (aj.mono (by simp)))
  dsimp only
  rw[show(List.map Prod.fst [(g,o)])=[g]from rfl]
  generalize hideC H6 [g]=G at q7 ax be am bh L7 ae ao a5⊢
  have bi:=bf.inv i0 λr a hr ha=>(hR.go tl.ok hr ha).1
  have rl:L.length<=R.length:=jc0 bi.nd bi.lt
  have r1:1<=L.length:=(Ab.mp bi.z).1
  have vl:az.length=L.length:=by have:=Iw am;rw[Ac]at this;exact this
  subst b9
  simp!
  refine⟨_,by rw[L7.hp];rfl,_,rfl,?_⟩
  rw[q7]
  refine⟨_,rfl,.ref b2,jfd _ _ _,?_⟩
  refine⟨_,rfl,.ref b1,jew _ _,?_⟩
  simp only[ax]
  intro D2 ad
  obtain⟨bs,rfl,_,ci⟩:=jjz am
  refine jdn (zeV G) ax ad (by omega) (λx hx l Q' q=>?_) λvv=>?_
  .obtain⟨b,hb,rfl⟩:=Am.mp hx
   obtain⟨row,cv,eb⟩:=ci b hb
   simp!
   have nD:b≠D2:=je eb ad
   have ei:jcz G b=cI row:=jdz (by rw[jfe];exact eb)
   have e0:zeV G (.ref b)=.bl (decide (0∈row)):=by
    show V.bl (decide ((0:Int)∈jcz G b))=_;rw[ei];congr 1;rw[Ur,Oj,Oj];unfold cI;simp
   rw[e0]at q
   refine rInU.tupS (SqT.of (by rw[jd nD];exact eb)) rfl (by simp[List.all_map];intro z _;rfl) ?_
   rw[show V.int 0=nV 0 from rfl,jht]
   exact q
  have fA:(bs.map V.ref).map (zeV G)=(L.map (accS R)).map V.bl:=jnx am
  rw[fA]
  have k8:Kp [] G (upd G D2 (.lst ((L.map (accS R)).map V.bl))):=(Kp.refl [] G).new ad
  have e8:upd G D2 (.lst ((L.map (accS R)).map V.bl)) D2=some (.lst ((L.map (accS R)).map V.bl)):=jb
  generalize upd G D2 (.lst ((L.map (accS R)).map V.bl))=H8 at k8 e8⊢
  refine⟨by omega,λp9 cf=>?_⟩
  have k9:Kp [] H8 (upd H8 p9 (.tup [.str z,.ref b2,.ref D2])):=(Kp.refl [] H8).new cf
  have e9:upd H8 p9 (.tup [.str z,.ref b2,.ref D2]) p9=some (.tup [.str z,.ref b2,.ref D2]):=jb
  generalize upd H8 p9 (.tup [.str z,.ref b2,.ref D2])=H9 at k9 e9⊢
  have Z:=k8.trans k9
  have cl:(cuM (goS d R) m L).length=L.length:=by simp[cuM]
  have bd:=jdp bi
  refine⟨p9,b2,D2,z,us1,cuM (goS d R) m L,m,L.map (accS R),rfl,e9,Z.tup _ _ be,bh.kp Z,bd,by rw[k9.old _ _ e8 Ae];rfl,by rw[Ac,cl],by omega,by omega,m9,ae.kp Z (by simp) (by simp),λq d1 d2 ud b6 bv cx G' c6 HB S' g0 g1 Rd g2 kB bx=>?_⟩
  obtain⟨ai,cy⟩:=S'.tl bd (by omega)
  have bk:=jf5 nP (ae.kp Z (by simp) (by simp)) (ao.kp Z (by simp) (by simp)) kB
  refine k q HB ⟨d1,d2,ud,b6,bv,⟨g0,g1,Rd,ai.ok,g2,ai.yl,ai.n1,by omega,m9⟩,ai.congr λv hv=>?_,by omega⟩ (a5.trans ((Z.mono (by simp)).trans (kB.mono (by simp)))) bx bk
  rw[hR.tells tl.ok tl.n1 bf v hv]
  exact tl.lang λa ha=>hv a (Oi.mp ha)
end
def jsf:Sp:=λvs H Q _=>∃(p a1 a2:Addr)(z:Str)(us:List V)(mv:List (List Nat))(m:Nat)(ys:List Bool),vs=[.ref p]/\MH H p z a1 a2 us mv m ys/\z.length=m/\1<=m/\mv.length<=6 /\
 ∀(q:Addr)(H':Hp),RS H' q z m 64 (λu=>La mv m ys 0 u.reverse)->Kp [] H H'->Q (.ref q) H'
structure TAbL(mg:Str->Option Value)(fl:Addr):Prop where
 n_list:mg "list"=none
 n_range:mg "range"=none
 n_len:mg "len"=none
 n_tuple:mg "tuple"=none
 m2z:mg "_law_least"=some (.ref fl)
def LsR(H:Hp)(bs:List Addr)(ks:List (List Nat)):Prop:=Paired (λb k=>H b=some (.lst (k.map nV))) bs ks
def lI(H:Hp)(b:Addr):List Int:=match H b with
 |some (.lst xs)=>xs.map λv=>match v with|.int i=>i|_=>0
 |_=>[]
theorem jol{k:List Nat}(e:H b=some (.lst (k.map nV))):lI H b=cI k:=by
 unfold lI;rw[e];show(k.map nV).map _=_;rw[Az];rfl
theorem LsR.ints{H:Hp}:∀{bs:List Addr}{ks:List (List Nat)},LsR H bs ks->bs.map (lI H)=ks.map cI/\∀b∈bs,H b=some (.lst ((lI H b).map V.int))
 |[],[],_=>⟨rfl,by simp⟩
 |b::bs,k::ks,.cons h t=>by
  obtain⟨e,d⟩:=LsR.ints t;refine⟨by rw[Au,Au,e,jol h],λc a=>?_⟩;rcases At.mp a with rfl|a
  .rw[jol h,jfe];exact h
  .exact d c a
theorem LsR.kp{S:List Addr}{H H':Hp}(k:Kp S H H'):∀{bs:List Addr}{ks:List (List Nat)},LsR H bs ks->(∀b∈bs,b∉S)->LsR H' bs ks
 |[],[],_,_=>.nil
 |b::bs,_::_,.cons h t,n=>.cons (k.old _ _ h (n b (.head _))) (LsR.kp k t λc a=>n c (.tail _ a))
theorem LsR.get{bs:List Addr}{ks:List (List Nat)}(h:LsR H bs ks){k:List Nat}(e:ks[i]?=some k):∃b,bs[i]?=some b/\H b=some (.lst (k.map nV)):=by
 induction h generalizing i with
 |nil=>simp at e
 |cons h _ ih =>
  cases i with
  |zero=>cases e;exact⟨_,rfl,h⟩
  |succ i=>exact ih (by simpa using e)
theorem jn6(k:List Nat):decide ((0:Int)∈cI k)=decide (0∈k):=by
 rw[Ur,Oj,Oj];unfold cI;simp
def zeL(H:Hp):V->V
 |.ref b=>.bl (decide ((0:Int)∈lI H b))
 |v=>v
theorem jr9{H:Hp}{R:List (List Nat)}:∀{bs:List Addr}{rs:List Nat},LsR H bs (rs.map (decS R))->(bs.map V.ref).map (zeL H)=(rs.map (accS R)).map V.bl
 |[],[],_=>rfl
 |b::bs,r::rs,.cons h t=>by
  rw[Au,Au,Au,Au,jr9 t];congr 1;show V.bl (decide ((0:Int)∈lI H b))=V.bl (decide (0∈decS R r));rw[jol h,jn6]
section
variable{mv:List (List Nat)}{m:Nat}{ys:List Bool}{B:Nat}{R:List (List Nat)}
theorem Sets.memD(S:Sets mv m ys B R)(hr:∀r∈rs,r<R.length){x:Nat}(b:x<R.length):decS R x∈rs.map (decS R)↔x∈rs:=by
 refine⟨λh=>?_,λh=>Am.mpr ⟨x,h,rfl⟩⟩;obtain⟨r,a,c⟩:=Am.mp h;rw[<-S.inj r x (hr r a) b c];exact a
theorem Sets.idxD(S:Sets mv m ys B R){x:Nat}(a:x<R.length):∀{rs:List Nat},(∀r∈rs,r<R.length)->(rs.map (decS R)).idxOf (decS R x)=rs.idxOf x
 |[],_=>rfl
 |r::rs,hr=>by
  rw[Au,Yj,Yj,Sets.idxD S a (rs:=rs) λq b=>hr q (.tail _ b)];by_cases c:r=x
  .subst c;simp
  .have:¬decS R r=decS R x:=λe=>c (S.inj r x (hr r (.head _)) a e);have f:(decS R r == decS R x)=false:=by simpa using this
   have d:(r == x)=false:=by simpa using c
   rw[f,d]
end
section
variable{P:Program}{w:World}{K:PySem.W.Frag}{mg:Str->Option Value}{base:Heap}
abbrev yo:Stmt:=top 27
theorem yp:FnScope ["_law_machine_here","_law_many","_law_rooms","_law_moves","_law_at","_law_row","_law_k","_law_goal"] ["_law_machine_here"] (jg yo):=⟨rfl,rfl,rfl,by decide +kernel,rfl,by decide +kernel,by decide +kernel⟩
theorem ok__law_about(F:Fun K "_law_about" "_law_about" yo f fd)(T:TAbL mg fl)
  (F2z:Fun K "_law_least" "_law_least" ko fl fdl) (b2z:Binds K fdl ["_law_machine_here"] []) (bz:FnOk P w K mg base CX0 2 fl fdl ["_law_machine_here"] jkj):FnOk P w K mg base CX0 3 f fd ["_law_machine_here"] jsf:=by
 refine F.ok yp (λvs H Q E h=>?_) (λb3 A b0 s H vs Q E hr h=>?_)
 .obtain⟨p,a1,a2,z,us,d,m,ys,rfl,_⟩:=h
  rfl
 .obtain⟨p,a1,a2,z,us,d,m,ys,rfl,M,zl,m1,n6,k⟩:=h
  have hu:=hr.units
  have b1:sizeLine=16777216:=Iz
  have m9:=M.m9
  have yl:=M.yl
  obtain⟨R,hR⟩:=jh9 (m:=m) (ys:=ys) n6
  obtain⟨i0,e0⟩:=jhl (hR.all [] (by simp))
  have rB:=hR.le
  refine exQ (jf (jo (i:=1) yp.nd rfl (by ac_rfl) (ju (jba rfl) (by rfl) T.n_list jbf (ja (ju ja6 (by rfl) T.n_range jbw (ja (jt jw (by rfl) T.n_len j3 (ja (jr ix_U (qpv 0) jh (λ_ _=>rfl)) jc)) jc)) jc)))
  (jf (jo (i:=2) yp.nd rfl (by ac_rfl) (kx (ja (jai rfl (jci (sc:=jg yo) (N:=["_law_machine_here","_law_many","_law_rooms","_law_moves","_law_at","_law_row","_law_k","_law_goal"]) (Nc:=["_law_room","_law_machine_here"]) (js:=[none,some 0]) (by decide +kernel)) (j7 (K:=K) (qpv 1) rfl) (λ_ _ _ _=>(jq (i:=0) (show List.Nodup [("_law_room":Str),("_law_machine_here":Str)]from by decide +kernel) rfl (by ac_rfl))) (λ_ _ _ _=>(zx (jr ix_U (jr ix_U (qpv 1) jh (λ_ _=>rfl)) (qpv 0) (λ_ _=>rfl)))) (λ_ _ _ _=>(qpv 0))) jc)))
  (jf (jo (i:=3) yp.nd rfl (by ac_rfl) (kx jc))
  (jf (jo (i:=4) yp.nd rfl (by ac_rfl) jh)
  (jf (z6 Ip (j8 jao (qpv 4) (jt jw (by rfl) T.n_len j3 (ja (qpv 2) jc)) (yd _)) (jf (jo (i:=5) yp.nd rfl (by ac_rfl) (kx jc))
  (jf (yh Ip rfl (yb rfl T.n_range (ja (jt jw (by rfl) T.n_len j3 (ja (jr ix_U (qpv 0) jh (λ_ _=>rfl)) jc)) jc)) (jq (i:=6) yp.nd rfl (by ac_rfl)) (jf (jbd (i:=7) yp.nd rfl (by ac_rfl) rfl (jci (sc:=jg yo) (N:=["_law_machine_here","_law_many","_law_rooms","_law_moves","_law_at","_law_row","_law_k","_law_goal"]) (Nc:=["_law_room","_law_k","_law_rooms","_law_at","_law_machine_here"]) (js:=[none,some 6,some 2,some 4,some 0]) (by decide +kernel)) (j7 (K:=K) (qpv 1) rfl) (λ_ _ _ _=>(jq (i:=0) (show List.Nodup [("_law_room":Str),("_law_k":Str),("_law_rooms":Str),("_law_at":Str),("_law_machine_here":Str)]from by decide +kernel) rfl (by ac_rfl))) (λ_ _ _ _=>(j8 (jbx (K:=K) rfl) (jr ix_U (jr ix_U (jr ix_U (qpv 4) jh (λ_ _=>rfl)) (qpv 0) (λ_ _=>rfl)) (qpv 1) (λ_ _=>rfl)) (jr ix_U (qpv 2) (qpv 3) (λ_ _=>rfl)) (by with_unfolding_all rfl))) (λ_ _ _ _=>(qpv 0)))
  (yf (ym (j8 (op_notinL hu) (qpv 7) (qpv 2) (by with_unfolding_all rfl)) (jj (kj (kh Ii Ij ki (qpv 2) (ja (qpv 7) jc) jcl))) ya)
  (jj (kj (kh Ii Ij ki (qpv 5) (ja (kh Wd We (jaf hu) (qpv 2) (ja (qpv 7) jc) jcl) jc) jcl))))))
  (jf (kj (kh Ii Ij ki (qpv 3) (ja (ju jz (by rfl) T.n_tuple kg (ja (qpv 5) jc)) jc) jcl))
  (jj (jo (i:=4) yp.nd rfl (by ac_rfl) (j4 yw (qpv 4) jh)))))))
  (jj (ka (jv bz (hr.mono (by decide)) rfl T.m2z F2z.kp b2z .nil kc (ja (y9 (ja (jr ix_U (qpv 0) jh (λ_ _=>rfl)) (ja (ju jz (by rfl) T.n_tuple kg (ja (qpv 3) jc)) (ja (ju jz (by rfl) T.n_tuple kg (ja (ku rfl (jci (sc:=jg yo) (N:=["_law_machine_here","_law_many","_law_rooms","_law_moves","_law_at","_law_row","_law_k","_law_goal"]) (Nc:=["_law_room"]) (js:=[none]) (by decide +kernel)) (j7 (K:=K) (qpv 2) rfl) (λ_ _ _ _=>(jq (i:=0) (show List.Nodup [("_law_room":Str)]from by decide +kernel) rfl (by ac_rfl))) (λ_ _ _ _=>(jal (jbx (K:=K) rfl) jh (qpv 0) (by with_unfolding_all rfl)))) jc)) jc)))) jc))))))))) ?_
  refine seqH λu1 bm=>?_
  simp! [M.hp,M.hy,Ac,yl]
  refine⟨by omega,by omega,λpr bq=>⟨0,d.length,jb,by decide,by decide,by omega,by omega,by omega,λU bt=>?_⟩⟩
  have k1:Kp [] H (upd (upd H pr (.rng 0 d.length)) U (.lst ((List.range ((d.length:Int)-0).toNat).map λi=>V.int (0+(i:Nat))))):=((Kp.refl [] H).new bq).new bt
  have em:upd (upd H pr (.rng 0 d.length)) U (.lst ((List.range ((d.length:Int)-0).toNat).map λi=>V.int (0+(i:Nat)))) U=some (.lst ((List.range d.length).map nV)):=by
   rw[jb,show((d.length:Int)-0).toNat=d.length by omega];congr 2;exact Ib λi _=>by rw[Ui];rfl
  generalize upd (upd H pr (.rng 0 d.length)) U (.lst ((List.range ((d.length:Int)-0).toNat).map λi=>V.int (0+(i:Nat))))=H1 at k1 em⊢
  have M1:=M.kp k1
  subst bm
  refine seqH λu2 bk=>?_
  simp! [em]
  intro D0 ap
  refine jgk (λv=>match v with|.int i=>ys.getD i.toNat false|_=>false) id em ap (by rw[Ac,A1];omega) (λx I l Q' q=>?_) (λx I _ l Q' q=>?_) λvv=>?_
  .obtain⟨t,ht,rfl⟩:=Am.mp I
   have tn:=Av.mp ht
   have M2:=M1.kp ((Kp.refl [] H1).new (o:=.lst l) ap)
   simp! [nV,M2.hp]
   rw[M2.hy]
   exact⟨_,rfl,.bl (ys.getD t false),jch (by rw[Ah,Af,Aa (by omega)];rfl),_,rfl,q⟩
  .simp!
   exact q
  have eF:(((List.range d.length).map nV).filter (λv=>match v with|.int i=>ys.getD i.toNat false|_=>false)).map id=(subW d m ys []).map nV:=by
   rw[Wi,Aax];rfl
  rw[eF]
  have k2:Kp [] H1 (upd H1 D0 (.lst ((subW d m ys []).map nV))):=(Kp.refl [] H1).new ap
  have d2:upd H1 D0 (.lst ((subW d m ys []).map nV)) D0=some (.lst ((subW d m ys []).map nV)):=jb
  have ad:=k2.old _ _ em Ae
  generalize upd H1 D0 (.lst ((subW d m ys []).map nV))=H2 at k2 d2 ad⊢
  refine⟨by omega,λu L=>?_⟩
  subst bk
  refine seqH λu3 bj=>?_
  simp!
  refine⟨by omega,λpv ac=>?_⟩
  have k3:Kp [] H2 (upd (upd H2 u (.lst [.ref D0])) pv (.lst [])):=((Kp.refl [] H2).new L).new ac
  have aj:u≠pv:=je jb ac
  have bd:D0≠u/\D0≠pv:=⟨je d2 L,je (by rw[jd (je d2 L)];exact d2) ac⟩
  have q3:upd (upd H2 u (.lst [.ref D0])) pv (.lst []) u=some (.lst [.ref D0]):=by rw[jd aj,jb]
  have v3:upd (upd H2 u (.lst [.ref D0])) pv (.lst []) pv=some (.lst []):=jb
  have d3:=k3.old _ _ d2 Ae
  have a7:=k3.old _ _ ad Ae
  have bp:H u=none:=(k1.trans k2).free L
  have bh:H pv=none:=((k1.trans k2).new L).free ac
  have a3:=(k1.trans k2).trans k3
  have aw:U≠u/\U≠pv:=⟨je ad L,je (by rw[jd (je ad L)];exact ad) ac⟩
  generalize upd (upd H2 u (.lst [.ref D0])) pv (.lst [])=H3 at k3 q3 v3 d3 a7 a3⊢
  subst bj
  simp!
  unfold jl9
  obtain⟨W0,an⟩:∃W0:Nat->L2.St->Hp->Prop,∀μ σ H',W0 μ σ H'↔(∃(rs:List Nat)(n:List Addr)(e:List V)(j:Nat)(v5 v6 v7:Option V),σ=[some (.ref p),some (.ref U),some (.ref u),some (.ref pv),some (.int (j:Int)),v5,v6,v7]/\Bf (goS d R) m (R.idxOf (subW d m ys [])) j rs/\H' u=some (.lst (n.map V.ref))/\LsR H' n (rs.map (decS R))/\(∀b∈n,b≠u/\b≠pv)/\H' pv=some (.lst e)/\e.length=j/\RowsM H' e ((rs.take j).map λr=>(List.range m).map λa=>rs.idxOf (goS d R r a))/\H' U=some (.lst ((List.range d.length).map nV))/\Kp [] H H'/\μ=R.length-j):=⟨_,λ_ _ _=>O2⟩
  refine⟨W0,⟨_,(an _ _ _).mpr ⟨[R.idxOf (subW d m ys [])],[D0],[],0,none,none,none,rfl,.z,q3,.cons (by rw[e0];exact d3) .nil,λb g=>by cases Ag.mp g;exact bd,v3,rfl,.nil,a7,a3,rfl⟩⟩,?_⟩
  intro μ σ H4 hw
  obtain⟨rs,n,e,j,v5,v6,v7,rfl,bf,y,G,C,Z,ul,R1,as,kp,rfl⟩:=(an _ _ _).mp hw
  clear hw
  have gl:∀r a,r<R.length->a<m->goS d R r a<R.length:=λr a hr ha=>(hR.go M.ok hr ha).1
  have bi:=bf.inv i0 gl
  have rl:rs.length<=R.length:=jc0 bi.nd bi.lt
  have jl:=bi.jl
  have bl:n.length=rs.length:=by have:=Iw G;rw[Ac]at this;exact this
  simp! [y,Ac,bl]
  by_cases c:j<rs.length
  .rw[Al (by simpa using c)]
   have er:rs[j]?=some (rs[j]):=Aa c
   generalize rs[j]=r at er
   have rn:=bi.lt r (Ap er)
   have M4:=M.kp kp
   refine⟨_,λ_ _ h=>h,by omega,λpw J=>?_⟩
   have av:u≠pw:=je y J
   have bb:pv≠pw:=je Z J
   have bc:U≠pw:=je as J
   have ba:H pw=none:=kp.free J
   have ax:∀b∈n,b≠pw:=λb g z=>by
    obtain⟨i,hi⟩:=Il g;have hl:=(Ab.mp hi).1;obtain⟨b',h1,h2⟩:=G.get (show(rs.map (decS R))[i]?=some (decS R (rs[i]'(by omega)))by rw[Ah,Aa (by omega)];rfl);rw[hi]at h1
    cases h1
    rw[z,J]at h2
    cases h2
   have kw:Kp [] H4 (upd H4 pw (.lst [])):=(Kp.refl [] H4).new J
   have W:upd H4 pw (.lst []) pw=some (.lst []):=jb
   generalize upd H4 pw (.lst [])=Y at kw W⊢
   have M5:=M4.kp kw
   simp! [M5.hp,zl]
   refine⟨by omega,by omega,by omega,?_⟩
   rw[show((m:Int)).toNat=m by omega]
   obtain⟨W1,ai⟩:∃W1:Nat->L2.St->Hp->Prop,∀a σ H',W1 a σ H'↔(∃(n:List Addr)(v6 v7:Option V),σ=[some (.ref p),some (.ref U),some (.ref u),some (.ref pv),some (.int (j:Int)),some (.ref pw),v6,v7]/\H' u=some (.lst (n.map V.ref))/\LsR H' n ((cuR (goS d R) r a rs).map (decS R))/\(∀b∈n,b≠u/\b≠pv/\b≠pw)/\H' pv=some (.lst e)/\RowsM H' e ((rs.take j).map λr=>(List.range m).map λa=>rs.idxOf (goS d R r a))/\H' pw=some (.lst ((List.range a).map λb=>nV ((cuR (goS d R) r a rs).idxOf (goS d R r b))))/\H' U=some (.lst ((List.range d.length).map nV))/\Kp [] H H'):=⟨_,λ_ _ _=>O2⟩
   refine jcr W1 ((ai _ _ _).mpr ⟨n,v6,v7,rfl,kw.old _ _ y Ae,G.kp kw (by simp),λb g=>⟨(C b g).1,(C b g).2,ax b g⟩,kw.old _ _ Z Ae,R1.kp kw,W,kw.old _ _ as Ae,kp.trans kw⟩) ?_ ?_
   .clear y G C ax Z bl as J kw W M4 M5 v6 v7
    intro a σ X ha hw
    obtain⟨n,v6,v7,rfl,y,G,C,Z,R6,W,S,ag⟩:=(ai _ _ _).mp hw
    clear hw
    have M6:=M.kp ag
    have cl:(cuR (goS d R) r a rs).length<=R.length:=jc0 (jem bi.nd a) λx I=>by
     rcases jdd a x I with h|⟨b,h1,h2⟩
     .exact bi.lt x h
     .rw[h2];exact gl r b rn (by omega)
    have ci:∀x∈cuR (goS d R) r a rs,x<R.length:=λx I=>by
     rcases jdd a x I with h|⟨b,h1,h2⟩
     .exact bi.lt x h
     .rw[h2];exact gl r b rn (by omega)
    have bl:n.length=(cuR (goS d R) r a rs).length:=by have:=Iw G;rw[Ac]at this;exact this
    have gn:=gl r a rn ha
    obtain⟨tt,et⟩:=jd5 (goS d R) r rs a
    obtain⟨br,a5,ae⟩:=G.get (show((cuR (goS d R) r a rs).map (decS R))[j]?=some (decS R r)by rw[et,Ah,A8 c,er];rfl)
    simp! [S]
    intro D hD
    have aa:u≠D/\pv≠D/\pw≠D/\U≠D:=⟨je y hD,je Z hD,je W hD,je S hD⟩
    have a9:br≠D:=je ae hD
    refine jgk (λv=>match v with|.int i=>decide (dM d i.toNat a∈decS R r)|_=>false) id S hD (by rw[Ac,A1];omega) (λx I l Q' q=>?_) (λx I _ l Q' q=>?_) λvv=>?_
    .obtain⟨t,ht,rfl⟩:=Am.mp I
     have tn:=Av.mp ht
     have kD:Kp [] X (upd X D (.lst l)):=(Kp.refl [] X).new hD
     have M7:=M6.kp kD
     obtain⟨cr,bu,bv⟩:=M7.rw.get (show d[t]?=some (d.getD t [])by rw[Af,Aa tn];rfl)
     simp! [nV,M7.hp]
     rw[M7.hm]
     refine⟨_,rfl,.ref cr,jch bu,?_⟩
     rw[Ui,jco,bv]
     refine⟨_,rfl,nV (dM d t a),jch (by rw[Ah,(M.ok.at_ tn ha).1];rfl),_,by rw[jd aa.1,y];rfl,.ref br,jch (by rw[Ah,a5];rfl),?_⟩
     refine rInU.lst (by rw[jd a9];exact ae) rfl (by simp[List.all_map];intro z _;rfl) ⟨_,rfl,?_⟩
     rw[Ai (by simp),jht]
     exact q
    .simp!
     exact q
    have eG:(((List.range d.length).map nV).filter (λv=>match v with|.int i=>decide (dM d i.toNat a∈decS R r)|_=>false)).map id=(decS R (goS d R r a)).map nV:=by
     rw[Wi,Aax,(hR.go M.ok rn ha).2];rfl
    rw[eG]
    have k7:Kp [] X (upd X D (.lst ((decS R (goS d R r a)).map nV))):=(Kp.refl [] X).new hD
    have d7:upd X D (.lst ((decS R (goS d R r a)).map nV)) D=some (.lst ((decS R (goS d R r a)).map nV)):=jb
    generalize upd X D (.lst ((decS R (goS d R r a)).map nV))=B at k7 d7⊢
    have ab:=k7.old _ _ y Ae
    have af:=G.kp k7 (by simp)
    have O:=k7.old _ _ Z Ae
    have aq:=k7.old _ _ W Ae
    have ar:=k7.old _ _ S Ae
    have R7:=R6.kp k7
    have al:=ag.trans k7
    clear y G Z W S R6 ae M6
    obtain⟨W2,ah⟩:∃W2:L2.St->Hp->Prop,∀σ' H',W2 σ' H'↔(∃(n:List Addr),σ'=[some (.ref p),some (.ref U),some (.ref u),some (.ref pv),some (.int (j:Int)),some (.ref pw),some (.int (0+(a:Int))),some (.ref D)]/\H' u=some (.lst (n.map V.ref))/\LsR H' n ((cuR (goS d R) r (a+1) rs).map (decS R))/\(∀b∈n,b≠u/\b≠pv/\b≠pw)/\H' pv=some (.lst e)/\RowsM H' e ((rs.take j).map λr=>(List.range m).map λa=>rs.idxOf (goS d R r a))/\H' pw=some (.lst ((List.range a).map λb=>nV ((cuR (goS d R) r a rs).idxOf (goS d R r b))))/\H' U=some (.lst ((List.range d.length).map nV))/\H' D=some (.lst ((decS R (goS d R r a)).map nV))/\Kp [] H H'):=⟨_,λ_ _=>O2⟩
    refine⟨W2,?_,λσ' H8 hw=>?_⟩
    .simp!
     obtain⟨i1,i2⟩:=af.ints
     refine joq (kf:=lI B) ab i2 (show B D=some (.lst ((cI (decS R (goS d R r a))).map V.int))by rw[jfe];exact d7) ⟨_,rfl,?_⟩
     have mm:cI (decS R (goS d R r a))∈n.map (lI B)↔goS d R r a∈cuR (goS d R) r a rs:=by
      rw[i1];refine Iff.trans ⟨λh=>?_,λh=>Am.mpr ⟨_,h,rfl⟩⟩ (hR.memD ci gn);obtain⟨k',h1,h2⟩:=Am.mp h;rw[<-jhg h2];exact h1
     have ec:=jcy (goS d R) r a rs
     unfold cu1 at ec
     by_cases c2:goS d R r a∈cuR (goS d R) r a rs
     .rw[Al c2]at ec
      rw[Ai (by simpa using mm.mpr c2)]
      exact(ah _ _).mpr ⟨n,rfl,ab,by rw[ec];exact af,C,O,R7,aq,ar,d7,al⟩
     .rw[Ai c2]at ec
      rw[Al (by simpa using λh=>c2 (mm.mp h))]
      simp! [ab]
      have kq:Kp [u] B (upd B u (.lst (n.map V.ref++[.ref D]))):=(Kp.refl [u] B).set ab (.inl (.head _))
      refine⟨by rw[Ac];omega,(ah _ _).mpr ⟨n++[D],rfl,by rw[jb,A6];rfl,?_,λb g=>?_,by rw[jd aj.symm];exact O,R7.kp kq,by rw[jd av.symm];exact aq,by rw[jd aw.1];exact ar,by rw[jd aa.1.symm];exact d7,al.set ab (.inr bp)⟩⟩
      .rw[ec,A6]
       exact Wg (af.kp kq λb g=>by simpa using(C b g).1) (by rw[jd aa.1.symm];exact d7)
      .rcases Ar.mp g with g|g
       .exact C b g
       .cases Ag.mp g
        exact⟨aa.1.symm,aa.2.1.symm,aa.2.2.1.symm⟩
    .clear ab af C O aq ar R7 al d7 k7 bl a5
     obtain⟨n,rfl,y,G,C,Z,R8,W,bw,d8,be⟩:=(ah _ _).mp hw
     clear hw ah
     have a8:∀x∈cuR (goS d R) r (a+1) rs,x<R.length:=λx I=>by
      rcases jdd (a+1) x I with h|⟨b,h1,h2⟩
      .exact bi.lt x h
      .rw[h2];exact gl r b rn (by omega)
     obtain⟨i1,i2⟩:=G.ints
     have gm:=jdy (goS d R) r rs (a+1) a (by omega)
     simp! [W]
     refine⟨by rw[y];rfl,?_⟩
     refine joi (kf:=lI H8) y i2 (show H8 D=some (.lst ((cI (decS R (goS d R r a))).map V.int))by rw[jfe];exact d8) (by rw[i1];exact Am.mpr ⟨_,(hR.memD a8 gn).mpr gm,rfl⟩) ?_
     rw[i1,jp1,hR.idxD gn a8,W]
     have a0:∀x,Kp [pw] H8 (upd H8 pw (.lst ((List.range a).map (λb=>nV ((cuR (goS d R) r a rs).idxOf (goS d R r b)))++[x]))):=λx=>(Kp.refl [pw] H8).set W (.inl (.head _))
     refine⟨_,rfl,by rw[Ac,A1];omega,(ai _ _ _).mpr ⟨n,_,_,rfl,by rw[jd av];exact y,G.kp (a0 _) λb g=>by simpa using(C b g).2.2,C,by rw[jd bb];exact Z,R8.kp (a0 _),?_,by rw[jd bc];exact bw,be.set W (.inr ba)⟩⟩
     rw[jb,O9,A6]
     refine O6 (λl=>some (HO.lst (l++[nV ((cuR (goS d R) r (a+1) rs).idxOf (goS d R r a))]))) (Ib λb g=>?_)
     obtain⟨t,et⟩:=je4 (goS d R) r (cuR (goS d R) r a rs) a
     rw[jcy,et,ixa (jdy (goS d R) r rs a b (Av.mp g))]
   .intro σ X hw
    obtain⟨n,v6,v7,rfl,y,G,C,Z,R6,W,S,ag⟩:=(ai _ _ _).mp hw
    clear hw
    simp!
    refine⟨by rw[Z];rfl,?_⟩
    refine jcj W λl hl=>?_
    have kl:Kp [] X (upd X l (.tup ((List.range m).map λb=>nV ((cuR (goS d R) r m rs).idxOf (goS d R r b))))):=(Kp.refl [] X).new hl
    have el:upd X l (.tup ((List.range m).map λb=>nV ((cuR (goS d R) r m rs).idxOf (goS d R r b)))) l=some (.tup (((List.range m).map λb=>(cuR (goS d R) r m rs).idxOf (goS d R r b)).map nV)):=by rw[jb,Az];rfl
    generalize upd X l (.tup ((List.range m).map λb=>nV ((cuR (goS d R) r m rs).idxOf (goS d R r b))))=B at kl el⊢
    have O:=kl.old _ _ Z Ae
    have kv:Kp [pv] B (upd B pv (.lst (e++[.ref l]))):=(Kp.refl [pv] B).set O (.inl (.head _))
    refine⟨e,by rw[O];rfl,by omega,R.length-(j+1),by omega,(an _ _ _).mpr ⟨cuR (goS d R) r m rs,n,e++[.ref l],j+1,_,_,_,rfl,.s bf er,by rw[jd aj];exact kl.old _ _ y Ae,(G.kp kl (by simp)).kp kv λb g=>by simpa using(C b g).2.1,λb g=>⟨(C b g).1,(C b g).2.1⟩,jb,by simp[ul],?_,by rw[jd aw.2];exact kl.old _ _ S Ae,(ag.trans kl).set O (.inr bh),rfl⟩⟩
    obtain⟨t,et⟩:=jd5 (goS d R) r rs m
    have e5:(cuR (goS d R) r m rs).take (j+1)=rs.take j++[r]:=by rw[et,Is (by omega),Oe,er];rfl
    rw[e5,A6]
    have e6:(rs.take j).map (λr'=>(List.range m).map λa=>(cuR (goS d R) r m rs).idxOf (goS d R r' a))=(rs.take j).map λr'=>(List.range m).map λa=>rs.idxOf (goS d R r' a):=Ib λx I=>Ib λa ha=>by
     rw[et,ixa (bi.cl x I a (Av.mp ha))]
    rw[e6]
    exact Wg ((R6.kp kl).kp kv) ⟨l,rfl,kv.tup _ _ el⟩
  .have ej:j=rs.length:=by omega
   subst ej
   rw[Ai (by simpa using c)]
   rw[Im]at R1
   have M4:=M.kp kp
   simp! [M4.hp]
   refine jcj Z λtm bo=>?_
   have k5:Kp [] H4 (upd H4 tm (.tup e)):=(Kp.refl [] H4).new bo
   have m5:upd H4 tm (.tup e) tm=some (.tup e):=jb
   generalize upd H4 tm (.tup e)=Y at k5 m5⊢
   have a6:=k5.old _ _ y Ae
   have az:=G.kp k5 (by simp)
   have R5:=R1.kp k5
   have bg:=kp.trans k5
   simp only[a6]
   intro D2 ao
   obtain⟨i1,i2⟩:=az.ints
   refine jdn (zeL Y) a6 ao (by rw[Ac];omega) (λx I l Q' q=>?_) λvv=>?_
   .obtain⟨b,g,rfl⟩:=Am.mp I
    have eb:=i2 b g
    have nD:b≠D2:=je eb ao
    obtain⟨k',b2,ek⟩:∃k',k'∈rs.map (decS R)/\lI Y b=cI k':=by
     have:lI Y b∈(rs.map (decS R)).map cI:=by rw[<-i1];exact Am.mpr ⟨b,g,rfl⟩
     obtain⟨k',h1,h2⟩:=Am.mp this;exact⟨k',h1,h2.symm⟩
    rw[ek,jfe]at eb
    have e0:zeL Y (.ref b)=.bl (decide (0∈k')):=by
     show V.bl (decide ((0:Int)∈lI Y b))=_;rw[ek,jn6]
    rw[e0]at q
    simp!
    refine rInU.lst (by rw[jd nD];exact eb) rfl (by simp[List.all_map];intro z _;rfl) ?_
    rw[show V.int 0=nV 0 from rfl,Ai (by simp),jht]
    exact q
   have fA:(n.map V.ref).map (zeL Y)=(rs.map (accS R)).map V.bl:=jr9 az
   rw[fA]
   have k6:Kp [] Y (upd Y D2 (.lst ((rs.map (accS R)).map V.bl))):=(Kp.refl [] Y).new ao
   dsimp only
   refine jcj jb λty bn=>⟨by omega,λp9 a4=>?_⟩
   have k7:Kp [] Y (upd (upd Y D2 (.lst ((rs.map (accS R)).map V.bl))) ty (.tup ((rs.map (accS R)).map V.bl))):=k6.new bn
   have y7:upd (upd Y D2 (.lst ((rs.map (accS R)).map V.bl))) ty (.tup ((rs.map (accS R)).map V.bl)) ty=some (.tup ((rs.map (accS R)).map V.bl)):=jb
   generalize upd (upd Y D2 (.lst ((rs.map (accS R)).map V.bl))) ty (.tup ((rs.map (accS R)).map V.bl))=B at k7 y7 a4⊢
   have k8:Kp [] B (upd B p9 (.tup [.str z,.ref tm,.ref ty])):=(Kp.refl [] B).new a4
   have e8:upd B p9 (.tup [.str z,.ref tm,.ref ty]) p9=some (.tup [.str z,.ref tm,.ref ty]):=jb
   generalize upd B p9 (.tup [.str z,.ref tm,.ref ty])=H8 at k8 e8⊢
   have am:=k7.trans k8
   have cl:(cuM (goS d R) m rs).length=rs.length:=by simp[cuM]
   have bx:=jdp bi
   have r1:1<=rs.length:=(Ab.mp bi.z).1
   refine⟨p9,tm,ty,z,e,cuM (goS d R) m rs,m,rs.map (accS R),rfl,⟨e8,am.tup _ _ m5,R5.kp am,bx,k8.tup _ _ y7,by rw[Ac,cl],by omega,by omega,m9⟩,by omega,m1,λq d1 d2 ud ak au HB ay g0 g1 Rd g2 kB=>?_⟩
   have tl:Tl ak m au (La (cuM (goS d R) m rs) m (rs.map (accS R)) 0):=⟨_,ay,λ_ _=>rfl⟩
   have ll:ak.length<=(cuM (goS d R) m rs).length:=ay.h.elim λ_ l=>l.le
   exact k q HB ⟨d1,d2,ud,ak,au,⟨g0,g1,Rd,tl.ok,g2,tl.yl,tl.n1,by omega,m9⟩,tl.congr λv hv=>hR.tells M.ok M.n1 bf v hv,by omega⟩ ((bg.trans am).trans kB)
end
theorem jly(y:V)(f:Bool):∀m:Nat,(List.replicate m [V.bl f]).flatten=(List.replicate m f).map V.bl
 |0=>rfl
 |m+1=>by rw[List.replicate_succ,List.flatten_cons,jly y f m,List.replicate_succ];rfl
theorem jn3:∀l:List Int,jdr (l.map PyData.int)=true
 |[]=>rfl
 |_::r=>by simp[jdr,jea,jn3 r]
def rowD(r:List Int):PyData:=.tuple (r.map PyData.int)
theorem jd1:∀l:List (List Int),jdr (l.map rowD)=true
 |[]=>rfl
 |_::r=>by simp[jdr,jea,rowD,jn3,jd1 r]
structure Mach where
 z:Str
 mv:List (List Int)
 ye:List Bool
def Mach.D(m:Mach):PyData:=.tuple [.str m.z,.tuple (m.mv.map rowD),.tuple (m.ye.map PyData.bool)]
structure Mach.Ok(m:Mach)(most:Nat):Prop where
 let4:Letters m.z 4
 n1:1<=m.mv.length
 nh:m.mv.length<=most
 yl:m.ye.length=m.mv.length
 row:∀r∈m.mv,r.length=m.z.length/\∀t∈r,0<=t/\t<(m.mv.length:Int)
def jj5:Sp:=λvs H Q _=>∃(b:Addr)(z:Str)(n:Nat)(o:HO),vs=[.ref b,.str z,.int (n:Int)]/\H b=some o/\BoxO o/\Letters z 4/\1<=n/\n<=1000 /\
 ∀p m o' H',m.z=z->Mach.Ok m n->BoxO o'->H' b=some o'->Kp [b] H H'->Rep H' (.ref p) m.D->Q (.ref p) H'
def JG(b p q D:Addr)(z:Str)(n N:Nat)(kd tn:Int)(i j:Nat)(v12:Option V)(H2:Hp):L2.St->Hp->Prop:=λσ H3=>∃(g:Int)(o3:HO),σ=[some (.ref b),some (.str z),some (.int (n:Int)),some (.int (N:Int)),some (.int kd),some (.int tn),some (.ref D),some (.ref p),some (.int (0+(i:Int))),some (.ref q),some (.int (0+(j:Int))),some (.int g),v12] /\
 0<=g/\g<(N:Int)/\H3 b=some o3/\BoxO o3/\Kp [b] H2 H3
def JY(b p:Addr)(z:Str)(n N:Nat)(kd tn:Int)(D:Addr)(rs:List V)(rows:List (List Int))(v8 v9 v10 v11:Option V)(H:Hp):L2.St->Hp->Prop:=λσ H3=>∃(Y:Addr)(ys:List Bool)(o3:HO),σ=[some (.ref b),some (.str z),some (.int (n:Int)),some (.int (N:Int)),some (.int kd),some (.int tn),some (.ref D),some (.ref p),v8,v9,v10,v11,some (.ref Y)] /\
 H3 b=some o3/\BoxO o3/\H3 p=some (.lst rs)/\Reps H3 rs (rows.map rowD)/\H3 Y=some (.lst (ys.map V.bl))/\ys.length=N/\Kp [b] H H3
structure TMachine(mg:Str->Option Value)(ft:Addr):Prop where
 n_len:mg "len"=none
 n_max:mg "max"=none
 n_range:mg "range"=none
 n_tuple:mg "tuple"=none
 m0z:mg "_law_take"=some (.ref ft)
section
variable{P:Program}{w:World}{K:PySem.W.Frag}{mg:Str->Option Value}{base:Heap}
abbrev yj:Stmt:=top 21
theorem j5:FnScope ["_law_box_here","_law_letters_here","_law_most","_law_many","_law_kind","_law_turned","_law_goals","_law_moves","_law_room","_law_row","_law_k","_law_goal","_law_yes"] ["_law_box_here","_law_letters_here","_law_most"] (jg yj):=⟨rfl,rfl,rfl,by decide +kernel,rfl,by decide +kernel,by decide +kernel⟩
theorem ok__law_machine(F:Fun K "_law_machine" "_law_machine" yj f fd)(T:TMachine mg ft)(F0z:Fun K "_law_take" "_law_take" y6 ft fdt)(b0z:Binds K fdt ["_law_box_here","_law_wide"] [])
  (W:FnOk P w K mg base CX0 1 ft fdt ["_law_box_here","_law_wide"] jic):FnOk P w K mg base CX0 2 f fd ["_law_box_here","_law_letters_here","_law_most"] jj5:=by
 refine F.ok j5 (λvs H Q E h=>?_) (λco A cb s H vs Q E hr h=>?_)
 .obtain⟨b,z,n,o,rfl,_⟩:=h
  rfl
 .obtain⟨b,z,n,o,rfl,hb,ho,hz,n1,nh,k⟩:=h
  have hu:=hr.units
  have cm:sizeLine=16777216:=Iz
  have zl:=hz.lo
  have zh:=hz.hi
  refine⟨_,(QSs.h (jf (jo (i:=3) j5.nd rfl (by ac_rfl) (j4 yw jh (jv W (hr.mono (by decide)) rfl T.m0z F0z.kp b0z .nil kc (ja (qpv 0) (ja (qpv 2) jc)))))
  (jf (jo (i:=4) j5.nd rfl (by ac_rfl) (jv W (hr.mono (by decide)) rfl T.m0z F0z.kp b0z .nil kc (ja (qpv 0) (ja jh jc))))
  (jf (jo (i:=5) j5.nd rfl (by ac_rfl) (jv W (hr.mono (by decide)) rfl T.m0z F0z.kp b0z .nil kc (ja (qpv 0) (ja (jt jw (by rfl) T.n_len j3 (ja (qpv 1) jc)) jc))))
  (jf (jab (i:=6) j5.nd rfl (by ac_rfl) rfl (jci (sc:=jg yj) (N:=["_law_box_here","_law_letters_here","_law_most","_law_many","_law_kind","_law_turned","_law_goals","_law_moves","_law_room","_law_row","_law_k","_law_goal","_law_yes"]) (Nc:=["_law_letter","_law_box_here","_law_many"]) (js:=[none,some 0,some 3]) (by decide +kernel)) (j7 (K:=K) (qpv 1) rfl) (λ_ _ _ _=>(jq (i:=0) (show List.Nodup [("_law_letter":Str),("_law_box_here":Str),("_law_many":Str)]from by decide +kernel) rfl (by ac_rfl))) (λ_ _ _ _=>(jv W (hr.mono (by decide)) rfl T.m0z F0z.kp b0z .nil kc (ja (qpv 1) (ja (qpv 2) jc)))))
  (jf (jo (i:=7) j5.nd rfl (by ac_rfl) (kx jc))
  (jf (yh Ip rfl (yb rfl T.n_range (ja (qpv 3) jc)) (jq (i:=8) j5.nd rfl (by ac_rfl)) (jf (jo (i:=9) j5.nd rfl (by ac_rfl) (kx jc))
  (jf (yh Ip rfl (yb rfl T.n_range (ja (jt jw (by rfl) T.n_len j3 (ja (qpv 1) jc)) jc)) (jq (i:=10) j5.nd rfl (by ac_rfl)) (jf (jo (i:=11) j5.nd rfl (by ac_rfl) (jv W (hr.mono (by decide)) rfl T.m0z F0z.kp b0z .nil kc (ja (qpv 0) (ja (qpv 3) jc))))
  (yf (ym (QW.pt (jap (j8 (zq hu) (qpv 4) jh (yd _)) (jaq (j8 (zq hu) (qpv 4) jh (yd _))))) (jj (jo (i:=11) j5.nd rfl (by ac_rfl) (jt (jbo rfl) (by rfl) T.n_max jcd (ja (qpv 8) (ja (qpv 11) jc))))) ya)
  (yf (ym (j8 (zq hu) (qpv 4) jh (yd _)) (jj (jo (i:=11) j5.nd rfl (by ac_rfl) (jr ix_U (kx (ja (qpv 8) (ja (jr ix_U (qpv 6) (qpv 10) (λ_ _=>rfl)) jc))) (jv W (hr.mono (by decide)) rfl T.m0z F0z.kp b0z .nil kc (ja (qpv 0) (ja jh jc))) (λ_ _=>rfl)))) ya)
  (yf (ym (QW.pt (qpw_and (j8 (zq hu) (qpv 4) jh (yd _)) (qpw_and1 (j8 (zq hu) (qpv 10) (qpv 5) (yd _))))) (jj (jo (i:=11) j5.nd rfl (by ac_rfl) (j4 z7 (j4 yw (qpv 8) jh) (qpv 3)))) ya)
  (jj (kj (kh Ii Ij ki (qpv 9) (ja (qpv 11) jc) jcl))))))))
  (jj (kj (kh Ii Ij ki (qpv 7) (ja (ju jz (by rfl) T.n_tuple kg (ja (qpv 9) jc)) jc) jcl))))))
  (jf (jab (i:=12) j5.nd rfl (by ac_rfl) rfl (jci (sc:=jg yj) (N:=["_law_box_here","_law_letters_here","_law_most","_law_many","_law_kind","_law_turned","_law_goals","_law_moves","_law_room","_law_row","_law_k","_law_goal","_law_yes"]) (Nc:=["_law_room","_law_box_here"]) (js:=[none,some 0]) (by decide +kernel)) (yb rfl T.n_range (ja (qpv 3) jc)) (λ_ _ _ _=>(jq (i:=0) (show List.Nodup [("_law_room":Str),("_law_box_here":Str)]from by decide +kernel) rfl (by ac_rfl))) (λ_ _ _ _=>(jal (zq hu) (jv W (hr.mono (by decide)) rfl T.m0z F0z.kp b0z .nil kc (ja (qpv 1) (ja jh jc))) jh (yd _))))
  (yf (ym (j8 (zq hu) (jv W (hr.mono (by decide)) rfl T.m0z F0z.kp b0z .nil kc (ja (qpv 0) (ja jh jc))) jh (yd _)) (jj (jo (i:=12) j5.nd rfl (by ac_rfl) (j4 zr (kx (ja (jr ix_U (qpv 12) jh (λ_ _=>rfl)) jc)) (qpv 3)))) ya)
  (jj (ka (y9 (ja (qpv 1) (ja (ju jz (by rfl) T.n_tuple kg (ja (qpv 7) jc)) (ja (ju jz (by rfl) T.n_tuple kg (ja (qpv 12) jc)) jc))))))))))))))),?_⟩
  simp!
  refine⟨b,(n:Int),o,rfl,hb,ho,by omega,by omega,λd o1 d0 d1 bn=>?_⟩
  obtain⟨dn,rfl⟩:∃dn:Nat,d=(dn:Int):=⟨d.toNat,by omega⟩
  have eN:(1+(dn:Int))=((dn+1:Nat):Int):=by omega
  have ex:∀{H':Hp}{U:HO},BoxO U->∃xs,U=.lst xs:=λh=>let⟨_,_,e,_⟩:=h;⟨_,e⟩
  obtain⟨cd,rfl⟩:=ex (H':=H) ho
  obtain⟨bw,rfl⟩:=ex (H':=H) bn
  have cj:Kp [b] H (upd H b (.lst bw)):=(Kp.refl [b] H).set hb (.inl (.head _))
  rw[jfx,eN]
  generalize hN:dn+1=N
  have N1:1<=N:=by omega
  have Nh:N<=n:=by omega
  simp!
  refine⟨b,5,_,rfl,jb,bn,by omega,by omega,λkd o2 cl ck b8=>?_⟩
  simp!
  refine⟨by omega,b,(z.length:Int),_,rfl,jb,b8,by omega,by omega,λtn o3 cg cf u=>?_⟩
  simp!
  intro D hD
  obtain⟨bv,rfl⟩:=ex (H':=H) u
  have ar:Kp [b] H (upd H b (.lst bv)):=(Kp.refl [b] H).set hb (.inl (.head _))
  have ah:b≠D:=je jb hD
  have ca:H D=none:=ar.free hD
  refine jlh (λi σ' H'=>∃(v:Option V)(R:List Int)(U:HO),σ'=[v,some (.ref b),some (.int (N:Int))]/\H' b=some U/\BoxO U/\H' D=some (.lst (R.map V.int))/\R.length=i/\(∀t∈R,0<=t/\t<(N:Int))/\Kp [b] H H') ?_ ?_ ?_
  .exact⟨none,[],_,rfl,by rw[jd ah,jb],u,by rw[jb];rfl,rfl,(λt I=>nomatch I),ar.new hD⟩
  .rintro i c σ' H' hc ⟨v,R,U,rfl,al,au,ax,hl,hg,kp⟩
   have cn:i<z.length:=by
    have:=(Ab.mp hc).1;simpa[Str.length]using this
   obtain⟨ce,rfl⟩:=ex (H':=H) au
   simp! [jdj]
   refine⟨b,(N:Int),_,rfl,al,au,by omega,by omega,λe S e0 e1 G=>?_⟩
   have bs:upd H' b S D=some (.lst (R.map V.int)):=by rw[jd ah.symm];exact ax
   simp! [bs,Ac]
   refine⟨by omega,R++[e],S,by rw[jd ah,jb],G,by simp,by simp[hl],λt I=>?_,(kp.set al (.inl (.head _))).set bs (.inr ca)⟩
   rcases Ar.mp I with I|I
   .exact hg t I
   .simp at I;subst I;exact⟨e0,e1⟩
  .rintro σ' H' ⟨v,R,U,rfl,al,au,ax,hl,hg,kp⟩
   refine⟨by omega,λp hp=>⟨by omega,by omega,?_⟩⟩
   rw[Int.toNat_natCast]
   have ag:b≠p:=je al hp
   have bj:D≠p:=je ax hp
   have b7:H p=none:=kp.free hp
   obtain⟨V1,aw⟩:∃V1:Nat->L2.St->Hp->Prop,∀i σ H',V1 i σ H'↔(∃(v8 v9 M L Z:Option V)(rs:List V)(a:List (List Int))(U:HO),σ=[some (.ref b),some (.str z),some (.int (n:Int)),some (.int (N:Int)),some (.int kd),some (.int tn),some (.ref D),some (.ref p),v8,v9,M,L,Z]/\H' b=some U/\BoxO U /\
    H' D=some (.lst (R.map V.int))/\H' p=some (.lst rs)/\Reps H' rs (a.map rowD)/\a.length=i/\(∀r∈a,r.length=z.length/\∀t∈r,0<=t/\t<(N:Int))/\Kp [b] H H'):=⟨_,λ_ _ _=>O2⟩
   refine jcr V1 ?_ ?_ ?_
   .refine(aw _ _ _).mpr ⟨none,none,none,none,none,[],[],U,rfl,by rw[jd ag];exact al,au,by rw[jd bj];exact ax,jb,by simp[Reps],rfl,(λr hr=>nomatch hr),kp.new hp⟩
   .intro i σ H1 hi hw
    obtain⟨v8,v9,M,L,Z,rs,a,a2,rfl,ak,ao,be,ae,as,a6,a7,X⟩:=(aw _ _ _).mp hw
    clear hw
    simp!
    refine⟨by omega,λq hq=>⟨by omega,by omega,by omega,?_⟩⟩
    rw[Int.toNat_natCast]
    have a3:b≠q:=je ak hq
    have bi:D≠q:=je be hq
    have bg:p≠q:=je ae hq
    have b5:H q=none:=X.free hq
    have ei:(0:Int)+(i:Int)=(i:Int):=by omega
    obtain⟨V2,av⟩:∃V2:Nat->L2.St->Hp->Prop,∀j σ H',V2 j σ H'↔(∃(M L:Option V)(C:List Int)(U:HO),σ=[some (.ref b),some (.str z),some (.int (n:Int)),some (.int (N:Int)),some (.int kd),some (.int tn),some (.ref D),some (.ref p),some (.int (0+(i:Int))),some (.ref q),M,L,Z]/\H' b=some U/\BoxO U /\
     H' D=some (.lst (R.map V.int))/\H' p=some (.lst rs)/\Reps H' rs (a.map rowD)/\H' q=some (.lst (C.map V.int))/\C.length=j/\(∀t∈C,0<=t/\t<(N:Int))/\Kp [b] H H'):=⟨_,λ_ _ _=>O2⟩
    refine jcr V2 ?_ ?_ ?_
    .exact(av _ _ _).mpr ⟨M,L,[],a2,rfl,by rw[jd a3];exact ak,ao,by rw[jd bi];exact be,by rw[jd bg];exact ae,Reps.kp ((Kp.refl [] H1).new hq) (jd1 a) as,jb,rfl,(λt I=>nomatch I),X.new hq⟩
    .intro j σ J hj hw
     obtain⟨M,L,C,ap,rfl,B,m,an,aj,ad,a9,ay,ac,aa⟩:=(av _ _ _).mp hw
     clear hw
     obtain⟨bf,rfl⟩:=ex (H':=H) m
     simp!
     refine⟨b,(N:Int),_,rfl,B,m,by omega,by omega,λg S g0 g1 G=>?_⟩
     have a5:Kp [b] J (upd J b S):=(Kp.refl [b] J).set B (.inl (.head _))
     refine⟨JG b p q D z n N kd tn i j Z J,?_,?_⟩
     .simp!
      have mx:∀x:Int,x=(if g>0+(i:Int)then g else 0+(i:Int))->0<=x/\x<(N:Int):=λx e=>by split at e <;> omega
      exact ite2 (λ_=>⟨_,S,rfl,(mx _ rfl).1,(mx _ rfl).2,jb,G,a5⟩) λ_=>ite2 (λ_=>⟨_,S,rfl,(mx _ rfl).1,(mx _ rfl).2,jb,G,a5⟩) λ_=>⟨g,S,rfl,g0,g1,jb,G,a5⟩
     .rintro σ H3 ⟨g,o3,rfl,g0,g1,y,u,O⟩
      refine⟨JG b p q D z n N kd tn i j Z J,?_,?_⟩
      .simp!
       refine ite2 (λ_=>?_) λ_=>⟨g,o3,rfl,g0,g1,y,u,O⟩
       have bd:=O.old _ _ an (by simp[ah.symm])
       have bp:j<R.length:=by omega
       have b9:atI (R.map V.int) ((0:Int)+(j:Int))=some (.int (R.getD j 0)):=by
        refine jhd (by omega) ?_;have:((0:Int)+(j:Int)).toNat=j:=by omega
        rw[this];simp[bp]
       have bq:=hg (R.getD j 0) (by simp[Af,bp])
       refine⟨_,by rw[bd];rfl,_,b9,by omega,λq2 az=>?_⟩
       have a4:b≠q2:=je y az
       obtain⟨cc,rfl⟩:=ex (H':=H) u
       refine⟨b,2,_,rfl,by rw[jd a4];exact y,u,by omega,by omega,λe o5 e0 e1 bm=>?_⟩
       have k5:Kp [b] J (upd (upd H3 q2 (.lst [.int (0+(i:Int)),.int (R.getD j 0)])) b o5):=(O.new az).set (by rw[jd a4];exact y) (.inl (by simp))
       have af:upd (upd H3 q2 (.lst [.int (0+(i:Int)),.int (R.getD j 0)])) b o5 q2=some (.lst [.int (0+(i:Int)),.int (R.getD j 0)]):=by rw[jd a4.symm,jb]
       have bb:upd (upd H3 q2 (.lst [.int (0+(i:Int)),.int (R.getD j 0)])) b o5 b=some o5:=jb
       generalize upd (upd H3 q2 (.lst [.int (0+(i:Int)),.int (R.getD j 0)])) b o5=H5 at k5 af bb
       rcases(by omega:e=0\/e=1)with rfl|rfl
       .simp! [af]
        exact⟨_,o5,rfl,by omega,by omega,bb,bm,k5⟩
       .simp! [af]
        exact⟨_,o5,rfl,bq.1,bq.2,bb,bm,k5⟩
      .rintro σ H3 ⟨g,o3,rfl,g0,g1,y,u,O⟩
       refine⟨JG b p q D z n N kd tn i j Z J,?_,?_⟩
       .simp!
        exact ite2 (λ_=>ite2 (λ_=>⟨by omega,_,o3,rfl,Aav _ (by omega),Yz _ (by omega),y,u,O⟩) λ_=>⟨g,o3,rfl,g0,g1,y,u,O⟩) λ_=>⟨g,o3,rfl,g0,g1,y,u,O⟩
       .rintro σ H3 ⟨g,o3,rfl,g0,g1,y,u,O⟩
        have bd:=O.old _ _ an (by simp[ah.symm])
        have ab:=O.old _ _ aj (by simp[ag.symm])
        have a8:=O.old _ _ a9 (by simp[a3.symm])
        simp! [a8,Ac]
        refine⟨by omega,(av _ _ _).mpr ⟨_,_,C++[g],o3,rfl,by rw[jd a3];exact y,u,by rw[jd bi];exact bd,by rw[jd bg];exact ab,?_,by rw[jb,A6];rfl,by simp[ay],λt I=>?_,(aa.trans O).set a8 (.inr b5)⟩⟩
        .exact Reps.kp ((Kp.refl [q] H3).set a8 (.inl (.head _))) (jd1 a) (Reps.kp O (jd1 a) ad)
        .rcases Ar.mp I with I|I
         .exact ac t I
         .simp at I;subst I;exact⟨g0,g1⟩
    .intro σ J hw
     obtain⟨M,L,C,ap,rfl,B,m,an,aj,ad,a9,ay,ac,aa⟩:=(av _ _ _).mp hw
     clear hw
     simp! [aj]
     refine jcj a9 λl hl=>?_
     have bh:p≠l:=je aj hl
     have bz:b≠l:=je B hl
     have b1:D≠l:=je an hl
     have ab:upd J l (.tup (C.map V.int)) p=some (.lst rs):=by rw[jd bh];exact aj
     simp! [ab]
     have ch:rs.length=i:=by rw[Reps.len ad,Ac];exact a6
     refine⟨by omega,(aw _ _ _).mpr ⟨_,_,_,_,_,_,a++[C],ap,rfl,by rw[jd ag,jd bz];exact B,m,by rw[jd bj,jd b1];exact an,jb,?_,by simp[a6],λr b4=>?_,(aa.new hl).set ab (.inr b7)⟩⟩
     .have k3:Kp [p] J (upd (upd J l (.tup (C.map V.int))) p (.lst (rs++[.ref l]))):=((Kp.refl [p] J).new hl).set ab (.inl (.head _))
      rw[A6]
      refine Reps.app (Reps.kp k3 (jd1 a) ad) ?_
      simp only[Au,U3,Reps,Rep,rowD,and_true]
      exact⟨l,_,rfl,by rw[jd bh.symm,jb],Reps.ints _ C⟩
     .rcases Ar.mp b4 with h|h
      .exact a7 r h
      .simp at h;subst h;exact⟨by omega,ac⟩
   .intro σ H1 hw
    obtain⟨v8,v9,M,L,Z,rs,a,a2,rfl,ak,ao,be,ae,as,a6,a7,X⟩:=(aw _ _ _).mp hw
    clear hw
    simp!
    refine⟨by omega,by omega,λY hY=>?_⟩
    rw[Int.toNat_natCast]
    have aq:b≠Y:=je ak hY
    have ci:p≠Y:=je ae hY
    refine jcr (λi σ' H'=>∃(v:Option V)(ys:List Bool)(U:HO),σ'=[v,some (.ref b)]/\H' b=some U/\BoxO U/\H' Y=some (.lst (ys.map V.bl))/\ys.length=i/\Kp [b] H1 H') ?_ ?_ ?_
    .exact⟨none,[],a2,rfl,by rw[jd aq];exact ak,ao,by rw[jb];rfl,rfl,(Kp.refl [b] H1).new hY⟩
    .rintro i σ' J hi ⟨v,ys,ap,rfl,B,m,bc,ai,aa⟩
     obtain⟨bf,rfl⟩:=ex (H':=H) m
     simp! [jdj]
     refine⟨b,2,_,rfl,B,m,by omega,by omega,λe S e0 e1 G=>?_⟩
     have am:upd J b S Y=some (.lst (ys.map V.bl)):=by rw[jd aq.symm];exact bc
     simp! [am,Ac]
     exact⟨by omega,ys++[decide (e=1)],S,by rw[jd aq,jb],G,by simp,by simp[ai],(aa.set B (.inl (.head _))).set am (.inr hY)⟩
    .rintro σ' J ⟨v,ys,ap,rfl,B,m,bc,ai,aa⟩
     obtain⟨bf,rfl⟩:=ex (H':=H) m
     refine⟨JY b p z n N kd tn D rs a v8 v9 M L H,?_,?_⟩
     .simp!
      refine⟨b,8,_,rfl,B,m,by omega,by omega,λe S e0 e1 G=>?_⟩
      have O:Kp [b] H1 (upd J b S):=aa.set B (.inl (.head _))
      have am:upd J b S Y=some (.lst (ys.map V.bl)):=by rw[jd aq.symm];exact bc
      have b6:upd J b S p=some (.lst rs):=O.old _ _ ae (by simp[ag.symm])
      simp! [am]
      refine ite2 (λ_=>?_) λ_=>⟨Y,ys,S,rfl,jb,G,b6,Reps.kp O (jd1 a) as,am,ai,X.trans O⟩
      cases ys with
      |nil=>simp at ai;omega
      |cons y0 yr =>
       refine⟨.bl y0,by rw[Au];exact jew _ _,by omega,λp1 a1=>⟨by omega,by omega,by omega,λp2 a0=>?_⟩⟩
       rw[jly .non]
       have k5:Kp [b] H1 (upd (upd (upd J b S) p1 (.lst [.bl y0])) p2 (.lst ((List.replicate N y0).map V.bl))):=(O.new a1).new a0
       have n1:b≠p1:=je jb a1
       have n2:b≠p2:=je (by rw[jd n1,jb]) a0
       exact⟨p2,_,S,rfl,by rw[jd n2,jd n1,jb],G,k5.old _ _ ae (by simp[ag.symm]),Reps.kp k5 (jd1 a) as,jb,by simp,X.trans k5⟩
     .rintro σ H3 ⟨Y,ys,bx,rfl,y,bu,ab,bt,br,ai,ar⟩
      simp!
      refine jcj ab λl1 bo=>?_
      have b0:Y≠l1:=je br bo
      refine jcj (ys:=ys.map V.bl) (by rw[jd b0];exact br) λl2 af=>⟨by omega,λl3 ba=>?_⟩
      have bk:l1≠l2:=je jb af
      have b3:l1≠l3:=je (by rw[jd bk,jb]) ba
      have b2:l2≠l3:=je jb ba
      have kA:Kp [] H3 (upd (upd (upd H3 l1 (.tup rs)) l2 (.tup (ys.map V.bl))) l3 (.tup [.str z,.ref l1,.ref l2])):=(((Kp.refl [] H3).new bo).new af).new ba
      refine k l3 ⟨z,a,ys⟩ bx _ rfl ⟨hz,by show 1<=a.length;omega,by show a.length<=n;omega,by show ys.length=a.length;omega,λr hr=>?_⟩ bu (kA.old _ _ y Ae) (ar.trans (kA.mono (λ_ h=>nomatch h))) ?_
      .have:=a7 r hr
       exact⟨this.1,λt I=>by have:=this.2 t I;show 0<=t/\t<(a.length:Int);omega⟩
      .simp only[Mach.D,Rep]
       refine⟨l3,_,rfl,jb,?_⟩
       simp only[Reps,Rep,and_true]
       exact⟨trivial,⟨l1,rs,rfl,by rw[jd b3,jd bk,jb],Reps.kp kA (jd1 a) bt⟩,⟨l2,_,rfl,by rw[jd b2,jb],Reps.bools _ ys⟩⟩
end
def jqu:Sp:=λvs H Q _=>∃(b:Addr)(z:Str)(m:Nat)(o:HO),vs=[.ref b,.str z,.int (m:Int)]/\H b=some o/\BoxO o/\1<=z.length/\z.length<=1000/\m<=1000 /\
 ∀u o' H',u.length<=m->(∀c∈sg u,c∈sg z)->BoxO o'->H' b=some o'->Kp [b] H H'->Q (.str u) H'
theorem jno{z:Str}:∀{xs:List V},(∀x∈xs,∃c:Nat,x=.str ⟨#[c]⟩/\c∈sg z)->∃ys:List Str,xs=ys.map V.str/\(∀y∈ys,y.length=1)/\(∀c∈(ys.map sg).flatten,c∈sg z)
 |[],_=>⟨[],rfl,(λ_ h=>nomatch h),by simp⟩
 |x::xs,h=>by
  obtain⟨c,rfl,e⟩:=h x (.head _);obtain⟨ys,rfl,g,f⟩:=jno λy b=>h y (.tail _ b);refine⟨⟨#[c]⟩::ys,rfl,λy b=>?_,λd a=>?_⟩
  .rcases At.mp b with rfl|b
   .rfl
   .exact g y b
  .rw[Au,List.flatten_cons,Ar]at a;rcases a with a|a
   .have:d=c:=by simpa[sg]using a
    rw[this];exact e
   .exact f d a
structure TTx(mg:Str->Option Value)(ft:Addr):Prop where
 n_len:mg "len"=none
 n_range:mg "range"=none
 m0z:mg "_law_take"=some (.ref ft)
theorem BoxO.lst7(h:BoxO o):∃xs,o=.lst xs:=by obtain⟨c,s,e,_⟩:=h;exact⟨_,e⟩
section
variable{P:Program}{w:World}{K:PySem.W.Frag}{mg:Str->Option Value}{base:Heap}
abbrev zc:Stmt:=top 20
theorem sc__law_text:FnScope ["_law_box_here","_law_letters_here","_law_most"] ["_law_box_here","_law_letters_here","_law_most"] (jg zc):=⟨rfl,rfl,rfl,by decide +kernel,rfl,by decide +kernel,by decide +kernel⟩
theorem ok__law_text(F:Fun K "_law_text" "_law_text" zc f fd)(T:TTx mg ft)(F0z:Fun K "_law_take" "_law_take" y6 ft fdt)(b0z:Binds K fdt ["_law_box_here","_law_wide"] [])
  (r:FnOk P w K mg base CX0 1 ft fdt ["_law_box_here","_law_wide"] jic):FnOk P w K mg base CX0 2 f fd ["_law_box_here","_law_letters_here","_law_most"] jqu:=by
 refine F.ok sc__law_text (λS H Q E h=>?_) (λae A G s H S Q E t h=>?_)
 .obtain⟨b,z,m,o,rfl,_⟩:=h
  rfl
 .obtain⟨b,z,m,o,rfl,O,J,z1,z2,hm,k⟩:=h
  have hu:=t.units
  refine⟨_,(QSs.h (jj (ka (qpe_bmS PySem.F.slot_str_join PySem.F.type_str_join mt_joinU jbi (ja (ku rfl (jci (sc:=jg zc) (N:=["_law_box_here","_law_letters_here","_law_most"]) (Nc:=["_law_k","_law_letters_here","_law_box_here"]) (js:=[none,some 1,some 0]) (by decide +kernel)) (yb rfl T.n_range (ja (jv r (t.mono (by decide)) rfl T.m0z F0z.kp b0z .nil kc (ja (qpv 0) (ja (j4 yw (qpv 2) jh) jc))) jc)) (λ_ _ _ _=>(jq (i:=0) (show List.Nodup [("_law_k":Str),("_law_letters_here":Str),("_law_box_here":Str)]from by decide +kernel) rfl (by ac_rfl))) (λ_ _ _ _=>(jr ix_U (qpv 1) (jv r (t.mono (by decide)) rfl T.m0z F0z.kp b0z .nil kc (ja (qpv 2) (ja (jt jw (by rfl) T.n_len j3 (ja (qpv 1) jc)) jc))) (λ_ _=>rfl)))) jc) jt2)))),?_⟩
  have ad:sizeLine=16777216:=Iz
  have ac:z.cps.toList.length=z.length:=by simp[Str.length]
  simp!
  refine⟨b,_,o,rfl,O,J,by omega,by omega,λd o1 d0 d1 q=>?_⟩
  obtain⟨n,rfl⟩:∃n:Nat,d=(n:Int):=⟨d.toNat,by omega⟩
  obtain⟨ab,rfl⟩:=J.lst7
  refine⟨_,rfl,by omega,by omega,λD u=>?_⟩
  rw[Int.toNat_natCast]
  refine jq4 (λx=>∃c:Nat,x=.str ⟨#[c]⟩/\c∈sg z) jb q u (by omega) (λx H' I Q' C j Z=>?_) λv xs I L R j=>?_
  .simp!
   refine⟨by omega,b,z.length,_,rfl,C,j,by omega,by omega,λe o5 e0 e1 B=>?_⟩
   simp!
   exact⟨by omega,z.cps.toList[e.toNat]'(by omega),jhd e0 (by simp),Z _ _ ⟨_,rfl,Iq _⟩ B⟩
  .obtain⟨a,rfl,g,p⟩:=jno R
   rw[Ac]at L
   have U:(a.map (·.length)).sum=a.length:=by
    clear L R p;induction a with
    |nil=>rfl
    |cons y a ih=>simp[g y (.head _),ih λz Y=>g z (.tail _ Y)];omega
   refine⟨a,jb,by rw[U];show a.length+a.length*0<=_;omega,?_⟩
   have X:=PySem.W.KT.join_ones a g
   have l:b≠D:=je jb u
   obtain⟨aa,rfl⟩:=id q.lst7
   refine k _ I _ (by rw[X];omega) (λc M=>?_) j (by rw[jd l,jb]) ((((Kp.refl [b] H).set O (.inl (.head _))).set jb (.inl (.head _))).new (by rw[jd l.symm];exact u))
   rw[jug]at M
   exact p c M
end
structure MA(H:Hp)(m:Mach)(p a1 a2:Addr)(rs:List V):Prop where
 t0:H p=some (.tup [.str m.z,.ref a1,.ref a2])
 t1:H a1=some (.tup rs)
 t2:H a2=some (.tup (m.ye.map V.bl))
 rl:rs.length=m.mv.length
 rw:∀i,i<m.mv.length->∃r,rs[i]?=some (.ref r)/\H r=some (.tup ((m.mv.getD i []).map V.int))
theorem jet{H:Hp}:∀{vs:List V}{ds:List PyData}{i:Nat}{d:PyData},Reps H vs ds->ds[i]?=some d->∃v,vs[i]?=some v/\Rep H v d
 |[],[],_,_,_,e=>by simp at e
 |[],_::_,_,_,h,_=>by simp only[Reps]at h
 |_::_,[],_,_,h,_=>by simp only[Reps]at h
 |v::vs,d::ds,0,_,h,e=>by simp only[Reps]at h;simp at e;subst e;exact⟨v,rfl,h.1⟩
 |v::vs,d::ds,i+1,_,h,e=>by simp only[Reps]at h;exact jet (i:=i) h.2 (by simpa using e)
theorem jg8{H:Hp}{α:Type}{f:α->V}{g:α->PyData}(a:∀x v,Rep H v (g x)->v=f x):∀{l:List α}{vs:List V},Reps H vs (l.map g)->vs=l.map f
 |[],[],_=>rfl
 |[],_::_,h=>by simp only[U3,Reps]at h
 |_::_,[],h=>by simp only[Au,Reps]at h
 |x::l,v::vs,h=>by simp only[Au,Reps]at h;rw[Au,a x v h.1,jg8 a h.2]
theorem v3L{C:List V->Prop}(h:∀v0 v1 v2:V,C [v0,v1,v2])(us:List V)(e:us.length=3):C us:=by
 cases us with
 |nil=>exact absurd e.symm (Of _)
 |cons v0 us =>
  cases us with
  |nil=>exact absurd (Oa (e.symm)) (Of _)
  |cons v1 us =>
   cases us with
   |nil=>exact absurd (Oa (Oa (e.symm))) (Of _)
   |cons v2 us =>
    cases us with
    |nil=>exact h v0 v1 v2
    |cons _ _=>exact absurd (Oa (Oa (Oa (e)))) (Of _)
theorem Mach.opened{m:Mach}(h:Rep H (.ref p) m.D):∃a1 a2 rs,MA H m p a1 a2 rs:=by
 simp only[Mach.D,Rep]at h;obtain⟨a,b,e,L,g⟩:=h
 cases e
 obtain⟨Q,l,A⟩:=jet (i:=0) g rfl;obtain⟨P,k,u⟩:=jet (i:=1) g rfl;obtain⟨O,j,t⟩:=jet (i:=2) g rfl;have G:=Reps.len g;simp only[Rep]at A u t;subst A;obtain⟨a1,rs,rfl,K,c⟩:=u;obtain⟨a2,B,rfl,J,o⟩:=t;have n:b=[.str m.z,.ref a1,.ref a2]:=by
  exact v3L (C:=λb=>b[0]?=some _->b[1]?=some _->b[2]?=some _->b=_) (λx y w l k j=>by simp at l k j;rw[l,k,j]) b G l k j
 subst n;have M:B=m.ye.map V.bl:=jg8 (f:=V.bl) (λx v h=>by simpa only[Rep]using h) o;subst M;refine⟨a1,a2,rs,L,K,J,by rw[Reps.len c,Ac],λi I=>?_⟩;obtain⟨v,n,s⟩:=jet (i:=i) (d:=rowD (m.mv.getD i [])) c (by rw[Ah];simp[I]);simp only[rowD,Rep]at s;obtain⟨r,E,rfl,q,F⟩:=s;have N:E=(m.mv.getD i []).map V.int:=jg8 (f:=V.int) (λx v h=>by simpa only[Rep]using h) F;subst N;exact⟨r,n,q⟩
def mvD(m:Mach):List (List Nat):=m.mv.map λr=>r.map Int.toNat
theorem jnw{H:Hp}:∀{rs:List V}{mv:List (List Int)},rs.length=mv.length->(∀i,i<mv.length->∃r,rs[i]?=some (.ref r)/\H r=some (.tup ((mv.getD i []).map V.int)))->(∀r∈mv,∀t∈r,0<=t)->RowsM H rs (mv.map λr=>r.map Int.toNat)
 |[],[],_,_,_=>.nil
 |v::rs,r::mv,hl,h,nn=>by
  refine .cons ?_ (jnw (by simpa using hl) (λi f=>?_) λd g=>nn d (.tail _ g))
  .obtain⟨a,b,c⟩:=h 0 (by simp);have b:v=.ref a:=by simpa using b
   refine⟨a,b,?_⟩;rw[c,Az];congr 2;refine Ib λt e=>?_;have:=nn r (.head _) t (by simpa using e);show V.int t=V.int ((t.toNat:Nat):Int);rw[Int.toNat_of_nonneg this]
  .obtain⟨a,b,c⟩:=h (i+1) (by simpa using f);exact⟨a,by simpa using b,by simpa using c⟩
theorem MA.mh{m:Mach}{a1 a2:Addr}{rs:List V}(h:MA H m p a1 a2 rs)(ok:Mach.Ok m n)(n9:n<=1000):MH H p m.z a1 a2 rs (mvD m) m.z.length m.ye:=by
 have e:m.z.length<=1000:=by have:=ok.let4.hi;omega
 refine⟨h.t0,h.t1,jnw h.rl h.rw λr b t c=>((ok.row r b).2 t c).1,⟨λd a=>?_,λd a x f=>?_⟩,h.t2,by rw[ok.yl];simp[mvD],by simpa[mvD]using ok.n1,by have:=ok.nh;simp[mvD];omega,e⟩
 .obtain⟨r,b,rfl⟩:=Am.mp a;rw[Ac];exact(ok.row r b).1
 .obtain⟨r,b,rfl⟩:=Am.mp a;obtain⟨t,c,rfl⟩:=Am.mp f;have:=(ok.row r b).2 t c;simp[mvD];omega
def nD(n:Nat):PyData:=.int (n:Int)
def rwD(r:List Nat):PyData:=.tuple (r.map nD)
def mhD(z:Str)(mv:List (List Nat))(ys:List Bool):PyData:=.tuple [.str z,.tuple (mv.map rwD),.tuple (ys.map PyData.bool)]
theorem jqb:∀l:List Nat,PyData.canLayAll0 (l.map nD)=true
 |[]=>rfl
 |x::l=>by simp[PyData.canLayAll0,PyData.canLay0,jqb l,nD]
theorem jni:∀l:List (List Nat),PyData.canLayAll0 (l.map rwD)=true
 |[]=>rfl
 |x::l=>by simp[PyData.canLayAll0,PyData.canLay0,jni l,rwD,jqb]
theorem jnh:∀l:List Bool,PyData.canLayAll0 (l.map PyData.bool)=true
 |[]=>rfl
 |x::l=>by simp[PyData.canLayAll0,PyData.canLay0,jnh l]
theorem jmy:∀l:List Nat,PyData.depthAll (l.map nD)<=8
 |[]=>by simp[PyData.depthAll]
 |x::l=>by
  have:=jmy l;simp only[Au,PyData.depthAll,PyData.depth,nD];omega
theorem jk2:∀l:List (List Nat),PyData.depthAll (l.map rwD)<=10
 |[]=>by simp[PyData.depthAll]
 |x::l=>by
  have:=jk2 l;have:=jmy x;simp only[Au,PyData.depthAll,PyData.depth,rwD];omega
theorem jk1:∀l:List Bool,PyData.depthAll (l.map PyData.bool)<=8
 |[]=>by simp[PyData.depthAll]
 |x::l=>by
  have:=jk1 l;simp only[Au,PyData.depthAll,PyData.depth];omega
theorem jit{z:Str}(h:PyData.strOk z=true)(mv:List (List Nat))(ys:List Bool):PyData.canLay0 (mhD z mv ys)=true:=by
 simp[mhD,PyData.canLay0,PyData.canLayAll0,h,jni,jnh]
theorem jed{z:Str}(h:PyData.strOk z=true)(mv:List (List Nat))(ys:List Bool):SeqAt.shaped (mhD z mv ys)=true:=by
 have c:=jk2 mv;have b:=jk1 ys;have a:=jit h mv ys;simp only[SeqAt.shaped,a,Bool.true_and];simp only[mhD,PyData.depth,PyData.depthAll];simp;omega
theorem Reps.nats(H:Hp):∀l:List Nat,Reps H (l.map nV) (l.map nD)
 |[]=>by simp[Reps]
 |x::r=>by simp[Reps,Rep,Reps.nats H r,nV,nD]
theorem Reps.bools(H:Hp):∀l:List Bool,Reps H (l.map V.bl) (l.map PyData.bool)
 |[]=>by simp[Reps]
 |x::r=>by simp[Reps,Rep,Reps.bools H r]
theorem RowsM.reps{H:Hp}:∀{us:List V}{mv:List (List Nat)},RowsM H us mv->Reps H us (mv.map rwD)
 |[],[],_=>by simp[Reps]
 |_::_,_::_,.cons ⟨a,e,h⟩ t=>by
  refine⟨?_,RowsM.reps t⟩;rw[e];simp only[rwD,Rep];exact⟨a,_,rfl,h,Reps.nats H _⟩
theorem MH.rep{z:Str}{py:Addr}(h:MH H p z pm py us mv m ys):Rep H (.ref p) (mhD z mv ys):=by
 unfold mhD;simp only[Rep];refine⟨p,_,rfl,h.hp,?_⟩;simp only[Reps,Rep];exact⟨trivial,⟨pm,us,rfl,h.hm,h.rw.reps⟩,⟨py,_,rfl,h.hy,Reps.bools H ys⟩,trivial⟩
theorem jt0{z:Str}(h:Letters z n):PyData.strOk z=true:=by
 simp only[PyData.strOk];rw[<-Array.all_toList,Aal];intro c a;have:=h.az c a;simp;omega
section
variable{H:Hp}{p p':Addr}{z:Str}{m n n':Nat}{L L':List Nat->Bool}{Q:VK}
theorem RS.same(a:RS H p z m n L)(b:RS H p' z m n' L')(q:∀w,(∀a∈w,a<m)->L w=L' w):∃mv ys,Rep H (.ref p) (mhD z mv ys)/\Rep H (.ref p') (mhD z mv ys):=by
 obtain⟨l,k,h,mv,ys,M,t,_⟩:=a;obtain⟨j,i,f,g,e,d,c,_⟩:=b;obtain⟨rfl,rfl⟩:=t.one c q;exact⟨_,_,M.rep,d.rep⟩
theorem RS.ne(hz:PyData.strOk z=true)(a:RS H p z m n L)(b:RS H p' z m n' L')(q:∀w,(∀a∈w,a<m)->L w=L' w)(k:Q (.bl false) H):rNeU (.ref p) (.ref p') H Q:=by
 obtain⟨d,c,f,e⟩:=a.same b q;rw[jg6];exact⟨_,_,f,e,jed hz d c,jed hz d c,by rw[SeqAt.eqv_refl _ (jit hz d c)];exact k⟩
theorem RS.eq(hz:PyData.strOk z=true)(a:RS H p z m n L)(b:RS H p' z m n' L')(q:∀w,(∀a∈w,a<m)->L w=L' w)(k:Q (.bl true) H):rEqU (.ref p) (.ref p') H Q:=by
 obtain⟨d,c,f,e⟩:=a.same b q;rw[jg3];exact⟨_,_,f,e,jed hz d c,jed hz d c,by rw[SeqAt.eqv_refl _ (jit hz d c)];exact k⟩
end
def spAl:Sp:=λvs H Q _=>∃(p p':Addr)(z:Str)(m n n':Nat)(L L':List Nat->Bool),vs=[.ref p,.ref p']/\PyData.strOk z=true/\RS H p z m n L/\RS H p' z m n' L'/\(∀w,(∀a∈w,a<m)->L w=L' w)/\∀H',Kp [] H H'->Q (.bl true) H'
structure TAl(K:PySem.W.Frag)(mg:Str->Option Value):Prop where
 n_isinstance:mg "isinstance"=none
 n_tuple:mg "tuple"=none
 n_len:mg "len"=none
 n_all:mg "all"=none
 n_any:mg "any"=none
 n_bool:mg "bool"=none
 tt:PySem.W.kitOne K (.type "tuple") (.type "tuple")=some true
 bb:PySem.W.kitOne K (.type "bool") (.type "bool")=some true
 ib:PySem.W.kitOne K (.type "int") (.type "bool")=some false
def cV(b:Bool):V->V:=λ_=>.bl b
theorem jpd(b:Bool)(l:List V):l.map (cV b)=(List.replicate l.length b).map V.bl:=by
 induction l with
 |nil=>rfl
 |cons x l ih=>rw[Au,ih];rfl
section
variable{P:Program}{w:World}{K:PySem.W.Frag}{mg:Str->Option Value}{base:Heap}
abbrev yt:Stmt:=top 26
theorem jaw:FnScope ["_law_found","_law_due","_law_row"] ["_law_found","_law_due"] (jg yt):=⟨rfl,rfl,rfl,by decide +kernel,rfl,by decide +kernel,by decide +kernel⟩
theorem ok__law_alike(F:Fun K "_law_alike" "_law_alike" yt f fd)(T:TAl K mg):FnOk P w K mg base CX0 1 f fd ["_law_found","_law_due"] spAl:=by
 refine F.ok jaw (λW H Q E h=>?_) (λab A B s H W Q E hr h=>?_)
 .obtain⟨p,y,z,m,n,X,L,L',rfl,_⟩:=h;rfl
 .obtain⟨p,y,z,m,n,X,L,L',rfl,Z,R,R',Y,k⟩:=h;have I:=hr.units;have aa:sizeLine=16777216:=Iz;have R0:=R;obtain⟨a1,a2,C,j,ys,M,t,_⟩:=R0;have n9:=M.n9;have m9:=M.m9;have yl:=M.yl;refine exQ (yf (ym (QW.pt (jap (ja5 (zx (jt (zd (K:=K) rfl) (by rfl) T.n_isinstance zo (ja (qpv 0) (ja (jak (v:=.ty "tuple") rfl T.n_tuple kg rfl) jc))))) (jap (j8 (ja0 I) (jt jw (by rfl) T.n_len j3 (ja (qpv 0) jc)) jh (yd _)) (jaq (ja5 (zx (jt (call_allU rfl) (by rfl) T.n_all bt_all (ja (ku rfl (jci (sc:=jg yt) (N:=["_law_found","_law_due","_law_row"]) (Nc:=["_law_one"]) (js:=[none]) (by decide +kernel)) (j7 (K:=K) (jr ix_U (qpv 0) jh (λ_ _=>rfl)) rfl) (λ_ _ _ _=>(jq (i:=0) (show List.Nodup [("_law_one":Str)]from by decide +kernel) rfl (by ac_rfl))) (λ_ _ _ _=>(jt (zd (K:=K) rfl) (by rfl) T.n_isinstance zo (ja (qpv 0) (ja (jak (v:=.ty "bool") rfl T.n_bool jb5 rfl) jc))))) jc)))))))) (jj (ka zv)) ya)
  (jf (yh Ip rfl (j7 (K:=K) (jr ix_U (qpv 0) jh (λ_ _=>rfl)) rfl) (jq (i:=2) jaw.nd rfl (by ac_rfl)) (jj (ym (QW.pt (jap (ja5 (zx (jt (zd (K:=K) rfl) (by rfl) T.n_isinstance zo (ja (qpv 2) (ja (jak (v:=.ty "tuple") rfl T.n_tuple kg rfl) jc))))) (jaq (zx (jt (call_anyU rfl) (by rfl) T.n_any bt_any (ja (ku rfl (jci (sc:=jg yt) (N:=["_law_found","_law_due","_law_row"]) (Nc:=["_law_goal"]) (js:=[none]) (by decide +kernel)) (j7 (K:=K) (qpv 2) rfl) (λ_ _ _ _=>(jq (i:=0) (show List.Nodup [("_law_goal":Str)]from by decide +kernel) rfl (by ac_rfl))) (λ_ _ _ _=>(jt (zd (K:=K) rfl) (by rfl) T.n_isinstance zo (ja (qpv 0) (ja (jak (v:=.ty "bool") rfl T.n_bool jb5 rfl) jc))))) jc)))))) (jj (ka zv)) ya)))
  (jj (ka (qpe_and (jt (zd (K:=K) rfl) (by rfl) T.n_isinstance zo (ja (jr ix_U (qpv 0) jh (λ_ _=>rfl)) (ja (jak (v:=.ty "tuple") rfl T.n_tuple kg rfl) jc))) (qpe_one (jal (zq I) (qpv 0) (qpv 1) (yd _)))))))) ?_
  refine⟨λr o=>r=[some (.ref p),some (.ref y),none]/\Kp [] H o,?_,?_⟩
  .simp!;refine⟨_,TyOf.tup M.hp,true,T.tt,?_⟩;simp! [M.hp,M.hy];rw[Ai (by simp)];intro D e;refine jdo (cV true) M.hy e (by rw[Ac];omega) (λx d l Q' q=>?_) λU=>?_
   .obtain⟨b,_,rfl⟩:=Am.mp d;simp!;exact⟨_,TyOf.bl b,true,T.bb,q⟩
   dsimp only;rw[jpd];refine⟨_,jb,?_⟩;rw[Ai (by simp)];exact(Kp.refl [] H).new e
  rintro _ H1 ⟨rfl,G⟩;have O:=M.kp G;simp! [O.hp,O.hm];have ul:C.length=j.length:=Iw M.rw;refine jeo (xs:=C) (λi r o=>∃u:Option V,r=[some (.ref p),some (.ref y),u]/\Kp [] H o) ⟨none,rfl,G⟩ ?_ ?_ ?_
  .rintro i σ o _ ⟨_,_,h⟩;exact h.tup _ _ M.hm
  .rintro i x σ S d ⟨u,rfl,a⟩;have J:i<j.length:=by have:=(Ab.mp d).1;omega
   obtain⟨cr,g,c⟩:=(M.kp a).rw.get (show j[i]?=some (j.getD i [])by rw[Af,Aa J];rfl);obtain rfl:x=.ref cr:=by rw[d]at g;exact Aw g
   simp!;refine⟨_,TyOf.tup c,true,T.tt,?_⟩;simp! [c];intro D e;refine jdo (cV false) c e (by rw[jh6 M.ok J];simp;omega) (λx d l Q' q=>?_) λU=>?_
   .obtain⟨b,_,rfl⟩:=Am.mp d;simp!;exact⟨_,TyOf.int _,false,T.ib,q⟩
   dsimp only;rw[jpd];refine⟨_,jb,?_⟩;rw[Ai (by simp)];exact a.new e
  .rintro σ S ⟨u,rfl,a⟩;have M2:=M.kp a;simp! [M2.hp];refine⟨_,TyOf.tup M2.hy,true,T.tt,?_⟩;simp!;exact(R.kp a).eq Z (R'.kp a) Y (k S a)
end
theorem BoxO.lst(h:BoxO o):∃xs,o=.lst xs:=by
 obtain⟨c,s,e,_⟩:=h;exact⟨_,e⟩
def jib(K:PySem.W.Frag)(P1 P2:Addr):Sp:=λvs H Q _=>∃(a:Addr)(ns:List Int),vs=[.ref a]/\SqL K H a (ns.map V.int)/\ns.length<=63/\a≠P1/\a≠P2/\TabOk H P1 LQ/\TabOk H P2 AQ/\∀H',Q (.bl true) H'
theorem Lst.tl(h:Lst (mcOf mv m ys) mv' m ys'):Tl mv' m ys' (La mv m ys 0)/\mv'.length<=mv.length:=⟨⟨_,h,λ_ _=>rfl⟩,h.h.elim λ_ l=>l.le⟩
theorem RS.mono{q:Addr}{z:Str}{n':Nat}{L':List Nat->Bool}(h:RS H q z m n L)(hn:n<=n')(hl:∀w,(∀a∈w,a<m)->L w=L' w):RS H q z m n' L':=by
 obtain⟨f,e,c,d,b,M,t,l⟩:=h;exact⟨f,e,c,d,b,M,t.congr hl,Og l hn⟩
variable{E:XK}
theorem juk{z:Str}{py:Addr}(M:MH H p z pm py us mv z.length ys)(nd:z.cps.toList.Nodup)(b:∀a∈u,a<z.length)(c:u.length<=1000)
  (q:Q (.bl (La mv z.length ys 0 u)) H):spLt [.ref p,.str (tz z u)] H Q E :=
 ⟨p,pm,py,z,us,mv,_,ys,u,rfl,M,rfl,nd,b,c,q⟩
theorem jul{g:Addr}{z:Str}(r:RS H g z z.length n L)(nd:z.cps.toList.Nodup)(d:∀a∈u,a<z.length)(h:u.length<=1000)(q:Q (.bl (L u)) H):spLt [.ref g,.str (tz z u)] H Q E:=by
 obtain⟨j,i,f,c,b,M,t,l⟩:=r;refine⟨g,j,i,z,f,c,_,b,u,rfl,M,rfl,nd,d,h,?_⟩;have e:La c z.length b 0 u=L u:=t.lang d;show Q (.bl (La c z.length b 0 u)) H;rw[e];exact q
theorem juj{z:Str}{py:Addr}(M:MH H p z pm py us mv m ys)(c:mv.length<=75)(f:1<=m)(q:∀q H',RS H' q z m mv.length (La mv m ys 0)->Kp [] H H'->Q (.ref q) H'):jkj [.ref p] H Q E:=by
 refine⟨p,pm,py,z,us,mv,m,ys,rfl,M,c,f,λe o n b d a H' l j i R h k=>q e H' ?_ k⟩;obtain⟨t,g⟩:=l.tl;exact⟨o,n,b,d,a,⟨j,i,R,t.ok,h,t.yl,t.n1,by have:=M.n9;omega,M.m9⟩,t,g⟩
theorem jr2{z:Str}{py:Addr}(M:MH H p z pm py us mv z.length ys)(z1:1<=z.length)(c:mv.length<=6)(t1:TabOk H P1 LQ)(t2:TabOk H P2 AQ)
  (q:∀q H',RS H' q z z.length 64 (λu=>La mv z.length ys 0 u.reverse)->Kp [P1,P2] H H'->TabOk H' P1 LQ->TabOk H' P2 AQ->Q (.ref q) H'):spAb P1 P2 [.ref p,.int 400] H Q E :=
 ⟨p,pm,py,z,us,mv,_,ys,64,rfl,M,rfl,z1,by omega,λb a _ h=>jh9 (by omega),t1,t2,q⟩
theorem juc{g:Addr}{z:Str}(r:RS H g z z.length n (λu=>La mv z.length ys 0 u.reverse))(ok:MvOk mv z.length)(n1:1<=mv.length)(z1:1<=z.length)(j:mv.length<=6)(t1:TabOk H P1 LQ)(t2:TabOk H P2 AQ)
  (q:∀q H',RS H' q z z.length 6 (La mv z.length ys 0)->Kp [P1,P2] H H'->TabOk H' P1 LQ->TabOk H' P2 AQ->Q (.ref q) H'):spAb P1 P2 [.ref g,.int 400] H Q E:=by
 obtain⟨v,s,e,d,c,M,t,l⟩:=r
 refine⟨g,v,s,z,e,d,_,c,mv.length,rfl,M,rfl,z1,by omega,λx w f _=>joz (mv:=mv) (ys:=ys) ok n1 (f.congr λu b=>t.lang b),t1,t2,λi H' h k p o=>q i H' (h.mono j λu b=>?_) k p o⟩
 rw[t.lang (λa m=>b a (Oi.mp m)),Aaw]
theorem jgf{qual:Str}(hb:∃o,H b=some o/\BoxO o)(t:TabOk H Pt qual)(k:Kp [b] H H'):TabOk H' Pt qual:=by
 obtain⟨o,hb,d⟩:=hb;obtain⟨f,rfl⟩:=d.lst;refine t.kp k (λm=>?_) λc o e m=>?_
 .obtain⟨g,a,_⟩:=t;rw[Ag.mp m,hb]at a
  cases a
 .rw[Ag.mp m,hb]at e
  cases e
theorem jkt{q1 q2:Str}(hb:∃o,H b=some o/\BoxO o)(t1:TabOk H P1 q1)(t2:TabOk H P2 q2)(k:Kp [P1,P2] H H'):∃o,H' b=some o/\BoxO o:=by
 obtain⟨o,e,c⟩:=hb;obtain⟨g,rfl⟩:=c.lst;refine⟨_,k.old _ _ e λa=>?_,c⟩;obtain⟨i,f,_⟩:=t1;obtain⟨h,d,_⟩:=t2;simp only[At,Ae,U4]at a;rcases a with rfl|rfl
 .rw[f]at e;cases e
 .rw[d]at e;cases e
structure LI(H0:Hp)(P1 P2 b p a1 a2 qd qf:Addr)(z:Str)(us:List V)(mv:List (List Nat))(ys:List Bool)(H:Hp):Prop where
 mh:MH H p z a1 a2 us mv z.length ys
 rd:RS H qd z z.length 64 (λu=>La mv z.length ys 0 u.reverse)
 rf:RS H qf z z.length 64 (λu=>La mv z.length ys 0 u.reverse)
 bx:∃o,H b=some o/\BoxO o
 kp:Kp [P1,P2] H0 H
 t1:TabOk H P1 LQ
 t2:TabOk H P2 AQ
section
variable{H0:Hp}{P1 P2 b p a1 a2 qd qf:Addr}{z:Str}{us:List V}{mv:List (List Nat)}{ys:List Bool}{H H':Hp}
theorem LI.step(h:LI H0 P1 P2 b p a1 a2 qd qf z us mv ys H)(k:Kp [P1,P2] H H')(t1:TabOk H' P1 LQ)(t2:TabOk H' P2 AQ):LI H0 P1 P2 b p a1 a2 qd qf z us mv ys H' :=
 ⟨h.mh.kp k,h.rd.kp k,h.rf.kp k,jkt h.bx h.t1 h.t2 k,h.kp.trans k,t1,t2⟩
theorem LI.step0(h:LI H0 P1 P2 b p a1 a2 qd qf z us mv ys H)(k:Kp [] H H'):LI H0 P1 P2 b p a1 a2 qd qf z us mv ys H' :=
 h.step (k.mono (by simp)) (h.t1.kp k (by simp) (by simp)) (h.t2.kp k (by simp) (by simp))
theorem LI.box(h:LI H0 P1 P2 b p a1 a2 qd qf z us mv ys H)(hb:H0 b=none)(k:Kp [b] H H')(e:H' b=some o)(c:BoxO o):LI H0 P1 P2 b p a1 a2 qd qf z us mv ys H' :=
 ⟨h.mh.kp k,h.rd.kp k,h.rf.kp k,⟨o,e,c⟩,h.kp.trans' k (λx a=>.inr (by cases Ag.mp a;exact hb)),jgf h.bx h.t1 k,jgf h.bx h.t2 k⟩
end
theorem jua(z:Str)(u:List Nat):revS (tz z u)=tz z u.reverse:=by
 unfold revS tz toS;simp
structure TLw(mg:Str->Option Value)(fb fl fm fx flt fls fal fal2 fab:Addr):Prop where
 n_len:mg "len"=none
 n_range:mg "range"=none
 n_max:mg "max"=none
 n_min:mg "min"=none
 m6z:mg "_law_box"=some (.ref fb)
 m12z:mg "_law_letters"=some (.ref fl)
 m13z:mg "_law_machine"=some (.ref fm)
 m14z:mg "_law_text"=some (.ref fx)
 m7z:mg "_law_lets"=some (.ref flt)
 m2z:mg "_law_least"=some (.ref fls)
 m10z:mg "_law_alike"=some (.ref fal)
 m9z:mg "_law_about"=some (.ref fal2)
 m5z:mg "about_of"=some (.ref fab)
section
variable{P:Program}{w:World}{K:PySem.W.Frag}{mg:Str->Option Value}{base:Heap}
abbrev jaj:Stmt:=top 28
theorem jaa:FnScope ["_law_script","_law_letters_here","_law_k","_law_box_here","_law_machine_here","_law_due","_law_found","_law_turn","_law_text_here"] ["_law_script"] (jg jaj):=⟨rfl,rfl,rfl,by decide +kernel,rfl,by decide +kernel,by decide +kernel⟩
theorem ok_law{fb fm fx flt L X l Y ap:Addr}{U R M S N W k O:FuncData}{ah:List Value}(F:Fun K "law" "law" jaj f fd)(T:TLw mg fb fl fm fx flt L X l Y)
  (F6z:Fun K "_law_box" "_law_box" zk fb U) (b6z:Binds K U ["_law_script","_law_k"] []) (aj:FnOk P w K mg base CX0 1 fb U ["_law_script","_law_k"] (jsg K))
  (F12z:Fun K "_law_letters" "_law_letters" yx fl fdl) (b12z:Binds K fdl ["_law_box_here","_law_most"] []) (am:FnOk P w K mg base CX0 2 fl fdl ["_law_box_here","_law_most"] jj4)
  (F13z:Fun K "_law_machine" "_law_machine" yj fm R) (b13z:Binds K R ["_law_box_here","_law_letters_here","_law_most"] []) (al:FnOk P w K mg base CX0 2 fm R ["_law_box_here","_law_letters_here","_law_most"] jj5)
  (F14z:Fun K "_law_text" "_law_text" zc fx M) (b14z:Binds K M ["_law_box_here","_law_letters_here","_law_most"] []) (ak:FnOk P w K mg base CX0 2 fx M ["_law_box_here","_law_letters_here","_law_most"] jqu)
  (F7z:Fun K "_law_lets" "_law_lets" zg flt S) (b7z:Binds K S ["_law_machine_here","_law_text_here"] []) (ai:FnOk P w K mg base CX0 2 flt S ["_law_machine_here","_law_text_here"] spLt)
  (F2z:Fun K "_law_least" "_law_least" ko L N) (b2z:Binds K N ["_law_machine_here"] []) (be:FnOk P w K mg base CX0 2 L N ["_law_machine_here"] jkj)
  (F10z:Fun K "_law_alike" "_law_alike" yt X W) (b10z:Binds K W ["_law_found","_law_due"] []) (an:FnOk P w K mg base CX0 1 X W ["_law_found","_law_due"] spAl)
  (F9z:Fun K "_law_about" "_law_about" yo l k) (b9z:Binds K k ["_law_machine_here"] []) (bd:FnOk P w K mg base CX0 3 l k ["_law_machine_here"] jsf)
  (F5z:FunD K "about_of" "about_of" yu Y O ap) (Z:Binds K O ["machine","most"] ah) (c:Vals [.int 400] ah) (ab:FnOk P w K mg base CX0 7 Y O ["machine","most"] (spAb P1 P2)):FnOk P w K mg base CX0 8 f fd ["_law_script"] (jib K P1 P2):=by
 refine F.ok jaa (λvs H Q E h=>?_) (λbk A bf s H vs Q E d h=>?_)
 .obtain⟨a,C,rfl,_⟩:=h
  rfl
 .obtain⟨a,C,rfl,hS,hn,a4,a3,ar,aq,kQ⟩:=h
  have hu:=d.units
  have bh:sizeLine=16777216:=Iz
  refine exQ (jf (jo (i:=1) jaa.nd rfl (by ac_rfl) (jv am (d.mono (by decide)) rfl T.m12z F12z.kp b12z .nil kc (ja (jv aj (d.mono (by decide)) rfl T.m6z F6z.kp b6z .nil kc (ja (qpv 0) (ja jh jc))) (ja jh jc))))
  (jf (yh Ip rfl (qpi_range2 rfl T.n_range (ja jh (ja (jt (jbo rfl) (by rfl) T.n_max jcd (ja jh (ja (jt (call_minU rfl) (by rfl) T.n_min bt_min (ja jh (ja (jt zj (by rfl) T.n_len j3 (ja (qpv 0) jc)) jc))) jc))) jc))) (jq (i:=2) jaa.nd rfl (by ac_rfl)) (jf (jo (i:=3) jaa.nd rfl (by ac_rfl) (jv aj (d.mono (by decide)) rfl T.m6z F6z.kp b6z .nil kc (ja (qpv 0) (ja (qpv 2) jc))))
  (jf (jo (i:=4) jaa.nd rfl (by ac_rfl) (jv al (d.mono (by decide)) rfl T.m13z F13z.kp b13z .nil kc (ja (qpv 3) (ja (qpv 1) (ja jh jc)))))
  (jf (jo (i:=5) jaa.nd rfl (by ac_rfl) (jv bd (d.mono (by decide)) rfl T.m9z F9z.kp b9z .nil kc (ja (qpv 4) jc)))
  (yf (jo (i:=6) jaa.nd rfl (by ac_rfl) (jv ab (d.mono (by decide)) rfl T.m5z F5z.kp Z c kc (ja (qpv 4) jc)))
  (yf (ym (QW.pt (jap (ja5 (zx (jv an (d.mono (by decide)) rfl T.m10z F10z.kp b10z .nil kc (ja (qpv 6) (ja (qpv 5) jc))))) (jaq (j8 (ja0 hu) (jv ab (d.mono (by decide)) rfl T.m5z F5z.kp Z c kc (ja (qpv 4) jc)) (qpv 5) (yd _))))) (jj (ka zv)) ya)
  (jf (yh Ip rfl (yb rfl T.n_range (ja jh jc)) (jq (i:=7) jaa.nd rfl (by ac_rfl)) (jf (jo (i:=8) jaa.nd rfl (by ac_rfl) (jv ak (d.mono (by decide)) rfl T.m14z F14z.kp b14z .nil kc (ja (qpv 3) (ja (qpv 1) (ja jh jc)))))
  (jj (ym (j8 (ja0 hu) (jv ai (d.mono (by decide)) rfl T.m7z F7z.kp b7z .nil kc (ja (qpv 6) (ja (qpv 8) jc))) (jv ai (d.mono (by decide)) rfl T.m7z F7z.kp b7z .nil kc (ja (qpv 4) (ja (qpe_rev (qpv 8)) jc))) (yd _)) (jj (ka zv)) ya))))
  (jj (ym (j8 (ja0 hu) (jv ab (d.mono (by decide)) rfl T.m5z F5z.kp Z c kc (ja (qpv 6) jc)) (jv be (d.mono (by decide)) rfl T.m2z F2z.kp b2z .nil kc (ja (qpv 4) jc)) (yd _)) (jj (ka zv)) ya)))))))))
  (jj (ka zv)))) ?_
  simp!
  refine⟨a,0,C,rfl,hS,by omega,by omega,λb0 o0 g ba=>?_⟩
  refine⟨b0,4,o0,rfl,jb,ba,by omega,by omega,λz o1 H1 hz bi bj a6=>?_⟩
  have k1:Kp [] H H1:=((Kp.refl [] H).new g).trans' a6 (λx hx=>.inr (by cases Ag.mp hx;exact g))
  have zl:=hz.hi
  have z1:=hz.lo
  have I:=jt0 hz
  refine⟨_,.inl (k1.seq (by simp) hS),?_⟩
  rw[Ac]
  simp!
  generalize hB:(if(if(C.length:Int)<8 then(C.length:Int)else 8)>3 then(if(C.length:Int)<8 then(C.length:Int)else 8)else 3)=B
  have b4:3<=B/\B<=8:=by subst hB;split <;> split <;> omega
  refine⟨_,_,⟨rfl,rfl⟩,by omega,?_⟩
  obtain⟨J0,r⟩:∃J0:Nat->L2.St->Hp->Prop,∀i s H',J0 i s H'↔(∃(v2 v3 v4 v5 v6 v t:Option V),s=[some (.ref a),some (.str z),v2,v3,v4,v5,v6,v,t]/\Kp [P1,P2] H H'/\TabOk H' P1 LQ/\TabOk H' P2 AQ):=⟨_,λ_ _ _=>O2⟩
  refine jcr J0 ((r _ _ _).mpr ⟨none,none,none,none,none,none,none,rfl,k1.mono (by simp),ar.kp k1 (by simp) (by simp),aq.kp k1 (by simp) (by simp)⟩) ?_ ?_
  .intro i σ G hi m
   obtain⟨v2,v3,v4,v5,v6,v,t,rfl,kp,t1,t2⟩:=(r _ _ _).mp m
   clear m
   simp!
   refine⟨a,_,C,rfl,kp.seq (by simp[a4,a3]) hS,by omega,by omega,λb o hb ho=>?_⟩
   have g:H b=none:=kp.free hb
   have kb:Kp [] G (upd G b o):=(Kp.refl [] G).new hb
   have eb:upd G b o b=some o:=jb
   generalize upd G b o=H3 at kb eb⊢
   have a0:=t1.kp kb (by simp) (by simp)
   have aw:=t2.kp kb (by simp) (by simp)
   refine⟨b,z,6,o,rfl,eb,ho,hz,by omega,by omega,λp mm o4 H4 ez J a9 bc k4 rp=>?_⟩
   obtain⟨a1,a2,rs,ma⟩:=Mach.opened rp
   have mh:=ma.mh J (by omega)
   rw[ez]at mh
   have n6:(mvD mm).length<=6:=by have:=J.nh;simp[mvD];omega
   generalize mvD mm=mv at mh n6
   generalize mm.ye=ys at mh
   have ad:=jgf ⟨o,eb,ho⟩ a0 k4
   have ac:=jgf ⟨o,eb,ho⟩ aw k4
   have a5:Kp [P1,P2] H H4:=(kp.trans (kb.mono (by simp))).trans' k4 (λx hx=>.inr (by cases Ag.mp hx;exact g))
   clear ma rp J ez kb
   refine⟨p,a1,a2,z,rs,mv,z.length,ys,rfl,mh,rfl,z1,n6,λqd H5 rd D=>?_⟩
   obtain⟨V0,n⟩:∃V0:L2.St->Hp->Prop,∀s H',V0 s H'↔(∃y:Addr,s=[some (.ref a),some (.str z),some (.int (1+(i:Int))),some (.ref b),some (.ref p),some (.ref qd),some (.ref y),v,t]/\LI H P1 P2 b p a1 a2 qd y z rs mv ys H'):=⟨_,λ_ _=>O2⟩
   have af:=mh.kp D
   refine⟨V0,?_,λσ' H6 hv=>?_⟩
   .simp!
    refine jr2 af z1 n6 (ad.kp D (by simp) (by simp)) (ac.kp D (by simp) (by simp)) λy H6 rf k6 az av=>?_
    exact(n _ _).mpr ⟨y,rfl,af.kp k6,rd.kp k6,rf,jkt ⟨o4,D.old _ _ bc Ae,a9⟩ (ad.kp D (by simp) (by simp)) (ac.kp D (by simp) (by simp)) k6,a5.trans ((D.mono (by simp)).trans k6),az,av⟩
   obtain⟨y,rfl,I6⟩:=(n _ _).mp hv
   clear hv
   refine⟨V0,?_,λσ' H7 hv=>?_⟩
   .simp!
    refine⟨y,qd,z,z.length,64,64,_,_,rfl,I,I6.rf,I6.rd,λ_ _=>rfl,λH7 k7=>⟨true,rfl,?_⟩⟩
    have I7:=I6.step0 k7
    rw[Ai (by simp)]
    refine jr2 I7.mh z1 n6 I7.t1 I7.t2 λqg H8 rg k8 ay au=>?_
    have e:=I7.step k8 ay au
    refine rg.ne I e.rd (λ_ _=>rfl) ⟨false,rfl,?_⟩
    rw[Ai (by simp)]
    exact(n _ _).mpr ⟨y,rfl,e⟩
   obtain⟨ae,e7,I7⟩:=(n _ _).mp hv
   clear hv
   subst e7
   simp!
   refine⟨by omega,by omega,?_⟩
   obtain⟨J1,q⟩:∃J1:Nat->L2.St->Hp->Prop,∀j s H',J1 j s H'↔(∃(v t:Option V),s=[some (.ref a),some (.str z),some (.int (1+(i:Int))),some (.ref b),some (.ref p),some (.ref qd),some (.ref ae),v,t]/\LI H P1 P2 b p a1 a2 qd ae z rs mv ys H'):=⟨_,λ_ _ _=>O2⟩
   refine jcr J1 ((q _ _ _).mpr ⟨v,t,rfl,I7⟩) ?_ ?_
   .intro j σ H8 hj m
    obtain⟨w7,w8,rfl,e⟩:=(q _ _ _).mp m
    clear m
    obtain⟨o8,e8,a8⟩:=e.bx
    simp!
    refine⟨b,z,8,o8,rfl,e8,a8,z1,by omega,by omega,λu o9 H9 ul ao a7 bb k9=>?_⟩
    obtain⟨u,rfl,uw,bg⟩:=juu ao
    rw[jmc]at ul
    have I9:=e.box g k9 bb a7
    refine jul I9.rf hz.nd uw (by omega) ?_
    refine⟨_,rfl,by rw[jmc];omega,?_⟩
    rw[jua]
    refine juk I9.mh hz.nd (λa ha=>uw a (Oi.mp ha)) (by simp;omega) ?_
    simp!
    rw[Ai (by simp)]
    exact(q _ _ _).mpr ⟨_,_,rfl,I9⟩
   .intro σ H8 m
    obtain⟨w7,w8,rfl,e⟩:=(q _ _ _).mp m
    clear m
    simp!
    refine juc e.rf e.mh.ok e.mh.n1 z1 n6 e.t1 e.t2 λqg H9 rg k9 ax as=>?_
    have I9:=e.step k9 ax as
    refine juj I9.mh (by omega) z1 λql bl rl ag=>?_
    have aa:=I9.step0 ag
    refine(rg.kp ag).ne I rl (λ_ _=>rfl) ⟨false,rfl,?_⟩
    rw[Ai (by simp)]
    exact(r _ _ _).mpr ⟨_,_,_,_,_,_,_,rfl,aa.kp,aa.t1,aa.t2⟩
  .intro σ G m
   obtain⟨v2,v3,v4,v5,v6,v,t,rfl,kp,t1,t2⟩:=(r _ _ _).mp m
   simp!
   exact kQ G
end
theorem c_of{hh:Heap}{tb:Addr}{m:Str}(X:K.In hh){e:Value}{d:Option Addr}{a:Array (Option Value)}(h3:PySem.W.nsIn K mainGlobals m=some (some (.ref b)))(h4:K.lookup b=some ⟨e,d,.func fd,a⟩)(h5:fd.code=.ref c)(f:PySem.W.codeHdIn K c tb=true):∃c,PySem.W.CodeHd hh c tb:=⟨c,Aaz X f⟩
theorem us1(h:∀v0:Value,C [v0])(us:List Value)(e:us.length=1):C us:=by
 cases us with
 |nil=>exact absurd e.symm (Of _)
 |cons v0 us =>
  cases us with
  |nil=>exact h v0
  |cons _ _=>exact absurd (Oa (e)) (Of _)
theorem us3(h:∀v0 v1 v2:Value,C [v0,v1,v2])(us:List Value)(e:us.length=3):C us:=by
 cases us with
 |nil=>exact absurd e.symm (Of _)
 |cons v0 us =>
  cases us with
  |nil=>exact absurd (Oa (e.symm)) (Of _)
  |cons v1 us =>
   cases us with
   |nil=>exact absurd (Oa (Oa (e.symm))) (Of _)
   |cons v2 us =>
    cases us with
    |nil=>exact h v0 v1 v2
    |cons _ _=>exact absurd (Oa (Oa (Oa (e)))) (Of _)
theorem us4(h:∀v0 v1 v2 v3:Value,C [v0,v1,v2,v3])(us:List Value)(e:us.length=4):C us:=by
 cases us with
 |nil=>exact absurd e.symm (Of _)
 |cons v0 us =>
  cases us with
  |nil=>exact absurd (Oa (e.symm)) (Of _)
  |cons v1 us =>
   cases us with
   |nil=>exact absurd (Oa (Oa (e.symm))) (Of _)
   |cons v2 us =>
    cases us with
    |nil=>exact absurd (Oa (Oa (Oa (e.symm)))) (Of _)
    |cons v3 us =>
     cases us with
     |nil=>exact h v0 v1 v2 v3
     |cons _ _=>exact absurd (Oa (Oa (Oa (Oa (e))))) (Of _)
theorem all_mk{l:PySem.W.OpenLaw}{w:World}{h:Heap}{mg:Str->Option Value}{fa f1 f2 f3 f4 f5 f6 f7 f8 f9 bo bn bm bl bk bj bi bh bg bf be:Addr}(X:K.In h)(G:h.Ns mainGlobals mg)(kf:mg "law"=some (.ref fa))
  {h1 h0 hz hy hx hw hv hu ht ed ec eb ea d9 d8 d7 d6 d5 d4 d3 mx mw mv mu mt ms mr mq mo hb ha g9 g8 g7 g6 g5 g4 g3 g2 a0:Option Addr}{hj hi sl3 hh hg hf he hd hc dl dj di dh dg df de dd dc db da:Array (Option Value)}{ia ji lh pm1 cs ls h9 i9 lg hs bp lr h8 i8 lf hr cr lq h7 i7 le hq cq lp h6 i6 ld hp cp lo h5 i5 lc ho co ln h4 i4 lb hn cn lm h3 i3 la hm cm ll h2 i2 k0 hk cl lj es fh gd dy az gp er fg gc dx ay go eq ff gb dw ax gn ep fe ga dv aw gm eo fc f0 du av gl en fb fz dt au gk em e9 fy ds as gj el e8 fx dr ar gi ek e7 fw dq aq gh ej e6 fv dp ap gg ei al am ak J an:Value}
  {cc cy bd cd:Addr}{eh e5 fu dn ao gf eg ee e4 ft dm I ge ef:Value}{d2 g1 d1 dz g0 d0:Option Addr}{c0 cz cw cx:Array (Option Value)}{F ba:Tok}{ic ib:Nat}
  (a1:PySem.W.nsIn K mainGlobals "least"=some (some (.ref f1))) (l1:K.lookup f1=some ⟨ia,h1,.func (PySem.W.fnOf "least" "least" (j6 jac) (jx jac) (jg jac) .none ji lh pm1 mx cs ls),hj⟩) (c1:PySem.W.codeIn K cs "least"=true) (k1:PySem.W.keepIn K (.ref f1)=true)
  (a2:PySem.W.nsIn K mainGlobals "least_from"=some (some (.ref f2))) (l2:K.lookup f2=some ⟨h9,h0,.func (PySem.W.fnOf "least_from" "least_from" (j6 yv) (jx yv) (jg yv) .none i9 lg hs mw bp lr),hi⟩) (c2:PySem.W.codeIn K bp "least_from"=true) (k2:PySem.W.keepIn K (.ref f2)=true)
  (a3:PySem.W.nsIn K mainGlobals "merged"=some (some (.ref f3))) (l3:K.lookup f3=some ⟨h8,hz,.func (PySem.W.fnOf "merged" "merged" (j6 zi) (jx zi) (jg zi) .none i8 lf hr mv cr lq),sl3⟩) (c3:PySem.W.codeIn K cr "merged"=true) (k3:PySem.W.keepIn K (.ref f3)=true)
  (a4:PySem.W.nsIn K mainGlobals "groups_of_rooms"=some (some (.ref f4))) (l4:K.lookup f4=some ⟨h7,hy,.func (PySem.W.fnOf "groups_of_rooms" "groups_of_rooms" (j6 jy) (jx jy) (jg jy) .none i7 le hq mu cq lp),hh⟩) (c4:PySem.W.codeIn K cq "groups_of_rooms"=true) (k4:PySem.W.keepIn K (.ref f4)=true)
  (a5:PySem.W.nsIn K mainGlobals "led_from"=some (some (.ref f5))) (l5:K.lookup f5=some ⟨h6,hx,.func (PySem.W.fnOf "led_from" "led_from" (j6 zb) (jx zb) (jg zb) .none i6 ld hp mt cp lo),hg⟩) (c5:PySem.W.codeIn K cp "led_from"=true) (k5:PySem.W.keepIn K (.ref f5)=true)
  (a6:PySem.W.nsIn K mainGlobals "leading_into"=some (some (.ref f6))) (l6:K.lookup f6=some ⟨h5,hw,.func (PySem.W.fnOf "leading_into" "leading_into" (j6 yq) (jx yq) (jg yq) .none i5 lc ho ms co ln),hf⟩) (c6:PySem.W.codeIn K co "leading_into"=true) (k6:PySem.W.keepIn K (.ref f6)=true)
  (a7:PySem.W.nsIn K mainGlobals "cut"=some (some (.ref f7))) (l7:K.lookup f7=some ⟨h4,hv,.func (PySem.W.fnOf "cut" "cut" (j6 z8) (jx z8) (jg z8) .none i4 lb hn mr cn lm),he⟩) (c7:PySem.W.codeIn K cn "cut"=true) (k7:PySem.W.keepIn K (.ref f7)=true)
  (a8:PySem.W.nsIn K mainGlobals "all_sources"=some (some (.ref f8))) (l8:K.lookup f8=some ⟨h3,hu,.func (PySem.W.fnOf "all_sources" "all_sources" (j6 za) (jx za) (jg za) .none i3 la hm mq cm ll),hd⟩) (c8:PySem.W.codeIn K cm "all_sources"=true) (k8:PySem.W.keepIn K (.ref f8)=true)
  (a9:PySem.W.nsIn K mainGlobals "_law_box"=some (some (.ref f9))) (l9:K.lookup f9=some ⟨h2,ht,.func (PySem.W.fnOf "_law_box" "_law_box" (j6 zk) (jx zk) (jg zk) .none i2 k0 hk mo cl lj),hc⟩) (c9:PySem.W.codeIn K cl "_law_box"=true) (k9:PySem.W.keepIn K (.ref f9)=true)
  (m8:PySem.W.nsIn K mainGlobals "_law_take"=some (some (.ref bo))) (iz:K.lookup bo=some ⟨es,ed,.func (PySem.W.fnOf "_law_take" "_law_take" (j6 y6) (jx y6) (jg y6) .none fh gd dy hb az gp),dl⟩) (md:PySem.W.codeIn K az "_law_take"=true) (ke:PySem.W.keepIn K (.ref bo)=true)
  (m7:PySem.W.nsIn K mainGlobals "_law_letters"=some (some (.ref bn))) (iy:K.lookup bn=some ⟨er,ec,.func (PySem.W.fnOf "_law_letters" "_law_letters" (j6 yx) (jx yx) (jg yx) .none fg gc dx ha ay go),dj⟩) (mc:PySem.W.codeIn K ay "_law_letters"=true) (kd:PySem.W.keepIn K (.ref bn)=true)
  (m6:PySem.W.nsIn K mainGlobals "_law_text"=some (some (.ref bm))) (ix:K.lookup bm=some ⟨eq,eb,.func (PySem.W.fnOf "_law_text" "_law_text" (j6 zc) (jx zc) (jg zc) .none ff gb dw g9 ax gn),di⟩) (mb:PySem.W.codeIn K ax "_law_text"=true) (j2:PySem.W.keepIn K (.ref bm)=true)
  (m5:PySem.W.nsIn K mainGlobals "_law_machine"=some (some (.ref bl))) (iw:K.lookup bl=some ⟨ep,ea,.func (PySem.W.fnOf "_law_machine" "_law_machine" (j6 yj) (jx yj) (jg yj) .none fe ga dv g8 aw gm),dh⟩) (ma:PySem.W.codeIn K aw "_law_machine"=true) (j1:PySem.W.keepIn K (.ref bl)=true)
  (m4:PySem.W.nsIn K mainGlobals "_law_led"=some (some (.ref bk))) (iv:K.lookup bk=some ⟨eo,d9,.func (PySem.W.fnOf "_law_led" "_law_led" (j6 zn) (jx zn) (jg zn) .none fc f0 du g7 av gl),dg⟩) (l0:PySem.W.codeIn K av "_law_led"=true) (j0:PySem.W.keepIn K (.ref bk)=true)
  (m3:PySem.W.nsIn K mainGlobals "_law_lets"=some (some (.ref bj))) (iu:K.lookup bj=some ⟨en,d8,.func (PySem.W.fnOf "_law_lets" "_law_lets" (j6 zg) (jx zg) (jg zg) .none fb fz dt g6 au gk),df⟩) (lz:PySem.W.codeIn K au "_law_lets"=true) (js:PySem.W.keepIn K (.ref bj)=true)
  (m2:PySem.W.nsIn K mainGlobals "_law_numbered"=some (some (.ref bi))) (it:K.lookup bi=some ⟨em,d7,.func (PySem.W.fnOf "_law_numbered" "_law_numbered" (j6 yg) (jx yg) (jg yg) .none e9 fy ds g5 as gj),de⟩) (ly:PySem.W.codeIn K as "_law_numbered"=true) (jp:PySem.W.keepIn K (.ref bi)=true)
  (m1:PySem.W.nsIn K mainGlobals "_law_least"=some (some (.ref bh))) (is:K.lookup bh=some ⟨el,d6,.func (PySem.W.fnOf "_law_least" "_law_least" (j6 ko) (jx ko) (jg ko) .none e8 fx dr g4 ar gi),dd⟩) (lx:PySem.W.codeIn K ar "_law_least"=true) (jn:PySem.W.keepIn K (.ref bh)=true)
  (m0:PySem.W.nsIn K mainGlobals "_law_alike"=some (some (.ref bg))) (ir:K.lookup bg=some ⟨ek,d5,.func (PySem.W.fnOf "_law_alike" "_law_alike" (j6 yt) (jx yt) (jg yt) .none e7 fw dq g3 aq gh),dc⟩) (lw:PySem.W.codeIn K aq "_law_alike"=true) (jm:PySem.W.keepIn K (.ref bg)=true)
  (mz:PySem.W.nsIn K mainGlobals "_law_about"=some (some (.ref bf))) (iq:K.lookup bf=some ⟨ej,d4,.func (PySem.W.fnOf "_law_about" "_law_about" (j6 yo) (jx yo) (jg yo) .none e6 fv dp g2 ap gg),db⟩) (lv:PySem.W.codeIn K ap "_law_about"=true) (jl:PySem.W.keepIn K (.ref bf)=true)
  (cv:PySem.W.nsIn K mainGlobals "law"=some (some (.ref be))) (ip:K.lookup be=some ⟨ei,d3,.func (PySem.W.fnOf "law" "law" (j6 jaj) (jx jaj) (jg jaj) .none al am ak a0 J an),da⟩) (lu:PySem.W.codeIn K J "law"=true) (jk:PySem.W.keepIn K (.ref be)=true)
  (b1:PySem.W.nsIn K mainGlobals "len"=some none)
  (b2:PySem.W.nsIn K mainGlobals "int"=some none)
  (ad:PySem.W.nsIn K mainGlobals "range"=some none)
  (ag:PySem.W.nsIn K mainGlobals "list"=some none)
  (ac:PySem.W.nsIn K mainGlobals "tuple"=some none)
  (ah:PySem.W.nsIn K mainGlobals "dict"=some none)
  (p:PySem.W.nsIn K mainGlobals "enumerate"=some none)
  (b3:PySem.W.nsIn K mainGlobals "any"=some none)
  (b4:PySem.W.nsIn K mainGlobals "all"=some none)
  (b0:PySem.W.nsIn K mainGlobals "max"=some none)
  (bz:PySem.W.nsIn K mainGlobals "min"=some none)
  (k:PySem.W.nsIn K mainGlobals "isinstance"=some none)
  (D:PySem.W.nsIn K mainGlobals "sorted"=some none)
  (bx:PySem.W.nsIn K mainGlobals "set"=some none)
  (ai:PySem.W.nsIn K mainGlobals "bool"=some none)
  (my:PySem.W.nsIn K mainGlobals "come_up"=some (some (.ref fcu)))
  (io:K.lookup fcu=some ⟨eh,d2,.func (PySem.W.fnOf "come_up" "come_up" (j6 y8) (jx y8) (jg y8) (.ref td) e5 fu dn g1 ao gf),c0⟩)
  (lt:PySem.W.codeIn K ao "come_up"=true)
  (i1:PySem.W.keepIn K (.ref fcu)=true)
  (ch:K.lookup td=some ⟨eg,d1,.seq #[.none,.int 0 F] ic,cz⟩)
  (mn:PySem.W.nsIn K mainGlobals "about_of"=some (some (.ref bd)))
  (il:K.lookup bd=some ⟨ee,dz,.func (PySem.W.fnOf "about_of" "about_of" (j6 yu) (jx yu) (jg yu) (.ref cd) e4 ft dm g0 I ge),cw⟩)
  (li:PySem.W.codeIn K I "about_of"=true)
  (i0:PySem.W.keepIn K (.ref bd)=true)
  (im:K.lookup cd=some ⟨ef,d0,.seq #[.int 400 ba] ib,cx⟩)
  (kz:bp=.ref cc)
  (fi:PySem.W.codeHdIn K cc 63=true)
  (ky:I=.ref cy)
  (km:PySem.W.codeHdIn K cy 96=true)
  : ∃fd:FuncData,(∀(s:Shared)(v:Value),BindsTo s fd ⟨[v],[]⟩ [("_law_script",v)])/\∀base:Heap,K.In base->base.Ns mainGlobals mg->(∀t∈[63,96],base.BuiltinsAt mg t)->FnOk l.prog w K mg base CX0 8 fa fd ["_law_script"] (jib K 63 96):=by
 have e:=kf.symm.trans (Od X G cv)
 cases e
 have bw:=jcv (st:=jac) l1 c1 k1
 have ik:=Od X G a1
 have mm:=bw.binds (ps:=["machine"]) λ_ _ _ _ _ _=>us1 λ_=>rfl
 have M:=jcv (st:=yv) l2 c2 k2
 have ev:=Od X G a2
 have gr:=M.binds (ps:=["moves","yes","first"]) λ_ _ _ _ _ _=>us3 λ_ _ _=>rfl
 have L:=jcv (st:=zi) l3 c3 k3
 have eu:=Od X G a3
 have gq:=L.binds (ps:=["moves","yes","groups"]) λ_ _ _ _ _ _=>us3 λ_ _ _=>rfl
 have O:=jcv (st:=jy) l4 c4 k4
 have ex:=Od X G a4
 have gt:=O.binds (ps:=["moves","yes"]) λ_ _ _ _ _ _=>us2 λ_ _=>rfl
 have ae:=jcv (st:=zb) l5 c5 k5
 have ce:=Od X G a5
 have ct:=ae.binds (ps:=["moves","sign"]) λ_ _ _ _ _ _=>us2 λ_ _=>rfl
 have N:=jcv (st:=yq) l6 c6 k6
 have ew:=Od X G a6
 have gs:=N.binds (ps:=["part","sources","groups"]) λ_ _ _ _ _ _=>us3 λ_ _ _=>rfl
 have y:=jcv (st:=z8) l7 c7 k7
 have b9:=Od X G a7
 have cb:=y.binds (ps:=["parts","groups","number","share"]) λ_ _ _ _ _ _=>us4 λ_ _ _ _=>rfl
 have Q:=jcv (st:=za) l8 c8 k8
 have ey:=Od X G a8
 have gu:=Q.binds (ps:=["sources","rooms"]) λ_ _ _ _ _ _=>us2 λ_ _=>rfl
 have bu:=jcv (st:=zk) l9 c9 k9
 have ii:=Od X G a9
 have mi:=bu.binds (ps:=["_law_script","_law_k"]) λ_ _ _ _ _ _=>us2 λ_ _=>rfl
 have H:=jcv (st:=y6) iz md ke
 have bb:=Od X G m8
 have bq:=H.binds (ps:=["_law_box_here","_law_wide"]) λ_ _ _ _ _ _=>us2 λ_ _=>rfl
 have T:=jcv (st:=yx) iy mc kd
 have e1:=Od X G m7
 have gx:=T.binds (ps:=["_law_box_here","_law_most"]) λ_ _ _ _ _ _=>us2 λ_ _=>rfl
 have R:=jcv (st:=zc) ix mb j2
 have ez:=Od X G m6
 have gv:=R.binds (ps:=["_law_box_here","_law_letters_here","_law_most"]) λ_ _ _ _ _ _=>us3 λ_ _ _=>rfl
 have S:=jcv (st:=yj) iw ma j1
 have e0:=Od X G m5
 have gw:=S.binds (ps:=["_law_box_here","_law_letters_here","_law_most"]) λ_ _ _ _ _ _=>us3 λ_ _ _=>rfl
 have U:=jcv (st:=zn) iv l0 j0
 have e2:=Od X G m4
 have gy:=U.binds (ps:=["_law_machine_here","_law_room","_law_text_here"]) λ_ _ _ _ _ _=>us3 λ_ _ _=>rfl
 have bt:=jcv (st:=zg) iu lz js
 have ih:=Od X G m3
 have mh:=bt.binds (ps:=["_law_machine_here","_law_text_here"]) λ_ _ _ _ _ _=>us2 λ_ _=>rfl
 have bs:=jcv (st:=yg) it ly jp
 have ig:=Od X G m2
 have mf:=bs.binds (ps:=["_law_letters_here","_law_moves","_law_yes"]) λ_ _ _ _ _ _=>us3 λ_ _ _=>rfl
 have af:=jcv (st:=ko) is lx jn
 have cg:=Od X G m1
 have cu:=af.binds (ps:=["_law_machine_here"]) λ_ _ _ _ _ _=>us1 λ_=>rfl
 have Y:=jcv (st:=yt) ir lw jm
 have e3:=Od X G m0
 have gz:=Y.binds (ps:=["_law_found","_law_due"]) λ_ _ _ _ _ _=>us2 λ_ _=>rfl
 have br:=jcv (st:=yo) iq lv jl
 have ie:=Od X G mz
 have me:=br.binds (ps:=["_law_machine_here"]) λ_ _ _ _ _ _=>us1 λ_=>rfl
 have ab:=jcv (st:=jaj) ip lu jk
 have m9:=Od X G cv
 have na:=ab.binds (ps:=["_law_script"]) λ_ _ _ _ _ _=>us1 λ_=>rfl
 have f:=Ol X G b1
 have aa:=Ol X G b2
 have i:=Ol X G ad
 have o:=Ol X G ag
 have g:=Ol X G ac
 have A:=Ol X G ah
 have j:=Ol X G p
 have b7:=Ol X G b3
 have b8:=Ol X G b4
 have Z:=Ol X G b0
 have b6:=Ol X G bz
 have m:=Ol X G k
 have n:=Ol X G D
 have b5:=Ol X G bx
 have aj:=Ol X G ai
 refine⟨PySem.W.fnOf "law" "law" (j6 jaj) (jx jaj) (jg jaj) .none al am ak a0 J an,λs v=>.of_eq rfl,λbase kb _ ci=>?_⟩
 have kl:PySem.W.CodeHd base cc 63:=Aaz kb fi
 have kk:PySem.W.CodeHd base cy 96:=Aaz kb km
 have et:(96:Addr)≠63:=by decide
 have cf:=Od X G my
 have B:=jm6 (st:=y8) io lt i1
 have ml:Binds K _ ["first","signs","step","most","at"] [.none,.int 0 F]:=B.binds ch rfl λ_ _ _ _ _ _ E hl=>by obtain⟨_,_,_,rfl⟩:=us3 (C:=λE=>∃a b c,E=[a,b,c]) (λa b c=>⟨a,b,c,rfl⟩) E (by simpa using hl);exact⟨_,rfl,rfl⟩
 have x:Binds K _ ["first","signs","step","most","at"] [.int 0 F]:=B.binds ch rfl λ_ _ _ _ _ _ E hl=>by obtain⟨_,_,_,_,rfl⟩:=us4 (C:=λE=>∃a b c d,E=[a,b,c,d]) (λa b c d=>⟨a,b,c,d,rfl⟩) E (by simpa using hl);exact⟨_,rfl,rfl⟩
 have z:Vals [.non,.int 0] [.none,.int 0 F]:=.cons rfl (.cons ⟨_,rfl⟩ .nil)
 have q:Vals [.int 0] [.int 0 F]:=.cons ⟨_,rfl⟩ .nil
 have kv:=ok_come_up (P:=l.prog) (w:=w) (base:=base)  B ⟨f,g,i⟩
 have u:=ok_come_upT (P:=l.prog) (w:=w) (base:=base)  B ⟨f,g,i⟩
 have ij:=Od X G mn
 have bv:=jm6 (st:=yu) il li i0
 have mj:Binds K _ ["machine","most"] [.int 400 ba]:=bv.binds im rfl λ_ _ _ _ _ _ E hl=>by obtain⟨_,rfl⟩:=us1 (C:=λE=>∃a,E=[a]) (λa=>⟨a,rfl⟩) E (by simpa using hl);exact⟨_,rfl,rfl⟩
 have r:Vals [.int 400] [.int 400 ba]:=.cons ⟨_,rfl⟩ .nil
 have bc:=ok__law_take (P:=l.prog) (w:=w) (mg:=mg) (base:=base) H
 have ks:=ok__law_box (P:=l.prog) (w:=w) (base:=base)  bu ⟨f,aa⟩
 have fq:=ok__law_letters (P:=l.prog) (w:=w) (base:=base)  T ⟨f,o,i,bb⟩ H bq bc
 have fp:=ok__law_machine (P:=l.prog) (w:=w) (base:=base)  S ⟨f,Z,i,g,bb⟩ H bq bc
 have ca:=ok_cut (P:=l.prog) (w:=w) (base:=base)  y ⟨f,A⟩
 have fl:=ok_leading_into (P:=l.prog) (w:=w) (mg:=mg) (base:=base) N
 have cj:=ok_led_from (P:=l.prog) (w:=w) (base:=base)  ae ⟨j⟩
 have fm:=ok_groups_of_rooms (P:=l.prog) (w:=w) (base:=base)  O ⟨f,o,i,A,b9,ce,ew⟩ y cb ca ae ct cj N gs fl
 have fj:=ok_merged (P:=l.prog) (w:=w) (base:=base)  L ⟨f,g,j⟩
 have fk:=ok_least_from (P:=l.prog) (w:=w) (base:=base) (Pt:=63) M ⟨f,cf,eu,ex,rfl,kl,ci 63 (.head _)⟩ kz B ml z kv L gq fj O gt fm
 have kw:=ok_least (P:=l.prog) (w:=w) (base:=base)  bw ⟨ev⟩ M gr fk
 have fn:=ok_all_sources (P:=l.prog) (w:=w) (base:=base)  Q ⟨g,n⟩
 have kt:=ok_about_of (P:=l.prog) (w:=w) (base:=base) (P1:=63) (Pt:=96) et bv ⟨f,i,g,j,ik,ce,cf,ey,rfl,kk,ci 96 (.tail _ (.head _))⟩ ky bw mm kw ae ct cj B x q u Q gu fn
 have fo:=ok__law_text (P:=l.prog) (w:=w) (base:=base)  R ⟨f,i,bb⟩ H bq bc
 have fr:=ok__law_led (P:=l.prog) (w:=w) (mg:=mg) (base:=base) U
 have kr:=ok__law_lets (P:=l.prog) (w:=w) (base:=base)  bt ⟨e2⟩ U gy fr
 have kq:=ok__law_numbered (P:=l.prog) (w:=w) (base:=base)  bs ⟨f,g⟩
 have ck:=ok__law_least (P:=l.prog) (w:=w) (base:=base)  af ⟨i,g,f,n,aa,b5,ig⟩ bs mf kq
 have fs:=ok__law_alike (P:=l.prog) (w:=w) (base:=base)  Y ⟨m,g,f,b8,b7,aj,Al (by simp),Al (by simp),by unfold PySem.W.kitOne;rw[Ai (by decide)];unfold PySem.W.kitCls;rfl⟩
 have kp:=ok__law_about (P:=l.prog) (w:=w) (base:=base)  br ⟨o,i,f,g,cg⟩ af cu ck
 exact ok_law ab ⟨f,i,Z,b6,ii,e1,e0,ez,ih,cg,e3,ie,ij⟩ bu mi ks T gx fq S gw fp R gv fo bt mh kr af cu ck Y gz fs br me kp bv mj r kt
theorem jsj{a t:Addr}{ps:Array Value}(b:SqL K H a xs)(hT:H t=some (.tbl ps))(c:K.lookup t=none):a≠t:=by
 rintro rfl;rcases b with(h|⟨o,h⟩)|⟨o,its,n,h,_⟩
 .rw[hT]at h;cases h
 .rw[hT]at h;cases h
 .rw[c]at h;cases h
theorem walk{l:PySem.W.OpenLaw}{q:Program}{b:List Str}{A:(Str->Option Value)->Heap->Prop}{i:World->Heap->Prop}{d:DefRec}{K:Params->PySem.W.Frag}(hn:l.most=some 63)(j:d.params.defaults=[])
  (r:∀(w:World)(h:Heap),i w h->(K w.params).In h) (hT:∀(w:World)(h:Heap),i w h->∀t∈[63,96],h.get? t=some (PySem.W.tabObj #[]))
  (v:∀(w:World)(h:Heap),(K w.params).In h->∀t∈[63,96],∃c,PySem.W.CodeHd h c t) (hN:∀w:World,∀t∈[63,96],(K w.params).lookup t=none)
  (F:∀(w:World)(mg:Str->Option Value)(fa:Addr)(h:Heap),(K w.params).In h->h.Ns mainGlobals mg->mg d.name=some (.ref fa) ->
   ∃fd:FuncData,(∀(s:Shared)(u:Value),BindsTo s fd ⟨[u],[]⟩ [("_law_script",u)])/\∀base:Heap,(K w.params).In base->base.Ns mainGlobals mg->(∀t∈[63,96],base.BuiltinsAt mg t)->FnOk l.prog w (K w.params) mg base CX0 8 fa fd ["_law_script"] (jib (K w.params) 63 96)) :
  PySem.W.WalkO q b A i l.row.toRowW d [] (λf vs=>PySem.call f vs) :=
 L2.walk_ofT (n:=63) (k:=8) (x:="_law_script") (ts:=[63,96]) (CX:=λ_=>CX0) (sp:=λw=>jib (K w.params) 63 96) hn (by decide) j ⟨rfl,by decide,by decide,rfl⟩ r hT v hN F
  (λw _ a m o g hT=>⟨a,m,rfl,g,o,jsj g (hT 63 (.head _)) (hN w 63 (.head _)),jsj g (hT 96 (.tail _ (.head _))) (hN w 96 (.tail _ (.head _))),⟨#[],hT 63 (.head _),trivial,λp y e=>by cases e⟩,⟨#[],hT 96 (.tail _ (.head _)),trivial,λp y e=>by cases e⟩,λ_=>rfl⟩) λ_ _ _ _ _ z=>z
end My
namespace PySem.W.Fast
theorem tw15744627129220234640:0=0:=rfl
theorem tw13413801515799251621:0=0:=rfl
theorem tw11158997795548345717:0=0:=rfl
theorem tw17101289618026823003:0=0:=rfl
theorem tw15975945058757215928:0=0:=rfl
theorem tw14935667674372770952:0=0:=rfl
theorem tw2223856141695399844:0=0:=rfl
theorem tw7038765004375421372:0=0:=rfl
theorem tw3732500271311127328:0=0:=rfl
theorem tw4474073713611955959:0=0:=rfl
theorem tw3111230258472337241:0=0:=rfl
theorem tw7108225198359855899:0=0:=rfl
theorem tw5968257794029956758:0=0:=rfl
theorem tw14283932048116144105:0=0:=rfl
theorem tw11031358919766840672:0=0:=rfl
theorem tw11427808717704481162:0=0:=rfl
theorem tw13374407088147572739:0=0:=rfl
theorem tw10988905800505160739:0=0:=rfl
theorem tw4795338748260321105:0=0:=rfl
theorem tw12639352322988425466:0=0:=rfl
theorem tw16613543187807004598:0=0:=rfl
theorem tw16965078283338762669:0=0:=rfl
theorem tw3641651226096327218:0=0:=rfl
theorem tw10645651422232424260:0=0:=rfl
theorem tw16801474346538881996:0=0:=rfl
theorem tw10942040905497360124:0=0:=rfl
theorem tw4191933771330729112:0=0:=rfl
theorem tw17022410531847103022:0=0:=rfl
theorem tw8360889906706913861:0=0:=rfl
theorem tw1926421892696397416:0=0:=rfl
theorem tw8056792948818344269:0=0:=rfl
theorem tw16331094915544087316:0=0:=rfl
theorem tw8299712516377615680:0=0:=rfl
theorem tw15912619448472936238:0=0:=rfl
theorem tw14078076969591365331:0=0:=rfl
theorem tw641948370081446395:0=0:=rfl
theorem tw6128310800891702481:0=0:=rfl
theorem tw4638752672620122107:0=0:=rfl
theorem tw13006758005679717813:0=0:=rfl
theorem tw18243940864650444066:0=0:=rfl
theorem tw16294269658151151395:0=0:=rfl
theorem tw4207210918031387432:0=0:=rfl
theorem tw12581756539467172189:0=0:=rfl
theorem tw14383173956327493523:0=0:=rfl
theorem tw17808618381052548174:0=0:=rfl
theorem tw6206192774519015884:0=0:=rfl
theorem tw926550586456349900:0=0:=rfl
theorem tw15641779492137870733:0=0:=rfl
theorem tw7387236993557967880:0=0:=rfl
theorem tw10493096578389526877:0=0:=rfl
theorem tw8844766579861907420:0=0:=rfl
theorem tw14426370310529917972:0=0:=rfl
theorem tw11437369677029860704:0=0:=rfl
theorem tw8747426438507943628:0=0:=rfl
theorem tw16309659397069330633:0=0:=rfl
theorem tw5858399650456488537:0=0:=rfl
theorem tw6657589195306003984:0=0:=rfl
theorem tw16327189267295385043:0=0:=rfl
theorem tw9026402181468264752:0=0:=rfl
theorem tw15830602332950781839:0=0:=rfl
theorem tw479915069070187339:0=0:=rfl
theorem tw6149743717289104964:0=0:=rfl
theorem tw14358840450943532622:0=0:=rfl
theorem tw18278650896254432294:0=0:=rfl
theorem tw5079314701423343117:0=0:=rfl
theorem tw7641953667187891044:0=0:=rfl
theorem tw9701162408347053123:0=0:=rfl
theorem tw16480298681070755285:0=0:=rfl
theorem tw18301864956509013662:0=0:=rfl
theorem tw4543398127786496099:0=0:=rfl
theorem tw12721496796628261128:0=0:=rfl
theorem tw14667186327861801313:0=0:=rfl
theorem tw17928938810934965369:0=0:=rfl
theorem tw3666078569430229011:0=0:=rfl
theorem tw7689036864368525686:0=0:=rfl
theorem tw17777696628564622625:0=0:=rfl
theorem tw3088102472494763653:0=0:=rfl
theorem tw6150124213423130891:0=0:=rfl
theorem tw9777367981680419463:0=0:=rfl
theorem tw1530065367557773528:0=0:=rfl
theorem tw12291091858838849986:0=0:=rfl
theorem tw10234192615664058363:0=0:=rfl
theorem tw14706205099991175691:0=0:=rfl
theorem tw770224355254567256:0=0:=rfl
theorem tw11616967187805726221:0=0:=rfl
theorem tw16554312469972561861:0=0:=rfl
theorem tw3469531031504433134:0=0:=rfl
theorem tw9959516138047332192:0=0:=rfl
theorem tw759874139096845234:0=0:=rfl
theorem tw6588715418929718777:0=0:=rfl
theorem tw8112869813492565547:0=0:=rfl
theorem tw6681709620678295775:0=0:=rfl
theorem tw5775858494547510935:0=0:=rfl
theorem tw4618359837373431471:0=0:=rfl
theorem tw6232906408565974176:0=0:=rfl
theorem tw16378507017530010306:0=0:=rfl
theorem tw16290365572958882486:0=0:=rfl
theorem tw9153298312214398823:0=0:=rfl
theorem tw5140218588945277607:0=0:=rfl
theorem tw6286239948867577543:0=0:=rfl
theorem tw7802051499114408647:0=0:=rfl
theorem tw2025262181636487383:0=0:=rfl
theorem tw5742178458121441462:0=0:=rfl
theorem tw16676866758080811599:0=0:=rfl
theorem tw4217614933441666472:0=0:=rfl
theorem tw9902931224790608674:0=0:=rfl
theorem tw9012647344543741885:0=0:=rfl
theorem tw3792088212853260449:0=0:=rfl
theorem tw12517620069355434448:0=0:=rfl
theorem tw11145176843500878121:0=0:=rfl
theorem tw11808577705347706895:0=0:=rfl
theorem tw12872780226337009552:0=0:=rfl
theorem tw7025444225337584794:0=0:=rfl
theorem tw7384488718437702801:0=0:=rfl
theorem tw6073928354659506006:0=0:=rfl
theorem tw779945612465429046:0=0:=rfl
theorem tw12517781002009507925:0=0:=rfl
theorem tw2684095676500821545:0=0:=rfl
theorem tw14907965662614902442:0=0:=rfl
theorem tw553076365588898520:0=0:=rfl
theorem tw14678899754648247076:0=0:=rfl
theorem tw10788451433401446880:0=0:=rfl
theorem tw10928333912195782340:0=0:=rfl
theorem tw8930820658563689154:0=0:=rfl
theorem tw12698707556629357176:0=0:=rfl
theorem tw973052907044572476:0=0:=rfl
theorem tw8552728297540279597:0=0:=rfl
theorem tw8479113143071567036:0=0:=rfl
theorem tw7186458782922127120:0=0:=rfl
theorem tw6914302360757945462:0=0:=rfl
theorem tw6895043086472561043:0=0:=rfl
theorem tw6687138261401769464:0=0:=rfl
theorem tw6122921304360585479:0=0:=rfl
theorem tw5845148323582249170:0=0:=rfl
theorem tw5652567107414443150:0=0:=rfl
theorem tw5284555007692854572:0=0:=rfl
theorem tw5031811045969429772:0=0:=rfl
theorem tw4624657537428107675:0=0:=rfl
theorem tw4620871697681140078:0=0:=rfl
theorem tw450464268049905124:0=0:=rfl
theorem tw4113860443459869445:0=0:=rfl
theorem tw3592335158294944477:0=0:=rfl
theorem tw1890685828663136323:0=0:=rfl
theorem tw18340776293733461523:0=0:=rfl
theorem tw18313355192057342270:0=0:=rfl
theorem tw18268791289919052702:0=0:=rfl
theorem tw18195162519775132853:0=0:=rfl
theorem tw181099042400481653:0=0:=rfl
theorem tw18019795622902228301:0=0:=rfl
theorem tw16992191879554887045:0=0:=rfl
theorem tw16611908014362634527:0=0:=rfl
theorem tw16055666919561242830:0=0:=rfl
theorem tw15685363700942567314:0=0:=rfl
theorem tw15538731719409659199:0=0:=rfl
theorem tw14924452766538124298:0=0:=rfl
theorem tw13430650051222757533:0=0:=rfl
theorem tw12959236371627064125:0=0:=rfl
theorem tw1270817016674015001:0=0:=rfl
theorem tw12010900539988151744:0=0:=rfl
theorem tw10591064247305618943:0=0:=rfl
theorem tw10507687246502574851:0=0:=rfl
theorem tw10101432786687141977:0=0:=rfl
theorem tw10075971784350417447:0=0:=rfl
end PySem.W.Fast
open PySem PySem.W PyProof.Rows
set_option maxRecDepth 100000 in
set_option maxHeartbeats 0 in
theorem PySem.Challenge.cw_calmword_k16_about_holds : PySem.Challenge.rw_calmword_k16_about.Holds := by
 w_on;o_law;k_head;(case hw=>w_witness2);k_fill;refine My.walk (l:=PySem.Challenge.rw_calmword_k16_about) rfl rfl (λw h Y=>PySem.W.km_in_of Y) (λw h Y=>PySem.W.km_tabs_of Y) ?cC ?cN ?F
 case cC =>
  intro w h X t a;rcases At.mp a with rfl|a
  ·(refine' My.c_of (m:="least_from") (tb:=63) X ?h3 ?h4 ?h5 ?h6;(case h3=>k_is);(case h4=>k_is);(case h5=>rfl);(case h6=>kernel_rfl))
  .cases Ag.mp a;(refine' My.c_of (m:="about_of") (tb:=96) X ?h3 ?h4 ?h5 ?h6;(case h3=>k_is);(case h4=>k_is);(case h5=>rfl);(case h6=>kernel_rfl))
 case cN =>
  intro w t a;rcases At.mp a with rfl|a
  .rfl
  .cases Ag.mp a;rfl
 case F =>
  intro w d e h c G b;refine' My.all_mk c G b ?a1 ?l1 ?c1 ?k1 ?a2 ?l2 ?c2 ?k2 ?a3 ?l3 ?c3 ?k3 ?a4 ?l4 ?c4 ?k4 ?a5 ?l5 ?c5 ?k5 ?a6 ?l6 ?c6 ?k6 ?a7 ?l7 ?c7 ?k7 ?a8 ?l8 ?c8 ?k8 ?a9 ?l9 ?c9 ?k9 ?a10 ?l10 ?c10 ?k10 ?a11 ?l11 ?c11 ?k11 ?a12 ?l12 ?c12 ?k12 ?a13 ?l13 ?c13 ?k13 ?a14 ?l14 ?c14 ?k14 ?a15 ?l15 ?c15 ?k15 ?a16 ?l16 ?c16 ?k16 ?a17 ?l17 ?c17 ?k17 ?a18 ?l18 ?c18 ?k18 ?a19 ?l19 ?c19 ?k19 ?a20 ?l20 ?c20 ?k20 ?z_len ?z_int ?z_range ?z_list ?z_tuple ?z_dict ?z_enumerate ?z_any ?z_all ?z_max ?z_min ?z_isinstance ?z_sorted ?z_set ?z_bool ?acu ?lcu ?ccu ?kcu ?ltd ?awp ?lwp ?cwp ?kwp ?ltw ?ecd ?hcin ?ecy ?hcy
  (case a1=>k_is)
  (case l1=>k_is)
  (case c1=>k_is)
  (case k1=>k_is)
  (case a2=>k_is)
  (case l2=>k_is)
  (case c2=>k_is)
  (case k2=>k_is)
  (case a3=>k_is)
  (case l3=>k_is)
  (case c3=>k_is)
  (case k3=>k_is)
  (case a4=>k_is)
  (case l4=>k_is)
  (case c4=>k_is)
  (case k4=>k_is)
  (case a5=>k_is)
  (case l5=>k_is)
  (case c5=>k_is)
  (case k5=>k_is)
  (case a6=>k_is)
  (case l6=>k_is)
  (case c6=>k_is)
  (case k6=>k_is)
  (case a7=>k_is)
  (case l7=>k_is)
  (case c7=>k_is)
  (case k7=>k_is)
  (case a8=>k_is)
  (case l8=>k_is)
  (case c8=>k_is)
  (case k8=>k_is)
  (case a9=>k_is)
  (case l9=>k_is)
  (case c9=>k_is)
  (case k9=>k_is)
  (case a10=>k_is)
  (case l10=>k_is)
  (case c10=>k_is)
  (case k10=>k_is)
  (case a11=>k_is)
  (case l11=>k_is)
  (case c11=>k_is)
  (case k11=>k_is)
  (case a12=>k_is)
  (case l12=>k_is)
  (case c12=>k_is)
  (case k12=>k_is)
  (case a13=>k_is)
  (case l13=>k_is)
  (case c13=>k_is)
  (case k13=>k_is)
  (case a14=>k_is)
  (case l14=>k_is)
  (case c14=>k_is)
  (case k14=>k_is)
  (case a15=>k_is)
  (case l15=>k_is)
  (case c15=>k_is)
  (case k15=>k_is)
  (case a16=>k_is)
  (case l16=>k_is)
  (case c16=>k_is)
  (case k16=>k_is)
  (case a17=>k_is)
  (case l17=>k_is)
  (case c17=>k_is)
  (case k17=>k_is)
  (case a18=>k_is)
  (case l18=>k_is)
  (case c18=>k_is)
  (case k18=>k_is)
  (case a19=>k_is)
  (case l19=>k_is)
  (case c19=>k_is)
  (case k19=>k_is)
  (case a20=>k_is)
  (case l20=>k_is)
  (case c20=>k_is)
  (case k20=>k_is)
  (case z_len=>k_is)
  (case z_int=>k_is)
  (case z_range=>k_is)
  (case z_list=>k_is)
  (case z_tuple=>k_is)
  (case z_dict=>k_is)
  (case z_enumerate=>k_is)
  (case z_any=>k_is)
  (case z_all=>k_is)
  (case z_max=>k_is)
  (case z_min=>k_is)
  (case z_isinstance=>k_is)
  (case z_sorted=>k_is)
  (case z_set=>k_is)
  (case z_bool=>k_is)
  (case acu=>k_is)
  (case lcu=>k_is)
  (case ccu=>k_is)
  (case kcu=>k_is)
  (case ltd=>k_is)
  (case awp=>k_is)
  (case lwp=>k_is)
  (case cwp=>k_is)
  (case kwp=>k_is)
  (case ltw=>k_is)
  (case ecd=>rfl)
  (case hcin=>kernel_rfl)
  (case ecy=>rfl)
  (case hcy=>kernel_rfl)