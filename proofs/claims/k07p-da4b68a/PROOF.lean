import PyProof.Rows.All
import Wide.All
import OpenK.AllK
import Wide.FinOn
import Lean
import PyProof.EqAt
import PyProof.EqKinds
import PyProof.TupleCall
import PySem.Challenge.RW_calmword_k07_whole_the_fewest_rooms
set_option Elab.async false
set_option linter.all false
set_option maxRecDepth 100000
set_option maxHeartbeats 4000000
local macro_rules
 | `(tactic| ac_rfl)=>`(tactic| first|exact Or.inl rfl|exact Or.inr rfl)
abbrev Aa:=@List.getElem?_eq_getElem
abbrev Ab:=@PySem.wpAny_bind
abbrev Ac:=@List.getD_eq_getElem?_getD
abbrev Ad:=@List.length_map
abbrev Ae:=@List.getElem?_eq_some_iff
abbrev Af:=@List.not_mem_nil
abbrev Ag:=@List.getElem?_map
abbrev Ah:=@PySem.wpAny_pure
abbrev Ai:=@PySem.Heap.get?_push_of_some
abbrev Aj:=@List.mem_singleton
abbrev Ak:=@Nat.le_refl
abbrev Al:=@List.mem_of_getElem?
abbrev Am:=@if_neg
abbrev An:=@List.mem_map
abbrev Ao:=@if_pos
abbrev Ap:=@List.mem_cons
abbrev Aq:=@Option.some.inj
abbrev Ar:=@List.mem_range
abbrev At:=@PySem.Heap.lt_size
abbrev Au:=@List.size_toArray
abbrev Av:=@List.length_append
abbrev Aw:=@List.mem_append
abbrev Ax:=@Nat.ne_of_lt
abbrev Ay:=@List.map_cons
abbrev Az:=@List.length_range
abbrev A0:=@List.map_map
abbrev A1:=@PySem.Heap.get?_push_size
abbrev A2:=@List.getElem?_append_left
abbrev A3:=@List.map_append
abbrev A4:=@Nat.lt_of_lt_of_le
abbrev A5:=@PySem.F.slot_list_append
abbrev A6:=@PySem.F.type_list_append
abbrev A7:=@Bool.false_ne_true
abbrev A8:=@PySem.PassesOwn.never
abbrev A9:=@List.getElem?_append_right
abbrev Ia:=@Bool.false_eq_true
abbrev Ib:=@List.idxOf_lt_length_iff
abbrev Ic:=@List.getElem_mem
abbrev Ie:=@Option.map_eq_some_iff
abbrev Ig:=@Classical.byContradiction
abbrev Ih:=@List.map_congr_left
abbrev Ii:=@Array.getElem?_toList
abbrev Ij:=@PySem.sizeLine_eq
abbrev Ik:=@PySem.W.mg_of
abbrev Il:=@PySem.Paired.length
abbrev Im:=@Nat.le_trans
abbrev Io:=@List.mem_append_right
abbrev Ip:=@Nat.succ.inj
abbrev Iq:=@List.nodup_range
abbrev Ir:=@List.take_length
abbrev Iu:=@List.getElem?_of_mem
abbrev Iv:=@Nat.succ_ne_zero
abbrev Iw:=@List.mem_append_left
abbrev Ix:=@Array.getElem?_eq_getElem
abbrev Iy:=@List.mem_filter
abbrev Iz:=@List.length_take
abbrev I0:=@List.getElem?_eq_none
abbrev Oa:=@Nat.zero_le
abbrev Ob:=@if_false
abbrev Oc:=@PySem.wpAny_ite_split
abbrev Od:=@List.take_add_one
abbrev Oe:=@List.getElem_idxOf
abbrev Of:=@List.nodup_cons
abbrev Og:=@PySem.wpAny_holding
abbrev Oh:=@PySem.wpAny_newObj_type
abbrev Oi:=@List.mem_cons_of_mem
abbrev Oj:=@PySem.W.mg_none_of
abbrev Ol:=@decide_eq_false
abbrev Om:=@List.nodup_append
abbrev On:=@Iff.rfl
abbrev Oo:=@List.getElem?_range
abbrev Op:=@PyProof.Rows.callWith_type1
abbrev Oq:=@Array.getD_eq_getD_getElem?
abbrev Os:=@List.mem_cons_self
abbrev Ot:=@PySem.wpAny_call_entry
abbrev Ou:=@Bool.and_eq_true
abbrev Ow:=@PySem.Heap.get?_update_other
abbrev Ox:=@beq_eq_false_iff_ne
abbrev Oy:=@PySem.mem_of_lookup
abbrev Oz:=@List.foldl_append
abbrev O0:=@if_true
abbrev O1:=@PySem.Heap.get?_update_self
abbrev O2:=@or_false
abbrev O3:=@PySem.sizeLine_eq
abbrev O4:=@PySem.wpAny_Call_Name_kw
abbrev O5:=@List.ext_getElem
abbrev O6:=@Int.zero_add
abbrev O7:=@List.take_of_length_le
abbrev O8:=@PySem.wpAny_setState_of
abbrev O9:=@List.append_nil
abbrev Ua:=@List.length_set
abbrev Ub:=@List.range_succ
abbrev Uc:=@List.pairwise_iff_getElem
abbrev Ud:=@List.length_filter_le
abbrev Ue:=@List.take_append_of_le_length
abbrev Uf:=@List.getElem_map
abbrev Ug:=@List.getElem_range
abbrev Uh:=@PySem.F.called_set
abbrev Ui:=@PySem.F.slot_dict_keyiterator_next
abbrev Uj:=@PySem.Around.under_plainId
abbrev Uk:=@PySem.wpAny_callSpecial?_slot
abbrev Ul:=@List.length_eq_zero_iff
abbrev Um:=@congrArg
abbrev Uo:=@List.append_assoc
abbrev Up:=@PySem.Heap.SameBut.update
abbrev Uq:=@List.map_nil
abbrev Ur:=@PySem.wpAny_mono
abbrev Us:=@List.eq_nil_or_concat
abbrev Ut:=@List.concat_eq_append
abbrev Uu:=@PySem.codeAny_builtin
abbrev Uv:=@decide_eq_true_eq
abbrev Uw:=@Nat.lt_succ_of_lt
abbrev Ux:=@List.idxOf_append
abbrev Uy:=@Bool.not_true
abbrev Uz:=@PySem.wpAny_typeNameOfWhole_keyiter
abbrev U0:=@List.getElem?_replicate
abbrev U1:=@List.length_pos_of_mem
abbrev U2:=@PySem.Obj.data_mapFields
abbrev U3:=@PyProof.Rows.F.plain_set_update_loop
abbrev U4:=@PySem.wpAny_passesOwn
abbrev U5:=@List.take_append_drop
abbrev U6:=@List.perm_ext_iff_of_nodup
abbrev U7:=@PySem.wpAny_pyIter_enum
abbrev U8:=@List.mem_erase_of_ne
abbrev U9:=@Ne.symm
abbrev Wa:=@PySem.wpAny_setField
abbrev Wb:=@Nat.le_of_lt
abbrev Wc:=@Nat.ne_of_gt
abbrev Wd:=@List.getElem?_take_of_lt
abbrev We:=@Nat.lt_trans
abbrev Wf:=@PySem.wpAny_comprehension_free
abbrev Wg:=@PySem.wpAny_typeNameOf_keyiter
abbrev Wh:=@PySem.wpAny_askSetting
abbrev Wi:=@List.length_erase_of_mem
abbrev Wj:=@PyProof.Rows.slot_tuple_getitem
abbrev Wk:=@PySem.F.slot_list_index
abbrev Wl:=@PySem.F.type_list_index
abbrev Wm:=@Nat.lt_irrefl
abbrev Wn:=@PySem.plainId_quiet
abbrev Wo:=@PySem.Calls.spliced_cons
abbrev Wp:=@List.of_mem_zip
abbrev Wq:=@PyProof.Rows.callWith_builtin1
abbrev Wr:=@PySem.wpAny_loadPart'
abbrev Ws:=@List.getElem?_set_self
abbrev Wt:=@PySem.Paired.snoc
abbrev Wu:=@PySem.wpAny_truthy_bool
abbrev Wv:=@PySem.WalksT.enumerateD
abbrev Ww:=@List.pairwise_map
abbrev Wx:=@List.ext_getElem?
abbrev Wy:=@PySem.codeAny_mono
abbrev Wz:=@List.getElem?_set_ne
abbrev W3:=@List.length_drop
abbrev W4:=@PySem.call_meets
abbrev W5:=@beq_self_eq_true
abbrev W6:=@PySem.wpAny_standAt
abbrev W7:=@Bool.eq_iff_iff
abbrev W8:=@Decidable.byContradiction
abbrev W9:=@List.mem_or_eq_of_mem_set
abbrev Ya:=@List.mem_filterMap
abbrev Yb:=@PySem.wpAny_typeOf
abbrev Yc:=@PySem.F.slot_list_getattribute
abbrev Yd:=@Int.emod_lt_of_pos
abbrev Ye:=@PyProof.Rows.F.entry_set_update_loop
abbrev Yf:=@and_true
abbrev Yg:=@List.take_succ
abbrev Yh:=@PySem.wpAny_fieldsOf
abbrev Yi:=@PySem.Heap.size_push
abbrev Yj:=@List.Perm.refl
abbrev Yk:=@Bool.not_false
abbrev Yl:=@PySem.Calls.spliced_nil
abbrev Ym:=@PySem.F.args_tuple_iterator_next_1
abbrev Yn:=@PySem.wpAny_loadPart_at
abbrev Yo:=@List.getElem?_set
abbrev Yp:=@Nat.lt_trichotomy
abbrev Yq:=@Option.some.injEq
abbrev Yr:=@PySem.Calls.callWith_builtin
abbrev Ys:=@PySem.F.entry_tuple_iterator_next
abbrev Yt:=@List.filter_eq_nil_iff
abbrev Yu:=@PySem.wpAny_isInstance
abbrev Yv:=@Nat.lt_succ_self
abbrev Yw:=@PySem.builtinLookup_eq_fast
abbrev Yx:=@PySem.wpAny_isOneOf_keyiter
abbrev Yy:=@PySem.Obj.isFreed_of_fields
abbrev Yz:=@PySem.wpAny_execs_nil
abbrev Y0:=@Nat.succ_mul
abbrev Y1:=@PySem.wpAny_newFunctionEnv
abbrev Y2:=@List.mem_of_mem_drop
abbrev Y3:=@List.mem_of_mem_take
abbrev Y4:=@List.pairwise_append
abbrev Y5:=@Int.emod_nonneg
abbrev Y6:=@Nat.mul_le_mul_right
abbrev Y7:=@List.idxOf_cons
abbrev Y8:=@PySem.W.codeHd_of_K
abbrev Y9:=@List.nodup_nil
abbrev Aaa:=@Nat.add_mul
abbrev Aab:=@PySem.tupleKind_room_in1
abbrev Aac:=@List.filter_append
abbrev Aad:=@List.pairwise_cons
abbrev Aae:=@PySem.wpAny_attempt
namespace L2
open PySem PySem.Spec PyProof.Rows
abbrev Key:=Sum Int Str
def jff:Key->Value->Bool
 |.inl k,v=>Value.isInt k v
 |.inr x,v=>Value.isStrOf x v
def keyH(w:World):Key->Int
 |.inl k=>hashInt k
 |.inr x=>hashStr w x
theorem jcz:∀{k:Key}{v:Value},jff k v=true->(∃i t,k=Sum.inl i/\v=Value.int i t)\/(∃x t,k=Sum.inr x/\v=Value.str x t)
 |.inl i,v,h=>by
  obtain⟨t,e⟩:=Value.isInt_shape (k:=i) (v:=v) h
  exact .inl ⟨i,t,rfl,e⟩
 |.inr x,v,h=>by
  obtain⟨t,e⟩:=Value.isStrOf_shape (x:=x) (v:=v) h
  exact .inr ⟨x,t,rfl,e⟩
theorem jo1(i:Int)(t:Tok):jff (.inl i) (.int i t)=true:=by simp[jff,Value.isInt]
theorem jo2(x:Str)(t:Tok):jff (.inr x) (.str x t)=true:=by simp[jff,Value.isStrOf]
theorem jsl(a b:Int):decide ((Sum.inl a:Key)=Sum.inl b)=(a == b):=by
 by_cases e:a=b
 ·subst e;simp
 ·have h:¬(Sum.inl a:Key)=Sum.inl b:=λq=>e (Sum.inl.inj q)
  rw[Ol h]
  exact(Ox.mpr e).symm
theorem jso(a b:Str):decide ((Sum.inr a:Key)=Sum.inr b)=decide (a=b):=by
 by_cases e:a=b
 ·subst e;simp
 ·have h:¬(Sum.inr a:Key)=Sum.inr b:=λq=>e (Sum.inr.inj q)
  rw[Ol h,Ol e]
theorem jsm(a:Int)(b:Str):decide ((Sum.inl a:Key)=Sum.inr b)=false:=Ol (λq=>nomatch q)
theorem jsn(a:Str)(b:Int):decide ((Sum.inr a:Key)=Sum.inl b)=false:=Ol (λq=>nomatch q)
def jcn(prog:Program)(w:World):PySem.KeyKind prog w Key where
 is:=jff
 hash:=keyH w
 inj:=λv a b ha hb=>by
  rcases jcz ha with⟨i,t,rfl,rfl⟩|⟨x,t,rfl,rfl⟩
  ·rcases jcz hb with⟨j,u,rfl,e⟩|⟨y,u,rfl,e⟩
   ·injection e with e1 _;rw[e1]
   ·exact nomatch e
  ·rcases jcz hb with⟨j,u,rfl,e⟩|⟨y,u,rfl,e⟩
   ·exact nomatch e
   ·injection e with e1 _;rw[e1]
 byValue:=λk v h=>by
  rcases jcz h with⟨i,t,rfl,rfl⟩|⟨x,t,rfl,rfl⟩ <;> rfl
 pyHash:=λhv h=>by
  rcases jcz hv with⟨i,t,rfl,rfl⟩|⟨x,t,rfl,rfl⟩
  ·exact wpAny_pyHash_int h
  ·exact wpAny_pyHash_str h
 eqBool:=λhu hv h=>by
  rcases jcz hu with⟨i,t,rfl,rfl⟩|⟨x,t,rfl,rfl⟩
  ·rcases jcz hv with⟨j,u,rfl,rfl⟩|⟨y,u,rfl,rfl⟩
   ·rw[jsl]at h;exact wpAny_eqBool_int h
   ·rw[jsm]at h;exact SeqAt.EqAt.int_str i t y u _ _ _ _ h
  ·rcases jcz hv with⟨j,u,rfl,rfl⟩|⟨y,u,rfl,rfl⟩
   ·rw[jsn]at h;exact SeqAt.EqAt.str_int x t j u _ _ _ _ h
   ·rw[jso]at h;exact wpAny_eqBool_str h
 «strs»:=λk x t v h=>by
  rcases jcz h with⟨i,u,rfl,e⟩|⟨y,u,rfl,e⟩
  ·exact nomatch e
  ·injection e with e1 _
   subst e1
   cases v <;> rfl
theorem jl5(prog:Program)(w:World)(i:Int)(t:Tok):(jcn prog w).is (.inl i) (.int i t)=true:=jo1 i t
theorem jl6(prog:Program)(w:World)(x:Str)(t:Tok):(jcn prog w).is (.inr x) (.str x t)=true:=jo2 x t
inductive V where
 |non|bl (b:Bool)|int (i:Int)|str (x:Str)|byt (b:Array UInt8)|flt (b:UInt64)|ref (a:Addr)|ty (n:String)
 deriving DecidableEq
def RelV:V->Value->Prop
 |.non,u=>u=Value.none
 |.bl b,u=>u=Value.bool b
 |.int i,u=>∃t,u=Value.int i t
 |.str x,u=>∃t,u=Value.str x t
 |.byt b,u=>∃t,u=Value.bytes b t
 |.flt b,u=>∃t,u=Value.float b t
 |.ref a,u=>u=Value.ref a
 |.ty n,u=>u=Value.type n
abbrev Vals:List V->List Value->Prop:=Paired RelV
theorem Vals.length{xs:List V}{us:List Value}(r:Vals xs us):xs.length=us.length:=Il r
theorem Vals.get:∀{xs:List V}{us:List Value}{i:Nat}{x:V},Vals xs us->xs[i]?=some x->∃u,us[i]?=some u/\RelV x u
 |_,_,_,_,.nil,e=>by simp at e
 |_,_,0,_,.cons r _,e=>by simp at e;subst e;exact⟨_,rfl,r⟩
 |_,_,i+1,x,.cons _ t,e=>by
  obtain⟨u,h1,h2⟩:=Vals.get (i:=i) (x:=x) t (by simpa using e)
  exact⟨u,by simpa using h1,h2⟩
theorem Vals.set{x:V}{u:Value}(r:RelV x u):∀{xs:List V}{us:List Value}(i:Nat),Vals xs us->Vals (xs.set i x) (us.set i u)
 |_,_,_,.nil=>.nil
 |_,_,0,.cons _ t=>.cons r t
 |_,_,i+1,.cons q t=>.cons q (Vals.set r i t)
theorem Vals.append:∀{xs ys:List V}{us ws:List Value},Vals xs us->Vals ys ws->Vals (xs++ys) (us++ws)
 |_,_,_,_,.nil,s=>s
 |_,_,_,_,.cons r t,s=>.cons r (Vals.append t s)
theorem Vals.take:∀{xs:List V}{us:List Value}(n:Nat),Vals xs us->Vals (xs.take n) (us.take n)
 |_,_,0,_=>.nil
 |_,_,_+1,.nil=>.nil
 |_,_,n+1,.cons r t=>.cons r (Vals.take n t)
theorem Vals.drop:∀{xs:List V}{us:List Value}(n:Nat),Vals xs us->Vals (xs.drop n) (us.drop n)
 |_,_,0,r=>r
 |_,_,_+1,.nil=>.nil
 |_,_,n+1,.cons _ t=>Vals.drop n t
def RelO:Option V->Option Value->Prop
 |some v,some u=>RelV v u
 |none,none=>True
 |_,_=>False
def KV{κ:Type}:List (κ×V)->List (κ×Value)->Prop:=Paired fun(p:κ×V) (q:κ×Value)=>p.1=q.1/\RelV p.2 q.2
def kV:Key->V
 |.inl i=>.int i
 |.inr x=>.str x
inductive HO where
  |lst (xs:List V)
  |tup (xs:List V)
  |dK (kvs:List (Key×V))|dT (kvs:List (List Key×V))
  |set (S:Int->Bool) (n:Nat)
  |ins (C dx:Addr) (fs:List (Str×V))
  |own (x:Addr)
  |xd (fs:List (Str×V))
  |met (f x:Addr)
  |rng (lo hi:Int)
  |frz (o:Obj) (u:HO)
  |tbl (ps:Array Value)
  |ext (φ:Heap->Prop)
abbrev Hp:=Addr->Option HO
def upd(H:Hp)(a:Addr)(o:HO):Hp:=λb=>if b=a then some o else H b
theorem jb{H:Hp}{a:Addr}{o:HO}:upd H a o a=some o:=by unfold upd;rw[Ao rfl]
theorem jd{H:Hp}{a b:Addr}{o:HO}(h:b≠a):upd H a o b=H b:=by unfold upd;rw[Am h]
theorem jik{H:Hp}{a:Addr}{o u:HO}:upd (upd H a o) a u=upd H a u:=by
 funext b;unfold upd;split <;> rfl
theorem jn0{H:Hp}{a b:Addr}{o u:HO}(h:H a=some o)(h':H b=some u)(d:o≠u):a≠b:=by
 intro e;subst e;rw[h]at h';exact d (Aq h')
theorem jf{H:Hp}{a b:Addr}{o:HO}(h:H a=some o)(h':H b=none):a≠b:=by
 intro e;subst e;rw[h]at h';cases h'
section
variable(P:Program)(w:World)
def ObjOk(H:Hp)(h:Heap)(a:Addr):HO->Prop
 |.lst xs=>xs.length<=sizeLine/\∃(its:List Value)(n:Nat),Vals xs its/\h.get? a=some {cls:=.type "list",data:=.seq its.toArray n}
 |.tup xs=>xs.length<=sizeLine/\∃its:List Value,Vals xs its/\IsTup h a its.toArray
 |.dK kvs=>kvs.length<=sizeLine/\(a == sysModules)=false/\∃vs,KV kvs vs/\h.DictOf (jcn P w) a vs
 |.dT kvs=>kvs.length<=sizeLine/\(a == sysModules)=false/\∃xs:List (List Key×Addr×Value),
   Paired (fun(p:List Key×V) (q:List Key×Addr×Value)=>p.1=q.1/\H q.2.1=some (.tup (p.1.map kV))/\RelV p.2 q.2.2) kvs xs /\
   ∃o es ep,h.get? a=some o/\o.ExactDict/\o.data=.dict es ep/\es.toList=xs.map (entryOfKey (tupleKind (jcn P w)))/\(xs.map (·.1)).Nodup
 |.set S n=>h.SetOf (intKind P w) a S n
 |.ins C dx fs=>H dx=some (.own a)/\fs.length<=1000/\dx≠a/\h.get? a=some (PySem.W.instObj C dx) /\
   ∃mA,h.Ns1 dx mA/\(∀f,RelO (fs.lookup f) (mA f))/\PySem.Within mA (fs.map (·.1))
 |.own _=>∃o,h.get? a=some o
 |.xd fs=>∃mA,h.Ns1 a mA/\∀f,RelO (fs.lookup f) (mA f)
 |.rng lo hi=>∃t u v,h.get? a=some {cls:=.type "range",data:=.fields #[.int lo t,.int hi u,.int 1 v]}
 |.frz o u=>h.get? a=some o/\ObjOk H h a u
 |.tbl ps=>h.get? a=some {cls:=.none,data:=.fields ps}
 |.met f x=>h.get? a=some (PySem.W.methodObj (.ref f) (.ref x))
 |.ext φ=>φ h/\(∃o,h.get? a=some o)/\∀h1 h2:Heap,φ h1->(∀o,h1.get? a=some o->h2.get? a=some o)->φ h2
def HOk(H:Hp)(h:Heap):Prop:=∀a o,H a=some o->ObjOk P w H h a o
end
section
variable{P:Program}{w:World}{H H':Hp}{h h':Heap}{a:Addr}{o:HO}
theorem ObjOk.lt(x:ObjOk P w H h a o):a<h.objs.size:=by
 cases o with
 |lst xs=>obtain⟨_,_,_,_,e⟩:=x;exact At e
 |tup xs=>obtain⟨_,_,_,p⟩:=x;exact p.lt
 |dK kvs=>obtain⟨_,_,_,_,o,_,_,e,_⟩:=x;exact At e
 |dT kvs=>obtain⟨_,_,_,_,o,_,_,e,_⟩:=x;exact At e
 |set S n=>obtain⟨o,_,_,_,e,_⟩:=x;exact At e
 |ins C dx fs=>obtain⟨_,_,_,e,_⟩:=x;exact At e
 |own y=>obtain⟨_,e⟩:=x;exact At e
 |xd fs=>obtain⟨_,⟨_,_,_,e,_⟩,_⟩:=x;exact At e
 |rng lo hi=>obtain⟨_,_,_,e⟩:=x;exact At e
 |frz ob u=>obtain⟨e,_⟩:=x;exact At e
 |tbl ps=>exact At (show h.get? a=some _ from x)
 |met f y=>exact At (show h.get? a=some _ from x)
 |ext φ=>obtain⟨_,⟨_,e⟩,_⟩:=x;exact At e
theorem Paired.mapP{α β:Type}{F G:α->β->Prop}:∀{l₁:List α}{l₂:List β},Paired F l₁ l₂->(∀a b,F a b->G a b)->Paired G l₁ l₂
 |_,_,.nil,_=>.nil
 |_,_,.cons r t,f=>.cons (f _ _ r) (Paired.mapP t f)
theorem ObjOk.stay(x:ObjOk P w H h a o)(k:∀b u,(b=a\/H b=some (.own a))->h.get? b=some u->h'.get? b=some u)
  (ho:∀b,H b=some (.own a)->H' b=some (.own a)) (ht:∀b xs,H b=some (.tup xs)->H' b=some (.tup xs)):ObjOk P w H' h' a o:=by
 induction o with
 |lst xs=>obtain⟨z,its,n,r,e⟩:=x;exact⟨z,its,n,r,k _ _ (.inl rfl) e⟩
 |tup xs=>obtain⟨z,its,r,ob,e,c⟩:=x;exact⟨z,its,r,ob,k _ _ (.inl rfl) e,c⟩
 |dK kvs=>obtain⟨z,y,vs,r,ob,es,ep,e,c⟩:=x;exact⟨z,y,vs,r,ob,es,ep,k _ _ (.inl rfl) e,c⟩
 |dT kvs =>
  obtain⟨z,y,xs,r,ob,es,ep,e,c⟩:=x
  exact⟨z,y,xs,Paired.mapP r λp q z=>⟨z.1,ht _ _ z.2.1,z.2.2⟩,ob,es,ep,k _ _ (.inl rfl) e,c⟩
 |set S n=>obtain⟨ob,es,ep,t,e,c⟩:=x;exact⟨ob,es,ep,t,k _ _ (.inl rfl) e,c⟩
 |ins C dx fs =>
  obtain⟨d,z,ne,e,mA,⟨od,es,ep,e2,c⟩,r⟩:=x
  exact⟨ho _ d,z,ne,k _ _ (.inl rfl) e,mA,⟨od,es,ep,k _ _ (.inr d) e2,c⟩,r⟩
 |own y=>obtain⟨ob,e⟩:=x;exact⟨ob,k _ _ (.inl rfl) e⟩
 |xd fs=>obtain⟨mA,⟨od,es,ep,e,c⟩,r⟩:=x;exact⟨mA,⟨od,es,ep,k _ _ (.inl rfl) e,c⟩,r⟩
 |rng lo hi=>obtain⟨t,u,v,e⟩:=x;exact⟨t,u,v,k _ _ (.inl rfl) e⟩
 |frz ob u ih=>obtain⟨e,q⟩:=x;exact⟨k _ _ (.inl rfl) e,ih q⟩
 |tbl ps =>
  have e:h.get? a=some {cls:=.none,data:=.fields ps}:=x
  show h'.get? a=some {cls:=.none,data:=.fields ps}
  exact k a _ (.inl rfl) e
 |met f y =>
  have e:h.get? a=some (PySem.W.methodObj (.ref f) (.ref y)):=x
  show h'.get? a=some (PySem.W.methodObj (.ref f) (.ref y))
  exact k a _ (.inl rfl) e
 |ext φ=>obtain⟨p,⟨o,e⟩,st⟩:=x;exact⟨st _ _ p λo q=>k _ _ (.inl rfl) q,⟨o,k _ _ (.inl rfl) e⟩,st⟩
theorem HOk.lt(x:HOk P w H h)(e:H a=some o):a<h.objs.size:=(x a o e).lt
theorem HOk.fresh(x:HOk P w H h)(e:h.objs.size<=a):H a=none:=by
 cases q:H a with
 |none=>rfl
 |some u=>exact absurd (A4 (x.lt q) e) (Wm _)
theorem HOk.kept(x:HOk P w H h)(k:∀b u,h.get? b=some u->h'.get? b=some u):HOk P w H h':=λa o e =>
 (x a o e).stay (λb u _ q=>k b u q) (λ_ q=>q) λ_ _ q=>q
theorem HOk.laid(x:HOk P w H h)(k:∀b u,h.get? b=some u->h'.get? b=some u)(hp:h.objs.size<=a)(new:ObjOk P w (upd H a o) h' a o):HOk P w (upd H a o) h':=λb u e=>by
 have hn:=x.fresh hp
 by_cases hb:b=a
 ·subst hb;rw[jb]at e;cases e;exact new
 ·rw[jd hb]at e
  exact(x b u e).stay (λc v _ q=>k c v q) (λc q=>by rw[jd (jf q hn)];exact q) λc xs q=>by rw[jd (jf q hn)];exact q
end
def Rd(H:Hp)(a:Addr)(u:HO):Prop:=H a=some u\/∃o,H a=some (.frz o u)
theorem Rd.ok{P:Program}{w:World}{H:Hp}{h:Heap}{a:Addr}{u:HO}(r:Rd H a u)(x:HOk P w H h):ObjOk P w H h a u:=by
 rcases r with r|⟨o,r⟩
 ·exact x a u r
 ·obtain⟨_,q⟩:=x a _ r
  exact q
def Mut:Option HO->Prop
 |some (.lst _)=>True
 |some (.dK _)=>True
 |some (.dT _)=>True
 |some (.set _ _)=>True
 |some (.ins _ _ _)=>True
 |some (.ext _)=>True
 |_=>False
section
variable{P:Program}{w:World}{H:Hp}{h h':Heap}{x e:Addr}{o':HO}
theorem HOk.write(ok:HOk P w H h)(mu:Mut (H x))(he:e=x\/H e=some (.own x))(k:∀b u,b≠e->h.get? b=some u->h'.get? b=some u)(heo:∃u,h'.get? e=some u)
  (new:ObjOk P w (upd H x o') h' x o'):HOk P w (upd H x o') h':=λb u q=>by
 have nown:∀c y,H c=some (.own y)->c≠x:=λc y r z=>by subst z;rw[r]at mu;exact mu
 have ntup:∀c xs,H c=some (.tup xs)->c≠x:=λc xs r z=>by subst z;rw[r]at mu;exact mu
 by_cases hb:b=x
 ·subst hb;rw[jb]at q;cases q;exact new
 ·rw[jd hb]at q
  by_cases hbe:b=e
  ·have q':H b=some (.own x):=by
    rcases he with z|z
    ·exact absurd (hbe.trans z) hb
    ·rw[hbe];exact z
   rw[q]at q';cases q'
   obtain⟨v,hv⟩:=heo
   exact⟨v,by rw[hbe];exact hv⟩
  ·refine(ok b u q).stay (λc v hc r=>k c v ?_ r) (λc r=>by rw[jd (nown c b r)];exact r) λc xs r=>by rw[jd (ntup c xs r)];exact r
   rcases hc with rfl|hc
   ·exact hbe
   ·rintro rfl
    rcases he with z|z
    ·exact nown c b hc z
    ·rw[hc]at z;cases z;exact hb rfl
end
structure Un(fs ex:List Addr)(H H':Hp)(h h':Heap):Prop where
 keep:∀b o,h.get? b=some o->H b=none->b∉fs->b∉ex->h'.get? b=some o
 slot:∀b o,h.get? b=some o->H b=none->b∈fs->b∉ex->∃sl,h'.get? b=some {o with slots:=sl}
 free:∀b o,h.get? b=some o->H b=none->b∉ex->H' b=none
 there:∀b o,h.get? b=some o->b∉ex->∃o',h'.get? b=some o'
 tups:∀b xs,H b=some (.tup xs)->H' b=some (.tup xs)
 frzs:∀b o u,H b=some (.frz o u)->H' b=some (.frz o u)
 tbls:∀b ps,H b=some (.tbl ps)->∃more,H' b=some (.tbl (ps++more))
section
variable{fs fs' ex ex':List Addr}{H H1 H2:Hp}{h h1 h2 h':Heap}{a x e:Addr}{o:HO}
theorem Un.any(u:Un fs ex H H1 h h1){b:Addr}{ob:Obj}(q:h.get? b=some ob)(n:H b=none)(hx:b∉ex):∃sl,h1.get? b=some {ob with slots:=sl}:=by
 by_cases hb:b∈fs
 ·exact u.slot b ob q n hb hx
 ·exact⟨ob.slots,u.keep b ob q n hb hx⟩
theorem Un.kept(k:∀b u,h.get? b=some u->h'.get? b=some u):Un fs ex H H h h' :=
 ⟨λb ob q _ _ _=>k b ob q,λb ob q _ _ _=>⟨ob.slots,k b ob q⟩,λ_ _ _ n _=>n,λb ob q _=>⟨ob,k b ob q⟩,λ_ _ q=>q,λ_ _ _ q=>q,λ_ ps q=>⟨#[],by rw[q];simp⟩⟩
theorem Un.refl:Un fs ex H H h h:=Un.kept λ_ _ q=>q
theorem Un.laid(k:∀b u,h.get? b=some u->h'.get? b=some u)(hp:h.objs.size<=a)(hn:H a=none):Un fs ex H (upd H a o) h h' where
 keep:=λb u q _ _ _=>k b u q
 slot:=λb u q _ _ _=>⟨u.slots,k b u q⟩
 free:=λb u q n _=>by rw[jd (Ax (A4 (At q) hp))];exact n
 there:=λb u q _=>⟨u,k b u q⟩
 tups:=λb xs q=>by rw[jd (jf q hn)];exact q
 frzs:=λb u xs q=>by rw[jd (jf q hn)];exact q
 tbls:=λb ps q=>⟨#[],by rw[jd (jf q hn),q];simp⟩
theorem Un.write(mu:Mut (H x))(he:e=x\/H e=some (.own x))(k:∀b u,b≠e->h.get? b=some u->h'.get? b=some u)(heo:∃u,h'.get? e=some u):Un fs ex H (upd H x o) h h':=by
 have hx:∀b,H b=none->b≠x:=λb n z=>by subst z;rw[n]at mu;exact mu
 have hb:∀b,H b=none->b≠e:=λb n z=>by
  subst z
  rcases he with r|r
  ·exact hx b n r
  ·rw[n]at r;cases r
 have hm:∀b u,H b=some u->¬Mut (some u)->b≠x:=λb u q nm z=>by subst z;rw[q]at mu;exact nm mu
 refine⟨λb u q n _ _=>k b u (hb b n) q,λb u q n _ _=>⟨u.slots,k b u (hb b n) q⟩,λb u q n _=>by rw[jd (hx b n)];exact n,λb u q _=>?_,
  λb xs q=>by rw[jd (hm b _ q λz=>z)];exact q,λb u xs q=>by rw[jd (hm b _ q λz=>z)];exact q,λb ps q=>⟨#[],by rw[jd (hm b _ q λz=>z),q];simp⟩⟩
 by_cases hbe:b=e
 ·subst hbe;exact heo
 ·exact⟨u,k b u hbe q⟩
end
def trk(h:Heap)(H:Hp):List Addr:=(List.range h.objs.size).filter λa=>(H a).isSome
def hidT(h:Heap)(H:Hp):Heap:=PySem.W.hideAll h (trk h H)
theorem joz(h:Heap)(H:Hp):(hidT h H).objs.size=h.objs.size:=PySem.W.hideAll_size _ _
theorem jp6{h:Heap}{H:Hp}{b:Addr}{o:Obj}(e:h.get? b=some o)(n:H b=none):(hidT h H).get? b=some o :=
 PySem.W.hideAll_get _ e λhm=>by
  have q:(H b).isSome=true:=(Iy.mp hm).2
  rw[n]at q;simp at q
theorem jrz{h:Heap}{H:Hp}{b:Addr}{o:Obj}(e:(hidT h H).get? b=some o):h.get? b=some o/\H b=none:=by
 have e':h.get? b=some o:=PySem.W.of_hideAll (trk h H) e
 refine⟨e',?_⟩
 cases q:H b with
 |none=>rfl
 |some x =>
  have hm:b∈trk h H:=Iy.mpr ⟨Ar.mpr (At e'),by simp[q]⟩
  have z:(hidT h H).get? b=none:=PySem.W.hideAll_none (trk h H) hm
  rw[z]at e;cases e
structure Mod(K:PySem.W.Frag)(mg:Str->Option Value)(base:Heap):Prop where
 kin:K.In base
 glob:base.Ns mainGlobals mg
 blt:∃mb,base.Ns builtinsNs mb/\∀x:Str,x≠"__name__"->mb x=bootBuiltins x
 nolimit:base.NoLimit
structure Cx where
 prog:Program
 w:World
 K:PySem.W.Frag
 mg:Str->Option Value
 base:Heap
 A:Around
 N:List Str
 s₀:Shared
 H₀:Hp
 env:Env
 outer:List Env
 stack:List Env
 ex:List Addr
 fn:Str->Bool
 calm:Bool
 pn:List (Addr×Obj)
 xe:Value->Shared->Prop
def frs(l:List Env):List Addr:=l.filterMap (·.frame)
abbrev Cx.fs(X:Cx):List Addr:=frs X.outer
def Vis(sc:Scope)(x:Str):Prop:=sc.names.lookup x=some .local\/sc.names.lookup x=some .cell\/sc.names.lookup x=some .free
def Loc(sc:Scope)(x:Str):Prop:=sc.names.lookup x=some .local\/sc.names.lookup x=some .cell
def Look(env:Env)(h:Heap)(m:Str->Option Value)(x:Str)(u:Value):Prop :=
 (env.kindOf x=some .local/\m x=some u)\/((env.kindOf x=some .cell\/env.kindOf x=some .free)/\∃c,env.cells.lookup x=some c/\h.IsCell c (some u))
structure Cx.Ok(X:Cx):Prop where
 mod:Mod X.K X.mg X.base
 kind:X.env.scope.kind=.function
 glob:X.env.globals=mainGlobals
 blt:X.env.builtins=builtinsNs
 above:X.s₀.heap.objs.size<=X.env.locals
 inj:∀x y c,X.env.cells.lookup x=some c->X.env.cells.lookup y=some c->x=y
 has:∀x,(X.env.kindOf x=some .cell\/X.env.kindOf x=some .free)->∃c,X.env.cells.lookup x=some c
 cab:∀x c,X.fn x=true->X.env.cells.lookup x=some c->X.s₀.heap.objs.size<=c
 hd:X.calm=true->X.A.handled=none
 frames:X.A.frames=some X.stack
 stk:X.stack=X.outer\/(X.stack=X.env::X.outer/\X.env.frame=some X.env.locals)
 exf:∀b∈X.ex,b≠X.env.locals/\∀x c,X.env.cells.lookup x=some c->c≠b
 bs:∀b o,X.base.get? b=some o->X.s₀.heap.get? b=some o/\X.H₀ b=none
 bsz:X.base.objs.size<=X.s₀.heap.objs.size
 noex:∀b o,X.base.get? b=some o->b∉X.ex
 exfs:∀b∈X.ex,b∉X.fs
 funs:X.s₀.heap.FunFrames X.base X.outer
 frf:∀b∈X.fs,X.H₀ b=none
structure Inv(X:Cx)(pins:List (Addr×Obj))(σ:List (Option V))(H:Hp)(s:Shared):Prop where
 ok:X.Ok
 os:s.os=X.s₀.os
 bare:AllBare s.gens
 base:Un X.fs X.ex X.H₀ H X.s₀.heap s.heap
 loc:∃m,s.heap.Ns X.env.locals m/\∀(i:Nat)(x:Str)(v:V),X.N[i]?=some x->σ[i]?=some (some v)->Vis X.env.scope x->∃u,RelV v u/\Look X.env s.heap m x u
 cell:∀x c,X.env.cells.lookup x=some c->∃v,s.heap.IsCell c v
 free:H X.env.locals=none
 freeC:∀x c,X.env.cells.lookup x=some c->H c=none
 pin:∀p∈X.pn++pins,s.heap.get? p.1=some p.2/\H p.1=none/\p.1≠X.env.locals/\p.1∉X.fs/\∀v,p.2.data≠.cell v
 hok:HOk X.prog X.w H s.heap
 len:σ.length=X.N.length
section
variable{X:Cx}{pins:List (Addr×Obj)}{σ:List (Option V)}{H H':Hp}{s:Shared}{h':Heap}
theorem Cx.Ok.nofr(ok:X.Ok){b:Addr}{o:Obj}(e:X.base.get? b=some o):b∉X.fs:=λhb=>by
 have:=(ok.funs.mem hb).1
 rw[e]at this;cases this
theorem Inv.bs(I:Inv X pins σ H s):∀b o,X.base.get? b=some o->s.heap.get? b=some o/\H b=none:=λb o e =>
 ⟨I.base.keep b o (I.ok.bs b o e).1 (I.ok.bs b o e).2 (I.ok.nofr e) (I.ok.noex b o e),I.base.free b o (I.ok.bs b o e).1 (I.ok.bs b o e).2 (I.ok.noex b o e)⟩
theorem Inv.bk(I:Inv X pins σ H s):∀b o,X.base.get? b=some o->s.heap.get? b=some o:=λb o e=>(I.bs b o e).1
theorem Inv.mod(I:Inv X pins σ H s):Mod X.K X.mg X.base:=I.ok.mod
theorem Inv.kIn(I:Inv X pins σ H s):X.K.In s.heap:=I.ok.mod.kin.keeps I.bk
theorem Inv.lt(I:Inv X pins σ H s):X.env.locals<s.heap.objs.size:=let⟨_,hn,_⟩:=I.loc;hn.lt
theorem Inv.sz(I:Inv X pins σ H s):X.s₀.heap.objs.size<=s.heap.objs.size:=Im I.ok.above (Wb I.lt)
theorem Inv.nofs(I:Inv X pins σ H s){a:Addr}(h:s.heap.objs.size<=a):a∉X.fs:=λhb=>by
 obtain⟨_,o,ho,_⟩:=I.ok.funs.mem hb
 exact absurd (A4 (At ho) (Im I.sz h)) (Wm _)
theorem Inv.cne(I:Inv X pins σ H s):∀x c,X.env.cells.lookup x=some c->c≠X.env.locals:=λx c e z=>by
 obtain⟨v,o,ho,hd⟩:=I.cell x c e
 obtain⟨m,⟨o',es,ep,ho',hd',_⟩,_⟩:=I.loc
 rw[z,ho']at ho;cases ho;rw[hd']at hd;cases hd
theorem Inv.funs(I:Inv X pins σ H s):s.heap.FunFrames X.base X.outer:=by
 have all:∀(l:List Env),(∀b∈frs l,b∈X.fs)->X.s₀.heap.FunFrames X.base l->s.heap.FunFrames X.base l:=by
  intro l
  induction l with
  |nil=>intro _ _;trivial
  |cons env r ih =>
   intro hs hl
   obtain⟨hk,⟨L,o,hf,hn,ho,hd⟩,hr⟩:=hl
   have hL:L∈X.fs:=hs L (by unfold frs;rw[List.filterMap_cons,hf];exact Os)
   obtain⟨sl,e⟩:=I.base.slot L o ho (I.ok.frf L hL) hL λz=>I.ok.exfs L z hL
   exact⟨hk,⟨L,_,hf,hn,e,hd⟩,ih (λb hb=>hs b (by unfold frs;rw[List.filterMap_cons,hf];exact Oi _ hb)) hr⟩
 exact all X.outer (λ_ hb=>hb) I.ok.funs
theorem Inv.stack(I:Inv X pins σ H s):s.heap.FunFrames X.base X.stack:=by
 rcases I.ok.stk with e|⟨e,hf⟩
 ·rw[e];exact I.funs
 ·rw[e]
  obtain⟨m,hn,_⟩:=I.loc
  refine .cons (by rw[I.ok.kind];decide) hf hn ?_ I.funs
  exact Heap.get?_none_of_le (Im I.ok.bsz I.ok.above)
theorem Inv.stkSub(I:Inv X pins σ H s):∀b∈frs X.stack,b∈X.env.locals::X.fs:=λb hb=>by
 rcases I.ok.stk with e|⟨e,hf⟩
 ·rw[e]at hb;exact Oi _ hb
 ·rw[e]at hb
  unfold frs at hb
  rw[List.filterMap_cons,hf]at hb
  exact hb
theorem Inv.stkFree(I:Inv X pins σ H s):∀b∈frs X.stack,H b=none:=λb hb=>by
 rcases Ap.mp (I.stkSub b hb)with e|hb
 ·rw[e];exact I.free
 ·obtain⟨_,o,ho,_⟩:=I.ok.funs.mem hb
  exact I.base.free b o ho (I.ok.frf b hb) λz=>I.ok.exfs b z hb
theorem Inv.step{g':Array GenState}{t':Nat}{d':Drawn}{ch:List Addr}(I:Inv X pins σ H s)
  (hch:∀b∈ch,(b∈X.ex\/X.s₀.heap.objs.size<=b)/\b≠X.env.locals/\(∀x c,X.env.cells.lookup x=some c->c≠b)/\∀p∈X.pn++pins,p.1≠b)
  (keep:∀b o,b≠X.env.locals->b∉X.fs->b∉ch->s.heap.get? b=some o->H b=none->h'.get? b=some o)
  (slot:∀b o,b≠X.env.locals->b∈X.fs->b∉ch->s.heap.get? b=some o->H b=none->∃sl,h'.get? b=some {o with slots:=sl}) (free:∀b o,b∉ch->s.heap.get? b=some o->H b=none->H' b=none)
  (there:∀b o,b∉ch->s.heap.get? b=some o->∃o',h'.get? b=some o')
  (tups:∀b xs,H b=some (.tup xs)->H' b=some (.tup xs)) (frzs:∀b o u,H b=some (.frz o u)->H' b=some (.frz o u)) (tbls:∀b ps,H b=some (.tbl ps)->∃more,H' b=some (.tbl (ps++more)))
  (ns:∀m,s.heap.Ns X.env.locals m->h'.Ns X.env.locals m) (hok:HOk X.prog X.w H' h') (hg:AllBare g') :
  Inv X pins σ H' {s with heap:=h',gens:=g',drawn:=d',toks:=t'}:=by
 have neL:∀b o,X.s₀.heap.get? b=some o->b≠X.env.locals:=λb o e=>Ax (A4 (At e) I.ok.above)
 have neC:∀b o,X.s₀.heap.get? b=some o->b∉X.ex->b∉ch:=λb o e hx hb=>by
  rcases(hch b hb).1 with z|z
  ·exact hx z
  ·exact absurd (A4 (At e) z) (Wm _)
 have cellK:∀x c,X.env.cells.lookup x=some c->∀v,s.heap.IsCell c v->h'.IsCell c v:=λx c e v ⟨o,ho,hd⟩=>by
  have nch:c∉ch:=λz=>(hch c z).2.2.1 x c e rfl
  by_cases hc:c∈X.fs
  ·obtain⟨sl,q⟩:=slot c o (I.cne x c e) hc nch ho (I.freeC x c e)
   exact⟨_,q,hd⟩
  ·exact⟨o,keep c o (I.cne x c e) hc nch ho (I.freeC x c e),hd⟩
 refine⟨I.ok,I.os,hg,⟨λb o e n hb hx=>?_,λb o e n hb hx=>?_,λb o e n hx=>?_,λb o e hx=>?_,λb xs e=>tups b xs (I.base.tups b xs e),λb o xs e=>frzs b o xs (I.base.frzs b o xs e),λb ps e=>?_⟩,?_,λx c e=>?_,?_,λx c e=>?_,λp hp=>?_,hok,I.len⟩
 ·exact keep b o (neL b o e) hb (neC b o e hx) (I.base.keep b o e n hb hx) (I.base.free b o e n hx)
 ·obtain⟨sl,e1⟩:=I.base.slot b o e n hb hx
  obtain⟨sl',e2⟩:=slot b _ (neL b o e) hb (neC b o e hx) e1 (I.base.free b o e n hx)
  exact⟨sl',e2⟩
 ·obtain⟨o',e1⟩:=I.base.there b o e hx
  exact free b o' (neC b o e hx) e1 (I.base.free b o e n hx)
 ·obtain⟨o',e1⟩:=I.base.there b o e hx
  exact there b o' (neC b o e hx) e1
 ·obtain⟨m1,e1⟩:=I.base.tbls b ps e
  obtain⟨m2,e2⟩:=tbls b _ e1
  exact⟨m1++m2,by rw[e2,Array.append_assoc]⟩
 ·obtain⟨m,hn,hl⟩:=I.loc
  refine⟨m,ns m hn,λi x v e1 e2 e3=>?_⟩
  obtain⟨u,r,l⟩:=hl i x v e1 e2 e3
  refine⟨u,r,?_⟩
  rcases l with l|⟨k,c,e,z⟩
  ·exact .inl l
  ·exact .inr ⟨k,c,e,cellK x c e _ z⟩
 ·obtain⟨v,z⟩:=I.cell x c e
  exact⟨v,cellK x c e v z⟩
 ·obtain⟨m,⟨o,_,_,ho,_⟩,_⟩:=I.loc
  exact free _ o (λz=>(hch _ z).2.1 rfl) ho I.free
 ·obtain⟨v,o,ho,hd⟩:=I.cell x c e
  exact free c o (λz=>(hch c z).2.2.1 x c e rfl) ho (I.freeC x c e)
 ·obtain⟨e,n,ne,nf,d⟩:=I.pin p hp
  have nch:p.1∉ch:=λz=>(hch p.1 z).2.2.2 p hp rfl
  exact⟨keep p.1 p.2 ne nf nch e n,free p.1 p.2 nch e n,ne,nf,d⟩
theorem Inv.un{t':Nat}(I:Inv X pins σ H s)(u:Un X.fs [] H H' s.heap h')(hok:HOk X.prog X.w H' h'):Inv X pins σ H' {s with heap:=h',toks:=t'}:=by
 obtain⟨m,⟨o,es,ep,ho,r⟩,_⟩:=id I.loc
 obtain⟨sl,hL⟩:=u.any ho I.free (by simp)
 exact I.step (g':=s.gens) (d':=s.drawn) (ch:=[]) (λ_ z=>nomatch z) (λb o _ hb _ e n=>u.keep b o e n hb (by simp)) (λb o _ hb _ e n=>u.slot b o e n hb (by simp)) (λb o _ e n=>u.free b o e n (by simp)) (λb o _ e=>u.there b o e (by simp)) u.tups u.frzs u.tbls (λm' hm=>by
  obtain⟨o',es',ep',ho',r'⟩:=hm
  rw[ho]at ho';cases ho'
  exact⟨_,es',ep',hL,r'⟩) hok I.bare
theorem Inv.call{g':Array GenState}{t':Nat}{d':Drawn}{ch:List Addr}(I:Inv X pins σ H s)(u:Un (frs X.stack) ch H H' s.heap h')(hok:HOk X.prog X.w H' h')(hg:AllBare g')
  (hch:∀b∈ch,(b∈X.ex\/X.s₀.heap.objs.size<=b)/\b≠X.env.locals/\(∀x c,X.env.cells.lookup x=some c->c≠b)/\∀p∈X.pn++pins,p.1≠b) :
  Inv X pins σ H' {s with heap:=h',gens:=g',drawn:=d',toks:=t'}:=by
 obtain⟨m,⟨o,es,ep,ho,r⟩,_⟩:=id I.loc
 obtain⟨sl,hL⟩:=u.any ho I.free λz=>(hch _ z).2.1 rfl
 exact I.step (ch:=ch) hch (λb o hL hb hc e n=>u.keep b o e n (λz=>(Ap.mp (I.stkSub b z)).elim hL hb) hc) (λb o _ _ hc e n=>u.any e n hc) (λb o hc e n=>u.free b o e n hc) (λb o hc e=>u.there b o e hc) u.tups u.frzs u.tbls (λm' hm=>by
  obtain⟨o',es',ep',ho',r'⟩:=hm
  rw[ho]at ho';cases ho'
  exact⟨_,es',ep',hL,r'⟩) hok hg
theorem Inv.turned{t':Nat}{it:Addr}(I:Inv X pins σ H s)(k:∀b o,b≠it->s.heap.get? b=some o->h'.get? b=some o)(hn:H it=none)(hL:it≠X.env.locals)
  (h1:it∈X.ex\/X.s₀.heap.objs.size<=it) (h2:∀x c,X.env.cells.lookup x=some c->c≠it) (h3:∀p∈X.pn++pins,p.1≠it):Inv X pins σ H {s with heap:=h',toks:=t'}:=by
 have nit:∀b u,H b=some u->b≠it:=λb u e z=>by rw[z,hn]at e;cases e
 refine I.step (g':=s.gens) (d':=s.drawn) (ch:=[it]) (λb hb=>?_) (λb o _ _ hc e _=>k b o (λz=>hc (by simp[z])) e) (λb o _ _ hc e _=>⟨o.slots,k b o (λz=>hc (by simp[z])) e⟩) (λ_ _ _ _ n=>n)
  (λb o hc e=>⟨o,k b o (λz=>hc (by simp[z])) e⟩) (λ_ _ e=>e) (λ_ _ _ e=>e) (λb ps e=>⟨#[],by rw[e];simp⟩) (λm hm=>?_) (λb u e=>?_) I.bare
 ·have e:b=it:=by simpa using hb
  subst e
  exact⟨h1,hL,h2,h3⟩
 ·obtain⟨o,es,ep,ho,r⟩:=hm
  exact⟨o,es,ep,k _ o (U9 hL) ho,r⟩
 ·refine(I.hok b u e).stay (λc v hc q=>k c v ?_ q) (λ_ q=>q) λ_ _ q=>q
  rcases hc with z|z
  ·rw[z];exact nit b u e
  ·exact nit c _ z
theorem Inv.tok(I:Inv X pins σ H s)(t:Nat):Inv X pins σ H {s with toks:=t}:=I.un (h':=s.heap) (t':=t) Un.refl I.hok
theorem Inv.kept{t':Nat}(I:Inv X pins σ H s)(k:∀b u,s.heap.get? b=some u->h'.get? b=some u):Inv X pins σ H {s with heap:=h',toks:=t'}:=I.un (Un.kept k) (I.hok.kept k)
theorem Inv.laid{a:Addr}{o:HO}{t':Nat}(I:Inv X pins σ H s)(k:∀b u,s.heap.get? b=some u->h'.get? b=some u)(hp:s.heap.objs.size<=a)(new:ObjOk X.prog X.w (upd H a o) h' a o) :
  Inv X pins σ (upd H a o) {s with heap:=h',toks:=t'}:=I.un (Un.laid k hp (I.hok.fresh hp)) (I.hok.laid k hp new)
theorem Inv.write{x e:Addr}{o:HO}{t':Nat}(I:Inv X pins σ H s)(mu:Mut (H x))(he:e=x\/H e=some (.own x))(k:∀b u,b≠e->s.heap.get? b=some u->h'.get? b=some u)(heo:∃u,h'.get? e=some u)
  (new:ObjOk X.prog X.w (upd H x o) h' x o):Inv X pins σ (upd H x o) {s with heap:=h',toks:=t'}:=I.un (Un.write mu he k heo) (I.hok.write mu he k heo new)
theorem Inv.pins_of{pins':List (Addr×Obj)}(I:Inv X pins σ H s)(h:∀p∈pins',s.heap.get? p.1=some p.2/\H p.1=none/\p.1≠X.env.locals/\p.1∉X.fs/\∀v,p.2.data≠.cell v):Inv X pins' σ H s :=
 ⟨I.ok,I.os,I.bare,I.base,I.loc,I.cell,I.free,I.freeC,λp hp=>(Aw.mp hp).elim (λz=>I.pin p (Iw _ z)) (h p),I.hok,I.len⟩
theorem jk3{N:List Str}(hN:N.Nodup){i j:Nat}{x:Str}(a:N[i]?=some x)(b:N[j]?=some x):i=j:=by
 obtain⟨h1,e1⟩:=Ae.mp a
 obtain⟨h2,e2⟩:=Ae.mp b
 exact(List.getElem_inj hN).mp (e1.trans e2.symm)
theorem jfz{M:Model}{A:Around}{E:Value->Shared->Prop}{i:Nat}{x:Str}{v:V}{u:Value}{Q:Unit->Shared->Prop}(I:Inv X pins σ H s)(hN:X.N.Nodup)(hi:X.N[i]?=some x)(hx:Loc X.env.scope x)(r:RelV v u)
  (h:∀s',Inv X pins (σ.set i (some v)) H s'->(∃a,Heap.SameBut a s.heap s'.heap/\(a=X.env.locals\/X.env.cells.lookup x=some a))->Q () s') (hf:X.fn x=true\/X.env.scope.names.lookup x=some .local:=by first|exact .inl rfl|exact .inr rfl|assumption):wpAny M A (storeName X.env x u) Q E s:=by
 obtain⟨m,hn,hl⟩:=id I.loc
 have hcls:(X.env.scope.kind == .class || (X.env.scope.kind == .module && X.env.locals != X.env.globals))=false:=by rw[I.ok.kind];rfl
 have hiσ:i<σ.length:=by rw[I.len];exact(Ae.mp hi).1
 have cne:=I.cne
 have tracked:∀{a:Addr}{h':Heap},(∃o,s.heap.get? a=some o/\H a=none)->Heap.SameBut a s.heap h'->HOk X.prog X.w H h':=fun{a h'} ha hs b ob e=>by
  obtain⟨_,_,hfree⟩:=ha
  refine(I.hok b ob e).stay (λc w' hc q=>(hs.2 c ?_).trans q) (λ_ q=>q) λ_ _ q=>q
  rintro rfl
  rcases hc with rfl|hc
  ·rw[hfree]at e;cases e
  ·rw[hfree]at hc;cases hc
 rcases hx with hk|hk
 ·refine wpAny_storeName_local hk hn (λh' hn' hs=>?_) hcls
  obtain⟨oL,_,_,hoL,_⟩:=id hn
  refine h _ ⟨I.ok,I.os,I.bare,⟨λb o e n hb hx=>?_,λb o e n hb hx=>?_,I.base.free,λb o e hx=>?_,I.base.tups,I.base.frzs,I.base.tbls⟩,⟨_,hn',λj y v' e1 e2 e3=>?_⟩,λy c e=>?_,I.free,I.freeC,λp hp=>?_,tracked ⟨oL,hoL,I.free⟩ hs,by simpa using I.len⟩ ⟨_,hs,.inl rfl⟩
  ·exact(hs.2 b (Ax (A4 (At e) I.ok.above))).trans (I.base.keep b o e n hb hx)
  ·obtain⟨sl,e1⟩:=I.base.slot b o e n hb hx
   exact⟨sl,(hs.2 b (Ax (A4 (At e) I.ok.above))).trans e1⟩
  ·obtain⟨o',e1⟩:=I.base.there b o e hx
   exact⟨o',(hs.2 b (Ax (A4 (At e) I.ok.above))).trans e1⟩
  ·by_cases hj:j=i
   ·subst hj
    rw[hi]at e1;cases e1
    rw[Ws hiσ]at e2
    cases e2
    exact⟨u,r,.inl ⟨hk,by simp⟩⟩
   ·rw[Wz (U9 hj)]at e2
    obtain⟨u',r',q⟩:=hl j y v' e1 e2 e3
    refine⟨u',r',?_⟩
    rcases q with⟨k,e⟩|⟨k,c,e,z⟩
    ·refine .inl ⟨k,?_⟩
     have:y≠x:=λe=>hj (jk3 hN e1 (e▸hi))
     simp[this,e]
    ·exact .inr ⟨k,c,e,z.sameBut hs (cne y c e)⟩
  ·obtain⟨w',z⟩:=I.cell y c e
   exact⟨w',z.sameBut hs (cne y c e)⟩
  ·obtain⟨e,n,ne,nf,d⟩:=I.pin p hp
   exact⟨(hs.2 p.1 ne).trans e,n,ne,nf,d⟩
 ·have hfn:X.fn x=true:=by
   rcases hf with z|z
   ·exact z
   ·rw[z]at hk;cases hk
  obtain⟨c,hc⟩:=I.ok.has x (.inl hk)
  obtain⟨w',z⟩:=I.cell x c hc
  refine wpAny_storeName_cell I.ok.kind hk hc z (λh' hc' hs=>?_)
  obtain⟨oc,hoc,hocd⟩:=id z
  refine h {s with heap:=h'} ⟨I.ok,I.os,I.bare,⟨λb o e n hb hx=>?_,λb o e n hb hx=>?_,I.base.free,λb o e hx=>?_,I.base.tups,I.base.frzs,I.base.tbls⟩,⟨m,hn.sameBut hs (U9 (cne x c hc)),λj y v' e1 e2 e3=>?_⟩,λy c' e=>?_,I.free,I.freeC,λp hp=>?_,tracked ⟨oc,hoc,I.freeC x c hc⟩ hs,by simpa using I.len⟩ ⟨c,hs,.inr hc⟩
  ·exact(hs.2 b (Ax (A4 (At e) (I.ok.cab x c hfn hc)))).trans (I.base.keep b o e n hb hx)
  ·obtain⟨sl,e1⟩:=I.base.slot b o e n hb hx
   exact⟨sl,(hs.2 b (Ax (A4 (At e) (I.ok.cab x c hfn hc)))).trans e1⟩
  ·obtain⟨o',e1⟩:=I.base.there b o e hx
   exact⟨o',(hs.2 b (Ax (A4 (At e) (I.ok.cab x c hfn hc)))).trans e1⟩
  ·by_cases hj:j=i
   ·subst hj
    rw[hi]at e1;cases e1
    rw[Ws hiσ]at e2
    cases e2
    exact⟨u,r,.inr ⟨.inl hk,c,hc,hc'⟩⟩
   ·rw[Wz (U9 hj)]at e2
    obtain⟨u',r',q⟩:=hl j y v' e1 e2 e3
    refine⟨u',r',?_⟩
    rcases q with q|⟨k,c',e,z'⟩
    ·exact .inl q
    ·refine .inr ⟨k,c',e,z'.sameBut hs ?_⟩
     rintro rfl
     exact hj (jk3 hN e1 (I.ok.inj _ _ _ e hc▸hi))
  ·by_cases hcc:c'=c
   ·subst hcc;exact⟨_,hc'⟩
   ·obtain⟨w2,z2⟩:=I.cell y c' e
    exact⟨w2,z2.sameBut hs hcc⟩
  ·obtain⟨e,n,ne,nf,d⟩:=I.pin p hp
   refine⟨(hs.2 p.1 ?_).trans e,n,ne,nf,d⟩
   intro q
   rw[q,hoc]at e
   have q':oc=p.2:=Aq e
   exact d w' (by rw[<-q'];exact hocd)
theorem jgz{M:Model}{A:Around}{E:Value->Shared->Prop}{i:Nat}{x:Str}{v:V}{u:Value}{Q:Unit->Shared->Prop}(I:Inv X pins σ H s)(hN:X.N.Nodup)(hi:X.N[i]?=some x)(hx:Loc X.env.scope x)(r:RelV v u)
  (h:∀s',Inv X pins (σ.set i (some v)) H s'->Q () s') (hf:X.fn x=true\/X.env.scope.names.lookup x=some .local:=by first|exact .inl rfl|exact .inr rfl|assumption):wpAny M A (storeName X.env x u) Q E s :=
 jfz I hN hi hx r (λs' I' _=>h s' I') hf
theorem Inv.call'{s':Shared}{ch:List Addr}(I:Inv X pins σ H s)(ho:s'.os=s.os)(u:Un (frs X.stack) ch H H' s.heap s'.heap)(hok:HOk X.prog X.w H' s'.heap)(hg:AllBare s'.gens)
  (hch:∀b∈ch,(b∈X.ex\/X.s₀.heap.objs.size<=b)/\b≠X.env.locals/\(∀x c,X.env.cells.lookup x=some c->c≠b)/\∀p∈X.pn++pins,p.1≠b):Inv X pins σ H' s':=by
 obtain⟨h',g',d',t',o'⟩:=s'
 have e:o'=s.os:=ho
 subst e
 exact I.call (g':=g') (t':=t') (d':=d') u hok hg hch
end
abbrev XK:=Value->Option Addr->Hp->Prop
abbrev St:=List (Option V)
abbrev VK:=V->Hp->Prop
abbrev TE:=St->Hp->VK->Prop
abbrev TT:=St->Hp->(Bool->Hp->Prop)->Prop
abbrev TA:=St->Hp->(List V->Hp->Prop)->Prop
structure Ends where
 nx:St->Hp->Prop
 rt:VK
 bk:St->Hp->Prop:=λ_ _=>False
 ct:St->Hp->Prop:=λ_ _=>False
abbrev TS:=Ends->St->Hp->Prop
def EP(X:Cx)(pins:List (Addr×Obj))(σ:St)(Q:VK)(u:Value)(s':Shared):Prop:=∃v H',Inv X pins σ H' s'/\RelV v u/\Q v H'
def TP(X:Cx)(pins:List (Addr×Obj))(σ:St)(Q:Bool->Hp->Prop)(b:Bool)(s':Shared):Prop:=∃H',Inv X pins σ H' s'/\Q b H'
def AP(X:Cx)(pins:List (Addr×Obj))(σ:St)(Q:List V->Hp->Prop)(us:List Value)(s':Shared):Prop:=∃vs H',Inv X pins σ H' s'/\Vals vs us/\Q vs H'
def SP(X:Cx)(pins:List (Addr×Obj))(D:Ends)(f:Flow)(s':Shared):Prop :=
 match f with
 |.next=>∃σ' H',Inv X pins σ' H' s'/\D.nx σ' H'
 |.brk=>∃σ' H',Inv X pins σ' H' s'/\D.bk σ' H'
 |.cont=>∃σ' H',Inv X pins σ' H' s'/\D.ct σ' H'
 |.ret u=>∃v σ' H',Inv X pins σ' H' s'/\RelV v u/\D.rt v H'
def PE(X:Cx)(e:Expr)(t:TE):Prop :=
 ∀(pins:List (Addr×Obj))(s:Shared)(σ:St)(H:Hp)(Q:VK),Inv X pins σ H s->t σ H Q->wpAny (model X.prog X.w) X.A (eval e X.env) (EP X pins σ Q) X.xe s
def PT(X:Cx)(e:Expr)(t:TT):Prop :=
 ∀(pins:List (Addr×Obj))(s:Shared)(σ:St)(H:Hp)(Q:Bool->Hp->Prop),Inv X pins σ H s->t σ H Q->wpAny (model X.prog X.w) X.A (isTrue e X.env (eval e X.env)) (TP X pins σ Q) X.xe s
def PW(X:Cx)(e:Expr)(t:TT):Prop :=
 ∀(whole:Sem Value)(pins:List (Addr×Obj))(s:Shared)(σ:St)(H:Hp)(Q:Bool->Hp->Prop),Inv X pins σ H s->t σ H Q->wpAny (model X.prog X.w) X.A (isTrue e X.env whole) (TP X pins σ Q) X.xe s
theorem PW.pt{X:Cx}{e:Expr}{t:TT}(h:PW X e t):PT X e t:=h _
def PA(X:Cx)(es:List Expr)(t:TA):Prop :=
 ∀(pos:Pos)(pins:List (Addr×Obj))(s:Shared)(σ:St)(H:Hp)(Q:List V->Hp->Prop),Inv X pins σ H s->t σ H Q->wpAny (model X.prog X.w) X.A (spliced (backTo pos (starEach es X.env))) (AP X pins σ Q) X.xe s
def PS(X:Cx)(st:Stmt)(t:TS):Prop :=
 ∀(pins:List (Addr×Obj))(s:Shared)(σ:St)(H:Hp)(D:Ends),Inv X pins σ H s->t D σ H->wpAny (model X.prog X.w) X.A (exec st X.env) (SP X pins D) X.xe s
def PSs(X:Cx)(st:List Stmt)(t:TS):Prop :=
 ∀(pins:List (Addr×Obj))(s:Shared)(σ:St)(H:Hp)(D:Ends),Inv X pins σ H s->t D σ H->wpAny (model X.prog X.w) X.A (execs st X.env) (SP X pins D) X.xe s
theorem thn{α:Type}{t:Sem α}{Q Q':α->Shared->Prop}{M:Model}{A:Around}{E:Value->Shared->Prop}{s:Shared}(h:wpAny M A t Q E s)(hQ:∀a s,Q a s->Q' a s):wpAny M A t Q' E s:=Ur h hQ λ_ _ x=>x
section
variable{X:Cx}
def tVar(i:Nat):TE:=λσ H Q=>∃v,σ[i]?=some (some v)/\Q v H
def tC(v:V):TE:=λ_ H Q=>Q v H
theorem jcj{i:Nat}{x:Str}{pos:Pos}(hN:X.N[i]?=some x)(hv:Vis X.env.scope x)(hd:(x == ("__debug__":Str))=false:=by decide)(hcd:(x == ("__classdict__":Str))=false:=by decide):PE X (.Name x pos) (tVar i):=by
 intro pins s σ H Q I h
 obtain⟨v,e,h⟩:=h
 obtain⟨m,hn,hl⟩:=I.loc
 obtain⟨u,r,l⟩:=hl i x v hN e hv
 have fin:EP X pins σ Q u s:=⟨v,H,I,r,h⟩
 rcases l with⟨hk,hm⟩|⟨hk,c,hc,hcell⟩
 ·exact wpAny_Name (wpAny_loadName_local I.ok.kind hk hn hm fin) hd
 ·rcases hk with hk|hk
  ·exact wpAny_Name (wpAny_loadName_cell I.ok.kind hk hc hcell fin) hd
  ·exact wpAny_Name (wpAny_loadName_free I.ok.kind hk hc hcell fin hcd) hd
theorem pe_int{i j pos}:PE X (.Constant (.int i) j pos) (tC (.int i)):=λ_ _ _ H _ I h=>wpAny_Constant_int ⟨.int i,H,I.tok _,⟨_,rfl⟩,h⟩
theorem pe_bl{b j pos}:PE X (.Constant (.bool b) j pos) (tC (.bl b)):=λ_ _ _ H _ I h=>Constant_bool ⟨.bl b,H,I,rfl,h⟩
theorem pe_non{j pos}:PE X (.Constant .none j pos) (tC .non):=λ_ _ _ H _ I h=>Constant_none ⟨.non,H,I,rfl,h⟩
theorem pe_str{x j pos}:PE X (.Constant (.str x) j pos) (tC (.str x)):=λ_ _ _ H _ I h=>Calls.Constant_str ⟨.str x,H,I.tok _,⟨_,rfl⟩,h⟩
def Gl(X:Cx)(x:Str):Prop:=X.env.kindOf x=some .globalImplicit
theorem jmx{E:Value->Shared->Prop}{pins:List (Addr×Obj)}{s:Shared}{σ:St}{H:Hp}{x:Str}{u:Value}{pos:Pos}{Q:Value->Shared->Prop}(I:Inv X pins σ H s)(hg:Gl X x)(hm:X.mg x=some u)(h:Q u s)
  (hd:(x == ("__debug__":Str))=false:=by decide):wpAny (model X.prog X.w) X.A (eval (.Name x pos) X.env) Q E s :=
 Calls.Name_function_global I.ok.kind hg (Calls.loadGlobal_global (by rw[I.ok.glob];exact I.mod.glob.keeps I.bk) hm h) hd
theorem jdw{E:Value->Shared->Prop}{pins:List (Addr×Obj)}{s:Shared}{σ:St}{H:Hp}{x:Str}{u:Value}{pos:Pos}{Q:Value->Shared->Prop}(I:Inv X pins σ H s)(hg:Gl X x)(hm:X.mg x=none)(hv:bootBuiltins x=some u)(h:Q u s)
  (hn:x≠"__name__":=by decide) (hd:(x == ("__debug__":Str))=false:=by decide):wpAny (model X.prog X.w) X.A (eval (.Name x pos) X.env) Q E s:=by
 obtain⟨mb,h1,h2⟩:=I.mod.blt
 exact Calls.Name_function_global I.ok.kind hg (Calls.loadGlobal_builtin (by rw[I.ok.glob];exact I.mod.glob.keeps I.bk) hm (by rw[I.ok.blt];exact h1.keeps I.bk) ((h2 x hn).trans hv) h) hd
variable{a b:Expr}{ta tb:TE}{pos:Pos}
def PC(X:Cx)(op:CmpOp)(a b:Expr)(t:TE):Prop :=
 ∀(pins:List (Addr×Obj))(s:Shared)(σ:St)(H:Hp)(Q:VK),Inv X pins σ H s->t σ H Q ->
  wpAny (model X.prog X.w) X.A (eval a X.env) (λv s₁=>wpAny (model X.prog X.w) X.A (eval b X.env) (λu s₂=>wpAny (model X.prog X.w) X.A (compareOp op v u) (EP X pins σ Q) X.xe s₂) X.xe s₁) X.xe s
def tB(t:TE):TT:=λσ H Q=>t σ H λx H1=>∃c,x=.bl c/\Q c H1
theorem pt_cmp{op:CmpOp}{t:TE}(h:PC X op a b t)(h1:behindInMarks op b=false:=by first|exact nobehind _ (by decide) (by decide)|rfl):PT X (.Compare a [op] [b] pos) (tB t):=by
 intro pins s σ H Q I hw
 refine wpAny_isTrue_Compare1 (thn (h pins s σ H _ I hw) λv s1 h1=>thn h1 λu s2 h2=>thn h2 λc s3 ⟨x,H1,I1,r1,q1⟩=>?_) h1
 obtain⟨d,rfl,q⟩:=q1
 cases r1
 exact Wu ⟨H1,I1,q⟩
theorem pt_val{e:Expr}{t:TE}(h:PE X e t)(he:∀whole,isTrue e X.env whole=(do let v <-whole;standAt e.pos;holding [v] (truthy v)):=by intro _;rfl):PT X e (tB t):=by
 intro pins s σ H Q I hw
 refine isTrue_plain (thn (h pins s σ H _ I hw) λv s1 ⟨x,H1,I1,r1,q1⟩=>?_) (he _)
 obtain⟨d,rfl,q⟩:=q1
 cases r1
 exact Wu ⟨H1,I1,q⟩
variable{tA tB':TT}{rest:List Expr}
def tAnd(t u:TT):TT:=λσ H Q=>t σ H λc H1=>if c=true then u σ H1 Q else Q false H1
def tOr(t u:TT):TT:=λσ H Q=>t σ H λc H1=>if c=true then Q true H1 else u σ H1 Q
def tNot(t:TT):TT:=λσ H Q=>t σ H λc H1=>Q (!c) H1
theorem pw_and1(ha:PT X a tA):PW X (.BoolOp .And [a] pos) tA:=by
 intro wh pins s σ H Q I h
 refine isTrue_and (thn (ha pins s σ H Q I h) λc s1 e=>?_)
 cases c with
 |true=>exact isTrue_and_nil e
 |false=>exact e
theorem pw_or1(ha:PT X a tA):PW X (.BoolOp .Or [a] pos) tA:=by
 intro wh pins s σ H Q I h
 refine isTrue_or (thn (ha pins s σ H Q I h) λc s1 e=>?_)
 cases c with
 |false=>exact isTrue_or_nil e
 |true=>exact e
theorem pw_and(ha:PT X a tA)(hb:PW X (.BoolOp .And (b::rest) pos) tB'):PW X (.BoolOp .And (a::b::rest) pos) (tAnd tA tB'):=by
 intro wh pins s σ H Q I h
 refine isTrue_and (thn (ha pins s σ H _ I h) λc s1 ⟨H1,I1,q1⟩=>?_)
 cases c with
 |true=>exact hb wh pins s1 σ H1 Q I1 q1
 |false=>exact⟨H1,I1,q1⟩
theorem pw_or(ha:PT X a tA)(hb:PW X (.BoolOp .Or (b::rest) pos) tB'):PW X (.BoolOp .Or (a::b::rest) pos) (tOr tA tB'):=by
 intro wh pins s σ H Q I h
 refine isTrue_or (thn (ha pins s σ H _ I h) λc s1 ⟨H1,I1,q1⟩=>?_)
 cases c with
 |true=>exact⟨H1,I1,q1⟩
 |false=>exact hb wh pins s1 σ H1 Q I1 q1
theorem pt_not(ha:PT X a tA):PT X (.UnaryOp .Not a pos) (tNot tA):=by
 intro pins s σ H Q I h
 exact isTrue_not (ha pins s σ H (λc H1=>Q (!c) H1) I h)
def jj2(ta tb:TE):TE:=λσ H Q=>ta σ H λx H1=>∃c,x=.bl c/\if c=true then tb σ H1 Q else Q (.bl false) H1
theorem pe_one{op}{t:TE}(h:PE X a t):PE X (.BoolOp op [a] pos) t:=λpins s σ H Q I hw=>BoolOp_one (h pins s σ H Q I hw)
theorem pe_and(ha:PE X a ta)(hb:PE X (.BoolOp .And (b::rest) pos) tb):PE X (.BoolOp .And (a::b::rest) pos) (jj2 ta tb):=by
 intro pins s σ H Q I h
 refine BoolOp_and (thn (ha pins s σ H _ I h) λv s1 ⟨x,H1,I1,r1,q1⟩=>?_)
 obtain⟨c,rfl,q1⟩:=q1
 cases r1
 refine Wu ?_
 cases c with
 |true=>exact hb pins s1 σ H1 Q I1 q1
 |false=>exact⟨.bl false,H1,I1,rfl,q1⟩
end
def SqL(K:PySem.W.Frag)(H:Hp)(a:Addr)(xs:List V):Prop :=
 Rd H a (.lst xs) \/
  ∃(o:Obj)(its:Array Value)(n:Nat),K.lookup a=some o/\o.cls=.type "list"/\o.dict=none/\o.data=.seq its n/\its.size<=sizeLine/\Vals xs its.toList
def SqT(K:PySem.W.Frag)(H:Hp)(a:Addr)(xs:List V):Prop :=
 Rd H a (.tup xs) \/
  ∃(o:Obj)(its:Array Value)(n:Nat),K.lookup a=some o/\o.cls=.type "tuple"/\o.data=.seq its n/\its.size<=sizeLine/\Vals xs its.toList
def absV:Value->Option V
 |.none=>some .non
 |.bool b=>some (.bl b)
 |.int i _=>some (.int i)
 |.str x _=>some (.str x)
 |.bytes b _=>some (.byt b)
 |.float b _=>some (.flt b)
 |.ref a=>some (.ref a)
 |.type n=>some (.ty n)
 |_=>none
theorem RelV.abs{x:V}{u:Value}(r:RelV x u):absV u=some x:=by
 cases x with
 |non=>cases r;rfl
 |bl _=>cases r;rfl
 |int _=>obtain⟨t,rfl⟩:=r;rfl
 |str _=>obtain⟨t,rfl⟩:=r;rfl
 |byt _=>obtain⟨t,rfl⟩:=r;rfl
 |flt _=>obtain⟨t,rfl⟩:=r;rfl
 |ref _=>cases r;rfl
 |ty _=>cases r;rfl
theorem RelV.inj{x y:V}{u:Value}(r:RelV x u)(q:RelV y u):x=y:=Aq (r.abs.symm.trans q.abs)
theorem Vals.inj:∀{xs ys:List V}{us:List Value},Vals xs us->Vals ys us->xs=ys
 |_,_,_,.nil,.nil=>rfl
 |_,_,_,.cons r t,.cons r' t'=>by rw[r.inj r',Vals.inj t t']
section
variable{X:Cx}{pins:List (Addr×Obj)}{σ:St}{H:Hp}{s:Shared}{a:Addr}{xs ys:List V}
theorem SqL.of{K:PySem.W.Frag}(h:H a=some (.lst xs)):SqL K H a xs:=.inl (.inl h)
theorem SqT.of{K:PySem.W.Frag}(h:H a=some (.tup xs)):SqT K H a xs:=.inl (.inl h)
theorem Inv.list(I:Inv X pins σ H s)(h:SqL X.K H a xs):∃its:List Value,Vals xs its/\PlainL s.heap a its.toArray/\xs.length<=sizeLine:=by
 rcases h with h|⟨o,its,n,hk,hc,hd,hs,hz,r⟩
 ·obtain⟨z,its,n,r,e⟩:=h.ok I.hok
  exact⟨its,r,⟨_,n,e,rfl,rfl,rfl⟩,z⟩
 ·refine⟨its.toList,r,⟨o,n,I.kIn a o hk,hc,hd,by simpa using hs⟩,?_⟩
  have e:=r.length
  simp only[Array.length_toList]at e
  omega
theorem Inv.tuple(I:Inv X pins σ H s)(h:SqT X.K H a xs):∃its:List Value,Vals xs its/\IsTup s.heap a its.toArray/\xs.length<=sizeLine:=by
 rcases h with h|⟨o,its,n,hk,hc,hs,hz,r⟩
 ·obtain⟨z,its,r,p⟩:=h.ok I.hok
  exact⟨its,r,p,z⟩
 ·refine⟨its.toList,r,⟨o,I.kIn a o hk,hc,n,by simpa using hs⟩,?_⟩
  have e:=r.length
  simp only[Array.length_toList]at e
  omega
theorem Inv.list_inj(I:Inv X pins σ H s)(h:SqL X.K H a xs)(h':SqL X.K H a ys):xs=ys:=by
 obtain⟨its,r,⟨o,n,e,_,_,d⟩,_⟩:=I.list h
 obtain⟨its',r',⟨o',n',e',_,_,d'⟩,_⟩:=I.list h'
 rw[e]at e';cases e'
 rw[d]at d'
 injection d' with d1 _
 have:its=its':=by simpa using Um Array.toList d1
 subst this
 exact r.inj r'
theorem Inv.tuple_inj(I:Inv X pins σ H s)(h:SqT X.K H a xs)(h':SqT X.K H a ys):xs=ys:=by
 obtain⟨its,r,⟨o,e,_,n,d⟩,_⟩:=I.tuple h
 obtain⟨its',r',⟨o',e',_,n',d'⟩,_⟩:=I.tuple h'
 rw[e]at e';cases e'
 rw[d]at d'
 injection d' with d1 _
 have:its=its':=by simpa using Um Array.toList d1
 subst this
 exact r.inj r'
end
abbrev Cx.wish(X:Cx)(E:Value->Shared->Prop):Cx:={X with xe:=E}
abbrev Cx.nox(X:Cx):Cx:=X.wish λ_ _=>False
theorem Cx.Ok.wish{X:Cx}(ok:X.Ok)(E:Value->Shared->Prop):(X.wish E).Ok :=
 ⟨ok.mod,ok.kind,ok.glob,ok.blt,ok.above,ok.inj,ok.has,ok.cab,ok.hd,ok.frames,ok.stk,ok.exf,ok.bs,ok.bsz,ok.noex,ok.exfs,ok.funs,ok.frf⟩
theorem Cx.Ok.unwish{X:Cx}{E:Value->Shared->Prop}(ok:(X.wish E).Ok):X.Ok :=
 ⟨ok.mod,ok.kind,ok.glob,ok.blt,ok.above,ok.inj,ok.has,ok.cab,ok.hd,ok.frames,ok.stk,ok.exf,ok.bs,ok.bsz,ok.noex,ok.exfs,ok.funs,ok.frf⟩
section
variable{X:Cx}{pins:List (Addr×Obj)}{σ:St}{H:Hp}{s:Shared}{E:Value->Shared->Prop}
theorem Inv.wish(I:Inv X pins σ H s)(E:Value->Shared->Prop):Inv (X.wish E) pins σ H s:=⟨I.ok.wish E,I.os,I.bare,I.base,I.loc,I.cell,I.free,I.freeC,I.pin,I.hok,I.len⟩
theorem Inv.unwish(I:Inv (X.wish E) pins σ H s):Inv X pins σ H s:=⟨I.ok.unwish,I.os,I.bare,I.base,I.loc,I.cell,I.free,I.freeC,I.pin,I.hok,I.len⟩
theorem SP.unwish{D:Ends}{f:Flow}{s':Shared}(h:SP (X.wish E) pins D f s'):SP X pins D f s':=by
 cases f with
 |next=>obtain⟨σ',H',I,q⟩:=h;exact⟨σ',H',I.unwish,q⟩
 |brk=>obtain⟨σ',H',I,q⟩:=h;exact⟨σ',H',I.unwish,q⟩
 |cont=>obtain⟨σ',H',I,q⟩:=h;exact⟨σ',H',I.unwish,q⟩
 |ret u=>obtain⟨v,σ',H',I,r,q⟩:=h;exact⟨v,σ',H',I.unwish,r,q⟩
theorem PSs.nox{st:List Stmt}{t:TS}(h:PSs X.nox st t):PSs X st t:=λpins s σ H D I hw =>
 Ur (h pins s σ H D (I.wish _) hw) (λ_ _ q=>q.unwish) λ_ _ z=>False.elim z
end
section
variable{X:Cx}{st:Stmt}{rest:List Stmt}{t u:TS}{e:Expr}{te:TE}{pos:Pos}
def jj8:TS:=λD σ H=>D.nx σ H
def tSeq(t u:TS):TS:=λD σ H=>t {D with nx:=u D} σ H
theorem pss_nil:PSs X [] jj8:=λ_ _ σ H _ I h=>Yz ⟨σ,H,I,h⟩
theorem pss_cons(h1:PS X st t)(h2:PSs X rest u):PSs X (st::rest) (tSeq t u):=by
 intro pins s σ H D I h
 refine wpAny_execs_cons (thn (h1 pins s σ H {D with nx:=u D} I h) λf s1 q=>?_)
 cases f with
 |next =>
  obtain⟨σ',H',I',q⟩:=q
  exact h2 pins s1 σ' H' D I' q
 |ret v=>exact q
 |brk=>exact q
 |cont=>exact q
theorem pss_one(h1:PS X st t):PSs X [st] t:=by
 intro pins s σ H D I h
 refine wpAny_execs_cons (thn (h1 pins s σ H D I h) λf s1 q=>?_)
 cases f with
 |next=>exact Yz q
 |ret v=>exact q
 |brk=>exact q
 |cont=>exact q
def jj5:TS:=λD σ H=>D.ct σ H
theorem ps_continue:PS X (.Continue pos) jj5:=λ_ _ σ H _ I h=>wpAny_Continue ⟨σ,H,I,h⟩
theorem Inv.quiet{pins:List (Addr×Obj)}{σ:St}{H:Hp}{s:Shared}(I:Inv X pins σ H s):interactive X.env=false:=by simp[interactive,I.ok.kind]
def jj7(te:TE):TS:=λD σ H=>te σ H λ_ H1=>D.nx σ H1
theorem ps_expr(he:PE X e te)(hs:swapsWith e none pos.line X.env=pure false:=by rfl):PS X (.Expr e pos) (jj7 te):=by
 intro pins s σ H D I h
 exact wpAny_Expr_any (thn (he pins s σ H _ I h) λv s1 ⟨x,H1,I1,r1,q1⟩=>⟨σ,H1,I1,q1⟩) I.quiet hs
def tRet(te:TE):TS:=λD σ H=>te σ H D.rt
theorem ps_ret(he:PE X e te):PS X (.Return (some e) pos) (tRet te):=by
 intro pins s σ H D I h
 exact wpAny_Return_some (thn (he pins s σ H _ I h) λv s1 ⟨x,H1,I1,r1,q1⟩=>⟨x,σ,H1,I1,r1,q1⟩)
def tIfS(c:TT)(t u:TS):TS:=λD σ H=>c σ H λb H1=>if b=true then t D σ H1 else u D σ H1
theorem ps_if{c:Expr}{a b:List Stmt}{tc:TT}(hc:PT X c tc)(ha:PSs X a t)(hb:PSs X b u):PS X (.If c a b pos) (tIfS tc t u):=by
 intro pins s σ H D I h
 refine wpAny_If (thn (hc pins s σ H _ I h) λd s1 ⟨H1,I1,q1⟩=>?_)
 cases d with
 |true=>exact ha pins s1 σ H1 D I1 q1
 |false=>exact hb pins s1 σ H1 D I1 q1
def jpp:TS:=λ_ _ _=>False
theorem ps_never:PS X st jpp:=λ_ _ _ _ _ _ h=>h.elim
end
abbrev TG:=V->St->Hp->(St->Hp->Prop)->Prop
abbrev TGs:=List V->St->Hp->(St->Hp->Prop)->Prop
def PG(X:Cx)(target:Expr)(t:TG):Prop :=
 ∀(pins:List (Addr×Obj))(s:Shared)(σ:St)(H:Hp)(v:V)(u:Value)(Q:St->Hp->Prop),Inv X pins σ H s->RelV v u->t v σ H Q ->
  wpAny (model X.prog X.w) X.A (assign target X.env u) (λ_ s'=>∃σ' H',Inv X pins σ' H' s'/\Q σ' H') X.xe s
def PGs(X:Cx)(ts:List Expr)(t:TGs):Prop :=
 ∀(pins:List (Addr×Obj))(s:Shared)(σ:St)(H:Hp)(vs:List V)(us:List Value)(Q:St->Hp->Prop),Inv X pins σ H s->Vals vs us->t vs σ H Q ->
  wpAny (model X.prog X.w) X.A (assignInOrder ((assignEach ts X.env).map (·.2)) us) (λ_ s'=>∃σ' H',Inv X pins σ' H' s'/\Q σ' H') X.xe s
abbrev TSet:=V->V->V->Hp->(Hp->Prop)->Prop
def PSet(X:Cx)(t:TSet):Prop :=
 ∀(pins:List (Addr×Obj))(s:Shared)(σ:St)(H:Hp)(o i v:V)(ov iv u:Value)(Q:Hp->Prop),Inv X pins σ H s->RelV o ov->RelV i iv->RelV v u->t o i v H Q ->
  wpAny (model X.prog X.w) X.A (setItem ov iv u) (λ_ s'=>∃H',Inv X pins σ H' s'/\Q H') X.xe s
abbrev TIp:=V->V->Hp->VK->Prop
def PIp(X:Cx)(op:Operator)(t:TIp):Prop :=
 ∀(pins:List (Addr×Obj))(s:Shared)(σ:St)(H:Hp)(x y:V)(v u:Value)(Q:VK),Inv X pins σ H s->RelV x v->RelV y u->t x y H Q ->
  wpAny (model X.prog X.w) X.A (inplaceOp op v u) (EP X pins σ Q) X.xe s
section
variable{X:Cx}{pos:Pos}
def jdi(i:Nat):TG:=λv σ H Q=>Q (σ.set i (some v)) H
theorem pg_name{i:Nat}{x:Str}(hN:X.N.Nodup)(hi:X.N[i]?=some x)(hx:Loc X.env.scope x)(hf:X.fn x=true\/X.env.scope.names.lookup x=some .local:=by first|exact .inl rfl|exact .inr rfl|assumption):PG X (.Name x pos) (jdi i):=by
 intro pins s σ H v u Q I r h
 exact wpAny_assign_Name (jgz I hN hi hx r (λs' I'=>⟨_,H,I',h⟩) hf)
def gNil:TGs:=λvs σ H Q=>vs=[]/\Q σ H
def jqv(t:TG)(u:TGs):TGs:=λvs σ H Q=>∃v r,vs=v::r/\t v σ H λσ' H'=>u r σ' H' Q
theorem pgs_nil:PGs X [] gNil:=by
 intro pins s σ H vs us Q I r h
 obtain⟨e,h⟩:=h
 subst e
 cases r
 exact assignInOrder_nil ⟨σ,H,I,h⟩
theorem pgs_cons{e:Expr}{es:List Expr}{t:TG}{u:TGs}(h1:PG X e t)(h2:PGs X es u)
  (hs:(assignEach (e::es) X.env).map (·.2)=assign e X.env::(assignEach es X.env).map (·.2):=by rfl):PGs X (e::es) (jqv t u):=by
 intro pins s σ H vs us Q I r h
 obtain⟨v,vr,e1,h⟩:=h
 subst e1
 cases r with
 |cons r rr =>
  rw[hs]
  refine assignInOrder_cons (thn (h1 pins s σ H _ _ _ I r h) λ_ s1 ⟨σ1,H1,I1,q1⟩=>?_)
  exact h2 pins s1 σ1 H1 _ _ Q I1 rr q1
def gTup(K:PySem.W.Frag)(n:Nat)(t:TGs):TG:=λv σ H Q=>∃a xs,v=.ref a/\SqT K H a xs/\xs.length=n/\t xs σ H Q
theorem pg_tup{es:List Expr}{k:Nat}{t:TGs}{n:Nat}(hc:X.calm=true)(h:PGs X es t)
  (hn:(assignEach es X.env).length=n:=by rfl) (hst:(assignEach es X.env).findIdx? (·.1)=none:=by rfl):PG X (.Tuple es k pos) (gTup X.K n t):=by
 intro pins s σ H v u Q I r hw
 obtain⟨a,xs,e1,hq,hl,hw⟩:=hw
 subst e1
 cases r
 obtain⟨its,rv,ht,hz⟩:=I.tuple hq
 refine assign_Tuple_tuple (I.ok.hd hc) ht (by simp[hn,<-hl,rv.length]) hst λh' hx=>?_
 have I1:Inv X pins σ H {s with heap:=h'}:=I.kept (t':=s.toks) λb o e=>hx b o (Ax (At e)) e
 exact h pins _ σ H xs _ Q I1 (by simpa using rv) hw
def gSub(to ti:TE)(t:TSet):TG:=λv σ H Q=>to σ H λo H1=>ti σ H1 λi H2=>t o i v H2 λH3=>Q σ H3
theorem pg_sub{o i:Expr}{to ti:TE}{t:TSet}(ho:PE X o to)(hi:PE X i ti)(hs:PSet X t)
  (ha:∀v,assign (.Subscript o i pos) X.env v=(do
   let ov <-holding [v] (eval o X.env)
   let iv <-holding [v,ov] (eval i X.env)
   standAt pos
   holding [v,ov,iv] (setItem ov iv v)
   release [v,ov,iv] []):=by intro _;rfl):PG X (.Subscript o i pos) (gSub to ti t):=by
 intro pins s σ H v u Q I r h
 rw[ha]
 refine Ab (Og (thn (ho pins s σ H _ I h) λov s1 ⟨x,H1,I1,r1,q1⟩=>?_))
 refine Ab (Og (thn (hi pins s1 σ H1 _ I1 q1) λiv s2 ⟨y,H2,I2,r2,q2⟩=>?_))
 refine Ab (W6 (Ab (Og (thn (hs pins s2 σ H2 x y v ov iv u _ I2 r1 r2 r q2) λ_ s3 ⟨H3,I3,q3⟩=>?_))))
 exact wpAny_release ⟨σ,H3,I3,q3⟩
def tAsg(te:TE)(g:TG):TS:=λD σ H=>te σ H λx H1=>g x σ H1 D.nx
theorem ps_asg{tg e:Expr}{te:TE}{g:TG}(he:PE X e te)(hg:PG X tg g)(hs:swapsWithSole [tg] e pos.line X.env=pure false:=by rfl)(hw:swappedStores [tg] e X.env=pure none:=by rfl)
  (h1:(assignEach [tg] X.env).map (·.2)=[assign tg X.env]:=by rfl):PS X (.Assign [tg] e pos) (tAsg te g):=by
 intro pins s σ H D I h
 refine wpAny_Assign_stores (thn (he pins s σ H _ I h) λv s1 ⟨x,H1,I1,r1,q1⟩=>?_) hs hw
 rw[h1]
 exact thn (hg pins s1 σ H1 x v _ I1 r1 q1) λ_ s2 q=>q
theorem ps_set{i:Nat}{x:Str}{e:Expr}{te:TE}{pos':Pos}(hN:X.N.Nodup)(hi:X.N[i]?=some x)(hx:Loc X.env.scope x)(he:PE X e te)(hs:swapsWith e (some (.Name x pos')) pos.line X.env=pure false:=by rfl)(hf:X.fn x=true\/X.env.scope.names.lookup x=some .local:=by first|exact .inl rfl|exact .inr rfl|assumption) :
  PS X (.Assign [.Name x pos'] e pos) (tAsg te (jdi i)):=by
 intro pins s σ H D I h
 refine wpAny_Assign_Name (thn (he pins s σ H _ I h) λv s1 ⟨y,H1,I1,r1,q1⟩=>?_) hs
 exact jgz I1 hN hi hx r1 (λs2 I2=>⟨_,H1,I2,q1⟩) hf
def tAug(i:Nat)(te:TE)(ti:TIp):TS:=λD σ H=>∃x,σ[i]?=some (some x)/\te σ H λy H1=>ti x y H1 λz H2=>D.nx (σ.set i (some z)) H2
theorem ps_aug{i:Nat}{x:Str}{e:Expr}{te:TE}{op:Operator}{ti:TIp}{pos':Pos}(hN:X.N.Nodup)(hi:X.N[i]?=some x)(hx:Loc X.env.scope x)(he:PE X e te)(ho:PIp X op ti)(hf:X.fn x=true\/X.env.scope.names.lookup x=some .local:=by first|exact .inl rfl|exact .inr rfl|assumption) :
  PS X (.AugAssign (.Name x pos') op e pos) (tAug i te ti):=by
 intro pins s σ H D I h
 obtain⟨v,e1,h⟩:=h
 obtain⟨m,hn,hl⟩:=I.loc
 have vis:Vis X.env.scope x:=by rcases hx with k|k;exact .inl k;exact .inr (.inl k)
 obtain⟨u,r,l⟩:=hl i x v hi e1 vis
 refine wpAny_AugAssign_Name ?_
 have go:wpAny (model X.prog X.w) X.A (eval e X.env) (λw s₂=>wpAny (model X.prog X.w) X.A (inplaceOp op u w) (λr s₃=>wpAny (model X.prog X.w) X.A (storeName X.env x r) (λ_=>SP X pins D .next) X.xe s₃) X.xe s₂) X.xe s:=by
  refine thn (he pins s σ H _ I h) λw s1 ⟨y,H1,I1,r1,q1⟩=>?_
  refine thn (ho pins s1 σ H1 v y u w _ I1 r r1 q1) λz s2 ⟨zv,H2,I2,r2,q2⟩=>?_
  exact jgz I2 hN hi hx r2 (λs3 I3=>⟨_,H2,I3,q2⟩) hf
 rcases l with⟨hk,hm⟩|⟨hk,c,hc,hcell⟩
 ·exact wpAny_loadName_local I.ok.kind hk hn hm go
 ·rcases hk with hk|hk
  ·exact wpAny_loadName_cell I.ok.kind hk hc hcell go
  ·rcases hx with k|k
   ·have:X.env.scope.names.lookup x=some .free:=hk
    rw[k]at this;cases this
   ·have:X.env.scope.names.lookup x=some .free:=hk
    rw[k]at this;cases this
def ipI(f:Int->Int->Int):TIp:=λx y H Q=>∃i j,x=.int i/\y=.int j/\Q (.int (f i j)) H
theorem jsh:PIp X .Add (ipI λi j=>i+j):=by
 intro pins s σ H x y v u Q I r1 r2 h
 obtain⟨i,j,e1,e2,q⟩:=h
 subst e1;subst e2
 obtain⟨t,rfl⟩:=r1
 obtain⟨t',rfl⟩:=r2
 exact iadd_int ⟨.int _,H,I.tok _,⟨_,rfl⟩,q⟩
def jh2(c:TT)(tb:TS):TS:=λD σ H=>∃W:Nat->St->Hp->Prop,(∃m,W m σ H)/\∀m σ H,W m σ H ->
 c σ H λb H1=>if b=true then ∃N:St->Hp->Prop,(∀σ' H',N σ' H'->∃m',m'<m/\W m' σ' H')/\tb {D with nx:=N,ct:=N,bk:=D.nx} σ H1 else D.nx σ H1
theorem ps_while{c:Expr}{body:List Stmt}{tc:TT}{tb:TS}(hp:PassesOwn (model X.prog X.w) X.A X.env X.xe)(hc:PT X c tc)(hb:PSs X body tb):PS X (.While c body [] pos) (jh2 tc tb):=by
 intro pins s σ H D I h
 obtain⟨W,⟨m0,w0⟩,turn⟩:=h
 refine wpAny_While (codeAny_whileLoop (λn s'=>∃σ' H',Inv X pins σ' H' s'/\W n σ' H') ?_ m0 ⟨σ,H,I,w0⟩)
 rintro n s1 ⟨σ1,H1,I1,w1⟩
 refine U4 hp (thn (hc pins s1 σ1 H1 _ I1 (turn n σ1 H1 w1)) λb s2 ⟨H2,I2,q2⟩=>?_)
 cases b with
 |true =>
  obtain⟨N,hN,q2⟩:=q2
  rw[Ao rfl]
  refine U4 hp (thn (hb pins s2 σ1 H2 _ I2 q2) λf s3 q3=>?_)
  cases f with
  |next =>
   obtain⟨σ3,H3,I3,n3⟩:=q3
   obtain⟨m',hm,w3⟩:=hN σ3 H3 n3
   exact⟨m',hm,σ3,H3,I3,w3⟩
  |cont =>
   obtain⟨σ3,H3,I3,n3⟩:=q3
   obtain⟨m',hm,w3⟩:=hN σ3 H3 n3
   exact⟨m',hm,σ3,H3,I3,w3⟩
  |brk=>exact q3
  |ret v=>exact q3
 |false =>
  rw[Am A7]
  exact Yz ⟨σ1,H2,I2,q2⟩
end
structure It where
 go:Nat->Hp->Prop
 yld:Nat->Hp->V->Hp->Prop
 stop:Nat->Hp->Prop
def FpOk(X:Cx)(pins:List (Addr×Obj))(H:Hp)(b:Addr):Prop :=
 H b=none/\b≠X.env.locals/\b∉X.fs/\(b∈X.ex\/X.s₀.heap.objs.size<=b)/\(∀x c,X.env.cells.lookup x=some c->c≠b)/\∀p∈X.pn++pins,p.1≠b
theorem Inv.fpOk{X:Cx}{pins:List (Addr×Obj)}{σ:St}{H H':Hp}{s:Shared}{b:Addr}(I:Inv X pins σ H s)(hb:s.heap.objs.size<=b)(hn:H' b=none):FpOk X pins H' b:=by
 refine⟨hn,Wc (A4 I.lt hb),I.nofs hb,.inr (Im I.sz hb),λx c e z=>?_,λp hp z=>?_⟩
 ·obtain⟨v,q⟩:=I.cell x c e
  exact absurd (A4 q.lt (by rw[z];exact hb)) (Wm _)
 ·exact absurd (A4 (At (I.pin p hp).1) (by rw[z];exact hb)) (Wm _)
structure Turn(P:Program)(w:World)(K:PySem.W.Frag)(tg:Expr)(J:It)(fp:List Addr)(it:Addr)(tn:Nat->Heap->Prop):Prop where
 mem:it∈fp
 obj:∀i h,tn i h->∀b∈fp,∃o,h.get? b=some o/\∀v,o.data≠.cell v
 keep:∀i h h',tn i h->(∀b∈fp,∀o,h.get? b=some o->h'.get? b=some o)->tn i h'
 item:∀(X:Cx),X.prog=P->X.w=w->X.K=K->X.calm=true->∀(i:Nat)(pins:List (Addr×Obj))(s:Shared)(σ:St)(H:Hp)(E:Value->Shared->Prop),Inv X pins σ H s->(∀b∈fp,FpOk X pins H b)->tn i s.heap->J.go i H ->
  wpAny (model P w) X.A (pyNext (.ref it)) (λr s1=>∃u,r=some u /\
   wpAny (model P w) X.A (letOwnedTupleGo tg (.ref it) u) (λ_ s2=>∃x H',Inv X pins σ H' s2/\RelV x u/\J.yld i H x H'/\tn (i+1) s2.heap/\∀b∈fp,H' b=none) E s1) E s
 done:∀(X:Cx),X.prog=P->X.w=w->X.K=K->X.calm=true->∀(i:Nat)(pins:List (Addr×Obj))(s:Shared)(σ:St)(H:Hp)(E:Value->Shared->Prop),Inv X pins σ H s->(∀b∈fp,FpOk X pins H b)->tn i s.heap->J.stop i H ->
  wpAny (model P w) X.A (pyNext (.ref it)) (λr s1=>r=none/\Inv X pins σ H s1) E s
 self:∀(A:Around)(i:Nat)(s:Shared)(Q:Value->Shared->Prop)(E:Value->Shared->Prop),tn i s.heap->Q (.ref it) s->wpAny (model P w) A (pyIter (.ref it)) Q E s
abbrev TI:=St->Hp->(It->Hp->Prop)->Prop
def PIE(X:Cx)(pins:List (Addr×Obj))(σ:St)(tg:Expr)(R:It->Hp->Prop)(itv:Value)(s2:Shared):Prop :=
 ∃(it:Addr)(fp:List Addr)(tn:Nat->Heap->Prop)(J:It)(H':Hp),itv=.ref it/\Inv X pins σ H' s2/\Turn X.prog X.w X.K tg J fp it tn/\tn 0 s2.heap/\(∀b∈fp,FpOk X pins H' b)/\R J H'
def PI(X:Cx)(tg iter:Expr)(wi:TI):Prop :=
 ∀(pins:List (Addr×Obj))(s:Shared)(σ:St)(H:Hp)(R:It->Hp->Prop),Inv X pins σ H s->wi σ H R ->
  wpAny (model X.prog X.w) X.A (eval iter X.env) (λv s1=>wpAny (model X.prog X.w) X.A (pyIter v) (PIE X pins σ tg R) X.xe s1) X.xe s
theorem jf4{M:Model}{A:Around}{E:Value->Shared->Prop}{s:Shared}{tg:Expr}{it:Addr}{u:Value}{o:Obj}{n:String}{vs:Array Value}{Q:Unit->Shared->Prop}(ho:s.heap.get? it=some o)(hc:o.cls=.type n)(hd:o.data=.fields vs)
  (hn:["enumerate","zip","dict_itemiterator","dict_reverseitemiterator","odict_iterator","itertools.zip_longest","itertools.pairwise"].contains n=false) (hQ:Q () s):wpAny M A (letOwnedTupleGo tg (.ref it) u) Q E s:=by
 unfold letOwnedTupleGo
 cases tg <;> first
  |exact Ah hQ
  |(cases u <;> first
    |exact Ah hQ
    |(refine Ab (wpAny_load ho ?_)
      rw[hc,hd]
      show wpAny M A (if(["enumerate","zip","dict_itemiterator","dict_reverseitemiterator","odict_iterator","itertools.zip_longest","itertools.pairwise"].contains n && vs[0]? == some (rawInt _))=true then _ else _) Q E s
      rw[Am (by intro h;rw[hn,Bool.false_and]at h;cases h)]
      exact Ah hQ))
def Itl(K:PySem.W.Frag)(a:Addr):It :=
 ⟨λi H=>∃xs x,SqL K H a xs/\xs[i]?=some x,λi H x H'=>H'=H/\∀xs,SqL K H a xs->xs[i]?=some x,λi H=>∃xs,SqL K H a xs/\xs.length<=i⟩
def Itt(K:PySem.W.Frag)(a:Addr):It :=
 ⟨λi H=>∃xs x,SqT K H a xs/\xs[i]?=some x,λi H x H'=>H'=H/\∀xs,SqT K H a xs->xs[i]?=some x,λi H=>∃xs,SqT K H a xs/\xs.length<=i⟩
def Itr(lo:Int)(n:Nat):It:=⟨λi _=>i<n,λi H x H'=>H'=H/\x=.int (lo+i),λi _=>n<=i⟩
theorem jpq{P:Program}{w:World}{K:PySem.W.Frag}{tg:Expr}(a it:Addr):Turn P w K tg (Itl K a) [it] it (λi h=>h.IsListIter it a i) where
 mem:=by simp
 obj:=λi h st b hb=>by
  have e:b=it:=by simpa using hb
  subst e
  obtain⟨o,e,c,d⟩:=st
  exact⟨o,e,λv z=>by rw[d]at z;cases z⟩
 keep:=λi h h' st k=>st.at λo e=>k it (by simp) o e
 item:=by
  intro X hP hw hK hc i pins s σ H E I hf st hg
  subst hP hw hK
  obtain⟨xs,x,hq,hx⟩:=hg
  obtain⟨its,rv,p,hz⟩:=I.list hq
  obtain⟨u,hu,ru⟩:=rv.get hx
  obtain⟨f0,f1,f2,f3,f4,f5⟩:=hf it (by simp)
  refine wpAny_pyNext_list_item st p.isList (x:=u) (by simpa using hu) λh' st' sb=>?_
  have I1:Inv X pins σ H {s with heap:=h'}:=I.turned (t':=s.toks) (λb o hb e=>(sb.2 b hb).trans e) f0 f1 f3 f4 f5
  obtain⟨o,e,c,d⟩:=id st'
  exact⟨u,rfl,jf4 (s:={s with heap:=h'}) e c d (by decide) ⟨x,H,I1,ru,⟨rfl,λys hy=>by rw[I.list_inj hy hq];exact hx⟩,st',λb hb=>(hf b hb).1⟩⟩
 done:=by
  intro X hP hw hK hc i pins s σ H E I hf st hg
  subst hP hw hK
  obtain⟨xs,hq,hx⟩:=hg
  obtain⟨its,rv,p,hz⟩:=I.list hq
  obtain⟨f0,f1,f2,f3,f4,f5⟩:=hf it (by simp)
  have hl:=rv.length
  exact wpAny_pyNext_list_end (I.ok.hd hc) st p.isList (by simp;omega) λh' eb=>⟨rfl,I.turned (t':=s.toks) (λb o hb e=>eb b o hb e) f0 f1 f3 f4 f5⟩
 self:=λ_ _ _ _ _ st h=>wpAny_pyIter_listiter st h
theorem job{P:Program}{w:World}{K:PySem.W.Frag}{tg:Expr}(a it:Addr):Turn P w K tg (Itt K a) [it] it (λi h=>h.IsTupleIter it a i) where
 mem:=by simp
 obj:=λi h st b hb=>by
  have e:b=it:=by simpa using hb
  subst e
  obtain⟨o,e,c,d⟩:=st
  exact⟨o,e,λv z=>by rw[d]at z;cases z⟩
 keep:=λi h h' st k=>st.at λo e=>k it (by simp) o e
 item:=by
  intro X hP hw hK hc i pins s σ H E I hf st hg
  subst hP hw hK
  obtain⟨xs,x,hq,hx⟩:=hg
  obtain⟨its,rv,p,hz⟩:=I.tuple hq
  obtain⟨u,hu,ru⟩:=rv.get hx
  obtain⟨f0,f1,f2,f3,f4,f5⟩:=hf it (by simp)
  refine wpAny_pyNext_tuple_item st (show s.heap.IsTuple a its.toArray from p) (x:=u) (by simpa using hu) λh' st' sb=>?_
  have I1:Inv X pins σ H {s with heap:=h'}:=I.turned (t':=s.toks) (λb o hb e=>(sb.2 b hb).trans e) f0 f1 f3 f4 f5
  obtain⟨o,e,c,d⟩:=id st'
  exact⟨u,rfl,jf4 (s:={s with heap:=h'}) e c d (by decide) ⟨x,H,I1,ru,⟨rfl,λys hy=>by rw[I.tuple_inj hy hq];exact hx⟩,st',λb hb=>(hf b hb).1⟩⟩
 done:=by
  intro X hP hw hK hc i pins s σ H E I hf st hg
  subst hP hw hK
  obtain⟨xs,hq,hx⟩:=hg
  obtain⟨its,rv,p,hz⟩:=I.tuple hq
  obtain⟨f0,f1,f2,f3,f4,f5⟩:=hf it (by simp)
  have hl:=rv.length
  exact wpAny_pyNext_tuple_end (I.ok.hd hc) st (show s.heap.IsTuple a its.toArray from p) (by simp;omega) λh' eb=>⟨rfl,I.turned (t':=s.toks) (λb o hb e=>eb b o hb e) f0 f1 f3 f4 f5⟩
 self:=λ_ _ _ _ _ st h=>wpAny_pyIter_tupleiter st h
theorem joa{P:Program}{w:World}{K:PySem.W.Frag}{tg:Expr}(it:Addr)(lo:Int)(n:Nat):Turn P w K tg (Itr lo n) [it] it (λi h=>IsRangeIter h it (lo+(i:Nat)*1) ((n:Int)-(i:Nat)) 1) where
 mem:=by simp
 obj:=λi h st b hb=>by
  have e:b=it:=by simpa using hb
  subst e
  exact⟨_,st,λv z=>by
   have z':Data.fields _=Data.cell v:=z
   cases z'⟩
 keep:=λi h h' st k=>k it (by simp) _ st
 item:=by
  intro X hP hw hK hc i pins s σ H E I hf st hg
  subst hP hw hK
  obtain⟨f0,f1,f2,f3,f4,f5⟩:=hf it (by simp)
  have W:=Walks.range (prog:=X.prog) (w:=X.w) (I.ok.hd hc) it lo 1 n
  refine W.item i s _ _ hg st λv h' tk hv st' kk=>?_
  obtain⟨t,rfl⟩:=hv
  have I1:Inv X pins σ H {s with heap:=h',toks:=tk}:=I.turned (λb o hb e=>kk b o (by simpa using hb) e) f0 f1 f3 f4 f5
  refine⟨_,rfl,jf4 (s:={s with heap:=h',toks:=tk}) (n:="range_iterator") st' rfl rfl (by decide) ⟨.int (lo+i),H,I1,⟨t,?_⟩,⟨rfl,rfl⟩,st',λb hb=>(hf b hb).1⟩⟩
  rw[Int.mul_one]
 done:=by
  intro X hP hw hK hc i pins s σ H E I hf st hg
  subst hP hw hK
  obtain⟨f0,f1,f2,f3,f4,f5⟩:=hf it (by simp)
  exact wpAny_pyNext_range_end (I.ok.hd hc) st (by have:n<=i:=hg;omega) λh' eb=>⟨rfl,I.turned (t':=s.toks) (λb o hb e=>eb b o hb e) f0 f1 f3 f4 f5⟩
 self:=λ_ _ _ _ _ st h=>wpAny_pyIter_rangeiter st h
section
variable{X:Cx}{tg:Expr}
theorem jqe{pins:List (Addr×Obj)}{σ:St}{H:Hp}{s:Shared}{R:It->Hp->Prop}{E:Value->Shared->Prop}{lo hi:Int}{t u v:Tok}{tk:Nat}(I:Inv X pins σ H s)(h1:-(2^62)<=lo)(h2:lo<2^62)(h3:-(2^62)<=hi)(h4:hi<2^62)
  (q:R (Itr lo (hi-lo).toNat) H):wpAny (model X.prog X.w) X.A (pyIter (.ref s.heap.objs.size)) (PIE X pins σ tg R) E {s with heap:=s.heap.push {cls:=.type "range",data:=.fields #[.int lo t,.int hi u,.int 1 v]},toks:=tk}:=by
 refine wpAny_pyIter_range (IsRange.new ..) (small_one h1 h2 h3 h4) ?_
 have I1:Inv X pins σ H {s with heap:=s.heap.push {cls:=.type "range",data:=.fields #[.int lo t,.int hi u,.int 1 v]},toks:=tk}:=I.kept λb o e=>Ai _ e
 refine⟨(s.heap.push {cls:=.type "range",data:=.fields #[.int lo t,.int hi u,.int 1 v]}).objs.size,[(s.heap.push {cls:=.type "range",data:=.fields #[.int lo t,.int hi u,.int 1 v]}).objs.size],_,_,H,rfl,
  I1.kept (t':=tk) λb o e=>Ai _ e,joa _ lo (hi-lo).toNat,?_,λb hb=>?_,q⟩
 ·have e1:lo+((0:Nat):Int)*1=lo:=by simp
  have e2:(((hi-lo).toNat:Nat):Int)-((0:Nat):Int)=Builtin.Range.rangeSize lo hi 1:=by rw[rangeSize_one];split <;> omega
  show IsRangeIter _ _ (lo+((0:Nat):Int)*1) ((((hi-lo).toNat:Nat):Int)-((0:Nat):Int)) 1
  rw[e1,e2]
  exact A1 _ rfl
 ·have e:b=(s.heap.push {cls:=.type "range",data:=.fields #[.int lo t,.int hi u,.int 1 v]}).objs.size:=by simpa using hb
  subst e
  exact I1.fpOk (Ak _) (I1.hok.fresh (Ak _))
def jjw(ta:TA):TI:=λσ H R=>ta σ H λvs H1=>∃j:Int,vs=[.int j]/\-(2^62)<=j/\j<2^62/\R (Itr 0 j.toNat) H1
theorem pi_range1{a:Expr}{ta:TA}{p pos:Pos}(hg:Gl X "range")(hm:X.mg "range"=none)(ha:PA X [a] ta)(hs:starEach [a] X.env=[(false,eval a X.env)]:=by rfl):PI X tg (.Call (.Name "range" p) [a] [] pos) (jjw ta):=by
 intro pins s σ H R I h
 refine Call_ (jdw I hg hm boot_range (Op (thn (ha pos pins s σ H _ I h) λus s1 ⟨vs,H1,I1,r1,q1⟩=>?_) hs rfl))
 obtain⟨j,e,q1,q2,q⟩:=q1
 subst e
 cases r1 with
 |cons r rr =>
  cases rr
  obtain⟨t,rfl⟩:=r
  exact call_range_1 (jqe I1 (by omega) (by omega) q1 q2 (by simpa using q))
def tFor(wi:TI)(g:TG)(tb:TS):TS:=λD σ H=>wi σ H λJ H1=>∃W:Nat->Nat->St->Hp->Prop,(∃m,W 0 m σ H1)/\∀i m σ H,W i m σ H ->
 (J.stop i H/\D.nx σ H)\/(J.go i H/\∃N:St->Hp->Prop,(∀σ' H',N σ' H'->∃m',m'<m/\W (i+1) m' σ' H')/\∀x H',J.yld i H x H'->g x σ H' λσ2 H2=>tb {D with nx:=N,ct:=N,bk:=D.nx} σ2 H2)
def jfp(fp:List Addr)(h:Heap):List (Addr×Obj):=fp.filterMap λb=>(h.get? b).map λo=>(b,o)
theorem jdt{fp:List Addr}{h:Heap}{b:Addr}{o:Obj}(hb:b∈fp)(e:h.get? b=some o):(b,o)∈jfp fp h:=Ya.mpr ⟨b,hb,by rw[e];rfl⟩
theorem jo9{fp:List Addr}{h:Heap}{p:Addr×Obj}(hp:p∈jfp fp h):p.1∈fp/\h.get? p.1=some p.2:=by
 obtain⟨b,hb,e⟩:=Ya.mp hp
 cases q:h.get? b with
 |none=>rw[q]at e;cases e
 |some o =>
  rw[q]at e
  have e':(b,o)=p:=Aq e
  subst e'
  exact⟨hb,q⟩
theorem Inv.pinned{pins:List (Addr×Obj)}{σ:St}{H:Hp}{s:Shared}{fp:List Addr}(I:Inv X pins σ H s)(hf:∀b∈fp,FpOk X pins H b)(ho:∀b∈fp,∃o,s.heap.get? b=some o/\∀v,o.data≠.cell v):Inv X (pins++jfp fp s.heap) σ H s :=
 I.pins_of λp hp=>(Aw.mp hp).elim (λz=>I.pin p (Io _ z)) λz=>by
  obtain⟨hb,e⟩:=jo9 z
  obtain⟨f0,f1,f2,_⟩:=hf p.1 hb
  obtain⟨o,e',d⟩:=ho p.1 hb
  rw[e]at e';cases e'
  exact⟨e,f0,f1,f2,d⟩
theorem Inv.unpinned{pins pl:List (Addr×Obj)}{σ:St}{H:Hp}{s:Shared}(I:Inv X (pins++pl) σ H s):Inv X pins σ H s:=I.pins_of λp hp=>I.pin p (Io _ (Iw _ hp))
theorem ps_for{iter:Expr}{body:List Stmt}{wi:TI}{g:TG}{tb:TS}{pos:Pos}(hp:PassesOwn (model X.prog X.w) X.A X.env X.xe)(hc:X.calm=true)(hi:PI X tg iter wi)(hg:PG X tg g)(hb:PSs X body tb)
  (hs:∀x,foldedSetIterable iter X.env x=pure x:=by intro _;rfl):PS X (.For tg iter body [] pos) (tFor wi g tb):=by
 intro pins s σ H D I h
 refine wpAny_For (thn (hi pins s σ H _ I h) λv s1 h1=>thn h1 λitv s2 h2=>?_) hs
 obtain⟨it,fp,tn,J,H2,e,I2,T,st2,f2,W,⟨m0,w0⟩,turn⟩:=h2
 subst e
 have stat:∀{H':Hp},(∀b∈fp,H' b=none)->∀b∈fp,FpOk X pins H' b:=λhn b hb=>⟨hn b hb,(f2 b hb).2⟩
 refine codeAny_forLoop_any (λn s'=>∃i σ' H',Inv X pins σ' H' s'/\tn i s'.heap/\(∀b∈fp,H' b=none)/\W i n σ' H') ?_ m0 ⟨0,σ,H2,I2,st2,λb hb=>(f2 b hb).1,w0⟩
 rintro n s3 ⟨i,σ3,H3,I3,st3,fr3,w3⟩
 rcases turn i n σ3 H3 w3 with⟨stop,qn⟩|⟨go,N,hN,step⟩
 ·refine U4 hp (thn (T.done X rfl rfl rfl hc i pins s3 σ3 H3 X.xe I3 (stat fr3) st3 stop) λr s4 ⟨hr,I4⟩=>?_)
  subst hr
  exact Yz ⟨σ3,H3,I4,qn⟩
 ·refine U4 hp (thn (T.item X rfl rfl rfl hc i pins s3 σ3 H3 X.xe I3 (stat fr3) st3 go) λr s4 ⟨u,hr,h4⟩=>?_)
  subst hr
  refine U4 hp (thn h4 λ_ s5 ⟨x,H5,I5,r5,y5,st5,fr5⟩=>?_)
  have I5':=I5.pinned (stat fr5) (T.obj _ _ st5)
  refine U4 hp (thn (hg _ s5 σ3 H5 x u _ I5' r5 (step x H5 y5)) λ_ s6 ⟨σ6,H6,I6,q6⟩=>?_)
  refine U4 hp (thn (hb _ s6 σ6 H6 _ I6 q6) λf s7 q7=>?_)
  have again:∀{σ7:St}{H7:Hp},Inv X (pins++jfp fp s5.heap) σ7 H7 s7->N σ7 H7->∃m,m<n/\∃i σ' H',Inv X pins σ' H' s7/\tn i s7.heap/\(∀b∈fp,H' b=none)/\W i m σ' H':=fun{σ7 H7} I7 n7=>by
   obtain⟨m',hm,w7⟩:=hN σ7 H7 n7
   refine⟨m',hm,i+1,σ7,H7,I7.unpinned,T.keep _ _ _ st5 λb hb o e=>(I7.pin (b,o) (Io _ (Io _ (jdt hb e)))).1,λb hb=>?_,w7⟩
   obtain⟨o,e,d⟩:=T.obj _ _ st5 b hb
   exact(I7.pin (b,o) (Io _ (Io _ (jdt hb e)))).2.1
  cases f with
  |next=>obtain⟨σ7,H7,I7,n7⟩:=q7;exact again I7 n7
  |cont=>obtain⟨σ7,H7,I7,n7⟩:=q7;exact again I7 n7
  |brk=>obtain⟨σ7,H7,I7,q7⟩:=q7;exact⟨σ7,H7,I7.unpinned,q7⟩
  |ret v=>obtain⟨x7,σ7,H7,I7,r7,q7⟩:=q7;exact⟨x7,σ7,H7,I7.unpinned,r7,q7⟩
end
theorem jp4{K:PySem.W.Frag}{a:Addr}{xs:List V}{g:TG}{tb:TS}{D:Ends}{σ:St}{H:Hp}(Pv:Nat->St->Hp->Prop)(h0:Pv 0 σ H)(hl:∀i σ H,i<=xs.length->Pv i σ H->SqL K H a xs)
  (hs:∀i x σ H,xs[i]?=some x->Pv i σ H->g x σ H λσ2 H2=>tb {D with nx:=Pv (i+1),ct:=Pv (i+1),bk:=D.nx} σ2 H2) (hd:∀σ H,Pv xs.length σ H->D.nx σ H) :
  ∃W:Nat->Nat->St->Hp->Prop,(∃m,W 0 m σ H)/\∀i m σ H,W i m σ H ->
   ((Itl K a).stop i H/\D.nx σ H)\/((Itl K a).go i H/\∃N:St->Hp->Prop,(∀σ' H',N σ' H'->∃m',m'<m/\W (i+1) m' σ' H')/\∀x H',(Itl K a).yld i H x H'->g x σ H' λσ2 H2=>tb {D with nx:=N,ct:=N,bk:=D.nx} σ2 H2):=by
 refine⟨λi m σ H=>m=xs.length-i/\i<=xs.length/\Pv i σ H,⟨xs.length,by simp,Oa _,h0⟩,?_⟩
 rintro i m σ H ⟨rfl,hi,p⟩
 have q:=hl i σ H hi p
 by_cases hlt:i<xs.length
 ·refine .inr ⟨⟨xs,xs[i],q,by simp[hlt]⟩,Pv (i+1),λσ' H' p'=>⟨xs.length-(i+1),by omega,rfl,hlt,p'⟩,λx H' y=>?_⟩
  obtain⟨e,y⟩:=y
  subst e
  exact hs i x σ _ (y xs q) p
 ·have e:i=xs.length:=by omega
  subst e
  exact .inl ⟨⟨xs,q,Ak _⟩,hd σ H p⟩
theorem jrj{K:PySem.W.Frag}{a:Addr}{xs:List V}{g:TG}{tb:TS}{D:Ends}{σ:St}{H:Hp}(Pv:Nat->St->Hp->Prop)(h0:Pv 0 σ H)(hl:∀i σ H,i<=xs.length->Pv i σ H->SqT K H a xs)
  (hs:∀i x σ H,xs[i]?=some x->Pv i σ H->g x σ H λσ2 H2=>tb {D with nx:=Pv (i+1),ct:=Pv (i+1),bk:=D.nx} σ2 H2) (hd:∀σ H,Pv xs.length σ H->D.nx σ H) :
  ∃W:Nat->Nat->St->Hp->Prop,(∃m,W 0 m σ H)/\∀i m σ H,W i m σ H ->
   ((Itt K a).stop i H/\D.nx σ H)\/((Itt K a).go i H/\∃N:St->Hp->Prop,(∀σ' H',N σ' H'->∃m',m'<m/\W (i+1) m' σ' H')/\∀x H',(Itt K a).yld i H x H'->g x σ H' λσ2 H2=>tb {D with nx:=N,ct:=N,bk:=D.nx} σ2 H2):=by
 refine⟨λi m σ H=>m=xs.length-i/\i<=xs.length/\Pv i σ H,⟨xs.length,by simp,Oa _,h0⟩,?_⟩
 rintro i m σ H ⟨rfl,hi,p⟩
 have q:=hl i σ H hi p
 by_cases hlt:i<xs.length
 ·refine .inr ⟨⟨xs,xs[i],q,by simp[hlt]⟩,Pv (i+1),λσ' H' p'=>⟨xs.length-(i+1),by omega,rfl,hlt,p'⟩,λx H' y=>?_⟩
  obtain⟨e,y⟩:=y
  subst e
  exact hs i x σ _ (y xs q) p
 ·have e:i=xs.length:=by omega
  subst e
  exact .inl ⟨⟨xs,q,Ak _⟩,hd σ H p⟩
theorem joy{lo:Int}{n:Nat}{g:TG}{tb:TS}{D:Ends}{σ:St}{H:Hp}(Pv:Nat->St->Hp->Prop)(h0:Pv 0 σ H)
  (hs:∀i σ H,i<n->Pv i σ H->g (.int (lo+i)) σ H λσ2 H2=>tb {D with nx:=Pv (i+1),ct:=Pv (i+1),bk:=D.nx} σ2 H2) (hd:∀σ H,Pv n σ H->D.nx σ H) :
  ∃W:Nat->Nat->St->Hp->Prop,(∃m,W 0 m σ H)/\∀i m σ H,W i m σ H ->
   ((Itr lo n).stop i H/\D.nx σ H)\/((Itr lo n).go i H/\∃N:St->Hp->Prop,(∀σ' H',N σ' H'->∃m',m'<m/\W (i+1) m' σ' H')/\∀x H',(Itr lo n).yld i H x H'->g x σ H' λσ2 H2=>tb {D with nx:=N,ct:=N,bk:=D.nx} σ2 H2):=by
 refine⟨λi m σ H=>m=n-i/\i<=n/\Pv i σ H,⟨n,by simp,Oa _,h0⟩,?_⟩
 rintro i m σ H ⟨rfl,hi,p⟩
 by_cases hlt:i<n
 ·refine .inr ⟨hlt,Pv (i+1),λσ' H' p'=>⟨n-(i+1),by omega,rfl,hlt,p'⟩,λx H' y=>?_⟩
  obtain⟨e,y⟩:=y
  subst e y
  exact hs i σ _ hlt p
 ·have e:i=n:=by omega
  subst e
  exact .inl ⟨Ak _,hd σ H p⟩
abbrev R2:=V->V->Hp->VK->Prop
def OpR(X:Cx)(f:Value->Value->Sem Value)(r:R2):Prop :=
 ∀(pins:List (Addr×Obj))(s:Shared)(σ:St)(H:Hp)(x y:V)(v u:Value)(Q:VK),Inv X pins σ H s->RelV x v->RelV y u->r x y H Q ->
  wpAny (model X.prog X.w) X.A (f v u) (EP X pins σ Q) X.xe s
def jc0(X:Cx)(f:Value)(r:List V->Hp->VK->Prop):Prop :=
 ∀(pins:List (Addr×Obj))(s:Shared)(σ:St)(H:Hp)(xs:List V)(us:List Value)(Q:VK),Inv X pins σ H s->Vals xs us->r xs H Q ->
  wpAny (model X.prog X.w) X.A (call f us) (EP X pins σ Q) X.xe s
def TruR(X:Cx)(r:V->Hp->(Bool->Hp->Prop)->Prop):Prop :=
 ∀(pins:List (Addr×Obj))(s:Shared)(σ:St)(H:Hp)(x:V)(v:Value)(Q:Bool->Hp->Prop),Inv X pins σ H s->RelV x v->r x H Q ->
  wpAny (model X.prog X.w) X.A (truthy v) (TP X pins σ Q) X.xe s
def tOp(r:R2)(ta tb:TE):TE:=λσ H Q=>ta σ H λx H1=>tb σ H1 λy H2=>r x y H2 Q
def rI(C:Int->Int->Prop)(g:Int->Int->V):R2:=λx y H Q=>∃i j,x=.int i/\y=.int j/\C i j/\Q (g i j) H
def rI0(g:Int->Int->V):R2:=λx y H Q=>∃i j,x=.int i/\y=.int j/\Q (g i j) H
section
variable{X:Cx}{a b c:Expr}{ta tb tc:TE}{pos:Pos}
theorem binT(ha:PE X a ta)(hb:PE X b tb){pins:List (Addr×Obj)}{s:Shared}{σ:St}{H:Hp}{R:V->V->Hp->Prop}(I:Inv X pins σ H s)
  (h:ta σ H λx H1=>tb σ H1 λy H2=>R x y H2) {Q:Value->Shared->Prop}{f:Value->Value->Sem Value}
  (hf:∀v u s2 x y H2,Inv X pins σ H2 s2->RelV x v->RelV y u->R x y H2->wpAny (model X.prog X.w) X.A (f v u) Q X.xe s2) :
  wpAny (model X.prog X.w) X.A (eval a X.env) (λv s₁=>wpAny (model X.prog X.w) X.A (eval b X.env) (λu s₂=>wpAny (model X.prog X.w) X.A (f v u) Q X.xe s₂) X.xe s₁) X.xe s:=by
 refine thn (ha pins s σ H _ I h) λv s1 ⟨x,H1,I1,r1,q1⟩=>?_
 refine thn (hb pins s1 σ H1 _ I1 q1) λu s2 ⟨y,H2,I2,r2,q2⟩=>?_
 exact hf v u s2 x y H2 I2 r1 r2 q2
theorem pe_op{op:Operator}{r:R2}(ho:OpR X (binaryOp op) r)(ha:PE X a ta)(hb:PE X b tb):PE X (.BinOp a op b pos) (tOp r ta tb):=by
 intro pins s σ H Q I h
 exact wpAny_BinOp (binT ha hb I h λv u s2 x y H2 I2 rx ry q=>ho pins s2 σ H2 x y v u Q I2 rx ry q)
theorem opI{f:Value->Value->Sem Value}{C:Int->Int->Prop}{g:Int->Int->Int}
  (rule:∀(i j:Int)(t u:Tok)(s:Shared)(Q:Value->Shared->Prop)(E:Value->Shared->Prop),C i j->Q (.int (g i j) s.toks) {s with toks:=s.toks+1}->wpAny (model X.prog X.w) X.A (f (.int i t) (.int j u)) Q E s) :
  OpR X f (rI C λi j=>.int (g i j)):=by
 intro pins s σ H x y v u Q I rx ry h
 obtain⟨i,j,rfl,rfl,hc,q⟩:=h
 obtain⟨t,rfl⟩:=rx
 obtain⟨t',rfl⟩:=ry
 exact rule i j t t' s _ _ hc ⟨.int (g i j),H,I.tok _,⟨_,rfl⟩,q⟩
theorem opI0{f:Value->Value->Sem Value}{g:Int->Int->Int}
  (rule:∀(i j:Int)(t u:Tok)(s:Shared)(Q:Value->Shared->Prop)(E:Value->Shared->Prop),Q (.int (g i j) s.toks) {s with toks:=s.toks+1}->wpAny (model X.prog X.w) X.A (f (.int i t) (.int j u)) Q E s) :
  OpR X f (rI0 λi j=>.int (g i j)):=by
 intro pins s σ H x y v u Q I rx ry h
 obtain⟨i,j,rfl,rfl,q⟩:=h
 obtain⟨t,rfl⟩:=rx
 obtain⟨t',rfl⟩:=ry
 exact rule i j t t' s _ _ ⟨.int (g i j),H,I.tok _,⟨_,rfl⟩,q⟩
theorem opB0{f:Value->Value->Sem Value}{g:Int->Int->Bool}
  (rule:∀(i j:Int)(t u:Tok)(s:Shared)(Q:Value->Shared->Prop)(E:Value->Shared->Prop),Q (.bool (g i j)) s->wpAny (model X.prog X.w) X.A (f (.int i t) (.int j u)) Q E s) :
  OpR X f (rI0 λi j=>.bl (g i j)):=by
 intro pins s σ H x y v u Q I rx ry h
 obtain⟨i,j,rfl,rfl,q⟩:=h
 obtain⟨t,rfl⟩:=rx
 obtain⟨t',rfl⟩:=ry
 exact rule i j t t' s _ _ ⟨.bl (g i j),H,I,rfl,q⟩
def CDiv(i j:Int):Prop:=0<j/\j<1073741824
def CPow(i j:Int):Prop:=0<=j/\j<=1000000/\i.natAbs<2^64
def CMul(i j:Int):Prop:=(-(2^64)<i/\i<2^64)\/(-(2^64)<j/\j<2^64)
theorem CMul.ok{i j:Int}(h:CMul i j):IntMulOk i j:=by
 rcases h with⟨h1,h2⟩|⟨h1,h2⟩
 ·exact .of_left (intBits_le_64 h1 h2)
 ·exact .of_right (intBits_le_64 h1 h2)
theorem op_add:OpR X (binaryOp .Add) (rI0 λi j=>.int (i+j)):=opI0 λ_ _ _ _ _ _ _ q=>add_int q
theorem op_sub:OpR X (binaryOp .Sub) (rI0 λi j=>.int (i-j)):=opI0 λ_ _ _ _ _ _ _ q=>sub_int q
theorem op_mul:OpR X (binaryOp .Mult) (rI CMul λi j=>.int (i*j)):=opI λ_ _ _ _ _ _ _ hc q=>mul_int q hc.ok
theorem jcc:OpR X (binaryOp .FloorDiv) (rI CDiv λi j=>.int (i / j)):=opI λi j _ _ _ _ _ hc q=>by
 have h1:(0:Int)<j:=hc.1
 have h2:j<1073741824:=hc.2
 exact floordiv_int (by omega) (by rw[Int.fdiv_eq_ediv_of_nonneg i (by omega)];exact q) (.inl (PyProof.noPylong_small (by omega)))
theorem z8:OpR X (binaryOp .Mod) (rI (λ_ j=>0<j) λi j=>.int (i%j)):=opI λi j _ _ _ _ _ hc q=>by
 have h1:(0:Int)<j:=hc
 exact mod_int' (by omega) (by rw[Int.fmod_eq_emod_of_nonneg i (by omega)];exact q)
theorem op_pow:OpR X (binaryOp .Pow) (rI CPow λi j=>.int (i^j.toNat)):=opI λ_ _ _ _ _ _ _ hc q=>pow_int_small hc.1 hc.2.1 hc.2.2 q
end
def scal:V->V->Bool
 |.non,.non=>true|.non,.int _=>true|.int _,.non=>true|.non,.bl _=>true|.bl _,.non=>true|.non,.str _=>true|.str _,.non=>true
 |.int _,.int _=>true|.bl _,.bl _=>true|.str _,.str _=>true|.byt _,.byt _=>true
 |.int _,.str _=>true|.str _,.int _=>true|.bl _,.str _=>true|.str _,.bl _=>true
 |_,_=>false
def rEq:R2:=λx y H Q=>scal x y=true/\Q (.bl (decide (x=y))) H
def rNe:R2:=λx y H Q=>scal x y=true/\Q (.bl (!decide (x=y))) H
theorem jmi{i j:Int}:decide (V.int i=V.int j)=(i == j):=by
 rw[W7]
 simp
theorem jop{i j:Bool}:decide (V.bl i=V.bl j)=(i == j):=by
 rw[W7]
 simp
theorem jmj{i j:Str}:decide (V.str i=V.str j)=(i == j):=by
 rw[W7]
 simp
theorem jmh{i j:Array UInt8}:decide (V.byt i=V.byt j)=(i.toList == j.toList):=by
 rw[W7]
 cases i
 cases j
 simp
section
variable{X:Cx}{a b c:Expr}{ta tb tc:TE}{pos:Pos}
theorem jct{pins:List (Addr×Obj)}{σ:St}{H:Hp}{s:Shared}{Q:VK}{k k':Bool}(I:Inv X pins σ H s)(q:Q (.bl k) H)(e:k=k'):EP X pins σ Q (.bool k') s:=by
 subst e
 exact⟨.bl k,H,I,rfl,q⟩
theorem jbz:OpR X (compareOp .Eq) rEq:=by
 intro pins s σ H x y v u Q I rx ry h
 obtain⟨hs,q⟩:=h
 cases x with
 |non =>
  cases rx
  cases y with
  |non=>cases ry;exact PySem.EqNone.eq_none_none (jct I q (by simp))
  |bl j=>cases ry;exact PySem.EqNone.eq_none_bool (jct I q (by simp))
  |int j=>obtain⟨t',rfl⟩:=ry;exact PySem.EqNone.eq_none_int (jct I q (by simp))
  |str j=>obtain⟨t',rfl⟩:=ry;exact PySem.EqNone.eq_none_str (jct I q (by simp))
  |_=>exact absurd (show false=true from hs) A7
 |bl i =>
  cases rx
  cases y with
  |non=>cases ry;exact PySem.EqNone.eq_bool_none (jct I q (by simp))
  |bl j=>cases ry;exact eq_bool (jct I q jop)
  |str j=>obtain⟨t',rfl⟩:=ry;exact PySem.EqMixed.eq_bool_str (jct I q (by simp))
  |_=>exact absurd (show false=true from hs) A7
 |int i =>
  obtain⟨t,rfl⟩:=rx
  cases y with
  |non=>cases ry;exact PySem.EqNone.eq_int_none (jct I q (by simp))
  |int j=>obtain⟨t',rfl⟩:=ry;exact eq_int (jct I q jmi)
  |str j=>obtain⟨t',rfl⟩:=ry;exact PySem.EqMixed.eq_int_str (jct I q (by simp))
  |_=>exact absurd (show false=true from hs) A7
 |str i =>
  obtain⟨t,rfl⟩:=rx
  cases y with
  |non=>cases ry;exact PySem.EqNone.eq_str_none (jct I q (by simp))
  |bl j=>cases ry;exact PySem.EqMixed.eq_str_bool (jct I q (by simp))
  |int j=>obtain⟨t',rfl⟩:=ry;exact PySem.EqMixed.eq_str_int (jct I q (by simp))
  |str j=>obtain⟨t',rfl⟩:=ry;exact eq_str (jct I q jmj)
  |_=>exact absurd (show false=true from hs) A7
 |byt i =>
  obtain⟨t,rfl⟩:=rx
  cases y with
  |byt j=>obtain⟨t',rfl⟩:=ry;exact PySem.W.eq_bytes (jct I q jmh)
  |_=>exact absurd (show false=true from hs) A7
 |_=>cases y <;> exact absurd (show false=true from hs) A7
theorem jb0:OpR X (compareOp .NotEq) rNe:=by
 intro pins s σ H x y v u Q I rx ry h
 obtain⟨hs,q⟩:=h
 cases x with
 |non =>
  cases rx
  cases y with
  |non=>cases ry;exact PySem.EqNone.ne_none_none (jct I q (by simp))
  |bl j=>cases ry;exact PySem.EqNone.ne_none_bool (jct I q (by simp))
  |int j=>obtain⟨t',rfl⟩:=ry;exact PySem.EqNone.ne_none_int (jct I q (by simp))
  |str j=>obtain⟨t',rfl⟩:=ry;exact PySem.EqNone.ne_none_str (jct I q (by simp))
  |_=>exact absurd (show false=true from hs) A7
 |bl i =>
  cases rx
  cases y with
  |non=>cases ry;exact PySem.EqNone.ne_bool_none (jct I q (by simp))
  |bl j=>cases ry;exact ne_bool (jct I q (Um not jop))
  |str j=>obtain⟨t',rfl⟩:=ry;exact PySem.EqMixed.ne_bool_str (jct I q (by simp))
  |_=>exact absurd (show false=true from hs) A7
 |int i =>
  obtain⟨t,rfl⟩:=rx
  cases y with
  |non=>cases ry;exact PySem.EqNone.ne_int_none (jct I q (by simp))
  |int j=>obtain⟨t',rfl⟩:=ry;exact ne_int (jct I q (Um not jmi))
  |str j=>obtain⟨t',rfl⟩:=ry;exact PySem.EqMixed.ne_int_str (jct I q (by simp))
  |_=>exact absurd (show false=true from hs) A7
 |str i =>
  obtain⟨t,rfl⟩:=rx
  cases y with
  |non=>cases ry;exact PySem.EqNone.ne_str_none (jct I q (by simp))
  |bl j=>cases ry;exact PySem.EqMixed.ne_str_bool (jct I q (by simp))
  |int j=>obtain⟨t',rfl⟩:=ry;exact PySem.EqMixed.ne_str_int (jct I q (by simp))
  |str j=>obtain⟨t',rfl⟩:=ry;exact ne_str (jct I q (Um not jmj))
  |_=>exact absurd (show false=true from hs) A7
 |byt i =>
  obtain⟨t,rfl⟩:=rx
  cases y with
  |byt j=>obtain⟨t',rfl⟩:=ry;exact PySem.W.ne_bytes (jct I q (Um not jmh))
  |_=>exact absurd (show false=true from hs) A7
 |_=>cases y <;> exact absurd (show false=true from hs) A7
theorem op_lt:OpR X (compareOp .Lt) (rI0 λi j=>.bl (decide (i<j))):=opB0 λ_ _ _ _ _ _ _ q=>lt_int q
theorem jcg:OpR X (compareOp .Gt) (rI0 λi j=>.bl (decide (j<i))):=opB0 λ_ _ _ _ _ _ _ q=>gt_int q
theorem op_ge:OpR X (compareOp .GtE) (rI0 λi j=>.bl (decide (j<=i))):=opB0 λ_ _ _ _ _ _ _ q=>ge_int q
theorem op_lt_str:OpR X (compareOp .Lt) (λx y H Q=>∃i j,x=.str i/\y=.str j/\Q (.bl (decide (i.cps.toList<j.cps.toList))) H):=by
 intro pins s σ H x y v u Q I rx ry h
 obtain⟨i,j,rfl,rfl,q⟩:=h
 obtain⟨t,rfl⟩:=rx
 obtain⟨t',rfl⟩:=ry
 exact lt_str (jct I q rfl)
theorem op_isN:OpR X (compareOp .Is) (λx y H Q=>y=.non/\Q (.bl (decide (x=.non))) H):=by
 intro pins s σ H x y v u Q I rx ry h
 obtain⟨rfl,q⟩:=h
 cases ry
 refine is_none_gen (jct I q ?_)
 cases x <;> first
  |(cases rx;rfl)
  |(obtain⟨t,rfl⟩:=rx;rfl)
theorem op_notN:OpR X (compareOp .IsNot) (λx y H Q=>y=.non/\Q (.bl (!decide (x=.non))) H):=by
 intro pins s σ H x y v u Q I rx ry h
 obtain⟨rfl,q⟩:=h
 cases ry
 refine isnot_none_gen (jct I q ?_)
 cases x <;> first
  |(cases rx;rfl)
  |(obtain⟨t,rfl⟩:=rx;rfl)
theorem j9(b:Expr){op:CmpOp}(h:op≠.In:=by decide)(h2:op≠.NotIn:=by decide):behindInMarks op b=false:=by
 have e1:(op == CmpOp.In)=false:=by cases op <;> first|rfl|exact absurd rfl h
 have e2:(op == CmpOp.NotIn)=false:=by cases op <;> first|rfl|exact absurd rfl h2
 cases b <;> simp[behindInMarks,e1,e2]
theorem pe_cmpR{op:CmpOp}{r:R2}(ho:OpR X (compareOp op) r)(ha:PE X a ta)(hb:PE X b tb)(hm:behindInMarks op b=false):PE X (.Compare a [op] [b] pos) (tOp r ta tb):=by
 intro pins s σ H Q I h
 exact wpAny_Compare1 (binT ha hb I h λv u s2 x y H2 I2 rx ry q=>ho pins s2 σ H2 x y v u Q I2 rx ry q) hm
def jka(t:TE):TT:=λσ H Q=>t σ H λx H'=>∃k,x=.bl k/\Q k H'
theorem pt_cmpR{op:CmpOp}{r:R2}(ho:OpR X (compareOp op) r)(ha:PE X a ta)(hb:PE X b tb)(hm:behindInMarks op b=false):PT X (.Compare a [op] [b] pos) (jka (tOp r ta tb)):=by
 intro pins s σ H Q I h
 refine wpAny_isTrue_Compare1 (thn (ha pins s σ H _ I h) λv s1 ⟨x,H1,I1,r1,q1⟩=>thn (hb pins s1 σ H1 _ I1 q1) λu s2 ⟨y,H2,I2,r2,q2⟩ =>
  thn (ho pins s2 σ H2 x y v u _ I2 r1 r2 q2) λc s3 ⟨z,H3,I3,r3,k,e,q3⟩=>?_) hm
 subst e
 cases r3
 exact Wu ⟨H3,I3,q3⟩
def TruV(K:PySem.W.Frag)(x:V)(H:Hp)(k:Bool):Prop :=
 match x with
 |.non=>k=false
 |.bl b=>k=b
 |.int i=>k=(i != 0)
 |.str y=>y.length<=sizeLine/\k=((y.length:Int) != 0)
 |.byt y=>y.size<=sizeLine/\k=((y.size:Int) != 0)
 |.ref p=>(∃xs,SqL K H p xs/\k=!xs.isEmpty)\/(∃xs,SqT K H p xs/\k=!xs.isEmpty)\/∃kvs,H p=some (.dK kvs)/\k=!kvs.isEmpty
 |_=>False
theorem jnw{κ:Type}{kvs:List (κ×V)}{vs:List (κ×Value)}(r:KV kvs vs):(!vs.isEmpty)=!kvs.isEmpty:=by
 cases r <;> rfl
theorem jhi{xs:List V}{its:List Value}(r:Vals xs its):(!its.toArray.isEmpty)=!xs.isEmpty:=by
 cases r <;> simp
theorem jem:(sizeLine:Nat)<2^63:=by rw[O3];decide
theorem jsx:TruR X (λx H Q=>∃k,TruV X.K x H k/\Q k H):=by
 intro pins s σ H x v Q I rx h
 obtain⟨k,e,q⟩:=h
 have hl:=jem
 have hs:sizeLine=16777216:=O3
 cases x with
 |non =>
  cases rx
  have e':k=false:=e
  subst e'
  exact truthy_none ⟨H,I,q⟩
 |bl b =>
  cases rx
  have e':k=b:=e
  subst e'
  exact Wu ⟨H,I,q⟩
 |int i =>
  obtain⟨t,rfl⟩:=rx
  have e':k=(i != 0):=e
  subst e'
  exact PySem.P.truthy_int ⟨H,I,q⟩
 |str y =>
  obtain⟨t,rfl⟩:=rx
  obtain⟨hy,e'⟩:y.length<=sizeLine/\k=((y.length:Int) != 0):=e
  subst e'
  exact PySem.P.truthy_str (by omega) ⟨H,I.tok _,q⟩
 |byt y =>
  obtain⟨t,rfl⟩:=rx
  obtain⟨hy,e'⟩:y.size<=sizeLine/\k=((y.size:Int) != 0):=e
  subst e'
  exact PySem.W.truthy_bytes (by omega) ⟨H,I.tok _,q⟩
 |ref p =>
  cases rx
  have e':(∃xs,SqL X.K H p xs/\k=!xs.isEmpty)\/(∃xs,SqT X.K H p xs/\k=!xs.isEmpty)\/∃kvs,H p=some (.dK kvs)/\k=!kvs.isEmpty:=e
  rcases e' with⟨xs,hx,e'⟩|⟨xs,hx,e'⟩|⟨kvs,hx,e'⟩
  ·subst e'
   obtain⟨its,r,pl,hz⟩:=I.list hx
   have hlen:=r.length
   exact wpAny_truthy_list pl.isList (by simp only[Au];omega) ⟨H,I.tok _,by rw[jhi r];exact q⟩
  ·subst e'
   obtain⟨its,r,pl,hz⟩:=I.tuple hx
   have hlen:=r.length
   exact truthy_tuple pl (by simp only[Au];omega) ⟨H,I.tok _,by rw[jhi r];exact q⟩
  ·subst e'
   obtain⟨hz,hS,vs,r,m⟩:kvs.length<=sizeLine/\(p == sysModules)=false/\∃vs,KV kvs vs/\s.heap.DictOf (jcn X.prog X.w) p vs:=I.hok p _ hx
   have hlen:kvs.length=vs.length:=Il r
   exact wpAny_truthy_dict hS m (by omega) ⟨H,I.tok _,by rw[jnw r];exact q⟩
 |_=>exact(show False from e).elim
theorem op_add_str:OpR X (binaryOp .Add) (λx y H Q=>∃i j,x=.str i/\y=.str j/\i.length+j.length<=sizeLine/\Q (.str (i++j)) H):=by
 intro pins s σ H x y v u Q I rx ry h
 obtain⟨i,j,rfl,rfl,hz,q⟩:=h
 obtain⟨t,rfl⟩:=rx
 obtain⟨t',rfl⟩:=ry
 exact add_str (λt' tk=>⟨.str (i++j),H,I.tok _,⟨_,rfl⟩,q⟩) hz
theorem jdd{x:V}{us:List Value}(r:Vals [x] us):∃u,us=[u]/\RelV x u:=by
 cases r with
 |cons r1 r2=>cases r2;exact⟨_,rfl,r1⟩
theorem jkc{x y:V}{us:List Value}(r:Vals [x,y] us):∃u w',us=[u,w']/\RelV x u/\RelV y w':=by
 cases r with
 |cons r1 r2 =>
  cases r2 with
  |cons r3 r4=>cases r4;exact⟨_,_,rfl,r1,r3⟩
theorem call_max2(hc:X.calm=true):jc0 X (.builtin "max") (λxs H Q=>∃i j,xs=[.int i,.int j]/\Q (.int (if j>i then j else i)) H):=by
 intro pins s σ H xs us Q I r h
 obtain⟨i,j,rfl,q⟩:=h
 obtain⟨u,w',rfl,⟨t,rfl⟩,⟨t',rfl⟩⟩:=jkc r
 refine max_two_ints (I.ok.hd hc) λh' tk k=>⟨_,H,I.kept k,?_,q⟩
 by_cases hj:j>i
 ·rw[Ao hj,Ao hj];exact⟨_,rfl⟩
 ·rw[Am hj,Am hj];exact⟨_,rfl⟩
theorem call_min2(hc:X.calm=true):jc0 X (.builtin "min") (λxs H Q=>∃i j,xs=[.int i,.int j]/\Q (.int (if j<i then j else i)) H):=by
 intro pins s σ H xs us Q I r h
 obtain⟨i,j,rfl,q⟩:=h
 obtain⟨u,w',rfl,⟨t,rfl⟩,⟨t',rfl⟩⟩:=jkc r
 refine min_two_ints (I.ok.hd hc) λh' tk k=>⟨_,H,I.kept k,?_,q⟩
 by_cases hj:j<i
 ·rw[Ao hj,Ao hj];exact⟨_,rfl⟩
 ·rw[Am hj,Am hj];exact⟨_,rfl⟩
theorem jbt:jc0 X (.type "int") (λxs H Q=>(∃i,xs=[.int i]/\Q (.int i) H)\/∃k,xs=[.bl k]/\Q (.int (if k then 1 else 0)) H):=by
 intro pins s σ H xs us Q I r h
 rcases h with⟨i,rfl,q⟩|⟨k,rfl,q⟩
 ·obtain⟨u,rfl,t,rfl⟩:=jdd r
  exact call_int_int ⟨.int i,H,I,⟨_,rfl⟩,q⟩
 ·obtain⟨u,rfl,r1⟩:=jdd r
  cases r1
  exact call_int_bool ⟨.int (if k then 1 else 0),H,I.tok _,⟨_,rfl⟩,q⟩
end
theorem RelO.some_of{v:V}{o:Option Value}(r:RelO (some v) o):∃u,o=some u/\RelV v u:=by
 cases o with
 |none=>exact(show False from r).elim
 |some u=>exact⟨u,rfl,r⟩
structure Room(k:Nat)(A:Around):Prop where
 hd:A.handled=none
 dp:A.depth+3*k+5<recursionLimit
 un:A.units+16*k+200<cLine
 gd:A.guards=some []
theorem Room.mono{j k:Nat}{A:Around}(r:Room k A)(h:j<=k):Room j A:=⟨r.hd,by have:=r.dp;omega,by have:=r.un;omega,r.gd⟩
theorem Room.deeper{k:Nat}{A:Around}(r:Room (k+1) A)(env:Env):Room k (A.deeper env) :=
 ⟨r.hd,by have:=r.dp;show A.depth+1+3*k+5<_;omega,by have:=r.un;show A.units+3+16*k+200<_;omega,r.gd⟩
theorem Room.depth{k:Nat}{A:Around}(r:Room k A):A.depth<recursionLimit:=by have:=r.dp;omega
theorem Room.units{k:Nat}{A:Around}(r:Room k A):A.units+64<cLine:=by have:=r.un;omega
def tNil:TA:=λ_ H Q=>Q [] H
def jew(ta:TE)(tr:TA):TA:=λσ H Q=>ta σ H λx H1=>tr σ H1 λxs H2=>Q (x::xs) H2
section
variable{X:Cx}{e:Expr}{es:List Expr}{te:TE}{t:TA}{pos:Pos}
theorem jb3:PA X [] tNil:=λ_ _ _ _ H Q I h=>Yl ⟨[],H,I,.nil,h⟩
theorem jbq(ha:PE X e te)(hr:PA X es t)(hs:starEach (e::es) X.env=(false,eval e X.env)::starEach es X.env:=by rfl):PA X (e::es) (jew te t):=by
 intro pos pins s σ H Q I h
 rw[hs]
 show wpAny _ _ (spliced ((false,eval e X.env)::backTo pos (starEach es X.env))) _ _ s
 refine Wo (thn (ha pins s σ H _ I h) λu s1 ⟨x,H1,I1,r1,q1⟩=>?_)
 exact thn (hr pos pins s1 σ H1 _ I1 q1) λus s2 ⟨xs,H2,I2,r2,q2⟩=>⟨x::xs,H2,I2,.cons r1 r2,q2⟩
def tTup(t:TA):TE:=λσ H Q=>t σ H λxs H1=>xs.length<=sizeLine/\∀p,H1 p=none->Q (.ref p) (upd H1 p (.tup xs))
def tLst(t:TA):TE:=λσ H Q=>t σ H λxs H1=>xs.length<=sizeLine/\∀p,H1 p=none->Q (.ref p) (upd H1 p (.lst xs))
theorem pe_tup{x1}(h:PA X es t):PE X (.Tuple es x1 pos) (tTup t):=by
 intro pins s σ H Q I hq
 refine wpAny_Tuple_spliced (thn (h pos pins s σ H _ I hq) λus s1 ⟨xs,H1,I1,r,z,q⟩=>⟨by rw[<-r.length];exact z,?_⟩)
 have hf:H1 s1.heap.objs.size=none:=I1.hok.fresh (Ak _)
 refine⟨.ref s1.heap.objs.size,upd H1 s1.heap.objs.size (.tup xs),I1.laid (t':=s1.toks) (λb u e=>Ai _ e) (Ak _) ?_,rfl,q _ hf⟩
 exact⟨z,us,r,⟨_,A1 _ rfl,rfl,_,rfl⟩⟩
theorem pe_lst(h:PA X es t):PE X (.List es pos) (tLst t):=by
 intro pins s σ H Q I hq
 refine wpAny_List_spliced (thn (h pos pins s σ H _ I hq) λus s1 ⟨xs,H1,I1,r,z,q⟩=>⟨by rw[<-r.length];exact z,?_⟩)
 have hf:H1 s1.heap.objs.size=none:=I1.hok.fresh (Ak _)
 refine⟨.ref s1.heap.objs.size,upd H1 s1.heap.objs.size (.lst xs),I1.laid (t':=s1.toks) (λb u e=>Ai _ e) (Ak _) ?_,rfl,q _ hf⟩
 exact⟨z,us,0,r,A1 _ rfl⟩
end
abbrev Sp:=List V->Hp->VK->XK->Prop
abbrev CXT:=List Env->Hp->Shared->XK->Value->Shared->Prop
structure Env0(P:Program)(w:World)(K:PySem.W.Frag)(mg:Str->Option Value)(base:Heap)(A:Around)(outer:List Env)(s:Shared)(H:Hp):Prop where
 frames:A.frames=some outer
 mod:Mod K mg base
 bs:∀b o,base.get? b=some o->s.heap.get? b=some o/\H b=none
 bsz:base.objs.size<=s.heap.objs.size
 funs:s.heap.FunFrames base outer
 frf:∀b∈frs outer,H b=none
 hok:HOk P w H s.heap
 bare:AllBare s.gens
def CE(outer:List Env)(P:Program)(w:World)(H:Hp)(s:Shared)(Q:VK)(u:Value)(s':Shared):Prop :=
 ∃v H',s'.os=s.os/\AllBare s'.gens/\Un (frs outer) [] H H' s.heap s'.heap/\HOk P w H' s'.heap/\RelV v u/\Q v H'
def CR(CX:CXT)(outer:List Env)(P:Program)(w:World)(H:Hp)(s:Shared)(Q:VK)(E:XK)(r:Result)(s':Shared):Prop :=
 match r with
 |.ok (.ret u)=>CE outer P w H s Q u s'
 |.ok _=>False
 |.error e=>CX outer H s E e s'
structure FnOk(P:Program)(w:World)(K:PySem.W.Frag)(mg:Str->Option Value)(base:Heap)(CX:CXT)(k:Nat)(f:Addr)(fd:FuncData)(ps:List Str)(sp:Sp):Prop where
 len:∀vs H Q E,sp vs H Q E->vs.length=ps.length
 run:∀(A:Around)(outer:List Env)(s:Shared)(H:Hp)(args:Args)(us:List Value)(vs:List V)(Q:VK)(E:XK),Room k A->Env0 P w K mg base A outer s H->BindsTo s fd args (ps.zip us)->Vals vs us->sp vs H Q E ->
  codeAny (model P w) A (.call (.ref f) args) (CR CX outer P w H s Q E) s
section
variable{X:Cx}{pins:List (Addr×Obj)}{σ:St}{H:Hp}{s s':Shared}
theorem Inv.env0(I:Inv X pins σ H s):Env0 X.prog X.w X.K X.mg X.base X.A X.stack s H :=
 ⟨I.ok.frames,I.ok.mod,I.bs,Im I.ok.bsz I.sz,I.stack,I.stkFree,I.hok,I.bare⟩
theorem Inv.after{Q:VK}{u:Value}(I:Inv X pins σ H s)(h:CE X.stack X.prog X.w H s Q u s'):EP X pins σ Q u s':=by
 obtain⟨v,H',os,bare,un,hok,r,q⟩:=h
 obtain⟨hh,g,d,t,os'⟩:=s'
 obtain rfl:os'=s.os:=os
 exact⟨v,H',I.call (h':=hh) (g':=g) (d':=d) (t':=t) (ch:=[]) un hok bare (λb z=>absurd z (by simp)),r,q⟩
end
def jj4(sp:Sp)(dvs:List V)(E:XK)(t:TA):TE:=λσ H Q=>t σ H λvs H1=>sp (vs++dvs) H1 Q E
def Binds(K:PySem.W.Frag)(fd:FuncData)(ps:List Str)(ds:List Value):Prop :=
 ∀(s:Shared)(us:List Value),K.In s.heap->(us++ds).length=ps.length->BindsTo s fd ⟨us,[]⟩ (ps.zip (us++ds))
theorem Binds.all{K:PySem.W.Frag}{fd:FuncData}{ps:List Str}(h:∀us:List Value,us.length=ps.length->bindArgs fd ⟨us,[]⟩=pure (ps.zip us)):Binds K fd ps []:=λs us _ hl=>by
 rw[O9]at hl⊢
 exact .of_eq (h us hl)
def jg3(CX:CXT)(X:Cx)(E:XK):Prop:=∀(pins:List (Addr×Obj))(σ:St)(H:Hp)(s:Shared)(e:Value)(s':Shared),Inv X pins σ H s->CX X.stack H s E e s'->X.xe e s'
section
variable{X:Cx}{CX:CXT}{k:Nat}{f C:Addr}{fd:FuncData}{ps:List Str}{sp:Sp}{dvs:List V}{ds:List Value}{E:XK}{x m:Str}{p pos apos:Pos}{e o:Expr}{es:List Expr}{ta:TE}{t:TA}
theorem jpe{pins:List (Addr×Obj)}{σ:St}{H:Hp}{s:Shared}{Q:VK}{us:List Value}{vs:List V}(F:FnOk X.prog X.w X.K X.mg X.base CX k f fd ps sp)(hr:Room k X.A)(hb:Binds X.K fd ps ds)(hd:Vals dvs ds)(hx:jg3 CX X E)
  (I:Inv X pins σ H s) (r:Vals vs us) (h:sp (vs++dvs) H Q E):wpAny (model X.prog X.w) X.A (call (.ref f) us) (EP X pins σ Q) X.xe s:=by
 have r2:Vals (vs++dvs) (us++ds):=r.append hd
 have hl:(us++ds).length=ps.length:=by rw[<-r2.length];exact F.len _ _ _ _ h
 refine wpAny_call (Wy (F.run X.A X.stack s H ⟨us,[]⟩ (us++ds) (vs++dvs) Q E hr I.env0 (hb s us I.kIn hl) r2 h) λr s' hq=>?_)
 cases r with
 |error e=>exact hx pins σ H s e s' I hq
 |ok fl =>
  cases fl with
  |ret u=>exact I.after hq
  |next=>exact False.elim hq
  |brk=>exact False.elim hq
  |cont=>exact False.elim hq
theorem pe_call(F:FnOk X.prog X.w X.K X.mg X.base CX k f fd ps sp)(hr:Room k X.A)(hg:Gl X x)(hm:X.mg x=some (.ref f))(hk:PySem.W.keepIn X.K (.ref f)=true)(hb:Binds X.K fd ps ds)(hd:Vals dvs ds)(hx:jg3 CX X E)
  (ha:PA X (e::es) t) (hdb:(x == ("__debug__":Str))=false:=by decide) (he:starEach (e::es) X.env=(false,eval e X.env)::starEach es X.env:=by rfl) (hpl:(backTo pos (starEach es X.env)).any (·.1)=false:=by rfl) :
  PE X (.Call (.Name x p) (e::es) [] pos) (jj4 sp dvs E t):=by
 intro pins s σ H Q I h
 refine O4 (jmx I hg hm ?_ hdb)
 refine PySem.W.callWith_K (h₀:=X.base) I.ok.mod.kin hk (thn (ha pos pins s σ H _ I h) λus s1 ⟨vs,H1,I1,r,q⟩=>⟨I1.kIn,?_⟩) he hpl
 exact jpe F hr hb hd hx I1 r q
end
structure FnScope(N P:List Str)(sc:Scope):Prop where
 kind:sc.kind=.function
 co:sc.isCoroutine=false
 gen:sc.isGenerator=false
 nd:N.Nodup
 pre:N.take P.length=P
 par:∀x∈P,sc.names.lookup x=some .local\/sc.names.lookup x=some .cell
 nofree:∀y∈sc.names,y.2≠.free
theorem jip{kindOf:Str->Option NameKind}{x:Str}:∀{binds:List (Str×Value)}{m:Str->Option Value},(∀v,(x,v)∉binds)->bindL kindOf binds m x=m x
 |[],_,_=>rfl
 |(n,v)::r,m,h=>by
  unfold bindL
  rw[jip λw hw=>h w (Oi _ hw)]
  split
  ·have:x≠n:=by rintro rfl;exact h v Os
   simp[this]
  ·rfl
theorem jin{kindOf:Str->Option NameKind}{x:Str}:∀{binds:List (Str×Value)}{m:Str->Option Value},(∀v,(x,v)∉binds)->bindC kindOf binds m x=m x
 |[],_,_=>rfl
 |(n,v)::r,m,h=>by
  unfold bindC
  rw[jin λw hw=>h w (Oi _ hw)]
  split
  ·rfl
  ·have:x≠n:=by rintro rfl;exact h v Os
   simp[this]
theorem jio{kindOf:Str->Option NameKind}{x:Str}{v:Value}:∀{P:List Str}{vs:List Value}{i:Nat}{m:Str->Option Value},P.Nodup->P[i]?=some x->vs[i]?=some v->kindOf x=some .local ->
  bindL kindOf (P.zip vs) m x=some v
 |[],_,_,_,_,h,_,_=>by simp at h
 |_::_,[],_,_,_,_,h,_=>by simp at h
 |p::P,w::vs,0,m,nd,h1,h2,hk=>by
  simp at h1 h2;subst h1;subst h2
  show bindL kindOf ((p,w)::P.zip vs) m p=_
  unfold bindL
  rw[jip λv hv=>(Of.mp nd).1 (Wp hv).1,Ao hk]
  simp
 |p::P,w::vs,i+1,m,nd,h1,h2,hk=>by
  show bindL kindOf ((p,w)::P.zip vs) m x=_
  unfold bindL
  exact jio (i:=i) (Of.mp nd).2 (by simpa using h1) (by simpa using h2) hk
theorem jim{kindOf:Str->Option NameKind}{x:Str}{v:Value}:∀{P:List Str}{vs:List Value}{i:Nat}{m:Str->Option Value},P.Nodup->P[i]?=some x->vs[i]?=some v->kindOf x≠some .local ->
  bindC kindOf (P.zip vs) m x=some v
 |[],_,_,_,_,h,_,_=>by simp at h
 |_::_,[],_,_,_,_,h,_=>by simp at h
 |p::P,w::vs,0,m,nd,h1,h2,hk=>by
  simp at h1 h2;subst h1;subst h2
  show bindC kindOf ((p,w)::P.zip vs) m p=_
  unfold bindC
  rw[jin λv hv=>(Of.mp nd).1 (Wp hv).1,Am hk]
  simp
 |p::P,w::vs,i+1,m,nd,h1,h2,hk=>by
  show bindC kindOf ((p,w)::P.zip vs) m x=_
  unfold bindC
  exact jim (i:=i) (Of.mp nd).2 (by simpa using h1) (by simpa using h2) hk
def start(N:List Str)(vs:List V):St:=vs.map some++List.replicate (N.length-vs.length) none
def cxOf(CX:CXT)(P:Program)(w:World)(K:PySem.W.Frag)(mg:Str->Option Value)(base:Heap)(N:List Str)(qual:Str)(scope:Scope)(f:Addr)(cd:Value)(A:Around)(outer:List Env)(s:Shared)(H:Hp)(E:XK):Cx where
 prog:=P
 w:=w
 K:=K
 mg:=mg
 base:=base
 A:=A.deeper (envOfC qual scope s.heap.objs.size f cd)
 N:=N
 s₀:=s
 H₀:=H
 env:=envOfC qual scope s.heap.objs.size f cd
 outer:=outer
 stack:=envOfC qual scope s.heap.objs.size f cd::outer
 ex:=[]
 calm:=true
 fn:=λ_=>true
 pn:=[]
 xe:=λe s'=>wpAny (model P w) (A.deeper (envOfC qual scope s.heap.objs.size f cd)) (leaving (envOfC qual scope s.heap.objs.size f cd) e) (λ_ s''=>CX outer H s E e s'') (λe' s''=>CX outer H s E e' s'') s'
theorem jkl{sc:Scope}{n:Nat}{x:Str}(h:sc.names.lookup x=some .cell):∃c,(cellsFrom n sc.names []).lookup x=some c:=by
 have q:=PySem.W.cellsFrom_some sc.names n [] (.inl h)
 exact Option.isSome_iff_exists.mp q
theorem jo0{CX:CXT}{P:Program}{w:World}{K:PySem.W.Frag}{mg:Str->Option Value}{base:Heap}{N ps:List Str}{qual:Str}{scope:Scope}{f:Addr}{cd:Value}{A:Around}{outer:List Env}{s s1:Shared}{H:Hp}{E:XK}{us:List Value}{vs:List V}
  (S:FnScope N ps scope) (hd:A.handled=none) (e0:Env0 P w K mg base A outer s H) (hl:vs.length=ps.length) (r:Vals vs us)
  (x:InCallC s s.heap.objs.size (bindL (envOfC qual scope s.heap.objs.size f cd).kindOf (ps.zip us) λ_=>none) (cellsFrom (s.heap.objs.size+1) scope.names []) (bindC (envOfC qual scope s.heap.objs.size f cd).kindOf (ps.zip us) λ_=>none) s1) :
  Inv (cxOf CX P w K mg base N qual scope f cd A outer s H E) [] (start N vs) H s1:=by
 have hpl:ps.length<=N.length:=by have:=Um List.length S.pre;rw[Iz]at this;omega
 obtain⟨h1,tk,rfl,hk⟩:=x.done
 have noA:∀b:Addr,b∉(cxOf CX P w K mg base N qual scope f cd A outer s H E).ex:=λb z=>absurd (show b∈([]:List Addr)from z) (by simp)
 refine⟨⟨e0.mod,S.kind,rfl,rfl,Ak _,λy z c h1 h2=>?_,λy hy=>?_,λy c _ h=>?_,λ_=>hd,Around.frames_deeper e0.frames,.inr ⟨rfl,rfl⟩,λb z=>absurd z (noA b),e0.bs,e0.bsz,λb _ _=>noA b,λb z=>absurd z (noA b),e0.funs,e0.frf⟩,
  rfl,e0.bare,Un.kept hk,⟨_,x.toInCall.ns,λi y v h1 h2 h3=>?_⟩,λy c h=>⟨_,x.cell y c h⟩,e0.hok.fresh (Ak _),λy c h=>?_,λp hp=>absurd (show p∈([]:List (Addr×Obj))from hp) (by simp),e0.hok.kept hk,?_⟩
 ·exact name_of_addr x.apart (Oy h1) (Oy h2)
 ·have hy:scope.names.lookup y=some .cell\/scope.names.lookup y=some .free:=hy
  rcases hy with hy|hy
  ·exact jkl hy
  ·exact absurd rfl (S.nofree _ (Oy hy))
 ·exact Wb (x.above y c (Oy h))
 ·have hi:i<vs.length:=by
   unfold start at h2
   by_cases hi:i<vs.length
   ·exact hi
   ·rw[A9 (by simpa using hi)]at h2
    rw[U0]at h2
    split at h2 <;> cases h2
  have ha:vs[i]?=some v:=by
   unfold start at h2
   rw[A2 (by simpa using hi),Ag]at h2
   cases e:vs[i]? with
   |none=>rw[e]at h2;cases h2
   |some a=>rw[e]at h2;cases h2;rfl
  obtain⟨u,hu,rv⟩:=r.get ha
  have hp:ps[i]?=some y:=by
   rw[<-S.pre,Wd (by omega)];exact h1
  have ndP:ps.Nodup:=by rw[<-S.pre];exact S.nd.sublist (List.take_sublist _ _)
  refine⟨u,rv,?_⟩
  rcases S.par y (Al hp)with k|k
  ·exact .inl ⟨k,jio ndP hp hu k⟩
  ·obtain⟨c,e⟩:=jkl (n:=s.heap.objs.size+1) k
   refine .inr ⟨.inl k,c,e,?_⟩
   have q:=x.cell y c e
   rw[jim ndP hp hu (by show scope.names.lookup y≠_;rw[k];decide)]at q
   exact q
 ·exact e0.hok.fresh (Wb (x.above y c (Oy h)))
 ·unfold start
  show _=N.length
  rw[Av,Ad,List.length_replicate]
  omega
theorem jjv{CX:CXT}{P:Program}{w:World}{K:PySem.W.Frag}{mg:Str->Option Value}{base:Heap}{k:Nat}{f:Addr}{name qual:Str}{params:Arguments}{body:List Stmt}{scope:Scope}{dV kV doc pm cdv ct oc:Value}{an od:Option Addr}
  {osl:Array (Option Value)}{N ps:List Str}{sp:Sp} (lk:K.lookup f=some ⟨oc,od,.func (PySem.W.fnOf name qual params body scope dV kV doc pm an cdv ct),osl⟩) (hcd:PySem.W.codeIn K cdv qual=true) (S:FnScope N ps scope)
  (len:∀vs H Q E,sp vs H Q E->vs.length=ps.length)
  (hbody:∀(A:Around)(outer:List Env)(s:Shared)(H:Hp)(vs:List V)(Q:VK)(E:XK),Room k (A.deeper (envOfC qual scope s.heap.objs.size f cdv))->sp vs H Q E ->
   ∃t,PSs (cxOf CX P w K mg base N qual scope f cdv A outer s H E) body t/\t {nx:=λ_ H'=>Q .non H',rt:=Q} (start N vs) H) :
  FnOk P w K mg base CX (k+1) f (PySem.W.fnOf name qual params body scope dV kV doc pm an cdv ct) ps sp:=by
 refine⟨len,λA outer s H args us vs Q E hr e0 hb r hsp=>?_⟩
 have hl:=len _ _ _ _ hsp
 have KX:K.In s.heap:=e0.mod.kin.keeps λb o e=>(e0.bs b o e).1
 have lim:s.heap.NoLimit:=e0.mod.nolimit.keeps λb o e=>(e0.bs b o e).1
 have hkind:∀y∈ps.zip us,scope.names.lookup y.1=some .local\/(scope.names.lookup y.1=some .cell/\((cellsFrom (s.heap.objs.size+1) scope.names []).lookup y.1).isSome=true):=fun⟨n,v⟩ hy=>by
  rcases S.par n (Wp hy).1 with q|q
  ·exact .inl q
  ·exact .inr ⟨q,PySem.W.cellsFrom_some _ _ _ (.inl q)⟩
 refine codeAny_call_function hr.depth (KX _ _ lk) rfl S.co S.gen rfl (PySem.W.codeRec_of KX hcd) (hb _ _ _ _ ?_)
 refine wpAny_newFunctionEnv_cells S.kind hkind λenv he s1 x=>?_
 subst he
 refine⟨lim.keeps x.toInCall.keep,codeAny_func ?_⟩
 obtain⟨t,ht,hq⟩:=hbody A outer s H vs Q E (hr.deeper _) hsp
 have I:Inv (cxOf CX P w K mg base N qual scope f cdv A outer s H E) [] (start N vs) H s1:=jo0 S hr.hd e0 hl r x
 refine Ur (ht [] s1 (start N vs) H _ I hq) (λfl s' hs=>?_) λe s' hs=>hs
 have fin:∀{σ':St}{H':Hp}{v:V}{u:Value},Inv (cxOf CX P w K mg base N qual scope f cdv A outer s H E) [] σ' H' s'->RelV v u->Q v H'->CE outer P w H s Q u s' :=
  fun{σ' H' v u} J rv q=>⟨v,H',J.os,J.bare,J.base,J.hok,rv,q⟩
 cases fl with
 |ret u =>
  obtain⟨v,σ',H',J,rv,q⟩:=hs
  exact fin J rv q
 |next =>
  obtain⟨σ',H',J,q⟩:=hs
  exact fin (v:=V.non) (u:=Value.none) J rfl q
 |brk =>
  obtain⟨_,_,_,q⟩:=hs
  exact False.elim q
 |cont =>
  obtain⟨_,_,_,q⟩:=hs
  exact False.elim q
section
variable{X:Cx}{x:Str}{p pos:Pos}{e:Expr}{es:List Expr}{t:TA}{id T:String}{r:List V->Hp->VK->Prop}
def tCB(r:List V->Hp->VK->Prop)(t:TA):TE:=λσ H Q=>t σ H λvs H1=>r vs H1 Q
theorem pe_callB(hc:jc0 X (.builtin id) r)(hg:Gl X x)(hm:X.mg x=none)(hv:bootBuiltins x=some (.builtin id))(ha:PA X (e::es) t)(hn:x≠"__name__":=by decide)(hdb:(x == ("__debug__":Str))=false:=by decide)
  (he:starEach (e::es) X.env=(false,eval e X.env)::starEach es X.env:=by rfl) (hpl:(backTo pos (starEach es X.env)).any (·.1)=false:=by rfl):PE X (.Call (.Name x p) (e::es) [] pos) (tCB r t):=by
 intro pins s σ H Q I h
 refine O4 (jdw I hg hm hv ?_ hn hdb)
 exact Wq (thn (ha pos pins s σ H _ I h) λus s1 ⟨vs,H1,I1,r1,q1⟩=>hc pins s1 σ H1 vs us Q I1 r1 q1) he hpl
theorem pe_callTy(hc:jc0 X (.type T) r)(hg:Gl X x)(hm:X.mg x=none)(hv:bootBuiltins x=some (.type T))(ha:PA X (e::es) t)(hn:x≠"__name__":=by decide)(hdb:(x == ("__debug__":Str))=false:=by decide)
  (he:starEach (e::es) X.env=(false,eval e X.env)::starEach es X.env:=by rfl) (hpl:(backTo pos (starEach es X.env)).any (·.1)=false:=by rfl):PE X (.Call (.Name x p) (e::es) [] pos) (tCB r t):=by
 intro pins s σ H Q I h
 refine O4 (jdw I hg hm hv ?_ hn hdb)
 exact Op (thn (ha pos pins s σ H _ I h) λus s1 ⟨vs,H1,I1,r1,q1⟩=>hc pins s1 σ H1 vs us Q I1 r1 q1) he hpl
end
end L2
namespace HT
open PySem PyProof.Rows
section
variable{prog:Program}{w:World}{A:Around}{E:Value->Shared->Prop}{s:Shared}
theorem cat_tup{t b:Addr}{vs ws:List Value}{Q:Value->Shared->Prop}(ht:IsTup s.heap t vs.toArray)(hb:IsTup s.heap b ws.toArray)(hv:vs≠[])
  (h1:ws=[]->Q (.ref t) s) (h2:ws≠[]->Q (.ref s.heap.objs.size) {s with heap:=s.heap.push {cls:=.type "tuple",data:=.seq (vs++ws).toArray}})
  (hsz:vs.length+ws.length<=sizeLine):wpAny (model prog w) A (binaryOp .Add (.ref t) (.ref b)) Q E s:=by
 obtain⟨⟨cls,dd,data,sl⟩,ho,hc,n,hd⟩:=id ht
 obtain⟨⟨cls2,dd2,data2,sl2⟩,ho2,hc2,n2,hd2⟩:=id hb
 simp only at hc hd hc2 hd2
 subst hc hd hc2 hd2
 have e:vs.toArray++ws.toArray=(vs++ws).toArray:=by simp
 by_cases hw:ws=[]
 ·exact concat_meets ⟨_,ho,rfl⟩ ⟨_,ho2,rfl⟩ noFill_tuple_add seq_tuple_add PySem.F.slot_tuple_add PySem.F.entry_tuple_add (PySem.F.args_tuple_add_2 _ _)
   (tuple_addW1 t b vs.toArray ws.toArray n n2 dd dd2 sl sl2 (by simpa using hv) (by simp[hw])) ⟨ho,ho2,h1 hw⟩
 ·refine concat_meets ⟨_,ho,rfl⟩ ⟨_,ho2,rfl⟩ noFill_tuple_add seq_tuple_add PySem.F.slot_tuple_add PySem.F.entry_tuple_add (PySem.F.args_tuple_add_2 _ _)
   (tuple_addW2 t b vs.toArray ws.toArray n n2 dd dd2 sl sl2 (by simpa using hv) (by simpa using hw) (by rw[Au,Au];exact hsz)) ⟨ho,ho2,?_⟩
  rw[e]
  exact h2 hw
def sIx(n d:Nat):Option Int->Nat
 |none=>d
 |some v=>if v<0 then(v+(n:Int)).toNat else min v.toNat n
theorem jsv(n d:Nat)(hd:d<=n)(o:Option Int):sIx n d o<=n:=by
 cases o with
 |none=>exact hd
 |some v =>
  show(if v<0 then(v+(n:Int)).toNat else min v.toNat n)<=n
  by_cases hv:v<0
  ·rw[Ao hv];omega
  ·rw[Am hv];exact Nat.min_le_right _ _
theorem jmc(v:Int)(n d:Nat):(if v<0 then max (v+(n:Int)) 0 else min v (n:Int))=((sIx n d (some v):Nat):Int):=by
 show(if v<0 then max (v+(n:Int)) 0 else min v (n:Int))=(((if v<0 then(v+(n:Int)).toNat else min v.toNat n):Nat):Int)
 by_cases hv:v<0
 ·simp only[Ao hv];omega
 ·simp only[Am hv];omega
theorem jnh(lo hi:Option Int)(n:Nat):Builtin.Slice.sliceAdjust lo hi 1 (n:Int)=(((sIx n 0 lo:Nat):Int),((sIx n n hi:Nat):Int)):=by
 have h1:¬((1:Int)<0):=by omega
 unfold Builtin.Slice.sliceAdjust
 simp only[h1,Ob]
 refine Prod.ext ?_ ?_
 ·cases lo with
  |none=>rfl
  |some v=>exact jmc v n 0
 ·cases hi with
  |none=>rfl
  |some v=>exact jmc v n n
theorem places_gen(i j:Nat):Builtin.Slice.slicePlaces (i:Int) (j:Int) 1=j-i:=by
 unfold Builtin.Slice.slicePlaces
 have h1:(1:Int)>0:=by omega
 simp only[h1,O0,Int.ediv_one]
 split <;> omega
theorem jhv{v:Value}{o:Option Int}{Q:Option Int->Shared->Prop}(p:IsPart v o)(h:Q o s):wpAny (model prog w) A (Builtin.Slice.slicePartIndex v) Q E s:=by
 cases p with
 |none=>exact slicePart_none h
 |int i t=>exact slicePart_int h
theorem jgy{sl:Addr}{vl vu:Value}{lo hi:Option Int}{n:Nat}{Q:Int×Int×Nat->Shared->Prop}(hs:s.heap.IsSliceOf sl vl vu .none)(pl:IsPart vl lo)(pu:IsPart vu hi)
  (h:Q (((sIx n 0 lo:Nat):Int),1,sIx n n hi-sIx n 0 lo) s):wpAny (model prog w) A (Builtin.Slice.sliceApplied (.ref sl) (pure (n:Int))) Q E s:=by
 obtain⟨os,hos,hcs,hds⟩:=id hs
 unfold Builtin.Slice.sliceApplied Builtin.Slice.sliceFields
 refine Ab (Ab (wpAny_field hos hds (x:=vl) rfl (Ab (wpAny_field hos hds (x:=vu) rfl (Ab (wpAny_field hos hds (x:=.none) rfl (Ah ?_)))))))
 refine Ab (slicePart_none ?_)
 show wpAny _ _ (if((1:Int) == 0)=true then _ else _) _ _ s
 rw[Am (by decide)]
 refine Ab (jhv pl (Ab (jhv pu (Ab (Ah ?_)))))
 show wpAny _ _ (match Builtin.Slice.sliceAdjust lo hi 1 (n:Int)with|(lo,hi)=>pure (lo,(1:Int),Builtin.Slice.slicePlaces lo hi 1)) _ _ s
 rw[jnh lo hi n]
 show wpAny _ _ (pure (((sIx n 0 lo:Nat):Int),(1:Int),Builtin.Slice.slicePlaces ((sIx n 0 lo:Nat):Int) ((sIx n n hi:Nat):Int) 1)) _ _ s
 rw[places_gen]
 exact Ah h
theorem pick_gen(xs:Array Value)(i k:Nat):((List.range k).filterMap fun(m:Nat)=>xs[((i:Int)+(m:Int)*1).toNat]?).toArray=((xs.toList.drop i).take k).toArray:=by
 have e:(fun(m:Nat)=>xs[((i:Int)+(m:Int)*1).toNat]?)=λm=>xs[i+m]?:=by
  funext m
  have:((i:Int)+(m:Int)*1).toNat=i+m:=by omega
  rw[this]
 rw[e]
 have:=pick_run xs i k
 rw[List.filterMap_map]at this
 have e2:((λx=>xs[x]?)∘λx=>i+x)=λm=>xs[i+m]?:=rfl
 rw[e2]at this
 rw[this]
theorem getItem_tuple_cut{t sl:Addr}{items:Array Value}{vl vu:Value}{lo hi:Option Int}{Q:Value->Shared->Prop}(ht:IsTup s.heap t items)(hs:s.heap.IsSliceOf sl vl vu .none)(pl:IsPart vl lo)(pu:IsPart vu hi)
  (hw:¬(sIx items.size 0 lo=0/\sIx items.size items.size hi=items.size))
  (h:Q (.ref s.heap.objs.size) {s with heap:=s.heap.push {cls:=.type "tuple",data:=.seq ((items.toList.drop (sIx items.size 0 lo)).take (sIx items.size items.size hi-sIx items.size 0 lo)).toArray}})
  (hsz:items.size<=sizeLine):wpAny (model prog w) A (getItem (.ref t) (.ref sl)) Q E s:=by
 have htake:sizeOk (.seq ((items.toList.drop (sIx items.size 0 lo)).take (sIx items.size items.size hi-sIx items.size 0 lo)).toArray):=by
  show((items.toList.drop (sIx items.size 0 lo)).take (sIx items.size items.size hi-sIx items.size 0 lo)).toArray.size<=sizeLine
  rw[Au,Iz,W3,Array.length_toList]
  omega
 have hj:sIx items.size items.size hi<=items.size:=jsv _ _ (Ak _) hi
 obtain⟨os,hos,hcs,hds⟩:=id hs
 have hTs:s.TypeIs (.ref sl) "slice":=⟨os,hos,hcs⟩
 unfold getItem
 try with_reducible refine Og ?_
 first|refine Ab (Ah ?_)|skip
 refine Ab (wpAny_sequenceKey ht.typeIs (by decide) ?_)
 refine Ab (Uk (name:=Str.ofString "__getitem__") ht.typeIs Wj
  (Ot Wj ht.typeIs entry_tuple_getitem ?_ (args_tuple_getitem _ _)))
 show wpAny _ _ (Builtin.Tuple.tupleItemsOf (.ref t) >>= _) _ _ s
 refine Ab (tupleItemsOf_ ht ?_)
 refine Ab (Yb hTs ?_)
 rw[Ao (by decide)]
 refine Ab (jgy hs pl pu ?_)
 have hno:¬((((sIx items.size 0 lo:Nat):Int) == 0 && (1:Int) == 1 && (sIx items.size items.size hi-sIx items.size 0 lo) == items.size)=true):=by
  intro q
  rw[Ou,Ou]at q
  have q1:((sIx items.size 0 lo:Nat):Int)=0:=eq_of_beq q.1.1
  have q2:sIx items.size items.size hi-sIx items.size 0 lo=items.size:=eq_of_beq q.2
  exact hw ⟨by omega,by omega⟩
 show wpAny _ _ (if(((sIx items.size 0 lo:Nat):Int) == 0 && (1:Int) == 1 && (sIx items.size items.size hi-sIx items.size 0 lo) == items.size)=true then _ else _) _ _ s
 rw[Am hno,pick_gen]
 first
  |exact Ab (m:=Builtin.Tuple.tupleExact _) (Oh (Ah ⟨_,rfl,Ah h⟩) htake)
  |exact Ab (m:=Builtin.Tuple.tupleExact _) (Oh (Ab (Ah (Ah ⟨_,rfl,Ah h⟩))) htake)
  |exact Ab (Ab (m:=Builtin.Tuple.tupleExact _) (Oh (Ah (Ah ⟨_,rfl,Ah h⟩)) htake))
  |exact Ab (Ab (m:=Builtin.Tuple.tupleExact _) (Oh (Ah ⟨_,rfl,Ah h⟩) htake))
end
end HT
namespace L2
open PySem PySem.Spec PyProof.Rows
abbrev TO:=St->Hp->(Option Int->Hp->Prop)->Prop
def PO(X:Cx)(e:Option Expr)(t:TO):Prop :=
 ∀(pins:List (Addr×Obj))(s:Shared)(σ:St)(H:Hp)(Q:Option Int->Hp->Prop),Inv X pins σ H s->t σ H Q ->
  wpAny (model X.prog X.w) X.A (evalPart e X.env) (λu s'=>∃o H',Inv X pins σ H' s'/\IsPart u o/\Q o H') X.xe s
def jga:TO:=λ_ H Q=>Q none H
def jj9(t:TE):TO:=λσ H Q=>t σ H λx H1=>∃i,x=.int i/\Q (some i) H1
theorem jnv{ns:List Int}:∀{us:List Value},Vals (ns.map V.int) us->IntsAre us ns:=by
 induction ns with
 |nil=>intro us r;rw[Uq]at r;cases r;exact .nil
 |cons n ns ih =>
  intro us r
  rw[Ay]at r
  cases r with
  |cons r1 r2 =>
   obtain⟨t,e⟩:=r1
   subst e
   exact .cons n t (ih r2)
section
variable{X:Cx}{e:Expr}{te:TE}{lo hi:Option Expr}{tl th:TO}{pos p2:Pos}
theorem po_none:PO X none jga:=by
 intro pins s σ H Q I h
 rw[evalPart_none]
 exact Ah ⟨none,H,I,.none,h⟩
theorem po_some(h:PE X e te):PO X (some e) (jj9 te):=by
 intro pins s σ H Q I hw
 rw[evalPart_some]
 refine thn (h pins s σ H _ I hw) λu s1 ⟨x,H1,I1,r1,q1⟩=>?_
 obtain⟨i,rfl,q⟩:=q1
 obtain⟨t,rfl⟩:=r1
 exact⟨some i,H1,I1,.int i t,q⟩
def SlR(X:Cx)(r:V->Option Int->Option Int->Hp->VK->Prop):Prop :=
 ∀(pins:List (Addr×Obj))(s:Shared)(σ:St)(H:Hp)(x:V)(v vl vu:Value)(lo hi:Option Int)(sl:Addr)(Q:VK),Inv X pins σ H s->RelV x v->s.heap.IsSliceOf sl vl vu .none->IsPart vl lo->IsPart vu hi->r x lo hi H Q ->
  ∃T id,typeLookup (.type T) "__getitem__"=pure (some (.builtin id))/\s.TypeIs v T/\wpAny (model X.prog X.w) X.A (getItem v (.ref sl)) (EP X pins σ Q) X.xe s
def tSl(r:V->Option Int->Option Int->Hp->VK->Prop)(te:TE)(tl th:TO):TE:=λσ H Q=>te σ H λx H1=>tl σ H1 λl H2=>th σ H2 λu H3=>r x l u H3 Q
theorem pe_slice{r:V->Option Int->Option Int->Hp->VK->Prop}(hr:SlR X r)(he:PE X e te)(hl:PO X lo tl)(hu:PO X hi th):PE X (.Subscript e (.Slice lo hi none p2) pos) (tSl r te tl th):=by
 intro pins s σ H Q I h
 refine Subscript_ (thn (he pins s σ H _ I h) λv s1 ⟨x,H1,I1,r1,q1⟩=>?_)
 refine wpAny_Slice (thn (hl pins s1 σ H1 _ I1 q1) λvl s2 ⟨l,H2,I2,pl,q2⟩=>thn (hu pins s2 σ H2 _ I2 q2) λvu s3 ⟨u,H3,I3,pu,q3⟩=>?_)
 rw[evalPart_none]
 refine Ah ?_
 have I4:Inv X pins σ H3 {s3 with heap:=s3.heap.push {cls:=.type "slice",data:=.fields #[vl,vu,.none]}}:=I3.kept (t':=s3.toks) λb ob q=>Ai _ q
 obtain⟨T,id,hT,ht,hg⟩:=hr pins {s3 with heap:=s3.heap.push {cls:=.type "slice",data:=.fields #[vl,vu,.none]}} σ H3 x v vl vu l u s3.heap.objs.size Q I4 r1 (Heap.IsSliceOf.new ..) pl pu q3
 show wpAny (model X.prog X.w) X.A (subscriptTail e (.Slice lo hi none p2) v (.ref s3.heap.objs.size)) (EP X pins σ Q) X.xe {s3 with heap:=s3.heap.push {cls:=.type "slice",data:=.fields #[vl,vu,.none]}}
 exact tail_any (ops:=[.ref s3.heap.objs.size,v]) ht hT hg (by with_unfolding_all rfl)
def cutV(xs:List V)(lo hi:Option Int):List V:=(xs.drop (HT.sIx xs.length 0 lo)).take (HT.sIx xs.length xs.length hi-HT.sIx xs.length 0 lo)
theorem jgf(xs:List V)(lo hi:Option Int):(cutV xs lo hi).length<=xs.length:=by
 unfold cutV
 rw[Iz,W3]
 omega
def rSlT(K:PySem.W.Frag):V->Option Int->Option Int->Hp->VK->Prop:=λx lo hi H Q=>∃a xs,x=.ref a/\SqT K H a xs /\
 ¬(HT.sIx xs.length 0 lo=0/\HT.sIx xs.length xs.length hi=xs.length)/\∀p,H p=none->Q (.ref p) (upd H p (.tup (cutV xs lo hi)))
theorem sl_tup:SlR X (rSlT X.K):=by
 intro pins s σ H x v vl vu lo hi sl Q I rx hs pl pu h
 obtain⟨a,xs,rfl,hx,hw,q⟩:=h
 cases rx
 obtain⟨its,r,ht,hz⟩:=I.tuple hx
 have hlen:its.toArray.size=xs.length:=by rw[Au];exact r.length.symm
 refine⟨"tuple",_,Wj.lookup,ht.typeIs,?_⟩
 refine HT.getItem_tuple_cut ht hs pl pu (by rw[hlen];exact hw) ?_ (by rw[hlen];exact hz)
 rw[hlen]
 refine⟨.ref s.heap.objs.size,_,I.laid (t':=s.toks) (o:=.tup (cutV xs lo hi)) (λb ob q=>Ai _ q) (Ak _) ?_,rfl,q _ (I.hok.fresh (Ak _))⟩
 exact⟨Im (jgf xs lo hi) hz,_,(r.drop (HT.sIx xs.length 0 lo)).take (HT.sIx xs.length xs.length hi-HT.sIx xs.length 0 lo),IsTup.new _ _⟩
def js5(K:PySem.W.Frag):R2:=λx y H Q=>∃a b xs ys,x=.ref a/\y=.ref b/\SqT K H a xs/\SqT K H b ys/\xs≠[]/\xs.length+ys.length<=sizeLine /\
 (ys=[]->Q (.ref a) H)/\(ys≠[]->∀p,H p=none->Q (.ref p) (upd H p (.tup (xs++ys))))
theorem Vals.nil_iff{xs:List V}{us:List Value}(r:Vals xs us):us=[]↔xs=[]:=by
 cases r with
 |nil=>simp
 |cons _ _=>simp
theorem op_catT:OpR X (binaryOp .Add) (js5 X.K):=by
 intro pins s σ H x y v u Q I rx ry h
 obtain⟨a,b,xs,ys,rfl,rfl,ha,hb,hx,hz,q1,q2⟩:=h
 cases rx
 cases ry
 obtain⟨its,r1,p1,_⟩:=I.tuple ha
 obtain⟨its2,r2,p2,_⟩:=I.tuple hb
 refine HT.cat_tup p1 p2 (λz=>hx (r1.nil_iff.mp z)) (λz=>⟨.ref a,H,I,rfl,q1 (r2.nil_iff.mp z)⟩) (λz=>?_) (by rw[<-r1.length,<-r2.length];exact hz)
 refine⟨.ref s.heap.objs.size,_,I.laid (t':=s.toks) (o:=.tup (xs++ys)) (λb ob q=>Ai _ q) (Ak _) ?_,rfl,q2 (λw=>z (r2.nil_iff.mpr w)) _ (I.hok.fresh (Ak _))⟩
 exact⟨by rw[Av];exact hz,_,r1.append r2,IsTup.new _ _⟩
end
def ixN(n:Nat)(i:Int):Option Nat:=if 0<=i then(if i<n then some i.toNat else none)else if -(n:Int)<=i then some (i+n).toNat else none
def atI{α:Type}(xs:List α)(i:Int):Option α:=(ixN xs.length i).bind λj=>xs[j]?
theorem jmu{n:Nat}{i:Int}{j:Nat}(h:ixN n i=some j):seqIndex? i n=some j/\j<n/\-(n:Int)<=i/\i<n:=by
 unfold ixN at h
 by_cases h0:0<=i
 ·rw[Ao h0]at h
  by_cases h1:i<n
  ·rw[Ao h1]at h
   have e:i.toNat=j:=Aq h
   exact⟨by rw[seqIndex_of h0 h1,e],by omega,by omega,h1⟩
  ·rw[Am h1]at h;cases h
 ·rw[Am h0]at h
  by_cases h1:-(n:Int)<=i
  ·rw[Ao h1]at h
   have e:(i+n).toNat=j:=Aq h
   exact⟨by rw[seqIndex_neg (by omega) h1,e],by omega,h1,by omega⟩
  ·rw[Am h1]at h;cases h
theorem jh7{α:Type}{xs:List α}{i:Int}{v:α}(h:atI xs i=some v):∃j,seqIndex? i xs.length=some j/\xs[j]?=some v/\j<xs.length/\-(xs.length:Int)<=i/\i<xs.length:=by
 unfold atI at h
 cases e:ixN xs.length i with
 |none=>rw[e]at h;cases h
 |some j =>
  rw[e]at h
  obtain⟨h1,h2,h3,h4⟩:=jmu e
  exact⟨j,h1,h,h2,h3,h4⟩
theorem jcm{α:Type}{xs:List α}{j:Nat}{v:α}(h:xs[j]?=some v):atI xs (j:Int)=some v:=by
 have hj:j<xs.length:=(Ae.mp h).1
 have e:ixN xs.length (j:Int)=some j:=by
  unfold ixN
  rw[Ao (by omega),Ao (by omega)];simp
 unfold atI;rw[e];exact h
def jma(b:Expr):Prop:=∀o i,subscripted b false o i=operate [o,i] (getItem o i)
def IxR(X:Cx)(r:R2):Prop :=
 ∀(value slice:Expr)(pins:List (Addr×Obj))(s:Shared)(σ:St)(H:Hp)(x y:V)(v u:Value)(Q:VK),Inv X pins σ H s->RelV x v->RelV y u->r x y H Q ->
  subscripted slice false v u=operate [v,u] (getItem v u)->wpAny (model X.prog X.w) X.A (subscriptTail value slice v u) (EP X pins σ Q) X.xe s
def MtR(X:Cx)(id:String)(r:V->List V->Hp->VK->Prop):Prop :=
 ∀(pins:List (Addr×Obj))(s:Shared)(σ:St)(H:Hp)(x:V)(xs:List V)(v:Value)(us:List Value)(Q:VK),Inv X pins σ H s->RelV x v->Vals xs us->r x xs H Q ->
  wpAny (model X.prog X.w) X.A (call (.builtin id) (v::us)) (EP X pins σ Q) X.xe s
section
variable{X:Cx}{a b:Expr}{ta tb:TE}{pos:Pos}
theorem pe_ix{r:R2}(hr:IxR X r)(ha:PE X a ta)(hb:PE X b tb)(hs:jma b):PE X (.Subscript a b pos) (tOp r ta tb):=by
 intro pins s σ H Q I h
 exact Subscript_ (binT ha hb I h λv u s2 x y H2 I2 rx ry q=>hr a b pins s2 σ H2 x y v u Q I2 rx ry q (hs _ _))
def rIxL(K:PySem.W.Frag):R2:=λx y H Q=>∃p xs i v,x=.ref p/\y=.int i/\SqL K H p xs/\atI xs i=some v/\Q v H
def rIxT(K:PySem.W.Frag):R2:=λx y H Q=>∃p xs i v,x=.ref p/\y=.int i/\SqT K H p xs/\atI xs i=some v/\Q v H
def rIxS:R2:=λx y H Q=>∃z i c,x=.str z/\y=.int i/\z.length<=sizeLine/\atI z.cps.toList i=some c/\Q (.str ⟨#[c]⟩) H
theorem jbp:IxR X (rIxL X.K):=by
 intro value slice pins s σ H x y v u Q I rx ry h hs
 obtain⟨p,xs,i,z,rfl,rfl,hq,he,q⟩:=h
 cases rx
 obtain⟨t,rfl⟩:=ry
 obtain⟨its,r,pl,hz⟩:=I.list hq
 obtain⟨j,h1,h2,h3,h4,h5⟩:=jh7 he
 obtain⟨w,ew,rw'⟩:=r.get h2
 have hl:=r.length
 have hn:=jem
 have fin:EP X pins σ Q w s:=⟨z,H,I,rw',q⟩
 by_cases h0:0<=i
 ·have hj:i.toNat=j:=by
   rw[seqIndex_of h0 h5]at h1
   exact Aq h1
  exact item_listR pl.isList h0 (by omega) (by rw[hj];simpa using ew) fin hs
 ·have hj:(i+(its.toArray.size:Int)).toNat=j:=by
   rw[seqIndex_neg (by omega) h4]at h1
   rw[Au,<-hl]
   exact Aq h1
  exact subscriptTail_builtinR (x:=w) pl.isList.typeIs slot_list_getitem.lookup
   (wpAny_getItem_list_neg (Q:=λr s'=>r=w/\EP X pins σ Q r s') pl.isList (by omega) (by rw[Au] <;> omega) (by omega) (by rw[hj];simpa using ew) ⟨rfl,fin⟩) hs
theorem ix_tup:IxR X (rIxT X.K):=by
 intro value slice pins s σ H x y v u Q I rx ry h hs
 obtain⟨p,xs,i,z,rfl,rfl,hq,he,q⟩:=h
 cases rx
 obtain⟨t,rfl⟩:=ry
 obtain⟨its,r,pl,hz⟩:=I.tuple hq
 obtain⟨j,h1,h2,h3,h4,h5⟩:=jh7 he
 obtain⟨w,ew,rw'⟩:=r.get h2
 have hl:=r.length
 have hn:=jem
 have fin:EP X pins σ Q w s:=⟨z,H,I,rw',q⟩
 exact subscriptTail_builtinR (x:=w) pl.typeIs slot_tuple_getitem.lookup
  (getItem_tuple (j:=j) (Q:=λr s'=>r=w/\EP X pins σ Q r s') pl (by omega) (by omega) (by rw[Au,<-hl];exact h1) (by simpa using ew) ⟨rfl,fin⟩) hs
theorem ix_str:IxR X rIxS:=by
 intro value slice pins s σ H x y v u Q I rx ry h hs
 obtain⟨z,i,c,rfl,rfl,hz,he,q⟩:=h
 obtain⟨t,rfl⟩:=rx
 obtain⟨t',rfl⟩:=ry
 obtain⟨j,h1,h2,h3,h4,h5⟩:=jh7 he
 have hl:z.cps.toList.length=z.length:=by simp[Str.length]
 rw[hl]at h1 h4 h5
 have hn:=jem
 exact tail_any (typeIs_str s z t) slot_str_getitem.lookup (getItem_str (c:=c) (by
  have e1:decide (i < -(2^63:Int))=false:=Ol (by omega)
  have e2:decide (i ≥ 2^63)=false:=Ol (by omega)
  rw[e1,e2,Bool.or_false]) (by rw[h1];simpa using h2) ⟨.str ⟨#[c]⟩,H,I.tok _,⟨_,rfl⟩,q⟩) hs
theorem jnz(its:List Value)(n j:Nat)(u:Value):Obj.mapSeq (·.setIfInBounds j u) {cls:=.type "list",data:=.seq its.toArray n}={cls:=.type "list",data:=.seq (its.set j u).toArray n}:=by
 simp[Obj.mapSeq]
theorem Inv.lst{pins:List (Addr×Obj)}{σ:St}{H:Hp}{s:Shared}{p:Addr}{xs:List V}(I:Inv X pins σ H s)(h:H p=some (.lst xs)) :
  ∃(its:List Value)(n:Nat),Vals xs its/\s.heap.get? p=some {cls:=.type "list",data:=.seq its.toArray n}/\xs.length<=sizeLine:=by
 obtain⟨z,its,n,r,e⟩:=I.hok p _ h
 exact⟨its,n,r,e,z⟩
theorem Inv.lstUpd{pins:List (Addr×Obj)}{σ:St}{H:Hp}{s:Shared}{p:Addr}{xs ys:List V}{its its':List Value}{n n':Nat}{f:Obj->Obj}(I:Inv X pins σ H s)(h:H p=some (.lst xs))
  (ho:s.heap.get? p=some {cls:=.type "list",data:=.seq its.toArray n}) (hf:f {cls:=.type "list",data:=.seq its.toArray n}={cls:=.type "list",data:=.seq its'.toArray n'}) (r:Vals ys its') (hz:ys.length<=sizeLine) (t:Nat) :
  Inv X pins σ (upd H p (.lst ys)) {s with heap:=s.heap.update p f,toks:=t}:=by
 have e:(s.heap.update p f).get? p=some {cls:=.type "list",data:=.seq its'.toArray n'}:=by
  rw[O1 f ho (by rw[hf] <;> rfl),hf]
 refine I.write (x:=p) (e:=p) (by rw[h];trivial) (.inl rfl) (λb u hb q=>(Ow _ _ (U9 hb)).trans q) ⟨_,e⟩ ?_
 exact⟨hz,its',n',r,e⟩
def js8:V->V->V->Hp->(Hp->Prop)->Prop:=λo i v H Q=>∃p xs k j,o=.ref p/\i=.int k/\H p=some (.lst xs)/\ixN xs.length k=some j/\Q (upd H p (.lst (xs.set j v)))
theorem jqh:PSet X js8:=by
 intro pins s σ H o i v ov iv u Q I ro ri rv h
 obtain⟨p,xs,k,j,rfl,rfl,hp,hj,q⟩:=h
 cases ro
 obtain⟨t,rfl⟩:=ri
 obtain⟨its,n,r,ho,hz⟩:=I.lst hp
 obtain⟨h1,h2,h3,h4⟩:=jmu hj
 have hl:=r.length
 have hn:=jem
 have I':Inv X pins σ (upd H p (.lst (xs.set j v))) {s with heap:=s.heap.update p (Obj.mapSeq (·.setIfInBounds j u))} :=
  I.lstUpd hp ho (jnz its n j u) (r.set rv j) (by rw[Ua];exact hz) s.toks
 by_cases h0:0<=k
 ·have hk:k.toNat=j:=by
   rw[seqIndex_of h0 h4]at h1
   exact Aq h1
  exact PySem.W.ki_setAt ho h0 (by omega) (by rw[Au,<-hl];exact h4) (by rw[hk];exact⟨_,I',q⟩)
 ·have hk:(k+(its.toArray.size:Int)).toNat=j:=by
   rw[seqIndex_neg (by omega) h3]at h1
   rw[Au,<-hl]
   exact Aq h1
  exact PySem.W.ki_setBack ho (by omega) (by rw[Au,<-hl];exact h3) (by omega) (by rw[hk];exact⟨_,I',q⟩)
theorem jlu(lo hi:Option Int)(n:Nat):(sliceBounds lo hi none n).1=((HT.sIx n 0 lo:Nat):Int)/\(sliceBounds lo hi none n).2.1=((HT.sIx n n hi:Nat):Int)/\(sliceBounds lo hi none n).2.2=1:=by
 refine⟨?_,?_,rfl⟩
 ·cases lo with
  |none=>simp[sliceBounds,HT.sIx]
  |some i =>
   simp only[sliceBounds,HT.sIx,Option.getD_none,show(1:Int)>0 by decide,O0]
   by_cases h:i<0
   ·simp only[h,O0] <;> omega
   ·simp only[h,Ob] <;> omega
 ·cases hi with
  |none=>simp[sliceBounds,HT.sIx]
  |some i =>
   simp only[sliceBounds,HT.sIx,Option.getD_none,show(1:Int)>0 by decide,O0]
   by_cases h:i<0
   ·simp only[h,O0] <;> omega
   ·simp only[h,Ob] <;> omega
theorem jjt(its:List Value)(lo hi:Option Int):slicePick its.toArray lo hi none=((its.drop (HT.sIx its.length 0 lo)).take (HT.sIx its.length its.length hi-HT.sIx its.length 0 lo)).toArray:=by
 obtain⟨h1,h2,h3⟩:=jlu lo hi its.toArray.size
 unfold slicePick
 rw[h1,h2,h3]
 simp only[sliceRange_one,pick_run,Au] <;> rfl
def rSlL(K:PySem.W.Frag):V->Option Int->Option Int->Hp->VK->Prop:=λx lo hi H Q=>∃a xs,x=.ref a/\SqL K H a xs/\∀p,H p=none->Q (.ref p) (upd H p (.lst (cutV xs lo hi)))
theorem sl_list:SlR X (rSlL X.K):=by
 intro pins s σ H x v vl vu lo hi sl Q I rx hs pl pu h
 obtain⟨a,xs,rfl,hx,q⟩:=h
 cases rx
 obtain⟨its,r,ht,hz⟩:=I.list hx
 have hlen:=r.length
 refine⟨"list",_,slot_list_getitem.lookup,ht.isList.typeIs,?_⟩
 refine wpAny_getItem_list_slice ht.isList hs pl pu .none (by simp) ?_ (by rw[Au] <;> omega)
 rw[jjt,<-hlen]
 refine⟨.ref s.heap.objs.size,_,I.laid (t':=s.toks) (o:=.lst (cutV xs lo hi)) (λb ob q=>Ai _ q) (Ak _) ?_,rfl,q _ (I.hok.fresh (Ak _))⟩
 exact⟨Im (jgf xs lo hi) hz,_,0,(r.drop (HT.sIx xs.length 0 lo)).take (HT.sIx xs.length xs.length hi-HT.sIx xs.length 0 lo),A1 _ rfl⟩
def jdq:V->Bool
 |.non=>true
 |.bl _=>true
 |.int _=>true
 |.str _=>true
 |_=>false
def eqV:V->V->Bool
 |.non,.non=>true
 |.bl a,.bl b=>a == b
 |.bl a,.int b=>(if a then 1 else 0) == b
 |.int a,.bl b=>a == (if b then 1 else 0)
 |.int a,.int b=>a == b
 |.str a,.str b=>a == b
 |_,_=>false
theorem jsd{A:Around}{s:Shared}{y x:V}{u v:Value}(ry:RelV y u)(rx:RelV x v)(fy:jdq y=true)(fx:jdq x=true):SeqAt.EqAt A s u v (eqV y x):=by
 cases y with
 |non =>
  cases ry
  cases x with
  |non=>cases rx;exact SeqAt.EqAt.same _
  |bl b=>cases rx;exact SeqAt.EqAt.none_bool b
  |int b=>obtain⟨t,rfl⟩:=rx;exact SeqAt.EqAt.none_int b t
  |str b=>obtain⟨t,rfl⟩:=rx;exact SeqAt.EqAt.none_str b t
  |_=>exact absurd (show false=true from fx) A7
 |bl a =>
  cases ry
  cases x with
  |non=>cases rx;exact SeqAt.EqAt.bool_none a
  |bl b=>cases rx;exact SeqAt.EqAt.bool_bool a b
  |int b=>obtain⟨t,rfl⟩:=rx;exact SeqAt.EqAt.bool_int a b t
  |str b=>obtain⟨t,rfl⟩:=rx;exact SeqAt.EqAt.bool_str a b t
  |_=>exact absurd (show false=true from fx) A7
 |int a =>
  obtain⟨t',rfl⟩:=ry
  cases x with
  |non=>cases rx;exact SeqAt.EqAt.int_none a t'
  |bl b=>cases rx;exact SeqAt.EqAt.int_bool a t' b
  |int b=>obtain⟨t,rfl⟩:=rx;exact SeqAt.EqAt.int_int a t' b t
  |str b=>obtain⟨t,rfl⟩:=rx;exact SeqAt.EqAt.int_str a t' b t
  |_=>exact absurd (show false=true from fx) A7
 |str a =>
  obtain⟨t',rfl⟩:=ry
  cases x with
  |non=>cases rx;exact SeqAt.EqAt.str_none a t'
  |bl b=>cases rx;exact SeqAt.EqAt.str_bool a t' b
  |int b=>obtain⟨t,rfl⟩:=rx;exact SeqAt.EqAt.str_int a t' b t
  |str b=>obtain⟨t,rfl⟩:=rx;exact SeqAt.EqAt.str_str a t' b t
  |_=>exact absurd (show false=true from fx) A7
 |_=>exact absurd (show false=true from fy) A7
def eqU(x:V)(u:Value):Bool:=match u with
 |.none=>eqV .non x
 |.bool b=>eqV (.bl b) x
 |.int i _=>eqV (.int i) x
 |.str z _=>eqV (.str z) x
 |_=>false
theorem jou{x y:V}{u:Value}(r:RelV y u)(f:jdq y=true):eqU x u=eqV y x:=by
 cases y with
 |non=>cases r;rfl
 |bl b=>cases r;rfl
 |int i=>obtain⟨t,rfl⟩:=r;rfl
 |str z=>obtain⟨t,rfl⟩:=r;rfl
 |_=>exact absurd (show false=true from f) A7
theorem jh6{x:V}:∀{xs:List V}{us:List Value},Vals xs us->xs.all jdq=true->us.any (eqU x)=xs.any λy=>eqV y x
 |_,_,.nil,_=>rfl
 |y::xs,u::us,.cons r t,f=>by
  rw[List.all_cons,Ou]at f
  rw[List.any_cons,List.any_cons,jou r f.1,jh6 t f.2]
theorem jgq{A:Around}{s:Shared}{x:V}{v:Value}(rx:RelV x v)(fx:jdq x=true):∀{xs:List V}{us:List Value},Vals xs us->xs.all jdq=true->∀u∈us,SeqAt.EqAt A s u v (eqU x u)
 |_,_,.nil,_=>λu hu=>by cases hu
 |y::xs,u::us,.cons r t,f=>λu' hu=>by
  rw[List.all_cons,Ou]at f
  rcases Ap.mp hu with rfl|hu
  ·rw[jou r f.1];exact jsd r rx f.1 fx
  ·exact jgq rx fx t f.2 u' hu
def inV(x:V)(xs:List V):Bool:=xs.any λy=>eqV y x
def rIn(K:PySem.W.Frag)(neg:Bool):R2:=λx y H Q=>∃p xs,y=.ref p/\(SqL K H p xs\/SqT K H p xs)/\jdq x=true/\xs.all jdq=true/\Q (.bl (if neg then !inV x xs else inV x xs)) H
theorem op_notIn_seq:OpR X (compareOp .NotIn) (rIn X.K true):=by
 intro pins s σ H x y v u Q I rx ry h
 obtain⟨p,xs,rfl,hq,fx,fs,q⟩:=h
 cases ry
 rcases hq with hq|hq
 ·obtain⟨its,r,pl,hz⟩:=I.list hq
  refine SeqAt.notIn_listAt (eqU x) pl.isList (λw hw=>jgq rx fx r fs w (by simpa using hw)) ⟨.bl _,H,I,rfl,?_⟩
  rw[show its.toArray.any (eqU x)=its.any (eqU x)by simp,jh6 r fs]
  exact q
 ·obtain⟨its,r,pl,hz⟩:=I.tuple hq
  refine SeqAt.notIn_tupleAt (eqU x) pl (λw hw=>jgq rx fx r fs w (by simpa using hw)) ⟨.bl _,H,I,rfl,?_⟩
  rw[show its.toArray.any (eqU x)=its.any (eqU x)by simp,jh6 r fs]
  exact q
theorem op_notIn_str:OpR X (compareOp .NotIn) (λx y H Q=>∃i j,x=.str i/\y=.str j/\Q (.bl (!(!(Builtin.Str.occurrences j i 0 j.length 1).isEmpty))) H):=by
 intro pins s σ H x y v u Q I rx ry h
 obtain⟨i,j,rfl,rfl,q⟩:=h
 obtain⟨t,rfl⟩:=rx
 obtain⟨t',rfl⟩:=ry
 exact notIn_str ⟨.bl _,H,I,rfl,q⟩
theorem zx:jc0 X (.builtin "len") (λxs H Q=>∃p ys,xs=[.ref p]/\(SqL X.K H p ys\/SqT X.K H p ys)/\Q (.int ys.length) H):=by
 intro pins s σ H xs us Q I r h
 obtain⟨p,ys,rfl,hq,q⟩:=h
 obtain⟨u,rfl,rx⟩:=jdd r
 cases rx
 have hn:=jem
 rcases hq with hq|hq
 ·obtain⟨its,r',pl,hz⟩:=I.list hq
  have hlen:=r'.length
  exact Calls.call_len_list pl.isList (by simp only[Au] <;> omega) ⟨.int ys.length,H,I.tok _,⟨s.toks+1,by rw[Au,hlen]⟩,q⟩
 ·obtain⟨its,r',pl,hz⟩:=I.tuple hq
  have hlen:=r'.length
  exact len_tuple pl (by simp only[Au] <;> omega) ⟨.int ys.length,H,I.tok _,⟨s.toks+1,by rw[Au,hlen]⟩,q⟩
theorem call_len_str:jc0 X (.builtin "len") (λxs H Q=>∃z,xs=[.str z]/\z.length<=sizeLine/\Q (.int z.length) H):=by
 intro pins s σ H xs us Q I r h
 obtain⟨z,rfl,hz,q⟩:=h
 obtain⟨u,rfl,t,rfl⟩:=jdd r
 have hn:=jem
 exact len_str (by omega) ⟨.int z.length,H,I.tok _,⟨_,rfl⟩,q⟩
theorem ja3:jc0 X (.type "list") (λxs H Q=>∃p ys,xs=[.ref p]/\(SqL X.K H p ys\/SqT X.K H p ys)/\∀l,H l=none->Q (.ref l) (upd H l (.lst ys))):=by
 intro pins s σ H xs us Q I r h
 obtain⟨p,ys,rfl,hq,q⟩:=h
 obtain⟨u,rfl,rx⟩:=jdd r
 cases rx
 have fin:∀(its:List Value),Vals ys its->ys.length<=sizeLine->∀(h':Heap)(c':Nat),(∀b o',s.heap.get? b=some o'->h'.get? b=some o') ->
   h'.get? s.heap.objs.size=some {cls:=.type "list",dict:=none,data:=.seq its.toArray c',slots:=#[]}->EP X pins σ Q (.ref s.heap.objs.size) {s with heap:=h'}:=λits r' hz h' c' kp e =>
  ⟨.ref s.heap.objs.size,_,I.laid (t':=s.toks) kp (Ak _) (show ObjOk X.prog X.w _ h' _ (.lst ys)from⟨hz,its,c',r',e⟩),rfl,q _ (I.hok.fresh (Ak _))⟩
 rcases hq with hq|hq
 ·obtain⟨its,r',pl,hz⟩:=I.list hq
  have hlen:=r'.length
  obtain⟨o,ho,hc,n,hd⟩:=pl.isList
  exact call_list_seq p (.inl rfl) ho hc hd (λh' c' kp e=>fin its r' hz h' c' kp e) (by simp only[Au] <;> omega)
 ·obtain⟨its,r',pl,hz⟩:=I.tuple hq
  have hlen:=r'.length
  obtain⟨o,ho,hc,n,hd⟩:=pl
  exact call_list_seq p (.inr rfl) ho hc hd (λh' c' kp e=>fin its r' hz h' c' kp e) (by simp only[Au] <;> omega)
theorem ja1:jc0 X (.type "tuple") (λxs H Q=>∃p ys,xs=[.ref p]/\((SqL X.K H p ys/\∀l,H l=none->Q (.ref l) (upd H l (.tup ys)))\/(SqT X.K H p ys/\Q (.ref p) H))):=by
 intro pins s σ H xs us Q I r h
 obtain⟨p,ys,rfl,h⟩:=h
 obtain⟨u,rfl,rx⟩:=jdd r
 cases rx
 rcases h with⟨hq,q⟩|⟨hq,q⟩
 ·obtain⟨its,r',pl,hz⟩:=I.list hq
  have hlen:=r'.length
  refine call_tuple_list pl.isList (λh' kp=>?_) (by simp only[Au] <;> omega)
  have I1:Inv X pins σ H {s with heap:=h'}:=I.kept (t':=s.toks) kp
  have I2:Inv X pins σ (upd H h'.objs.size (.tup ys)) {s with heap:=h'.push {cls:=.type "tuple",data:=.seq its.toArray}} :=
   I1.laid (t':=s.toks) (λb o e=>Ai _ e) (Ak _) (show ObjOk X.prog X.w _ _ _ (.tup ys)from⟨hz,its,r',IsTup.new _ _⟩)
  exact⟨.ref h'.objs.size,_,I2,rfl,q _ (I1.hok.fresh (Ak _))⟩
 ·obtain⟨its,r',pl,hz⟩:=I.tuple hq
  exact call_tuple_same pl ⟨.ref p,H,I,rfl,q⟩
def tyV(K:PySem.W.Frag)(T:String)(x:V)(H:Hp):Prop:=match x with
 |.str _=>T="str"
 |.int _=>T="int"
 |.ref p=>(T="list"/\∃xs,SqL K H p xs)\/(T="tuple"/\∃o,K.lookup p=some o/\o.cls=.type "tuple"/\o.dict=none) \/
   (T="dict"/\((∃kvs,H p=some (.dK kvs))\/∃kvs,H p=some (.dT kvs)))\/(T="set"/\∃S n,H p=some (.set S n))
 |_=>False
theorem jpt{pins:List (Addr×Obj)}{σ:St}{H:Hp}{s:Shared}{T:String}{x:V}{v:Value}(I:Inv X pins σ H s)(r:RelV x v)(ty:tyV X.K T x H) :
  s.TypeIs v T/\∀a,v=.ref a->∃ob,s.heap.get? a=some ob/\ob.dict=none:=by
 cases x with
 |str z =>
  obtain⟨t,rfl⟩:=r
  cases(show T="str"from ty)
  exact⟨typeIs_str s z t,λ_ e=>nomatch e⟩
 |int i =>
  obtain⟨t,rfl⟩:=r
  cases(show T="int"from ty)
  exact⟨typeIs_int s i t,λ_ e=>nomatch e⟩
 |ref p =>
  cases r
  rcases ty with⟨rfl,xs,hq⟩|⟨rfl,o,hk,hc,hd⟩|⟨rfl,hk⟩|⟨rfl,S,n,hk⟩
  ·obtain⟨its,_,pl,_⟩:=I.list hq
   refine⟨pl.isList.typeIs,λa e=>?_⟩
   cases e
   obtain⟨o,n,e,c,hd,_⟩:=pl
   exact⟨o,e,hd⟩
  ·refine⟨⟨o,I.kIn p o hk,hc⟩,λa e=>?_⟩
   cases e
   exact⟨o,I.kIn _ o hk,hd⟩
  ·have z:∃o,s.heap.get? p=some o/\o.ExactDict:=by
    rcases hk with⟨kvs,hk⟩|⟨kvs,hk⟩
    ·obtain⟨_,_,_,_,o,_,_,e,ex,_⟩:=I.hok p _ hk
     exact⟨o,e,ex⟩
    ·obtain⟨_,_,_,_,o,_,_,e,ex,_⟩:=I.hok p _ hk
     exact⟨o,e,ex⟩
   obtain⟨o,e,ex⟩:=z
   refine⟨⟨o,e,ex.1⟩,λa e2=>?_⟩
   cases e2
   exact⟨o,e,ex.2.1⟩
  ·obtain⟨o,_,_,_,e,ex,_⟩:=I.hok p _ hk
   refine⟨⟨o,e,ex.1⟩,λa e2=>?_⟩
   cases e2
   exact⟨o,e,ex.2.1⟩
 |_=>exact False.elim ty
def tBM0(K:PySem.W.Frag)(T:String)(r:V->List V->Hp->VK->Prop)(to:TE):TE:=λσ H Q=>to σ H λx H1=>tyV K T x H1/\r x [] H1 Q
def tBM(K:PySem.W.Frag)(T:String)(r:V->List V->Hp->VK->Prop)(to:TE)(t:TA):TE:=λσ H Q=>to σ H λx H1=>tyV K T x H1/\t σ H1 λxs H2=>r x xs H2 Q
variable{o e:Expr}{es:List Expr}{to:TE}{t:TA}{name:Str}{apos cpos:Pos}{T id:String}{r:V->List V->Hp->VK->Prop}
theorem pe_bm0(pa:PlainAttrs T)(slot:Slot T name id)(hty:typeOf (.builtin id)=pure (.type "method_descriptor"))(hm:MtR X id r)(ho:PE X o to)
  (hbase:attributeBase o name X.env (eval o X.env)=eval o X.env:=by rfl) (hline:(apos.endLine == cpos.line)=true:=by rfl):PE X (.Call (.Attribute o name apos) [] [] cpos) (tBM0 X.K T r to):=by
 intro pins s σ H Q I h
 refine wpAny_Call_method0_late hbase hline (thn (ho pins s σ H _ I h) λv s1 ⟨x,H1,I1,r1,ty,q1⟩=>?_)
 obtain⟨h1,h2⟩:=jpt I1 r1 ty
 exact⟨T,id,pa,slot,hty,h1,h2,Yr rfl (PySem.evalArgs_none (hm pins s1 σ H1 x [] v [] Q I1 r1 .nil q1))⟩
theorem jch(pa:PlainAttrs T)(slot:Slot T name id)(hty:typeOf (.builtin id)=pure (.type "method_descriptor"))(hm:MtR X id r)(ho:PE X o to)(ha:PA X (e::es) t)
  (hbase:attributeBase o name X.env (eval o X.env)=eval o X.env:=by rfl)
  (hfew:((backTo cpos (starEach (e::es) X.env)).all (λx=>!x.1) && (backToKw cpos (keywordEach [] X.env)).all (λx=>x.1.isSome)
   && decide ((e::es).length+([]:List Keyword).length+(if([]:List Keyword).isEmpty then 0 else 1)<30))=true:=by rfl)
  (hline:(apos.endLine == cpos.line)=true:=by rfl) (hs:starEach (e::es) X.env=(false,eval e X.env)::starEach es X.env:=by rfl) (hplain:(backTo cpos (starEach es X.env)).any (·.1)=false:=by rfl) :
  PE X (.Call (.Attribute o name apos) (e::es) [] cpos) (tBM X.K T r to t):=by
 intro pins s σ H Q I h
 refine wpAny_Call_method_late hbase hfew hline rfl (thn (ho pins s σ H _ I h) λv s1 ⟨x,H1,I1,r1,ty,q1⟩=>?_)
 obtain⟨h1,h2⟩:=jpt I1 r1 ty
 refine⟨T,id,pa,slot,hty,h1,h2,?_⟩
 have hA:=ha cpos pins s1 σ H1 _ I1 q1
 rw[hs]at hA⊢
 refine Yr (by show(false || (backTo cpos (starEach es X.env)).any (·.1))=false;rw[hplain] <;> rfl) (Calls.evalArgs_plain ?_)
 exact thn hA λus s2 ⟨vs,H2,I2,r2,q2⟩=>hm pins s2 σ H2 x vs v us Q I2 r1 r2 q2
end
def MtM(X:Cx)(id:String)(r:V->List V->Hp->VK->Prop):Prop :=
 ∀(pins:List (Addr×Obj))(s:Shared)(σ:St)(H:Hp)(x:V)(xs:List V)(v:Value)(us:List Value)(Q:VK),Inv X pins σ H s->RelV x v->Vals xs us->r x xs H Q ->
  wpAny (model X.prog X.w) X.A (call (.builtin id) (v::us)) (EP X pins σ Q) X.xe s
theorem Vals.one{x:V}{us:List Value}(h:Vals [x] us):∃u,us=[u]/\RelV x u:=jdd h
theorem Vals.two{x y:V}{us:List Value}(h:Vals [x,y] us):∃u v,us=[u,v]/\RelV x u/\RelV y v:=jkc h
theorem Vals.zero:∀{us:List Value},Vals [] us->us=[]
 |_,.nil=>rfl
theorem Vals.dropLast{xs:List V}{us:List Value}(h:Vals xs us):Vals xs.dropLast us.dropLast:=by
 induction h with
 |nil=>exact .nil
 |cons r t ih =>
  cases t with
  |nil=>exact .nil
  |cons q t'=>exact .cons r ih
theorem Vals.eraseIdx:∀{xs:List V}{us:List Value}(i:Nat),Vals xs us->Vals (xs.eraseIdx i) (us.eraseIdx i)
 |_,_,_,.nil=>.nil
 |_,_,0,.cons _ t=>t
 |_,_,i+1,.cons r t=>.cons r (Vals.eraseIdx i t)
theorem Vals.rep{xs:List V}{us:List Value}(h:Vals xs us):∀k:Nat,Vals (List.replicate k xs).flatten (List.replicate k us).flatten
 |0=>.nil
 |k+1=>by
  rw[List.replicate_succ,List.replicate_succ,List.flatten_cons,List.flatten_cons]
  exact Vals.append h (Vals.rep h k)
theorem jnq{α:Type}(l:List α):l.eraseIdx (l.length-1)=l.dropLast:=by
 induction l with
 |nil=>rfl
 |cons a r ih =>
  cases r with
  |nil=>rfl
  |cons b r =>
   have e:(a::b::r).length-1=((b::r).length-1)+1:=by
    have h1:(a::b::r).length=r.length+2:=rfl
    have h2:(b::r).length=r.length+1:=rfl
    omega
   rw[e,List.eraseIdx_cons_succ,ih]
   all_goals rfl
theorem ji2{α:Type}:∀(l:List α)(i:Nat),(l.eraseIdx i).length<=l.length
 |[],_=>Ak _
 |_::_,0=>Nat.le_succ _
 |_::r,i+1=>Nat.succ_le_succ (ji2 r i)
theorem jix(its:List Value):∀(k:Nat)(acc:List Value),
  List.foldl (λx1 x2=>x1++x2) acc.toArray (List.replicate k its.toArray)=(acc++(List.replicate k its).flatten).toArray
 |0,acc=>by simp
 |k+1,acc=>by
  have e:acc.toArray++its.toArray=(acc++its).toArray:=by simp
  have e2:(acc++its)++(List.replicate k its).flatten=acc++(List.replicate (k+1) its).flatten:=by
   rw[List.replicate_succ,List.flatten_cons,Uo]
  rw[<-e2,<-jix its k (acc++its),<-e,List.replicate_succ,List.foldl_cons]
section
variable{X:Cx}{pins:List (Addr×Obj)}{σ:St}{H:Hp}{s:Shared}{l b:Addr}{xs ys zs:List V}
theorem Inv.lset{its its':List Value}{n:Nat}{f:Array Value->Array Value}{t':Nat}(I:Inv X pins σ H s)(hH:H l=some (.lst xs))
  (e:s.heap.get? l=some {cls:=.type "list",data:=.seq its.toArray n}) (hf:f its.toArray=its'.toArray) (hv:Vals ys its') (hz:ys.length<=sizeLine) :
  Inv X pins σ (upd H l (.lst ys)) {s with heap:=s.heap.update l (Obj.mapSeq f),toks:=t'}:=by
 have q:=PySem.IsL.update e f
 rw[hf]at q
 refine I.write (x:=l) (e:=l) (by rw[hH];exact trivial) (.inl rfl) (λb' u hb hu=>(Ow s.heap (Obj.mapSeq f) (U9 hb)).trans hu) ⟨_,q⟩ ?_
 exact⟨hz,its',_,hv,q⟩
theorem Inv.lnew{its:List Value}{t':Nat}(I:Inv X pins σ H s)(hv:Vals ys its)(hz:ys.length<=sizeLine) :
  Inv X pins σ (upd H s.heap.objs.size (.lst ys)) {s with heap:=s.heap.push {cls:=.type "list",data:=.seq its.toArray},toks:=t'} :=
 I.laid (λ_ _ q=>Ai _ q) (Ak _) ⟨hz,its,0,hv,A1 _ rfl⟩
theorem Inv.fresh(I:Inv X pins σ H s):H s.heap.objs.size=none:=I.hok.fresh (Ak _)
theorem Inv.lstM(I:Inv X pins σ H s)(hH:H l=some (.lst xs)):xs.length<=sizeLine/\∃(its:List Value)(n:Nat),Vals xs its/\xs.length=its.length/\s.heap.get? l=some {cls:=.type "list",data:=.seq its.toArray n}:=by
 obtain⟨z,its,n,r,e⟩:=I.hok l _ hH
 exact⟨z,its,n,r,r.length,e⟩
theorem jk4{n:Nat}(h:n<=sizeLine):Builtin.List.listTooLong n=false:=by
 unfold Builtin.List.listTooLong
 exact Ol (by omega)
end
section
variable{X:Cx}
def jr1:V->List V->Hp->VK->Prop:=λx vs H Q=>∃l xs y,x=.ref l/\vs=[y]/\H l=some (.lst xs)/\xs.length<sizeLine/\Q .non (upd H l (.lst (xs++[y])))
theorem ja4:MtM X "list.append" jr1:=by
 intro pins s σ H x vs v us Q I rx rv h
 obtain⟨l,xs,y,rfl,rfl,hH,hz,q⟩:=h
 cases rx
 obtain⟨u,rfl,ru⟩:=rv.one
 obtain⟨z,its,n,r,hl,e⟩:=I.lstM hH
 refine W4 F.slot_list_append ⟨_,e,rfl⟩ F.entry_list_append (F.args_list_append_2 _ _) (PySem.list_append l its.toArray n u (by rw[Au];omega)) ⟨e,?_⟩
 refine⟨.non,_,I.lset (its':=its++[u]) hH e (by simp) (r.append (.cons ru .nil)) ?_,rfl,q⟩
 rw[Av,List.length_singleton]
 omega
def jr2:V->List V->Hp->VK->Prop:=λx vs H Q=>∃l b xs zs,x=.ref l/\vs=[.ref b]/\H l=some (.lst xs)/\H b=some (.lst zs)/\xs.length+zs.length<=sizeLine/\Q .non (upd H l (.lst (xs++zs)))
theorem mt_extend:MtM X "list.extend" jr2:=by
 intro pins s σ H x vs v us Q I rx rv h
 obtain⟨l,b,xs,zs,rfl,rfl,hH,hB,hz,q⟩:=h
 cases rx
 obtain⟨u,rfl,ru⟩:=rv.one
 cases ru
 obtain⟨z,its,n,r,hl,e⟩:=I.lstM hH
 obtain⟨z2,its2,n2,r2,hl2,e2⟩:=I.lstM hB
 have hsz:its.toArray.size+its2.toArray.size<=sizeLine:=by rw[Au,Au];omega
 have hlong:¬(!its.toArray.isEmpty && Builtin.List.listTooLong (its.toArray.size+its2.toArray.size))=true:=by
  rw[jk4 hsz,Bool.and_false]
  exact A7
 refine W4 F.slot_list_extend ⟨_,e,rfl⟩ F.entry_list_extend (F.args_list_extend_2 _ _)
  (AutoSeq1.list_extend_list_list_0 l its.toArray n b its2.toArray n2 hlong (by rw[Au];omega) (by omega)) ⟨e,e2,?_⟩
 refine⟨.non,_,I.lset (its':=its++its2) hH e (by simp) (r.append r2) ?_,rfl,q⟩
 rw[Av]
 omega
def rPop:V->List V->Hp->VK->Prop:=λx vs H Q=>∃l xs y,x=.ref l/\vs=[]/\H l=some (.lst xs)/\xs[xs.length-1]?=some y/\Q y (upd H l (.lst xs.dropLast))
theorem mt_pop:MtM X "list.pop" rPop:=by
 intro pins s σ H x vs v us Q I rx rv h
 obtain⟨l,xs,y,rfl,rfl,hH,hy,q⟩:=h
 cases rx
 have hus:=rv.zero
 subst hus
 obtain⟨z,its,n,r,hl,e⟩:=I.lstM hH
 obtain⟨u,hu,ru⟩:=r.get hy
 have hy':its.toArray[its.toArray.size-1]?=some u:=by
  show its.toArray[its.length-1]?=some u
  rw[<-Ii,<-hl]
  exact hu
 refine W4 F.slot_list_pop ⟨_,e,rfl⟩ F.entry_list_pop (F.args_list_pop_1 _) (MeetsSeq.list_pop_last l its.toArray n u hy' (by rw[Au];omega)) ⟨e,?_⟩
 refine⟨y,_,I.lset (its':=its.dropLast) hH e ?_ r.dropLast ?_,ru,q⟩
 ·show its.toArray.eraseIdxIfInBounds (its.toArray.size-1)=its.dropLast.toArray
  rw[Au,List.eraseIdxIfInBounds_toArray,jnq]
 ·rw[List.length_dropLast]
  omega
def jsu:V->List V->Hp->VK->Prop:=λx vs H Q=>∃l xs i k y,x=.ref l/\vs=[.int i]/\H l=some (.lst xs)/\-(2^63)<=i/\i<2^63/\seqIndex? i xs.length=some k/\xs[k]?=some y/\Q y (upd H l (.lst (xs.eraseIdx k)))
theorem mt_popAt:MtM X "list.pop" jsu:=by
 intro pins s σ H x vs v us Q I rx rv h
 obtain⟨l,xs,i,k,y,rfl,rfl,hH,h1,h2,hk,hy,q⟩:=h
 cases rx
 obtain⟨u,rfl,ru⟩:=rv.one
 obtain⟨t,rfl⟩:=ru
 obtain⟨z,its,n,r,hl,e⟩:=I.lstM hH
 obtain⟨w,hw,rw'⟩:=r.get hy
 refine W4 F.slot_list_pop ⟨_,e,rfl⟩ F.entry_list_pop (F.args_list_pop_2 _ _)
  (MeetsSeq.list_pop_at l its.toArray n i t k w (fitsIndex_both h1 h2) (by rw[Au,<-hl];exact hk) (by rw[<-Ii];exact hw) (by rw[Au];omega)) ⟨e,?_⟩
 refine⟨y,_,I.lset (its':=its.eraseIdx k) hH e ?_ (r.eraseIdx k) ?_,rw',q⟩
 ·show its.toArray.eraseIdxIfInBounds k=(its.eraseIdx k).toArray
  rw[List.eraseIdxIfInBounds_toArray]
 ·have:=ji2 xs k
  omega
def rCat:R2:=λx y H Q=>∃l b xs zs,x=.ref l/\y=.ref b/\H l=some (.lst xs)/\H b=some (.lst zs)/\xs.length+zs.length<=sizeLine/\∀p,H p=none->Q (.ref p) (upd H p (.lst (xs++zs)))
theorem op_cat:OpR X (binaryOp .Add) rCat:=by
 intro pins s σ H x y v u Q I rx ry h
 obtain⟨l,b,xs,zs,rfl,rfl,hH,hB,hz,q⟩:=h
 cases rx
 cases ry
 obtain⟨z,its,n,r,hl,e⟩:=I.lstM hH
 obtain⟨z2,its2,n2,r2,hl2,e2⟩:=I.lstM hB
 refine PySem.P.add_list e e2 ?_ (by rw[Au,Au];omega)
 have ea:its.toArray++its2.toArray=(its++its2).toArray:=by simp
 rw[ea]
 exact⟨.ref _,_,I.lnew (t':=s.toks) (r.append r2) (by rw[Av];omega),rfl,q _ I.fresh⟩
def rRep:R2:=λx y H Q=>∃l k xs,x=.ref l/\y=.int k/\H l=some (.lst xs)/\-(2^63)<=k/\k<2^63/\xs.length*k.toNat<=sizeLine /\
 ∀p,H p=none->Q (.ref p) (upd H p (.lst (List.replicate k.toNat xs).flatten))
theorem jru{α:Type}(xs:List α)(k:Nat):(List.replicate k xs).flatten.length=k*xs.length:=by
 induction k with
 |zero=>simp
 |succ k ih=>rw[List.replicate_succ,List.flatten_cons,Av,ih,Y0,Nat.add_comm]
theorem op_rep:OpR X (binaryOp .Mult) rRep:=by
 intro pins s σ H x y v u Q I rx ry h
 obtain⟨l,k,xs,rfl,rfl,hH,h1,h2,hz,q⟩:=h
 cases rx
 obtain⟨t,rfl⟩:=ry
 obtain⟨z,its,n,r,hl,e⟩:=I.lstM hH
 have hlen:its.toArray.size*k.toNat<=sizeLine:=by rw[Au,<-hl];exact hz
 have hcap:¬its.toArray.size*k.toNat>(2^63-1) / 8:=by
  have:(sizeLine:Nat)<=(2^63-1) / 8:=by decide
  omega
 have hfit:¬(!Builtin.List.listFitsIndex k)=true:=by
  rw[fitsIndex_both h1 h2]
  exact A7
 have hlong:¬Builtin.List.listTooLong (its.toArray.size*k.toNat)=true:=by
  rw[jk4 hlen]
  exact A7
 have hnew:List.foldl (λx1 x2=>x1++x2) #[] (List.replicate (if its.toArray.isEmpty=true then 0 else k.toNat) its.toArray)=(List.replicate k.toNat its).flatten.toArray:=by
  have f0:∀m:Nat,List.foldl (λx1 x2=>x1++x2) #[] (List.replicate m its.toArray)=(List.replicate m its).flatten.toArray:=λm=>by
   have:=jix its m []
   rw[List.nil_append]at this
   exact this
  rw[f0]
  cases its with
  |nil=>simp
  |cons a r'=>rw[Am (by simp)]
 refine wpAny_binaryOp_repeat_ref (T:="list") (U:="int") (by decide) ⟨_,e,rfl⟩ (λs'=>typeIs_int s' k t) noFill_list_mul F.fills_int_mul F.slot_int_rmul repeat_list F.slot_int_index.lookup
  (W4 F.slot_int_rmul (typeIs_int s k t) F.entry_int_rmul (F.args_int_rmul_2 _ _) (int___rmul___int_list k t l its.toArray n)
   ⟨e,rfl,⟨_,e,rfl⟩,W4 F.slot_list_mul ⟨_,e,rfl⟩ F.entry_list_mul (F.args_list_mul_2 _ _) (AutoListH.list___mul___list_int_3 l its.toArray n k t hfit hcap hlong) ⟨e,?_⟩⟩)
 rw[hnew]
 exact⟨.ref _,_,I.lnew (t':=s.toks) (r.rep k.toNat) (by rw[jru,Nat.mul_comm];exact hz),rfl,q _ I.fresh⟩
end
end L2
namespace Att
open PySem PySem.W PySem.Calls PyProof.Rows
theorem jhh{P:Params}{h:Heap}:∀(ns:List Int)(vs:List Value),WellAll P h vs (ns.map WData.int)->IntsAre vs ns:=by
 intro ns
 induction ns with
 |nil =>
  intro vs w
  rw[Uq]at w
  cases w
  exact .nil
 |cons n ns ih =>
  intro vs w
  rw[Ay]at w
  cases w with
  |cons a b =>
   cases a
   exact .cons _ _ (ih _ b)
theorem jpg{l:OpenLaw}{n:Nat}(hn:l.most=some n){P:Params}{h:Heap}{args:List WData}{vals:List Value}
  (hpre:l.row.toRowW.claim.pre args=true) (hwl:WellAll P h vals args) :
  ∃a vs ns,vals=[Value.ref a]/\args=[WData.list (ns.map WData.int)]/\h.get? a=some {cls:=.type "list",data:=.seq vs.toArray}/\IntsAre vs ns/\ns.length<=n:=by
 have hsh:WShape.hasAll [] args [.list .int]=true:=(pre_splitW hpre).1
 have hc:l.pre.holds [] {args:=args}=true:=(pre_splitW hpre).2
 obtain⟨d,r,rfl,h1,h2⟩:=hasAllW_cons hsh
 obtain rfl:=hasAllW_nil h2
 obtain⟨xs,rfl,h3⟩:=hasW_list h1
 obtain⟨ns,rfl⟩:=items_int h3
 have hlen:ns.length<=n:=by
  unfold OpenLaw.pre at hc
  have h4:(WTm.not (.lt (.lit (.int (n:Int))) (.len (.arg 0)))).holds [] {args:=[.list (ns.map .int)]}=true:=by
   have h4:=(holds_andW hc).1
   rw[hn]at h4
   exact h4
  have h5:=condW_of h4 (w_not (w_lt w_lit (w_len_list (w_arg rfl))))
  rw[Ad]at h5
  refine Nat.le_of_not_lt λq=>?_
  have q':(n:Int)<((ns.length:Nat):Int):=by omega
  first
   |(rw[decide_eq_true q']at h5;exact absurd h5 (by decide))
   |(simp at h5;omega)
 cases hwl with
 |cons w1 w2 =>
  cases w2
  cases w1 with
  |list ho hall=>exact⟨_,_,ns,rfl,rfl,ho,jhh ns _ hall,hlen⟩
theorem post_true(l:OpenLaw)(args:List WData):l.row.toRowW.claim.post args (.bool true) args=true :=
 postW_of (r:=l.row.toRowW) (X:=(true == true))
  (show WShape.has [] (.bool true) .bool=true by first|rfl|decide|simp[WShape.has,WShape.arms,WShape.armsAll])
  (show(WTm.eq .res (.lit (.bool true))).value [] {args:=args,res:=some (.bool true),after:=args}=some (.bool (true == true))from w_eq_bool (w_res rfl) w_lit) rfl
theorem attach_call{l:OpenLaw}{n:Nat}{q:Program}{loose:List Str}{XP:(Str->Option Value)->Heap->Prop}{YP:World->Heap->Prop}{d:DefRec}
  (hn:l.most=some n) (hdf:d.params.defaults=[])
  (call:∀(w:World)(s₀ s₁:Shared)(mg mb:Str->Option Value)(fa:Addr)(o:Obj)(pm cd doc:Value)(a:Addr)(vs:List Value)(ns:List Int),
   Ground q loose [] XP w s₀ mg mb s₁.heap->YP w s₁.heap ->
   s₁.heap.get? fa=some o->o.data=.func (docDef d.name d.params d.body d.scope pm cd doc)->s₁.heap.CodeRec cd d.name->mg d.name=some (.ref fa) ->
   s₁.heap.get? a=some {cls:=.type "list",data:=.seq vs.toArray}->IntsAre vs ns->ns.length<=n->s₁.gens=#[] ->
   codeAny (model l.prog w) callerA (.call (.ref fa) ⟨[.ref a],[]⟩) (λr s'=>r=.ok (.ret (.bool true))/\OldK s₁.heap s'.heap/\s'.os=s₁.os/\AllBare s'.gens) s₁) :
  WalkO q loose XP YP l.row.toRowW d [] (λf vs=>PySem.call f vs):=by
 intro w s₀ s₁ mg mb G Y fa o pm cd doc dV kV ho hd hcd hD hmg hg args vals as hpre hlay hrd hwl hlo
 obtain rfl:dV=.none:=Dflts.none hD hdf
 obtain rfl:kV=.none:=Dflts.noKw hD
 obtain⟨a,vs,ns,rfl,rfl,hobj,hints,hlen⟩:=jpg hn hpre hwl
 refine enter_call (Wy (call w s₀ s₁ mg mb fa o pm cd doc a vs ns G Y ho (fd_plain hd) hcd hmg hobj hints hlen hg) λr s' hq=>?_)
 obtain⟨rfl,h2,h3,h4⟩:=hq
 exact⟨.inl ⟨.bool true,.bool true,[],rfl,λ_=>rfl,.bool true,post_true l _,λ_=>⟨List.Pairwise.nil,λ_ hm=>(nomatch hm)⟩⟩,h2,h3,h4⟩
end Att
namespace L2
open PySem PySem.Spec PyProof.Rows
theorem jjs:∀{vs:List Value}{ns:List Int},IntsAre vs ns->Vals (ns.map V.int) vs
 |_,_,.nil=>.nil
 |_,_,.cons n t h=>.cons ⟨t,rfl⟩ (jjs h)
def jy(s:Stmt):Arguments:=match s with
 |.FunctionDef _ a _ _ _ _ _ _ _ _=>a
 |_=>{posonlyargs:=[],args:=[],vararg:=none,kwonlyargs:=[],kw_defaults:=[],kwarg:=none,defaults:=[]}
def jx(s:Stmt):List Stmt:=match s with
 |.FunctionDef _ _ b _ _ _ _ _ _ _=>b
 |_=>[]
def jg(s:Stmt):Scope:=match s with
 |.FunctionDef _ _ _ _ _ _ sc _ _ _=>sc
 |_=>{kind:=.function,names:=[],isGenerator:=false,isCoroutine:=false}
abbrev CX0:CXT:=λ_ _ _ _ _ _=>False
abbrev E0:XK:=λ_ _ _=>False
theorem ka{X:Cx}:jg3 CX0 X E0:=λ_ _ _ _ _ _ _ h=>h.elim
structure Fun(K:PySem.W.Frag)(x qual:Str)(st:Stmt)(f:Addr)(fd:FuncData):Prop where
 ex:∃(oc:Value)(od:Option Addr)(kV doc pm:Value)(an:Option Addr)(cdv ct:Value)(osl:Array (Option Value)),
  fd=PySem.W.fnOf x qual (jy st) (jx st) (jg st) .none kV doc pm an cdv ct/\K.lookup f=some ⟨oc,od,.func fd,osl⟩/\PySem.W.codeIn K cdv qual=true
 kp:PySem.W.keepIn K (.ref f)=true
section
variable{P:Program}{w:World}{K:PySem.W.Frag}{mg:Str->Option Value}{base:Heap}
theorem Fun.ok{x qual:Str}{st:Stmt}{f:Addr}{fd:FuncData}{N ps:List Str}{k:Nat}{sp:Sp}(F:Fun K x qual st f fd)(S:FnScope N ps (jg st))(len:∀vs H Q E,sp vs H Q E->vs.length=ps.length)
  (hbody:∀(cdv:Value)(A:Around)(outer:List Env)(s:Shared)(H:Hp)(vs:List V)(Q:VK)(E:XK),Room k (A.deeper (envOfC qual (jg st) s.heap.objs.size f cdv))->sp vs H Q E ->
   ∃t,PSs (cxOf CX0 P w K mg base N qual (jg st) f cdv A outer s H E).nox (jx st) t/\t {nx:=λ_ H'=>Q .non H',rt:=Q} (start N vs) H):FnOk P w K mg base CX0 (k+1) f fd ps sp:=by
 obtain⟨oc,od,kV,doc,pm,an,cdv,ct,osl,rfl,lk,hcd⟩:=F.ex
 refine jjv lk hcd S len λA outer s H vs Q E hr hsp=>?_
 obtain⟨t,h,q⟩:=hbody cdv A outer s H vs Q E hr hsp
 exact⟨t,h.nox,q⟩
theorem Fun.binds{x qual:Str}{st:Stmt}{f:Addr}{fd:FuncData}{ps:List Str}(F:Fun K x qual st f fd)
  (h:∀(kV doc pm:Value)(an:Option Addr)(cdv ct:Value)(us:List Value),us.length=ps.length->bindArgs (PySem.W.fnOf x qual (jy st) (jx st) (jg st) .none kV doc pm an cdv ct) ⟨us,[]⟩=pure (ps.zip us)):Binds K fd ps []:=by
 obtain⟨oc,od,kV,doc,pm,an,cdv,ct,osl,rfl,lk,hcd⟩:=F.ex
 exact .all (h kV doc pm an cdv ct)
theorem jcv{x qual:Str}{st:Stmt}{f:Addr}{oc:Value}{od an:Option Addr}{osl:Array (Option Value)}{kV doc pm cdv ct:Value}(l:K.lookup f=some ⟨oc,od,.func (PySem.W.fnOf x qual (jy st) (jx st) (jg st) .none kV doc pm an cdv ct),osl⟩)
  (c:PySem.W.codeIn K cdv qual=true) (k:PySem.W.keepIn K (.ref f)=true):Fun K x qual st f (PySem.W.fnOf x qual (jy st) (jx st) (jg st) .none kV doc pm an cdv ct):=⟨⟨oc,od,kV,doc,pm,an,cdv,ct,osl,rfl,l,c⟩,k⟩
end
section
variable{X:Cx}
theorem pv(i:Nat){x:Str}{pos:Pos}(hN:X.N[i]?=some x:=by rfl)(hv:Vis X.env.scope x:=by first|exact Or.inl rfl|exact Or.inr (Or.inl rfl)|exact Or.inr (Or.inr rfl))(hd:(x == ("__debug__":Str))=false:=by decide)
  (hcd:(x == ("__classdict__":Str))=false:=by decide):PE X (.Name x pos) (tVar i):=jcj hN hv hd hcd
end
theorem ite2{c A B:Prop}[Decidable c](h1:c->A)(h2:¬c->B):if c then A else B:=by
 by_cases h:c
 ·rw[Ao h]
  exact h1 h
 ·rw[Am h]
  exact h2 h
section
variable{κ:Type}[DecidableEq κ]
def valV(kvs:List (κ×V))(k:κ):Option V:=(kvs.find? λkv=>decide (kv.1=k)).map (·.2)
def putK(kvs:List (κ×V))(k:κ)(v:V):List (κ×V) :=
 if(kvs.any λkv=>decide (kv.1=k))=true then kvs.map (λkv=>if kv.1=k then(kv.1,v)else kv)else kvs++[(k,v)]
def jfc(kvs:List (κ×V))(k:κ):List (κ×V):=kvs.filter λkv=>decide (kv.1≠k)
theorem jc4{p:κ×V}{r:List (κ×V)}{k:κ}(e:p.1=k):valV (p::r) k=some p.2:=by simp[valV,List.find?_cons,e]
theorem jc3{p:κ×V}{r:List (κ×V)}{k:κ}(e:¬p.1=k):valV (p::r) k=valV r k:=by simp[valV,List.find?_cons,e]
theorem jer(k:κ):∀kvs:List (κ×V),(kvs.any λkv=>decide (kv.1=k))=(valV kvs k).isSome
 |[]=>rfl
 |p::r=>by
  rw[List.any_cons]
  by_cases e:p.1=k
  ·simp only[jc4 e,decide_eq_true e,Bool.true_or,Option.isSome_some]
  ·rw[jc3 e,Ol e,Bool.false_or];exact jer k r
theorem jl0(k j:κ)(y:V):∀kvs:List (κ×V),valV (kvs.map λkv=>if kv.1=k then(kv.1,y)else kv) j=(valV kvs j).map λx=>if j=k then y else x
 |[]=>rfl
 |p::r=>by
  have ih:=jl0 k j y r
  rw[Ay]
  by_cases h:p.1=k
  ·rw[Ao h]
   by_cases e:p.1=j
   ·rw[jc4 (p:=(p.1,y)) e,jc4 e,Option.map_some,Ao (e.symm.trans h)]
   ·rw[jc3 (p:=(p.1,y)) e,jc3 e,ih]
  ·rw[Am h]
   by_cases e:p.1=j
   ·rw[jc4 (p:=p) e,jc4 e,Option.map_some,Am (λz=>h (e.trans z))]
   ·rw[jc3 (p:=p) e,jc3 e,ih]
theorem jjr(k j:κ)(y:V):∀kvs:List (κ×V),valV kvs k=none->valV (kvs++[(k,y)]) j=if j=k then some y else valV kvs j
 |[],_=>by
  by_cases e:k=j
  ·rw[Ao e.symm];exact jc4 (p:=(k,y)) e
  ·rw[Am (λz=>e z.symm)];exact jc3 (p:=(k,y)) e
 |p::r,hn=>by
  rw[List.cons_append]
  have hk:¬p.1=k:=λz=>by rw[jc4 z]at hn;cases hn
  rw[jc3 hk]at hn
  have ih:=jjr k j y r hn
  by_cases e:p.1=j
  ·rw[jc4 e,jc4 e,Am (λz=>hk (e.trans z))]
  ·rw[jc3 e,jc3 e,ih]
theorem jg1(kvs:List (κ×V))(k j:κ)(y:V):valV (putK kvs k y) j=if j=k then some y else valV kvs j:=by
 unfold putK
 by_cases a:(kvs.any λkv=>decide (kv.1=k))=true
 ·rw[Ao a,jl0]
  rw[jer]at a
  by_cases e:j=k
  ·obtain⟨x,hx⟩:=Option.isSome_iff_exists.mp a
   rw[Ao e,e,hx,Option.map_some,Ao rfl]
  ·rw[Am e]
   cases valV kvs j with
   |none=>rfl
   |some x=>rw[Option.map_some,Am e]
 ·rw[Am a]
  refine jjr k j y kvs ?_
  rw[jer]at a
  cases q:valV kvs k with
  |none=>rfl
  |some x=>rw[q]at a;exact(a rfl).elim
theorem jde(kvs:List (κ×V))(k:κ)(v:V):(putK kvs k v).length<=kvs.length+1:=by
 unfold putK
 split
 ·rw[Ad];omega
 ·rw[Av,List.length_cons,List.length_nil];omega
theorem jk7{kvs:List (κ×V)}{k:κ}(v:V)(h:valV kvs k=none):putK kvs k v=kvs++[(k,v)]:=by
 unfold putK
 rw[jer,h]
 exact Am (by decide)
theorem RelO.isSome_eq{o:Option V}{u:Option Value}(r:RelO o u):o.isSome=u.isSome:=by
 cases o with
 |none=>cases u with
  |none=>rfl
  |some _=>exact(show False from r).elim
 |some _=>cases u with
  |none=>exact(show False from r).elim
  |some _=>rfl
theorem KV.val{kvs:List (κ×V)}{vs:List (κ×Value)}(r:KV kvs vs)(k:κ):RelO (valV kvs k) (valueAt vs k):=by
 unfold KV at r
 induction r with
 |nil=>exact True.intro
 |@cons p q ps qs h t ih =>
  obtain⟨h1,h2⟩:=h
  by_cases e:p.1=k
  ·have e':q.1=k:=h1.symm.trans e
   have b:valueAt (q::qs) k=some q.2:=by simp[valueAt,List.find?_cons,e']
   rw[jc4 e,b];exact h2
  ·have e':¬q.1=k:=λz=>e (h1.trans z)
   have b:valueAt (q::qs) k=valueAt qs k:=by simp[valueAt,List.find?_cons,e']
   rw[jc3 e,b];exact ih
theorem KV.any{kvs:List (κ×V)}{vs:List (κ×Value)}(r:KV kvs vs)(k:κ):(kvs.any λkv=>decide (kv.1=k))=vs.any λkv=>decide (kv.1=k):=by
 unfold KV at r
 induction r with
 |nil=>rfl
 |cons h t ih=>rw[List.any_cons,List.any_cons,ih,h.1]
theorem KV.repl{kvs:List (κ×V)}{vs:List (κ×Value)}(r:KV kvs vs)(k:κ){y:V}{u:Value}(ry:RelV y u) :
  KV (kvs.map λkv=>if kv.1=k then(kv.1,y)else kv) (vs.map λkv=>if kv.1=k then(kv.1,u)else kv):=by
 unfold KV at r⊢
 induction r with
 |nil=>exact .nil
 |@cons p q ps qs h t ih =>
  rw[Ay,Ay]
  refine .cons ?_ ih
  obtain⟨h1,h2⟩:=h
  by_cases e:p.1=k
  ·rw[Ao e,Ao (h1.symm.trans e)];exact⟨h1,ry⟩
  ·rw[Am e,Am (λz=>e (h1.trans z))];exact⟨h1,h2⟩
theorem KV.put{kvs:List (κ×V)}{vs:List (κ×Value)}(r:KV kvs vs)(k:κ){y:V}{u:Value}(ry:RelV y u):KV (putK kvs k y) (stored vs k u):=by
 unfold putK stored
 rw[r.any k]
 by_cases e:(vs.any λkv=>decide (kv.1=k))=true
 ·rw[Ao e,Ao e];exact r.repl k ry
 ·rw[Am e,Am e];exact Wt r ⟨rfl,ry⟩
theorem KV.drop{kvs:List (κ×V)}{vs:List (κ×Value)}(r:KV kvs vs)(k:κ):KV (jfc kvs k) (without vs k):=by
 unfold KV at r⊢
 unfold jfc without
 induction r with
 |nil=>exact .nil
 |@cons p q ps qs h t ih =>
  obtain⟨h1,h2⟩:=h
  rw[List.filter_cons,List.filter_cons]
  by_cases e:p.1=k
  ·have a:¬decide (p.1≠k)=true:=by simp[e]
   have b:¬decide (q.1≠k)=true:=by simp[h1.symm.trans e]
   rw[Am a,Am b];exact ih
  ·have e':¬q.1=k:=λz=>e (h1.trans z)
   have a:decide (p.1≠k)=true:=by simp[e]
   have b:decide (q.1≠k)=true:=by simp[e']
   rw[Ao a,Ao b];exact .cons ⟨h1,h2⟩ ih
theorem KV.length{kvs:List (κ×V)}{vs:List (κ×Value)}(r:KV kvs vs):kvs.length=vs.length:=Il r
theorem jp1(kvs:List (κ×V))(k:κ):(jfc kvs k).length<=kvs.length:=Ud _ _
end
theorem jeu{P:Program}{w:World}{k:Key}{u:Value}(r:RelV (kV k) u):(jcn P w).is k u=true:=by
 cases k with
 |inl i=>obtain⟨t,e⟩:=(show ∃t,u=Value.int i t from r);subst e;exact jl5 P w i t
 |inr x=>obtain⟨t,e⟩:=(show ∃t,u=Value.str x t from r);subst e;exact jl6 P w x t
theorem ji0{P:Program}{w:World}:∀{ks:List Key}{us:List Value},Vals (ks.map kV) us->ItemsAre (jcn P w) ks us
 |[],_,r=>by rw[Uq]at r;cases r;exact .nil
 |k::ks,_,r=>by
  rw[Ay]at r
  cases r with
  |cons h t=>exact .cons (jeu h) (ji0 t)
abbrev KT(H:Hp):List (List Key×V)->List (List Key×Addr×Value)->Prop:=Paired λp q=>p.1=q.1/\H q.2.1=some (.tup (p.1.map kV))/\RelV p.2 q.2.2
theorem KT.val{H:Hp}{kvs:List (List Key×V)}{xs:List (List Key×Addr×Value)}(r:KT H kvs xs)(k:List Key):RelO (valV kvs k) ((atKey xs k).map (·.2)):=by
 induction r with
 |nil=>exact True.intro
 |@cons p q ps qs h t ih =>
  obtain⟨h1,_,h2⟩:=h
  by_cases e:p.1=k
  ·have e':q.1=k:=h1.symm.trans e
   have b:atKey (q::qs) k=some q.2:=by simp[atKey,List.find?_cons,e']
   rw[jc4 e,b];exact h2
  ·have e':¬q.1=k:=λz=>e (h1.trans z)
   have b:atKey (q::qs) k=atKey qs k:=by simp[atKey,List.find?_cons,e']
   rw[jc3 e,b];exact ih
theorem KT.repl{H:Hp}{kvs:List (List Key×V)}{xs:List (List Key×Addr×Value)}(r:KT H kvs xs)(k:List Key){y:V}{u:Value}(ry:RelV y u) :
  KT H (kvs.map λkv=>if kv.1=k then(kv.1,y)else kv) (xs.map (putAt k u)):=by
 induction r with
 |nil=>exact .nil
 |@cons p q ps qs h t ih =>
  rw[Ay,Ay]
  refine .cons ?_ ih
  obtain⟨h1,h2,h3⟩:=h
  unfold putAt
  by_cases e:p.1=k
  ·rw[Ao e,Ao (h1.symm.trans e)];exact⟨h1,h2,ry⟩
  ·rw[Am e,Am (λz=>e (h1.trans z))];exact⟨h1,h2,h3⟩
theorem KT.put{H:Hp}{kvs:List (List Key×V)}{xs:List (List Key×Addr×Value)}(r:KT H kvs xs)(k:List Key){b:Addr}{y:V}{u:Value}(hb:H b=some (.tup (k.map kV)))(ry:RelV y u) :
  KT H (putK kvs k y) (storedH xs k b u):=by
 have e:(kvs.any λkv=>decide (kv.1=k))=(atKey xs k).isSome:=by
  rw[jer,(r.val k).isSome_eq,Option.isSome_map]
 unfold putK storedH
 rw[e]
 by_cases q:(atKey xs k).isSome=true
 ·rw[Ao q,Ao q];exact r.repl k ry
 ·rw[Am q,Am q];exact Wt r ⟨rfl,hb,ry⟩
theorem KT.keeps{H H':Hp}{kvs:List (List Key×V)}{xs:List (List Key×Addr×Value)}(r:KT H kvs xs)(ht:∀b ys,H b=some (.tup ys)->H' b=some (.tup ys)):KT H' kvs xs :=
 Paired.mapP r λ_ _ z=>⟨z.1,ht _ _ z.2.1,z.2.2⟩
section
variable{P:Program}{w:World}{H:Hp}{h:Heap}{a:Addr}
theorem jq0{u:HO}(ok:HOk P w H h)(e:Rd H a u):ObjOk P w H h a u:=e.ok ok
theorem jfa{kvs:List (Key×V)}(ok:HOk P w H h)(e:Rd H a (.dK kvs)):kvs.length<=sizeLine/\(a == sysModules)=false/\∃vs,KV kvs vs/\h.DictOf (jcn P w) a vs :=
 show ObjOk P w H h a (.dK kvs)from jq0 ok e
theorem jju{kvs:List (Key×V)}(ok:HOk P w H h)(e:H a=some (.dK kvs)):kvs.length<=sizeLine/\(a == sysModules)=false/\∃vs,KV kvs vs/\h.DictOf (jcn P w) a vs:=jfa ok (.inl e)
theorem je4{ks:List Key}(ok:HOk P w H h)(e:H a=some (.tup (ks.map kV))):(tupleKind (jcn P w)).is h ks a:=by
 obtain⟨_,its,r,o,h1,h2,n,h3⟩:=(show ObjOk P w H h a (.tup (ks.map kV))from ok a _ e)
 exact⟨o,its.toArray,n,h1,h2,h3,by simpa using ji0 r⟩
theorem jha{kvs:List (List Key×V)}(ok:HOk P w H h)(e:Rd H a (.dT kvs)):kvs.length<=sizeLine/\(a == sysModules)=false /\
  ∃xs,KT H kvs xs/\h.DictOfH (tupleKind (jcn P w)) a xs:=by
 obtain⟨z,y,xs,r,o,es,ep,h1,h2,h3,h4,h5⟩:=(show ObjOk P w H h a (.dT kvs)from jq0 ok e)
 refine⟨z,y,xs,r,o,es,ep,h1,h2,h3,h4,λx hx=>?_,h5⟩
 have all:∀{l:List (List Key×V)}{m:List (List Key×Addr×Value)},KT H l m->∀x∈m,(tupleKind (jcn P w)).is h x.1 x.2.1:=by
  intro l m q
  induction q with
  |nil=>intro x hx;exact nomatch hx
  |@cons p q ps qs hq t ih =>
   intro x hx
   rcases Ap.mp hx with e|hx
   ·subst e
    exact je4 ok (by rw[<-hq.1];exact hq.2.1)
   ·exact ih x hx
 exact all r x hx
theorem jqu{kvs:List (List Key×V)}(ok:HOk P w H h)(e:H a=some (.dT kvs)):kvs.length<=sizeLine/\(a == sysModules)=false /\
  ∃xs,KT H kvs xs/\h.DictOfH (tupleKind (jcn P w)) a xs:=jha ok (.inl e)
end
def DGet(H:Hp)(a:Addr)(y:V)(r:Option V):Prop :=
 (∃kvs k,Rd H a (.dK kvs)/\y=kV k/\r=valV kvs k)\/∃kvs k b,Rd H a (.dT kvs)/\y=.ref b/\H b=some (.tup (k.map kV))/\r=valV kvs k
def DPut(H:Hp)(a:Addr)(y v:V)(H':Hp):Prop :=
 (∃kvs k,H a=some (.dK kvs)/\y=kV k/\kvs.length<sizeLine/\H'=upd H a (.dK (putK kvs k v))) \/
 ∃kvs k b,H a=some (.dT kvs)/\y=.ref b/\H b=some (.tup (k.map kV))/\kvs.length<sizeLine/\H'=upd H a (.dT (putK kvs k v))
theorem DGet.k{H:Hp}{a:Addr}{kvs:List (Key×V)}{k:Key}(e:H a=some (.dK kvs)):DGet H a (kV k) (valV kvs k):=.inl ⟨kvs,k,.inl e,rfl,rfl⟩
theorem DGet.t{H:Hp}{a b:Addr}{kvs:List (List Key×V)}{k:List Key}(e:H a=some (.dT kvs))(eb:H b=some (.tup (k.map kV))):DGet H a (.ref b) (valV kvs k):=.inr ⟨kvs,k,b,.inl e,rfl,eb,rfl⟩
theorem DPut.k{H:Hp}{a:Addr}{kvs:List (Key×V)}{k:Key}{v:V}(e:H a=some (.dK kvs))(hl:kvs.length<sizeLine):DPut H a (kV k) v (upd H a (.dK (putK kvs k v))):=.inl ⟨kvs,k,e,rfl,hl,rfl⟩
theorem DPut.t{H:Hp}{a b:Addr}{kvs:List (List Key×V)}{k:List Key}{v:V}(e:H a=some (.dT kvs))(eb:H b=some (.tup (k.map kV)))(hl:kvs.length<sizeLine) :
  DPut H a (.ref b) v (upd H a (.dT (putK kvs k v))):=.inr ⟨kvs,k,b,e,rfl,eb,hl,rfl⟩
section
variable{X:Cx}{pins:List (Addr×Obj)}{σ:St}{H:Hp}{s:Shared}{a:Addr}{y v:V}{u r:Value}{o:Option V}{A:Around}{E:Value->Shared->Prop}
theorem Inv.big(I:Inv X pins σ H s):sysModules<s.heap.objs.size:=by
 have h:mainGlobals<s.heap.objs.size:=(I.mod.glob.keeps I.bk).lt
 exact We (by decide) h
theorem jok{Q:Value->Shared->Prop}(hu:A.units+1<cLine)(I:Inv X pins σ H s)(g:DGet H a y (some v))(ry:RelV y u)(h:∀w' s',Inv X pins σ H s'->RelV v w'->Q w' s') :
  wpAny (model X.prog X.w) A (getItem (.ref a) u) Q E s:=by
 rcases g with⟨kvs,k,e,ey,l⟩|⟨kvs,k,b,e,ey,eb,l⟩
 ·subst ey
  obtain⟨z,hd,vs,rel,dd⟩:=jfa I.hok e
  obtain⟨w',hw,rw'⟩:=RelO.some_of (v:=v) (o:=valueAt vs k) (by rw[l];exact rel.val k)
  exact wpAny_getItem_of (jeu ry) dd.mapOf hw (h w' _ (I.tok _) rw')
 ·subst ey
  cases(show u=Value.ref b from ry)
  obtain⟨z,hd,xs,rel,dd⟩:=jha I.hok e
  obtain⟨w',hw,rw'⟩:=RelO.some_of (v:=v) (o:=(atKey xs k).map (·.2)) (by rw[l];exact rel.val k)
  obtain⟨p,hp,hp2⟩:=Ie.mp hw
  refine wpAny_getItem_heap (Aab hu) (je4 I.hok eb) dd hp ?_
  rw[hp2]
  exact h w' _ (I.tok _) rw'
theorem jre{Q:Value->Shared->Prop}(hu:A.units+1<cLine)(I:Inv X pins σ H s)(g:DGet H a y o)(ry:RelV y u)(h:∀s',Inv X pins σ H s'->Q (.bool (!o.isSome)) s') :
  wpAny (model X.prog X.w) A (compareOp .NotIn u (.ref a)) Q E s:=by
 rcases g with⟨kvs,k,e,ey,l⟩|⟨kvs,k,b,e,ey,eb,l⟩
 ·subst ey
  obtain⟨z,hd,vs,rel,dd⟩:=jfa I.hok e
  refine wpAny_notIn_of (jeu ry) hd dd.mapOf ?_
  rw[<-(rel.val k).isSome_eq,<-l]
  exact h _ (I.tok _)
 ·subst ey
  cases(show u=Value.ref b from ry)
  obtain⟨z,hd,xs,rel,dd⟩:=jha I.hok e
  refine wpAny_notIn_heap (Aab hu) (je4 I.hok eb) hd dd ?_
  have q:=(rel.val k).isSome_eq
  rw[Option.isSome_map]at q
  rw[<-q,<-l]
  exact h _ (I.tok _)
theorem jeh{h':Heap}{t':Nat}{ob:HO}(I:Inv X pins σ H s)(mu:Mut (H a))(hs:Heap.SameBut a s.heap h')(he:∃q,h'.get? a=some q)(new:ObjOk X.prog X.w (upd H a ob) h' a ob) :
  Inv X pins σ (upd H a ob) {s with heap:=h',toks:=t'} :=
 I.write (x:=a) (e:=a) mu (.inl rfl) (λb q hb z=>(hs.2 b hb).trans z) he new
theorem je2{P:Program}{w:World}{H':Hp}{h':Heap}{kvs:List (Key×V)}{vs:List (Key×Value)}(z:kvs.length<=sizeLine)(hd:(a == sysModules)=false)(rel:KV kvs vs)(dd:h'.DictOf (jcn P w) a vs) :
  ObjOk P w H' h' a (.dK kvs):=⟨z,hd,vs,rel,dd⟩
theorem jol{H':Hp}{Q:Unit->Shared->Prop}(hu:A.units+1<cLine)(I:Inv X pins σ H s)(g:DPut H a y v H')(ry:RelV y u)(rv:RelV v r)(h:∀s',Inv X pins σ H' s'->Q () s') :
  wpAny (model X.prog X.w) A (setItem (.ref a) u r) Q E s:=by
 rcases g with⟨kvs,k,e,ey,l,eH⟩|⟨kvs,k,b,e,ey,eb,l,eH⟩
 ·subst ey eH
  obtain⟨z,hd,vs,rel,dd⟩:=jju I.hok e
  have hz:vs.length<=sizeLine:=by rw[<-rel.length];exact z
  have hl:(putK kvs k v).length<=sizeLine:=by have:=jde kvs k v;omega
  refine wpAny_setItem_pairs (hsz:=hz) (jeu ry) dd λh' dd' hs=>h _ ?_
  have he:∃q,h'.get? a=some q:=let⟨q,_,_,hq,_⟩:=dd';⟨q,hq⟩
  exact jeh I (by rw[e];exact True.intro) hs he (je2 hl hd (rel.put k rv) dd')
 ·subst ey eH
  cases(show u=Value.ref b from ry)
  obtain⟨z,hd,xs,rel,dd⟩:=jqu I.hok e
  have hz:xs.length<=sizeLine:=by rw[<-Il rel];exact z
  have hl:(putK kvs k v).length<=sizeLine:=by have:=jde kvs k v;omega
  refine wpAny_setItem_heap (hsz:=hz) (Aab hu) (je4 I.hok eb) dd λh' dd' hs=>h _ ?_
  obtain⟨q,es,ep,hq,h2,h3,h4,_,h5⟩:=dd'
  refine jeh I (by rw[e];exact True.intro) hs ⟨q,hq⟩ ⟨hl,hd,_,(rel.put k eb rv).keeps λc ys ec=>?_,q,es,ep,hq,h2,h3,h4,h5⟩
  rw[jd (jn0 ec e (λz=>nomatch z))]
  exact ec
end
section
variable{X:Cx}{pins:List (Addr×Obj)}{σ:St}{H:Hp}{s:Shared}{a:Addr}{kvs:List (Key×V)}{k:Key}{u:Value}{A:Around}{E:Value->Shared->Prop}
theorem js1{v:V}{more:List Value}{Q:Value->Shared->Prop}(I:Inv X pins σ H s)(e:H a=some (.dK kvs))(ry:RelV (kV k) u)(l:valV kvs k=some v)(hm:more=[]\/∃x,more=[x])
  (h:∀w' s',Inv X pins σ (upd H a (.dK (jfc kvs k))) s'->RelV v w'->Q w' s'):wpAny (model X.prog X.w) A (call (.builtin "dict.pop") (.ref a::u::more)) Q E s:=by
 obtain⟨z,hd,vs,rel,dd⟩:=jju I.hok e
 obtain⟨w',hw,rw'⟩:=RelO.some_of (v:=v) (o:=valueAt vs k) (by rw[<-l];exact rel.val k)
 have hp:(keyPart u).isSome=true:=by
  cases k with
  |inl i=>obtain⟨t,q⟩:=(show ∃t,u=Value.int i t from ry);subst q;rfl
  |inr x=>obtain⟨t,q⟩:=(show ∃t,u=Value.str x t from ry);subst q;rfl
 have ha:argsOk "dict.pop" ⟨.ref a::u::more,[]⟩:=by
  rcases hm with q|⟨x,q⟩
  ·subst q;exact PySem.F.args_dict_pop_2 _ _
  ·subst q;exact PySem.F.args_dict_pop_3 _ _ _
 refine call_meetsIn PySem.F.slot_dict_pop dd.typeIs PySem.F.entry_dict_pop ha (meets_dict_pop_there (jcn X.prog X.w) a (jeu ry) more hm hp)
  ⟨vs,w',dd,by rw[<-rel.length];exact z,hw,λh' dd' hs=>h w' _ ?_ rw'⟩
 have he:∃q,h'.get? a=some q:=let⟨q,_,_,hq,_⟩:=dd';⟨q,hq⟩
 exact jeh I (by rw[e];exact True.intro) hs he (je2 (Im (jp1 kvs k) z) hd (rel.drop k) dd')
theorem js0{Q:Value->Shared->Prop}(I:Inv X pins σ H s)(e:Rd H a (.dK kvs))(h:∀t s',Inv X pins σ H s'->Q (.int kvs.length t) s'):wpAny (model X.prog X.w) A (call (.builtin "len") [.ref a]) Q E s:=by
 obtain⟨z,hd,vs,rel,dd⟩:=jfa I.hok e
 refine call_len_dict hd dd (by rw[<-rel.length];rw[O3]at z;omega) ?_
 rw[<-rel.length]
 exact h _ _ (I.tok _)
end
def NoSl(i:Expr):Prop:=∀ov iv,subscripted i false ov iv=operate [ov,iv] (getItem ov iv)
theorem jr4{prog:Program}{w:World}{A:Around}{E:Value->Shared->Prop}{s:Shared}{env:Env}{value slice:Expr}{pos:Pos}{T id:String}{Q:Value->Shared->Prop}
  (hl:typeLookup (.type T) "__getitem__"=pure (some (.builtin id))) (hs:NoSl slice)
  (h:wpAny (model prog w) A (eval value env) (λo s₁=>wpAny (model prog w) A (eval slice env) (λi s₂=>s₂.TypeIs o T/\wpAny (model prog w) A (getItem o i) Q E s₂) E s₁) E s) :
  wpAny (model prog w) A (eval (.Subscript value slice pos) env) Q E s:=by
 refine Subscript_ (Ur h (λo s₁ h₁=>Ur h₁ (λi s₂ h₂=>?_) λ_ _ x=>x) λ_ _ x=>x)
 obtain⟨hT,h₂⟩:=h₂
 unfold subscriptTail
 refine Ab ?_
 rw[getitemInPython_of_ne hT.not_modules]
 refine Ab (wpAny_specialOf hT hl ?_)
 have fin:wpAny (model prog w) A (subscripted slice false o i) (λr s₃=>wpAny (model prog w) A (letTemporaryGo value o r >>= λ_=>pure r) Q E s₃) E s₂:=by
  rw[hs o i]
  exact wpAny_operating (Ur h₂ (λr s₃ h₃=>Ab (wpAny_letTemporaryGo (Ah h₃))) λ_ _ x=>x)
 first
  |exact Ah (Ab fin)
  |exact Ab (Ah (Ab fin))
  |exact Ab fin
theorem jl4{X:Cx}{pins:List (Addr×Obj)}{σ:St}{H:Hp}{s:Shared}{a:Addr}{y:V}{o:Option V}(I:Inv X pins σ H s)(g:DGet H a y o):s.TypeIs (.ref a) "dict":=by
 rcases g with⟨kvs,k,e,_,_⟩|⟨kvs,k,b,e,_,_,_⟩
 ·obtain⟨_,_,vs,_,dd⟩:=jfa I.hok e
  exact dd.typeIs
 ·obtain⟨_,_,xs,_,dd⟩:=jha I.hok e
  exact dd.typeIs
def jj6(td ty:TE):TE:=λσ H Q=>td σ H λx H1=>ty σ H1 λy H2=>∃a v,x=.ref a/\DGet H2 a y (some v)/\Q v H2
def jf7(ty td:TE):TE:=λσ H Q=>ty σ H λy H1=>td σ H1 λx H2=>∃a o,x=.ref a/\DGet H2 a y o/\Q (.bl (!o.isSome)) H2
def jj1(td ty tv:TE):TS:=λD σ H=>tv σ H λv H1=>td σ H1 λx H2=>ty σ H2 λy H3=>∃a H4,x=.ref a/\DPut H3 a y v H4/\D.nx σ H4
section
variable{X:Cx}{o i e value:Expr}{pos pos' tpos:Pos}{td ty tv:TE}
theorem pe_dget(hu:X.A.units+1<cLine)(ho:PE X o td)(hi:PE X i ty)(hs:NoSl i):PE X (.Subscript o i pos) (jj6 td ty):=by
 intro pins s σ H Q I h
 refine jr4 PySem.F.slot_dict_getitem.lookup hs (thn (ho pins s σ H _ I h) λu s1 ⟨x,H1,I1,rx,q1⟩=>thn (hi pins s1 σ H1 _ I1 q1) λiv s2 ⟨y,H2,I2,ry,a,v,ex,g,q2⟩=>?_)
 subst ex
 obtain rfl:u=Value.ref a:=rx
 exact⟨jl4 I2 g,jok hu I2 g ry λw' s3 I3 rw'=>⟨v,H2,I3,rw',q2⟩⟩
theorem pc_dnotin(hu:X.A.units+1<cLine)(hi:PE X i ty)(ho:PE X o td):PC X .NotIn i o (jf7 ty td):=by
 intro pins s σ H Q I h
 refine thn (hi pins s σ H _ I h) λiv s1 ⟨y,H1,I1,ry,q1⟩=>thn (ho pins s1 σ H1 _ I1 q1) λu s2 ⟨x,H2,I2,rx,a,ov,ex,g,q2⟩=>?_
 subst ex
 obtain rfl:u=Value.ref a:=rx
 exact jre hu I2 g ry λs3 I3=>⟨.bl (!ov.isSome),H2,I3,rfl,q2⟩
theorem ps_dput(hu:X.A.units+1<cLine)(ho:PE X o td)(hi:PE X i ty)(hv:PE X value tv)(hs:swapsWith value (some (.Subscript o i pos')) pos.line X.env=pure false) :
  PS X (.Assign [.Subscript o i pos'] value pos) (jj1 td ty tv):=by
 intro pins s σ H D I h
 refine wpAny_Assign_Subscript (thn (hv pins s σ H _ I h) λr s1 ⟨v,H1,I1,rv,q1⟩=>thn (ho pins s1 σ H1 _ I1 q1) λu s2 ⟨x,H2,I2,rx,q2⟩=>thn (hi pins s2 σ H2 _ I2 q2) λiv s3 ⟨y,H3,I3,ry,a,H4,ex,g,q3⟩=>?_) hs
 subst ex
 obtain rfl:u=Value.ref a:=rx
 exact jol hu I3 g ry rv λs4 I4=>⟨σ,H4,I4,q3⟩
end
theorem jkt{P:Program}{w:World}{H:Hp}(h:Heap)(hb:sysModules<h.objs.size):ObjOk P w H (h.push {cls:=.type "dict",data:=.dict #[]}) h.objs.size (.dK []) :=
 ⟨Oa _,Ox.mpr (U9 (Ax hb)),[],.nil,Heap.DictOf.new h⟩
theorem jp2{P:Program}{w:World}{H:Hp}(h:Heap)(hb:sysModules<h.objs.size):ObjOk P w H (h.push {cls:=.type "dict",data:=.dict #[]}) h.objs.size (.dT []) :=
 ⟨Oa _,Ox.mpr (U9 (Ax hb)),[],.nil,_,#[],0,A1 _ rfl,⟨rfl,rfl,rfl⟩,rfl,rfl,Y9⟩
def jeq:List (TE×TE)->St->Hp->(List (V×V)->Hp->Prop)->Prop
 |[],_,H,Q=>Q [] H
 |(tk,tv)::r,σ,H,Q=>tk σ H λx H1=>tv σ H1 λy H2=>jeq r σ H2 λps H3=>Q ((x,y)::ps) H3
abbrev VV:List (V×V)->List (Value×Value)->Prop:=Paired λp q=>RelV p.1 q.1/\RelV p.2 q.2
def PPs(X:Cx)(pos:Pos)(keys:List (Option Expr))(values:List Expr)(trs:List (TE×TE)):Prop :=
 ∀(pins:List (Addr×Obj))(s:Shared)(σ:St)(H:Hp)(Q:List (V×V)->Hp->Prop),Inv X pins σ H s->jeq trs σ H Q ->
  wpAny (model X.prog X.w) X.A (evalPairs (pairTrees keys values X.env pos)) (λvs s'=>∃ps H',Inv X pins σ H' s'/\VV ps vs/\Q ps H') X.xe s
theorem jcf{X:Cx}{pos:Pos}:PPs X pos [] [] []:=λpins s σ H Q I h=>pairTrees_nil_walk ⟨[],H,I,.nil,h⟩
theorem jb4{X:Cx}{pos:Pos}{k v:Expr}{ks:List (Option Expr)}{vs:List Expr}{tk tv:TE}{trs:List (TE×TE)}(hk:PE X k tk)(hv:PE X v tv)(hr:PPs X pos ks vs trs) :
  PPs X pos (some k::ks) (v::vs) ((tk,tv)::trs):=λpins s σ H Q I h =>
 pairTrees_cons_walk (thn (hk pins s σ H _ I h) λu s1 ⟨x,H1,I1,rx,q1⟩=>thn (hv pins s1 σ H1 _ I1 q1) λw2 s2 ⟨y,H2,I2,ry,q2⟩ =>
  thn (hr pins s2 σ H2 _ I2 q2) λws s3 ⟨ps,H3,I3,rel,q3⟩=>⟨(x,y)::ps,H3,I3,.cons ⟨rx,ry⟩ rel,q3⟩)
def jen(kvs more:List (Key×V)):List (Key×V):=more.foldl (λacc kv=>putK acc kv.1 kv.2) kvs
theorem KV.merge:∀{more:List (Key×V)}{rs:List (Key×Value)}{kvs:List (Key×V)}{vs:List (Key×Value)},KV more rs->KV kvs vs->KV (jen kvs more) (merged vs rs):=by
 intro more rs kvs vs r
 unfold KV at r
 induction r generalizing kvs vs with
 |nil=>intro q;exact q
 |@cons p q ps qs h t ih =>
  intro r0
  have e:KV (putK kvs p.1 p.2) (stored vs q.1 q.2):=by
   have:=r0.put p.1 h.2
   rw[<-h.1];exact this
  exact ih e
theorem jfk:∀(more kvs:List (Key×V)),(jen kvs more).length<=kvs.length+more.length
 |[],kvs=>by show kvs.length<=kvs.length+0;omega
 |p::r,kvs=>by
  have h1:=jfk r (putK kvs p.1 p.2)
  have h2:=jde kvs p.1 p.2
  show(jen (putK kvs p.1 p.2) r).length<=_
  rw[List.length_cons];omega
theorem jg8{P:Program}{w:World}:∀{kvs:List (Key×V)}{ws:List (Value×Value)},VV (kvs.map λkv=>(kV kv.1,kv.2)) ws->∃rs,Carries (jcn P w) ws rs/\KV kvs rs
 |[],_,r=>by rw[Uq]at r;cases r;exact⟨[],True.intro,.nil⟩
 |p::kvs,_,r=>by
  rw[Ay]at r
  cases r with
  |@cons a b as bs h t =>
   obtain⟨rs,c,q⟩:=jg8 (P:=P) (w:=w) t
   obtain⟨b1,b2⟩:=b
   exact⟨(p.1,b2)::rs,⟨jeu h.1,rfl,c⟩,.cons ⟨rfl,h.2⟩ q⟩
def jf8(trs:List (TE×TE)):TE:=λσ H Q=>∀p,H p=none->jeq trs σ (upd H p (.dK [])) λps H2=>H2 p=some (.dK [])/\∃kvs:List (Key×V),ps=kvs.map (λkv=>(kV kv.1,kv.2))/\kvs.length<=15/\Q (.ref p) (upd H2 p (.dK (jen [] kvs)))
theorem pe_disp{X:Cx}{pos:Pos}{keys:List (Option Expr)}{values:List Expr}{trs:List (TE×TE)}(h:PPs X pos keys values trs)(hall:keys.all (·.isSome)=true)(hl:keys.length=values.length)(h0:keys≠[])
  (h15:keys.length<=15):PE X (.Dict keys values pos) (jf8 trs):=by
 intro pins s σ H Q I q
 have hn:=I.hok.fresh (Ak s.heap.objs.size)
 have I1:=I.laid (a:=s.heap.objs.size) (o:=.dK []) (h':=s.heap.push {cls:=.type "dict",data:=.dict #[]}) (t':=s.toks) (λ_ _ q=>Ai _ q) (Ak _) (jkt s.heap I.big)
 refine wpAny_Dict_walk (knd:=jcn X.prog X.w) hall hl h0 h15 (thn (h pins _ σ _ _ I1 (q _ hn)) λws s2 ⟨ps,H2,I2,rel,e,kvs,ep,lk,q2⟩=>?_)
 subst ep
 obtain⟨rs,c,rk⟩:=jg8 (P:=X.prog) (w:=X.w) rel
 obtain⟨z,hd,vs0,r0,dd⟩:=jju I2.hok e
 cases r0
 refine⟨rs,c,dd,λh' dd' hs=>⟨.ref s.heap.objs.size,_,?_,rfl,q2⟩⟩
 have hz:(jen [] kvs).length<=sizeLine:=by
  have h1:=jfk kvs []
  rw[List.length_nil]at h1
  rw[O3];omega
 have he:∃q,h'.get? s.heap.objs.size=some q:=let⟨q,_,_,hq,_⟩:=dd';⟨q,hq⟩
 exact jeh I2 (by rw[e];exact True.intro) hs he (je2 hz hd (rk.merge .nil) dd')
structure M2(X:Cx)(o:Expr)(m:Str)(apos:Pos)(e f:Expr)(cpos:Pos):Prop where
 base:attributeBase o m X.env (eval o X.env)=eval o X.env
 few:((backTo cpos (starEach [e,f] X.env)).all (λx=>!x.1) && (backToKw cpos (keywordEach [] X.env)).all (λx=>x.1.isSome)
  && decide (([e,f]:List Expr).length+([]:List Keyword).length+(if([]:List Keyword).isEmpty then 0 else 1)<30))=true
 line:(apos.endLine == cpos.line)=true
 trees:backTo cpos (starEach [e,f] X.env)=[(false,eval e X.env),(false,eval f X.env)]
def IsD(H:Hp)(a:Addr):Prop:=(∃kvs,Rd H a (.dK kvs))\/∃kvs,Rd H a (.dT kvs)
theorem jsi{X:Cx}{pins:List (Addr×Obj)}{σ:St}{H:Hp}{s:Shared}{a:Addr}(I:Inv X pins σ H s)(d:IsD H a) :
  s.TypeIs (.ref a) "dict"/\(∀b,Value.ref a=.ref b->∃ob,s.heap.get? b=some ob/\ob.dict=none)/\(a == sysModules)=false:=by
 rcases d with⟨kvs,e⟩|⟨kvs,e⟩
 ·obtain⟨_,hd,vs,_,dd⟩:=jfa I.hok e
  refine⟨dd.typeIs,λb q=>?_,hd⟩
  cases q
  obtain⟨ob,_,_,h1,h2,_⟩:=dd
  exact⟨ob,h1,h2.2.1⟩
 ·obtain⟨_,hd,xs,_,dd⟩:=jha I.hok e
  refine⟨dd.typeIs,λb q=>?_,hd⟩
  cases q
  obtain⟨ob,_,_,h1,h2,_⟩:=dd
  exact⟨ob,h1,h2.2.1⟩
section
variable{X:Cx}{pins:List (Addr×Obj)}{σ:St}{H:Hp}{s:Shared}{a:Addr}{kvs:List (Key×V)}{A:Around}{E:Value->Shared->Prop}
theorem jpy{Q:Value->Shared->Prop}(I:Inv X pins σ H s)(e:Rd H a (.dK kvs))(h:∀p s',H p=none->Inv X pins σ (upd H p (.dK kvs)) s'->Q (.ref p) s'):wpAny (model X.prog X.w) A (call (.type "dict") [.ref a]) Q E s:=by
 obtain⟨z,hd,vs,rel,dd⟩:=jfa I.hok e
 refine kt_call_dict hd dd (by rw[<-rel.length];exact z) λh' dd' hs=>?_
 refine h _ _ (I.hok.fresh (Ak _)) (I.laid (a:=s.heap.objs.size) (o:=.dK kvs) (t':=s.toks) (λb q hq=>?_) (Ak _) (je2 z (Ox.mpr (U9 (Ax I.big))) rel dd'))
 exact(hs.2 b (Ax (At hq))).trans (Ai _ hq)
end
structure Kp(S:List Addr)(H H':Hp):Prop where
 old:∀a o,H a=some o->a∉S->H' a=some o
 tup:∀a xs,H a=some (.tup xs)->H' a=some (.tup xs)
 dom:∀a o,H a=some o->∃o',H' a=some o'
theorem Kp.refl(S:List Addr)(H:Hp):Kp S H H:=⟨λ_ _ e _=>e,λ_ _ e=>e,λ_ o e=>⟨o,e⟩⟩
theorem Kp.trans{S:List Addr}{H H1 H2:Hp}(a:Kp S H H1)(b:Kp S H1 H2):Kp S H H2 :=
 ⟨λc o e n=>b.old c o (a.old c o e n) n,λc xs e=>b.tup c xs (a.tup c xs e),λc o e=>let⟨o',e'⟩:=a.dom c o e;b.dom c o' e'⟩
theorem Kp.mono{S S':List Addr}{H H1:Hp}(a:Kp S H H1)(h:∀x∈S,x∈S'):Kp S' H H1:=⟨λc o e n=>a.old c o e λz=>n (h c z),a.tup,a.dom⟩
theorem Kp.free{S:List Addr}{H H1:Hp}(k:Kp S H H1){p:Addr}(h:H1 p=none):H p=none:=by
 cases e:H p with
 |none=>rfl
 |some o=>obtain⟨o',e'⟩:=k.dom p o e;rw[h]at e';cases e'
theorem Kp.trans'{S S':List Addr}{H H1 H2:Hp}(a:Kp S H H1)(b:Kp S' H1 H2)(h:∀x∈S',x∈S\/H x=none):Kp S H H2 :=
 ⟨λc o e n=>b.old c o (a.old c o e n) λz=>by
  rcases h c z with q|q
  ·exact n q
  ·(rw[q]at e;exact nomatch e),λc xs e=>b.tup c xs (a.tup c xs e),λc o e=>let⟨o',e'⟩:=a.dom c o e;b.dom c o' e'⟩
theorem Kp.new{S:List Addr}{H H1:Hp}(k:Kp S H H1){p:Addr}{o:HO}(h:H1 p=none):Kp S H (upd H1 p o) :=
 ⟨λc u e n=>by rw[jd (jf (k.old c u e n) h)];exact k.old c u e n,λc xs e=>by rw[jd (jf (k.tup c xs e) h)];exact k.tup c xs e,
  λc u e=>by
   obtain⟨o',e'⟩:=k.dom c u e
   exact⟨o',by rw[jd (jf e' h)];exact e'⟩⟩
theorem Kp.set{S:List Addr}{H H1:Hp}(k:Kp S H H1){b:Addr}{xs:List V}{o:HO}(hb:H1 b=some (.lst xs))(h:b∈S\/H b=none):Kp S H (upd H1 b o) :=
 ⟨λc u e n=>by
  have:c≠b:=by
   rintro rfl
   rcases h with h|h
   ·exact n h
   ·rw[h]at e;cases e
  rw[jd this];exact k.old c u e n,
 λc ys e=>by
  have e1:=k.tup c ys e
  rw[jd (jn0 e1 hb (by intro z;cases z))];exact e1,
 λc u e=>by
  obtain⟨o',e'⟩:=k.dom c u e
  by_cases q:c=b
  ·subst q;exact⟨o,jb⟩
  ·exact⟨o',by rw[jd q];exact e'⟩⟩
def jcx:Option HO->Option (List V)
 |some (.lst xs)=>some xs
 |_=>none
def jgb:Option HO->Option (List V)
 |some (.tup xs)=>some xs
 |_=>none
def jda:Option HO->Option (List V)
 |some (.lst xs)=>some xs
 |some (.tup xs)=>some xs
 |_=>none
theorem ji5(xs:List V):jcx (some (.lst xs))=some xs:=rfl
theorem jjq(xs:List V):jgb (some (.tup xs))=some xs:=rfl
theorem jjj(xs:List V):jda (some (.lst xs))=some xs:=rfl
theorem jjk(xs:List V):jda (some (.tup xs))=some xs:=rfl
theorem jc2{o:Option HO}{xs:List V}(h:jcx o=some xs):o=some (.lst xs):=by
 unfold jcx at h
 split at h
 ·cases h;rfl
 ·cases h
theorem jgr{o:Option HO}{xs:List V}(h:jgb o=some xs):o=some (.tup xs):=by
 unfold jgb at h
 split at h
 ·cases h;rfl
 ·cases h
theorem jfh{o:Option HO}{xs:List V}(h:jda o=some xs):o=some (.lst xs)\/o=some (.tup xs):=by
 unfold jda at h
 split at h
 ·cases h;exact .inl rfl
 ·cases h;exact .inr rfl
 ·cases h
section
variable{X:Cx}
def rLtU:R2:=λx y H Q=>match x,y with
 |.int i,.int j=>Q (.bl (decide (i<j))) H
 |.str i,.str j=>Q (.bl (decide (i.cps.toList<j.cps.toList))) H
 |_,_=>False
theorem jau:OpR X (compareOp .Lt) rLtU:=by
 intro pins s σ H x y v u Q I rx ry h
 cases x with
 |int i=>cases y with
  |int j=>exact op_lt pins s σ H _ _ v u Q I rx ry ⟨i,j,rfl,rfl,h⟩
  |_=>exact False.elim h
 |str i=>cases y with
  |str j=>exact op_lt_str pins s σ H _ _ v u Q I rx ry ⟨i,j,rfl,rfl,h⟩
  |_=>exact False.elim h
 |_=>exact False.elim h
def rIxU:R2:=λx y H Q=>match x,y with
 |.str z,.int i=>z.length<=sizeLine/\∃c,atI z.cps.toList i=some c/\Q (.str ⟨#[c]⟩) H
 |.ref p,.int i=>∃xs,jda (H p)=some xs/\∃v,atI xs i=some v/\Q v H
 |_,_=>False
theorem ix_U:IxR X rIxU:=by
 intro value slice pins s σ H x y v u Q I rx ry h hs
 cases x with
 |str z=>cases y with
  |int i=>obtain⟨h1,c,h2,h3⟩:=h;exact ix_str value slice pins s σ H _ _ v u Q I rx ry ⟨z,i,c,rfl,rfl,h1,h2,h3⟩ hs
  |_=>exact False.elim h
 |ref p=>cases y with
  |int i =>
   obtain⟨xs,e,w,h2,h3⟩:=h
   rcases jfh e with e|e
   ·exact jbp value slice pins s σ H _ _ v u Q I rx ry ⟨p,xs,i,w,rfl,rfl,SqL.of e,h2,h3⟩ hs
   ·exact ix_tup value slice pins s σ H _ _ v u Q I rx ry ⟨p,xs,i,w,rfl,rfl,SqT.of e,h2,h3⟩ hs
  |_=>exact False.elim h
 |_=>exact False.elim h
theorem je9{α:Type}(x:α)(r:List α):atI (x::r) 0=some x:=jcm (j:=0) rfl
theorem jf1{α:Type}(x y:α)(r:List α):atI (x::y::r) 1=some y:=jcm (j:=1) rfl
theorem jqq{α:Type}(x y z:α)(r:List α):atI (x::y::z::r) 2=some z:=jcm (j:=2) rfl
theorem jke{α:Type}{xs:List α}{i:Int}{v:α}(h0:0<=i)(h:xs[i.toNat]?=some v):atI xs i=some v:=by
 have:=jcm (xs:=xs) (j:=i.toNat) h
 rwa[Int.toNat_of_nonneg h0]at this
def jqz:V->V->V->Hp->(Hp->Prop)->Prop:=λo i v H Q=>match o,i with
 |.ref p,.int k=>∃xs,jcx (H p)=some xs/\∃j,ixN xs.length k=some j/\Q (upd H p (.lst (xs.set j v)))
 |_,_=>False
theorem jht:PSet X jqz:=by
 intro pins s σ H o i v ov iv u Q I ro ri rv h
 cases o with
 |ref p=>cases i with
  |int k =>
   obtain⟨xs,e,j,h1,h2⟩:=h
   exact jqh pins s σ H _ _ v ov iv u Q I ro ri rv ⟨p,xs,k,j,rfl,rfl,jc2 e,h1,h2⟩
  |_=>exact False.elim h
 |_=>exact False.elim h
def jj0:List V->Hp->VK->Prop:=λxs H Q=>match xs with
 |[.str z]=>z.length<=sizeLine/\Q (.int z.length) H
 |[.ref p]=>∃ys,jda (H p)=some ys/\Q (.int ys.length) H
 |_=>False
theorem jw:jc0 X (.builtin "len") jj0:=by
 intro pins s σ H xs us Q I r h
 unfold jj0 at h
 split at h
 ·rename_i z;exact call_len_str pins s σ H _ us Q I r ⟨z,rfl,h⟩
 ·rename_i p
  obtain⟨ys,e,h⟩:=h
  rcases jfh e with e|e
  ·exact zx pins s σ H _ us Q I r ⟨p,ys,rfl,.inl (SqL.of e),h⟩
  ·exact zx pins s σ H _ us Q I r ⟨p,ys,rfl,.inr (SqT.of e),h⟩
 ·exact h.elim
def jn2:List V->Hp->VK->Prop:=λxs H Q=>match xs with
 |[.int i,.int j]=>Q (.int (if j<i then j else i)) H
 |_=>False
theorem call_minU(hc:X.calm=true):jc0 X (.builtin "min") jn2:=by
 intro pins s σ H xs us Q I r h
 unfold jn2 at h
 split at h
 ·rename_i i j;exact call_min2 hc pins s σ H _ us Q I r ⟨i,j,rfl,h⟩
 ·exact h.elim
def jn1:List V->Hp->VK->Prop:=λxs H Q=>match xs with
 |[.int i,.int j]=>Q (.int (if j>i then j else i)) H
 |_=>False
theorem call_maxU(hc:X.calm=true):jc0 X (.builtin "max") jn1:=by
 intro pins s σ H xs us Q I r h
 unfold jn1 at h
 split at h
 ·rename_i i j;exact call_max2 hc pins s σ H _ us Q I r ⟨i,j,rfl,h⟩
 ·exact h.elim
def jjz:List V->Hp->VK->Prop:=λxs H Q=>match xs with
 |[.int i]=>Q (.int i) H
 |[.bl k]=>Q (.int (if k then 1 else 0)) H
 |_=>False
theorem ja2:jc0 X (.type "int") jjz:=by
 intro pins s σ H xs us Q I r h
 unfold jjz at h
 split at h
 ·rename_i i;exact jbt pins s σ H _ us Q I r (.inl ⟨i,rfl,h⟩)
 ·rename_i k;exact jbt pins s σ H _ us Q I r (.inr ⟨k,rfl,h⟩)
 ·exact h.elim
def sgn(z:Str):List V:=z.cps.toList.map λc=>V.str ⟨#[c]⟩
theorem jr3(z:Str):(sgn z).length=z.length:=by simp[sgn,Str.length]
theorem jqo{z:Str}{acc:Array Value}(h:ItemsOf (SignAt z) acc z.cps.size):Vals (sgn z) acc.toList:=by
 obtain⟨h1,h2⟩:=h
 have hl:(sgn z).length=acc.toList.length:=by simp[sgn,h1]
 have gen:∀(xs:List V)(us:List Value),xs.length=us.length->(∀(i:Nat)(x:V)(u:Value),xs[i]?=some x->us[i]?=some u->RelV x u)->Vals xs us:=by
  intro xs
  induction xs with
  |nil=>intro us hl _;cases us with
   |nil=>exact .nil
   |cons _ _=>simp at hl
  |cons x xs ih=>intro us hl h;cases us with
   |nil=>simp at hl
   |cons u us=>exact .cons (h 0 x u rfl rfl) (ih us (by simpa using hl) λi a b e1 e2=>h (i+1) a b (by simpa using e1) (by simpa using e2))
 refine gen _ _ hl λi x u e1 e2=>?_
 obtain⟨c,t,hc,hu⟩:=h2 i u (by simpa using e2)
 subst hu
 simp only[sgn,Ag]at e1
 have:z.cps.toList[i]?=some c:=by simpa using hc
 rw[this]at e1
 have e1':V.str ⟨#[c]⟩=x:=Aq e1
 subst e1'
 exact⟨t,rfl⟩
def jhn:List V->Hp->VK->Prop:=λxs H Q=>match xs with
 |[.str z]=>z.length<=sizeLine/\∀l,H l=none->Q (.ref l) (upd H l (.lst (sgn z)))
 |[.ref p]=>∃ys,jda (H p)=some ys/\∀l,H l=none->Q (.ref l) (upd H l (.lst ys))
 |_=>False
theorem jaj(hc:X.calm=true):jc0 X (.type "list") jhn:=by
 intro pins s σ H xs us Q I r h
 unfold jhn at h
 split at h
 ·rename_i z
  obtain⟨u,rfl,t,rfl⟩:=jdd r
  obtain⟨hz,q⟩:=h
  refine call_list_str (I.ok.hd hc) z t (λh' tk acc c hk hn hi=>?_) hz
  have hf:=I.hok.fresh (Ak s.heap.objs.size)
  refine⟨.ref s.heap.objs.size,upd H s.heap.objs.size (.lst (sgn z)),I.laid hk (Ak _) ⟨by rw[jr3];exact hz,acc.toList,c,jqo hi,by simpa using hn⟩,rfl,q _ hf⟩
 ·rename_i p
  obtain⟨ys,e,h⟩:=h
  rcases jfh e with e|e
  ·exact ja3 pins s σ H _ us Q I r ⟨p,ys,rfl,.inl (SqL.of e),h⟩
  ·exact ja3 pins s σ H _ us Q I r ⟨p,ys,rfl,.inr (SqT.of e),h⟩
 ·exact h.elim
def jn4:V->List V->Hp->VK->Prop:=λx vs H Q=>match x,vs with
 |.ref l,[.int i]=>∃xs,jcx (H l)=some xs/\0<=i/\∃y,xs[i.toNat]?=some y/\Q y (upd H l (.lst (xs.eraseIdx i.toNat)))
 |_,_=>False
theorem mt_popU:MtM X "list.pop" jn4:=by
 intro pins s σ H x vs v us Q I rx rv h
 unfold jn4 at h
 split at h
 ·rename_i l i
  obtain⟨xs,e,h0,y,hy,q⟩:=h
  have e:=jc2 e
  have hz:=(I.lstM e).1
  have hlt:i.toNat<xs.length:=(Ae.mp hy).1
  have hs:sizeLine=16777216:=O3
  refine mt_popAt pins s σ H _ _ v us Q I rx rv ⟨l,xs,i,i.toNat,y,rfl,rfl,e,by omega,by omega,?_,hy,q⟩
  exact seqIndex_of h0 (by omega)
 ·exact h.elim
def ItS(z:Str):It:=⟨λi _=>i<z.length,λi H x H'=>H'=H/\∃c,z.cps.toList[i]?=some c/\x=.str ⟨#[c]⟩,λi _=>z.length<=i⟩
theorem jpr{P:Program}{w:World}{K:PySem.W.Frag}{tg:Expr}(z:Str)(t:Tok)(it:Addr):Turn P w K tg (ItS z) [it] it (λi h=>h.IsStrIter it "str_ascii_iterator" z t i) where
 mem:=by simp
 obj:=λi h st b hb=>by
  have e:b=it:=by simpa using hb
  subst e
  obtain⟨o,e,c,d⟩:=st
  exact⟨o,e,λv z=>by rw[d]at z;cases z⟩
 keep:=λi h h' st k=>let⟨o,ho,r⟩:=st;⟨o,k it (by simp) o ho,r⟩
 item:=by
  intro X hP hw hK hc i pins s σ H E I hf st hg
  subst hP hw hK
  obtain⟨f0,f1,f2,f3,f4,f5⟩:=hf it (by simp)
  have hi:i<z.cps.size:=hg
  refine wpAny_pyNext_ascii_item st (c:=z.cps[i]) (by simp[hi]) λh' st' sb=>?_
  have I1:Inv X pins σ H {s with heap:=h',toks:=s.toks+1}:=I.turned (t':=s.toks+1) (λb o hb e=>(sb.2 b hb).trans e) f0 f1 f3 f4 f5
  obtain⟨o,e,c,d⟩:=id st'
  exact⟨_,rfl,jf4 (s:={s with heap:=h',toks:=s.toks+1}) e c d (by decide) ⟨.str ⟨#[z.cps[i]]⟩,H,I1,⟨_,rfl⟩,⟨rfl,_,by simp[hi],rfl⟩,st',λb hb=>(hf b hb).1⟩⟩
 done:=by
  intro X hP hw hK hc i pins s σ H E I hf st hg
  subst hP hw hK
  obtain⟨f0,f1,f2,f3,f4,f5⟩:=hf it (by simp)
  have hi:z.cps.size<=i:=hg
  exact wpAny_pyNext_ascii_end (I.ok.hd hc) st (by simp[hi]) λh' eb=>⟨rfl,I.turned (t':=s.toks) (λb o hb e=>eb b o hb e) f0 f1 f3 f4 f5⟩
 self:=λ_ _ _ _ _ st h=>wpAny_pyIter_striter_ascii st h
theorem jps{P:Program}{w:World}{K:PySem.W.Frag}{tg:Expr}(z:Str)(t:Tok)(it:Addr):Turn P w K tg (ItS z) [it] it (λi h=>h.IsStrIter it "str_iterator" z t i) where
 mem:=by simp
 obj:=λi h st b hb=>by
  have e:b=it:=by simpa using hb
  subst e
  obtain⟨o,e,c,d⟩:=st
  exact⟨o,e,λv z=>by rw[d]at z;cases z⟩
 keep:=λi h h' st k=>let⟨o,ho,r⟩:=st;⟨o,k it (by simp) o ho,r⟩
 item:=by
  intro X hP hw hK hc i pins s σ H E I hf st hg
  subst hP hw hK
  obtain⟨f0,f1,f2,f3,f4,f5⟩:=hf it (by simp)
  have hi:i<z.cps.size:=hg
  refine wpAny_pyNext_wide_item st (c:=z.cps[i]) (by simp[hi]) λh' st' sb=>?_
  have I1:Inv X pins σ H {s with heap:=h',toks:=s.toks+1}:=I.turned (t':=s.toks+1) (λb o hb e=>(sb.2 b hb).trans e) f0 f1 f3 f4 f5
  obtain⟨o,e,c,d⟩:=id st'
  exact⟨_,rfl,jf4 (s:={s with heap:=h',toks:=s.toks+1}) e c d (by decide) ⟨.str ⟨#[z.cps[i]]⟩,H,I1,⟨_,rfl⟩,⟨rfl,_,by simp[hi],rfl⟩,st',λb hb=>(hf b hb).1⟩⟩
 done:=by
  intro X hP hw hK hc i pins s σ H E I hf st hg
  subst hP hw hK
  obtain⟨f0,f1,f2,f3,f4,f5⟩:=hf it (by simp)
  have hi:z.cps.size<=i:=hg
  exact wpAny_pyNext_wide_end (I.ok.hd hc) st (by simp[hi]) λh' eb=>⟨rfl,I.turned (t':=s.toks) (λb o hb e=>eb b o hb e) f0 f1 f3 f4 f5⟩
 self:=λ_ _ _ _ _ st h=>wpAny_pyIter_striter_wide st h
def iAny(K:PySem.W.Frag)(t:TE):TI:=λσ H R=>t σ H λx H1=>match x with
 |.str z=>R (ItS z) H1
 |.ref a=>match H1 a with
  |some (.lst _)=>R (Itl K a) H1
  |some (.tup _)=>R (Itt K a) H1
  |_=>False
 |_=>False
theorem pi_any{tg l:Expr}{tl:TE}(hl:PE X l tl):PI X tg l (iAny X.K tl):=by
 intro pins s σ H R I h
 refine thn (hl pins s σ H _ I h) λv s1 ⟨x,H1,I1,r1,q1⟩=>?_
 cases x with
 |str z =>
  obtain⟨t,rfl⟩:=r1
  have fr:∀b∈[s1.heap.objs.size],FpOk X pins H1 b:=λb hb=>by
   have e:b=s1.heap.objs.size:=by simpa using hb
   subst e
   exact I1.fpOk (Ak _) (I1.hok.fresh (Ak _))
  cases ha:z.cps.all (·<128)
  ·exact wpAny_pyIter_wide ha ⟨s1.heap.objs.size,[s1.heap.objs.size],_,_,H1,rfl,I1.kept (t':=s1.toks) λb o e=>Ai _ e,jps z t _,⟨_,A1 _ rfl,rfl,rfl⟩,fr,q1⟩
  ·exact wpAny_pyIter_ascii ha ⟨s1.heap.objs.size,[s1.heap.objs.size],_,_,H1,rfl,I1.kept (t':=s1.toks) λb o e=>Ai _ e,jpr z t _,⟨_,A1 _ rfl,rfl,rfl⟩,fr,q1⟩
 |ref a =>
  cases r1
  have fr:∀b∈[s1.heap.objs.size],FpOk X pins H1 b:=λb hb=>by
   have e:b=s1.heap.objs.size:=by simpa using hb
   subst e
   exact I1.fpOk (Ak _) (I1.hok.fresh (Ak _))
  simp only at q1
  split at q1
  ·rename_i xs e
   obtain⟨its,rv,p,hz⟩:=I1.list (SqL.of e)
   exact wpAny_pyIter_list p.isList ⟨s1.heap.objs.size,[s1.heap.objs.size],_,_,H1,rfl,I1.kept (t':=s1.toks) λb o e=>Ai _ e,jpq a _,⟨_,A1 _ rfl,rfl,rfl⟩,fr,q1⟩
  ·rename_i xs e
   obtain⟨its,rv,p,hz⟩:=I1.tuple (SqT.of e)
   exact wpAny_pyIter_tuple (show s1.heap.IsTuple a its.toArray from p) ⟨s1.heap.objs.size,[s1.heap.objs.size],_,_,H1,rfl,I1.kept (t':=s1.toks) λb o e=>Ai _ e,job a _,⟨_,A1 _ rfl,rfl,rfl⟩,fr,q1⟩
  ·exact q1.elim
 |_=>exact False.elim q1
theorem jri{z:Str}{g:TG}{tb:TS}{D:Ends}{σ:St}{H:Hp}(Pv:Nat->St->Hp->Prop)(h0:Pv 0 σ H)
  (hs:∀i c σ H,z.cps.toList[i]?=some c->Pv i σ H->g (.str ⟨#[c]⟩) σ H λσ2 H2=>tb {D with nx:=Pv (i+1),ct:=Pv (i+1),bk:=D.nx} σ2 H2) (hd:∀σ H,Pv z.length σ H->D.nx σ H) :
  ∃W:Nat->Nat->St->Hp->Prop,(∃m,W 0 m σ H)/\∀i m σ H,W i m σ H ->
   ((ItS z).stop i H/\D.nx σ H)\/((ItS z).go i H/\∃N:St->Hp->Prop,(∀σ' H',N σ' H'->∃m',m'<m/\W (i+1) m' σ' H')/\∀x H',(ItS z).yld i H x H'->g x σ H' λσ2 H2=>tb {D with nx:=N,ct:=N,bk:=D.nx} σ2 H2):=by
 refine⟨λi m σ H=>m=z.length-i/\i<=z.length/\Pv i σ H,⟨z.length,by simp,Oa _,h0⟩,?_⟩
 rintro i m σ H ⟨rfl,hi,p⟩
 by_cases hlt:i<z.length
 ·refine .inr ⟨hlt,Pv (i+1),λσ' H' p'=>⟨z.length-(i+1),by omega,rfl,hlt,p'⟩,λx H' y=>?_⟩
  obtain⟨e,c,e1,e2⟩:=y
  subst e e2
  exact hs i c σ _ e1 p
 ·have e:i=z.length:=by omega
  subst e
  exact .inl ⟨Ak _,hd σ H p⟩
mutual
def Rep(H:Hp):V->PyData->Prop
 |v,.none=>v=.non
 |v,.bool b=>v=.bl b
 |v,.int i=>v=.int i
 |v,.str x=>v=.str x
 |v,.list ds=>∃a vs,v=.ref a/\H a=some (.lst vs)/\Reps H vs ds
 |v,.tuple ds=>∃a vs,v=.ref a/\H a=some (.tup vs)/\Reps H vs ds
 |_,.dict _=>False
def Reps(H:Hp):List V->List PyData->Prop
 |[],[]=>True
 |v::vs,d::ds=>Rep H v d/\Reps H vs ds
 |_,_=>False
end
section
variable{pins:List (Addr×Obj)}{σ:L2.St}{H:Hp}{s:Shared}
mutual
theorem Rep.reads(I:Inv X pins σ H s):∀{d:PyData}{v:V}{u:Value},Rep H v d->RelV v u->∃as,Reads s.heap u d as
 |.none,v,u,h,r=>by simp only[Rep]at h;subst h;cases r;exact⟨_,.none⟩
 |.bool b,v,u,h,r=>by simp only[Rep]at h;subst h;cases r;exact⟨_,.bool b⟩
 |.int i,v,u,h,r=>by simp only[Rep]at h;subst h;obtain⟨t,rfl⟩:=r;exact⟨_,.int i t⟩
 |.str x,v,u,h,r=>by simp only[Rep]at h;subst h;obtain⟨t,rfl⟩:=r;exact⟨_,.str x t⟩
 |.list ds,v,u,h,r=>by
  simp only[Rep]at h
  obtain⟨a,vs,rfl,e,h⟩:=h
  cases r
  obtain⟨its,rv,⟨o,n,e1,e2,e3,e4⟩,hz⟩:=I.list (SqL.of e)
  obtain⟨as,q⟩:=Reps.reads I h rv
  exact⟨_,reads_list_at e1 e2 e4 (by simpa using q)⟩
 |.tuple ds,v,u,h,r=>by
  simp only[Rep]at h
  obtain⟨a,vs,rfl,e,h⟩:=h
  cases r
  obtain⟨its,rv,⟨o,e1,e2,n,e4⟩,hz⟩:=I.tuple (SqT.of e)
  obtain⟨as,q⟩:=Reps.reads I h rv
  exact⟨_,reads_tuple_at e1 e2 e4 (by simpa using q)⟩
 |.dict _,v,u,h,r=>by simp only[Rep]at h
theorem Reps.reads(I:Inv X pins σ H s):∀{ds:List PyData}{vs:List V}{us:List Value},Reps H vs ds->Vals vs us->∃as,ReadsAll s.heap us ds as
 |[],[],us,h,r=>by cases r;exact⟨_,.nil⟩
 |[],v::vs,us,h,r=>by simp only[Reps]at h
 |d::ds,[],us,h,r=>by simp only[Reps]at h
 |d::ds,v::vs,us,h,r=>by
  simp only[Reps]at h
  cases r with
  |cons r1 r2 =>
   obtain⟨as,q⟩:=Rep.reads I h.1 r1
   obtain⟨bs,q2⟩:=Reps.reads I h.2 r2
   exact⟨_,.cons q q2⟩
end
end
def rEqD:R2:=λx y H Q=>∃d e,Rep H x d/\Rep H y e/\SeqAt.shaped d=true/\SeqAt.shaped e=true/\Q (.bl (PyData.eqv d e)) H
theorem op_eqD(hu:X.A.units+64<cLine):OpR X (compareOp .Eq) rEqD:=by
 intro pins s σ H x y v u Q I rx ry h
 obtain⟨d,e,hd,he,sd,se,q⟩:=h
 obtain⟨as,r1⟩:=hd.reads I rx
 obtain⟨bs,r2⟩:=he.reads I ry
 exact eq_dataH r1 r2 sd se hu ⟨.bl _,H,I,rfl,q⟩
def rNeD:R2:=λx y H Q=>∃d e,Rep H x d/\Rep H y e/\SeqAt.shaped d=true/\SeqAt.shaped e=true/\Q (.bl (!PyData.eqv d e)) H
theorem op_neD(hu:X.A.units+64<cLine):OpR X (compareOp .NotEq) rNeD:=by
 intro pins s σ H x y v u Q I rx ry h
 obtain⟨d,e,hd,he,sd,se,q⟩:=h
 obtain⟨as,r1⟩:=hd.reads I rx
 obtain⟨bs,r2⟩:=he.reads I ry
 exact ne_dataH r1 r2 sd se hu ⟨.bl _,H,I,rfl,q⟩
end
theorem j6:bootBuiltins "len"=some (.builtin "len"):=by decide +kernel
theorem bt_min:bootBuiltins "min"=some (.builtin "min"):=by decide +kernel
theorem bt_max:bootBuiltins "max"=some (.builtin "max"):=by decide +kernel
theorem ja7:bootBuiltins "repr"=some (.builtin "repr"):=by decide +kernel
theorem jbs:bootBuiltins "sorted"=some (.builtin "sorted"):=by decide +kernel
theorem jb1:bootBuiltins "int"=some (.type "int"):=by decide +kernel
theorem jan:bootBuiltins "list"=some (.type "list"):=by decide +kernel
theorem yj:bootBuiltins "tuple"=some (.type "tuple"):=by decide +kernel
theorem jbo:bootBuiltins "dict"=some (.type "dict"):=by decide +kernel
theorem jci:bootBuiltins "set"=some (.type "set"):=by decide +kernel
theorem jb2:bootBuiltins "range"=some (.type "range"):=by decide +kernel
theorem jaq:bootBuiltins "enumerate"=some (.type "enumerate"):=by decide +kernel
section
variable{X:Cx}
def isL(x:V)(H:Hp):Prop:=match x with
 |.ref p=>(jcx (H p)).isSome=true
 |_=>False
def tBML(r:V->List V->Hp->VK->Prop)(to:TE)(t:TA):TE:=λσ H Q=>to σ H λx H1=>isL x H1/\t σ H1 λxs H2=>r x xs H2 Q
theorem isL.ty{K:PySem.W.Frag}{x:V}{H:Hp}(h:isL x H):tyV K "list" x H:=by
 unfold isL at h
 split at h
 ·rename_i p
  cases e:jcx (H p)with
  |none=>rw[e]at h;cases h
  |some ys=>exact .inl ⟨rfl,ys,SqL.of (jc2 e)⟩
 ·exact h.elim
variable{o e:Expr}{es:List Expr}{to:TE}{t:TA}{name:Str}{apos cpos:Pos}{id:String}{r:V->List V->Hp->VK->Prop}
theorem PE.imp{e:Expr}{t t':TE}(h:PE X e t)(hi:∀σ H Q,t' σ H Q->t σ H Q):PE X e t':=λpins s σ H Q I hw=>h pins s σ H Q I (hi σ H Q hw)
theorem pe_bmL(slot:Slot "list" name id)(hty:typeOf (.builtin id)=pure (.type "method_descriptor"))(hm:MtM X id r)(ho:PE X o to)(ha:PA X (e::es) t)(mono:∀σ H Q Q',(∀v H',Q v H'->Q' v H')->to σ H Q->to σ H Q')
  (hbase:attributeBase o name X.env (eval o X.env)=eval o X.env:=by rfl)
  (hfew:((backTo cpos (starEach (e::es) X.env)).all (λx=>!x.1) && (backToKw cpos (keywordEach [] X.env)).all (λx=>x.1.isSome)
   && decide ((e::es).length+([]:List Keyword).length+(if([]:List Keyword).isEmpty then 0 else 1)<30))=true:=by rfl)
  (hline:(apos.endLine == cpos.line)=true:=by rfl) (hs:starEach (e::es) X.env=(false,eval e X.env)::starEach es X.env:=by rfl) (hplain:(backTo cpos (starEach es X.env)).any (·.1)=false:=by rfl) :
  PE X (.Call (.Attribute o name apos) (e::es) [] cpos) (tBML r to t) :=
 (jch PySem.F.plainAttrs_list slot hty hm ho ha hbase hfew hline hs hplain).imp λσ H Q h=>mono σ H _ _ (λv H' q=>⟨q.1.ty,q.2⟩) h
def jj3(r:V->List V->Hp->VK->Prop)(to:TE):TE:=λσ H Q=>to σ H λx H1=>isL x H1/\r x [] H1 Q
theorem pe_bmL0(slot:Slot "list" name id)(hty:typeOf (.builtin id)=pure (.type "method_descriptor"))(hm:MtM X id r)(ho:PE X o to)(mono:∀σ H Q Q',(∀v H',Q v H'->Q' v H')->to σ H Q->to σ H Q')
  (hbase:attributeBase o name X.env (eval o X.env)=eval o X.env:=by rfl) (hline:(apos.endLine == cpos.line)=true:=by rfl):PE X (.Call (.Attribute o name apos) [] [] cpos) (jj3 r to) :=
 (pe_bm0 PySem.F.plainAttrs_list slot hty hm ho hbase hline).imp λσ H Q h=>mono σ H _ _ (λv H' q=>⟨q.1.ty,q.2⟩) h
theorem jcq{i:Nat}:∀σ H Q Q',(∀v H',Q v H'->Q' v H')->tVar i σ H Q->tVar i σ H Q':=λ_ _ _ _ h ⟨v,e,q⟩=>⟨v,e,h v _ q⟩
def jgt:V->List V->Hp->VK->Prop:=λx vs H Q=>match x,vs with
 |.ref l,[y]=>∃xs,jcx (H l)=some xs/\xs.length<sizeLine/\Q .non (upd H l (.lst (xs++[y])))
 |_,_=>False
theorem ki:MtM X "list.append" jgt:=by
 intro pins s σ H x vs v us Q I rx rv h
 unfold jgt at h
 split at h
 ·rename_i l y
  obtain⟨xs,e,h⟩:=h
  exact ja4 pins s σ H _ _ v us Q I rx rv ⟨l,xs,y,rfl,rfl,jc2 e,h⟩
 ·exact h.elim
def jgv:V->List V->Hp->VK->Prop:=λx vs H Q=>match x,vs with
 |.ref l,[.ref b]=>∃xs,jcx (H l)=some xs/\∃zs,jcx (H b)=some zs/\xs.length+zs.length<=sizeLine/\Q .non (upd H l (.lst (xs++zs)))
 |_,_=>False
theorem jbi:MtM X "list.extend" jgv:=by
 intro pins s σ H x vs v us Q I rx rv h
 unfold jgv at h
 split at h
 ·rename_i l b
  obtain⟨xs,e1,zs,e2,h⟩:=h
  exact mt_extend pins s σ H _ _ v us Q I rx rv ⟨l,b,xs,zs,rfl,rfl,jc2 e1,jc2 e2,h⟩
 ·exact h.elim
def rEqU:R2:=λx y H Q=>match x,y with
 |.int i,.int j=>Q (.bl (decide (i=j))) H
 |.bl i,.bl j=>Q (.bl (decide (i=j))) H
 |.str i,.str j=>Q (.bl (decide (i=j))) H
 |.ref a,.ref b=>rEqD (.ref a) (.ref b) H Q
 |x,y=>scal x y=true/\Q (.bl (decide (x=y))) H
def rNeU:R2:=λx y H Q=>match x,y with
 |.int i,.int j=>Q (.bl (!decide (i=j))) H
 |.bl i,.bl j=>Q (.bl (!decide (i=j))) H
 |.str i,.str j=>Q (.bl (!decide (i=j))) H
 |.ref a,.ref b=>rNeD (.ref a) (.ref b) H Q
 |x,y=>scal x y=true/\Q (.bl (!decide (x=y))) H
theorem zc(hu:X.A.units+64<cLine):OpR X (compareOp .Eq) rEqU:=by
 intro pins s σ H x y v u Q I rx ry h
 unfold rEqU at h
 split at h
 ·exact jbz pins s σ H _ _ v u Q I rx ry ⟨rfl,by simpa using h⟩
 ·exact jbz pins s σ H _ _ v u Q I rx ry ⟨rfl,by simpa using h⟩
 ·exact jbz pins s σ H _ _ v u Q I rx ry ⟨rfl,by simpa using h⟩
 ·exact op_eqD hu pins s σ H _ _ v u Q I rx ry h
 ·exact jbz pins s σ H _ _ v u Q I rx ry h
theorem jag(hu:X.A.units+64<cLine):OpR X (compareOp .NotEq) rNeU:=by
 intro pins s σ H x y v u Q I rx ry h
 unfold rNeU at h
 split at h
 ·exact jb0 pins s σ H _ _ v u Q I rx ry ⟨rfl,by simpa using h⟩
 ·exact jb0 pins s σ H _ _ v u Q I rx ry ⟨rfl,by simpa using h⟩
 ·exact jb0 pins s σ H _ _ v u Q I rx ry ⟨rfl,by simpa using h⟩
 ·exact op_neD hu pins s σ H _ _ v u Q I rx ry h
 ·exact jb0 pins s σ H _ _ v u Q I rx ry h
theorem jld(H:Hp)(Q:VK)(i j:Int):rLtU (.int i) (.int j) H Q=(Q (.bl (decide (i<j))) H):=rfl
theorem jle(H:Hp)(Q:VK)(i j:Str):rLtU (.str i) (.str j) H Q=(Q (.bl (decide (i.cps.toList<j.cps.toList))) H):=rfl
theorem jlc(H:Hp)(Q:VK)(z:Str)(i:Int):rIxU (.str z) (.int i) H Q=(z.length<=sizeLine/\∃c,atI z.cps.toList i=some c/\Q (.str ⟨#[c]⟩) H):=rfl
theorem jcp(H:Hp)(Q:VK)(p:Addr)(i:Int):rIxU (.ref p) (.int i) H Q=(∃xs,jda (H p)=some xs/\∃v,atI xs i=some v/\Q v H):=rfl
theorem jjb(H:Hp)(Q:VK)(z:Str):jj0 [.str z] H Q=(z.length<=sizeLine/\Q (.int z.length) H):=rfl
theorem jja(H:Hp)(Q:VK)(p:Addr):jj0 [.ref p] H Q=(∃ys,jda (H p)=some ys/\Q (.int ys.length) H):=rfl
theorem jjd(H:Hp)(Q:VK)(i j:Int):jn2 [.int i,.int j] H Q=(Q (.int (if j<i then j else i)) H):=rfl
theorem jjc(H:Hp)(Q:VK)(i j:Int):jn1 [.int i,.int j] H Q=(Q (.int (if j>i then j else i)) H):=rfl
theorem ji9(H:Hp)(Q:VK)(i:Int):jjz [.int i] H Q=(Q (.int i) H):=rfl
theorem jlb(H:Hp)(Q:VK)(k:Bool):jjz [.bl k] H Q=(Q (.int (if k then 1 else 0)) H):=rfl
theorem jhp(H:Hp)(Q:VK)(z:Str):jhn [.str z] H Q=(z.length<=sizeLine/\∀l,H l=none->Q (.ref l) (upd H l (.lst (sgn z)))):=rfl
theorem jho(H:Hp)(Q:VK)(p:Addr):jhn [.ref p] H Q=(∃ys,jda (H p)=some ys/\∀l,H l=none->Q (.ref l) (upd H l (.lst ys))):=rfl
theorem jjg(H:Hp)(Q:VK)(l:Addr)(i:Int):jn4 (.ref l) [.int i] H Q=(∃xs,jcx (H l)=some xs/\0<=i/\∃y,xs[i.toNat]?=some y/\Q y (upd H l (.lst (xs.eraseIdx i.toNat)))):=rfl
theorem jd6(H:Hp)(Q:VK)(l:Addr)(y:V):jgt (.ref l) [y] H Q=(∃xs,jcx (H l)=some xs/\xs.length<sizeLine/\Q .non (upd H l (.lst (xs++[y])))):=rfl
theorem jfs(H:Hp)(Q:VK)(l b:Addr):jgv (.ref l) [.ref b] H Q=(∃xs,jcx (H l)=some xs/\∃zs,jcx (H b)=some zs/\xs.length+zs.length<=sizeLine/\Q .non (upd H l (.lst (xs++zs)))):=rfl
theorem jgu(H:Hp)(Q:VK)(i j:Int):rEqU (.int i) (.int j) H Q=(Q (.bl (decide (i=j))) H):=rfl
theorem jm1(H:Hp)(Q:VK)(i j:Bool):rEqU (.bl i) (.bl j) H Q=(Q (.bl (decide (i=j))) H):=rfl
theorem jk9(H:Hp)(Q:VK)(i j:Str):rEqU (.str i) (.str j) H Q=(Q (.bl (decide (i=j))) H):=rfl
theorem jk8(H:Hp)(Q:VK)(i j:Addr):rEqU (.ref i) (.ref j) H Q=(rEqD (.ref i) (.ref j) H Q):=rfl
theorem jgw(H:Hp)(Q:VK)(i j:Int):rNeU (.int i) (.int j) H Q=(Q (.bl (!decide (i=j))) H):=rfl
theorem jm2(H:Hp)(Q:VK)(i j:Bool):rNeU (.bl i) (.bl j) H Q=(Q (.bl (!decide (i=j))) H):=rfl
theorem jlg(H:Hp)(Q:VK)(i j:Str):rNeU (.str i) (.str j) H Q=(Q (.bl (!decide (i=j))) H):=rfl
theorem jlf(H:Hp)(Q:VK)(i j:Addr):rNeU (.ref i) (.ref j) H Q=(rNeD (.ref i) (.ref j) H Q):=rfl
theorem jfu(p:Addr)(k:Int)(v:V)(H:Hp)(Q:Hp->Prop):jqz (.ref p) (.int k) v H Q=(∃xs,jcx (H p)=some xs/\∃j,ixN xs.length k=some j/\Q (upd H p (.lst (xs.set j v)))):=rfl
theorem jms(p:Addr)(H:Hp):isL (.ref p) H=((jcx (H p)).isSome=true):=rfl
def jc8(J:It)(g:TG)(tb:TS)(D:Ends)(σ:L2.St)(H1:Hp):Prop:=∃W:Nat->Nat->L2.St->Hp->Prop,(∃m,W 0 m σ H1)/\∀i m σ H,W i m σ H ->
 (J.stop i H/\D.nx σ H)\/(J.go i H/\∃N:L2.St->Hp->Prop,(∀σ' H',N σ' H'->∃m',m'<m/\W (i+1) m' σ' H')/\∀x H',J.yld i H x H'->g x σ H' λσ2 H2=>tb {D with nx:=N,ct:=N,bk:=D.nx} σ2 H2)
theorem jm8(wi:TI)(g:TG)(tb:TS)(D:Ends)(σ:L2.St)(H:Hp):tFor wi g tb D σ H=wi σ H λJ H1=>jc8 J g tb D σ H1:=rfl
theorem jcw{lo:Int}{n:Nat}{g:TG}{tb:TS}{D:Ends}{σ:L2.St}{H:Hp}(Pv:Nat->L2.St->Hp->Prop)(h0:Pv 0 σ H)
  (hs:∀i σ H,i<n->Pv i σ H->g (.int (lo+i)) σ H λσ2 H2=>tb {D with nx:=Pv (i+1),ct:=Pv (i+1),bk:=D.nx} σ2 H2) (hd:∀σ H,Pv n σ H->D.nx σ H):jc8 (Itr lo n) g tb D σ H:=joy Pv h0 hs hd
theorem jk2{z:Str}{g:TG}{tb:TS}{D:Ends}{σ:L2.St}{H:Hp}(Pv:Nat->L2.St->Hp->Prop)(h0:Pv 0 σ H)
  (hs:∀i c σ H,z.cps.toList[i]?=some c->Pv i σ H->g (.str ⟨#[c]⟩) σ H λσ2 H2=>tb {D with nx:=Pv (i+1),ct:=Pv (i+1),bk:=D.nx} σ2 H2) (hd:∀σ H,Pv z.length σ H->D.nx σ H):jc8 (ItS z) g tb D σ H:=jri Pv h0 hs hd
theorem jdm{K:PySem.W.Frag}{a:Addr}{xs:List V}{g:TG}{tb:TS}{D:Ends}{σ:L2.St}{H:Hp}(Pv:Nat->L2.St->Hp->Prop)(h0:Pv 0 σ H)(hl:∀i σ H,i<=xs.length->Pv i σ H->H a=some (.lst xs))
  (hs:∀i x σ H,xs[i]?=some x->Pv i σ H->g x σ H λσ2 H2=>tb {D with nx:=Pv (i+1),ct:=Pv (i+1),bk:=D.nx} σ2 H2) (hd:∀σ H,Pv xs.length σ H->D.nx σ H):jc8 (Itl K a) g tb D σ H :=
 jp4 Pv h0 (λi σ H h p=>SqL.of (hl i σ H h p)) hs hd
theorem jfg{K:PySem.W.Frag}{a:Addr}{xs:List V}{g:TG}{tb:TS}{D:Ends}{σ:L2.St}{H:Hp}(Pv:Nat->L2.St->Hp->Prop)(h0:Pv 0 σ H)(hl:∀i σ H,i<=xs.length->Pv i σ H->H a=some (.tup xs))
  (hs:∀i x σ H,xs[i]?=some x->Pv i σ H->g x σ H λσ2 H2=>tb {D with nx:=Pv (i+1),ct:=Pv (i+1),bk:=D.nx} σ2 H2) (hd:∀σ H,Pv xs.length σ H->D.nx σ H):jc8 (Itt K a) g tb D σ H :=
 jrj Pv h0 (λi σ H h p=>SqT.of (hl i σ H h p)) hs hd
end
def clOf(env:Env):List (Str×NameKind)->List (Str×Addr)->List (Str×Addr)
 |[],cs=>cs
 |(n,k)::r,cs=>clOf env r (if k == .free then(n,(env.cells.lookup n).getD 0)::cs else cs)
theorem jee{env:Env}{scope:Scope}(h:∀y∈scope.names,y.2=.free->∃c,env.cells.lookup y.1=some c):closureFor scope env=pure (clOf env scope.names []):=by
 have gen:∀(l:List (Str×NameKind))(cs:List (Str×Addr)),(∀y∈l,y.2=.free->∃c,env.cells.lookup y.1=some c) ->
   (forIn l cs λx r=>(match x with|(name,kind)=>if(kind == NameKind.free)=true then do let c <-cellOf env name;pure (ForInStep.yield ((name,c)::r))else pure (ForInStep.yield r)):Sem (List (Str×Addr)))=pure (clOf env l cs):=by
  intro l
  induction l with
  |nil=>intro cs _;rfl
  |cons y l ih =>
   intro cs hy
   obtain⟨n,k⟩:=y
   rw[List.forIn_cons]
   have hr:=λz hz=>hy z (Oi _ hz)
   by_cases hk:k=.free
   ·subst hk
    obtain⟨c,hc⟩:=hy _ (Os ..) rfl
    have hc':env.cells.lookup n=some c:=hc
    have e:cellOf env n=pure c:=by unfold cellOf;rw[hc']
    simp only[W5,O0,e,pure_bind]
    rw[ih _ hr]
    simp[clOf,hc']
   ·have hb:(k == NameKind.free)=false:=by simpa using hk
    simp only[hb,Ia,Ob,pure_bind]
    rw[ih _ hr]
    simp[clOf,hb]
 exact(Um (· >>= λs=>pure s) (gen scope.names [] h)).trans (by rfl)
theorem jgp{env:Env}:∀(l:List (Str×NameKind))(cs:List (Str×Addr))(x:Str)(c:Addr),(∀y∈l,y.2=.free->∃c,env.cells.lookup y.1=some c)->(∀x c,cs.lookup x=some c->env.cells.lookup x=some c) ->
  (clOf env l cs).lookup x=some c->env.cells.lookup x=some c
 |[],cs,x,c,_,hc,h=>hc x c h
 |(n,k)::r,cs,x,c,hl,hc,h=>by
  unfold clOf at h
  refine jgp r _ x c (λy hy=>hl y (Oi _ hy)) (λz d hz=>?_) h
  split at hz
  ·rename_i hk
   rw[List.lookup_cons]at hz
   cases hzn:z == n with
   |true =>
    rw[hzn]at hz
    obtain⟨c',hc'⟩:=hl _ (Os ..) (by simpa using hk)
    have hc'':env.cells.lookup n=some c':=hc'
    have ez:z=n:=by simpa using hzn
    subst ez
    rw[hc'']at hz
    rw[hc'']
    exact hz
   |false=>rw[hzn]at hz;exact hc z d hz
  ·exact hc z d hz
theorem jiq{env:Env}:∀(l:List (Str×NameKind))(cs:List (Str×Addr))(x:Str),(∃c,cs.lookup x=some c)->∃c,(clOf env l cs).lookup x=some c
 |[],cs,x,h=>h
 |(n,k)::r,cs,x,h=>by
  unfold clOf
  refine jiq r _ x ?_
  split
  ·rw[List.lookup_cons]
   cases x == n with
   |true=>exact⟨_,rfl⟩
   |false=>exact h
  ·exact h
theorem jgo{env:Env}:∀(l:List (Str×NameKind))(cs:List (Str×Addr))(x:Str),(x,NameKind.free)∈l->∃c,(clOf env l cs).lookup x=some c
 |(n,k)::r,cs,x,h=>by
  unfold clOf
  rcases Ap.mp h with h|h
  ·cases h
   refine jiq r _ _ ?_
   simp[List.lookup_cons]
  ·exact jgo r _ x h
abbrev Cx.comp(X:Cx)(scope:Scope)(C:Addr)(Nc:List Str)(s3:Shared)(H3:Hp)(fp:List Addr):Cx :=
 {X with N:=Nc,s₀:=s3,H₀:=H3,env:=compEnvC scope (clOf X.env scope.names []) C X.env,outer:=X.stack,stack:=X.stack,ex:=fp,fn:=λ_=>false,pn:=[],xe:=λ_ _=>False}
def jdv(js:List (Option Nat))(σ:L2.St):L2.St:=js.map λo=>o.bind λj=>(σ[j]?).getD none
def jdy(D:Addr)(te:TE):TS:=λE σ H=>te σ H λv H1=>∃ys,jcx (H1 D)=some ys/\ys.length<sizeLine/\E.nx σ (upd H1 D (.lst (ys++[v])))
def jf6(wi:TI)(g:TG)(js:List (Option Nat))(te:TE):TE:=λσ H Q=>wi σ H λJ H1=>∀D,H1 D=none ->
 jc8 J g (jdy D te) {nx:=λ_ H'=>Q (.ref D) H',rt:=λ_ _=>False} (jdv js σ) (upd H1 D (.lst []))
structure CompOk(X:Cx)(scope:Scope)(Nc:List Str)(js:List (Option Nat)):Prop where
 kind:scope.kind=.function
 nocell:∀y∈scope.names,y.2≠.cell
 loc:∀y∈scope.names,y.2=.local->scope.names.lookup y.1=some .local
 free:∀y∈scope.names,y.2=.free->X.env.kindOf y.1=some .cell\/X.env.kindOf y.1=some .free
 len:js.length=Nc.length
 nol:∀x,(x,NameKind.free)∈scope.names->scope.names.lookup x≠some .local
 see:∀(i j:Nat)(x:Str),js[i]?=some (some j)->Nc[i]?=some x->X.N[j]?=some x/\(x,NameKind.free)∈scope.names
section
variable{X:Cx}{pins:List (Addr×Obj)}{σ:L2.St}{H:Hp}{s:Shared}{scope:Scope}{Nc:List Str}{js:List (Option Nat)}{fp:List Addr}
theorem CompOk.has(c:CompOk X scope Nc js)(I:Inv X pins σ H s):∀y∈scope.names,y.2=.free->∃a,X.env.cells.lookup y.1=some a:=λy hy hf=>I.ok.has _ (c.free y hy hf)
theorem jfw{env:Env}{x:Str}:∀{l:List (Str×NameKind)},(∀y∈l,y.2≠.cell) ->
  ((l.map fun(n,k)=>if(k == NameKind.free && env.scope.kind == .function && env.kindOf n == some .cell)then(n,NameKind.cell)else(n,k)).lookup x=some .cell \/
   (l.map fun(n,k)=>if(k == NameKind.free && env.scope.kind == .function && env.kindOf n == some .cell)then(n,NameKind.cell)else(n,k)).lookup x=some .free)->(x,NameKind.free)∈l
 |[],_,h=>by simp at h
 |(n,k)::r,hc,h=>by
  rw[Ay]at h
  by_cases hx:x=n
  ·subst hx
   have hk:k=.free:=by
    have hk':k≠.cell:=hc _ (Os ..)
    by_cases hcond:(k == NameKind.free && env.scope.kind == .function && env.kindOf x == some .cell)=true
    ·rw[Ou,Ou]at hcond
     simpa using hcond.1.1
    ·simp only[hcond,Ia,Ob,List.lookup_cons,W5]at h
     rcases h with h|h
     ·exact absurd (Aq h) hk'
     ·exact Aq h
   subst hk
   exact Os ..
  ·refine Oi _ (jfw (env:=env) (λy hy=>hc y (Oi _ hy)) ?_)
   have hxn:(x == n)=false:=by simpa using hx
   by_cases hcond:(k == NameKind.free && env.scope.kind == .function && env.kindOf n == some .cell)=true
   ·simpa only[hcond,O0,List.lookup_cons,hxn]using h
   ·simpa only[hcond,Ia,Ob,List.lookup_cons,hxn]using h
theorem jgj{env:Env}{x:Str}:∀{l:List (Str×NameKind)},
  (l.map fun(n,k)=>if(k == NameKind.free && env.scope.kind == .function && env.kindOf n == some .cell)then(n,NameKind.cell)else(n,k)).lookup x=some .local->l.lookup x=some .local
 |[],h=>by simp at h
 |(n,k)::r,h=>by
  rw[Ay]at h
  by_cases hx:x=n
  ·subst hx
   by_cases hcond:(k == NameKind.free && env.scope.kind == .function && env.kindOf x == some .cell)=true
   ·simp only[hcond,O0,List.lookup_cons,W5]at h
    cases h
   ·simp only[hcond,Ia,Ob,List.lookup_cons,W5]at h
    simp only[List.lookup_cons,W5]
    exact h
  ·have hxn:(x == n)=false:=by simpa using hx
   rw[List.lookup_cons,hxn]
   refine jgj (env:=env) ?_
   by_cases hcond:(k == NameKind.free && env.scope.kind == .function && env.kindOf n == some .cell)=true
   ·simpa only[hcond,O0,List.lookup_cons,hxn]using h
   ·simpa only[hcond,Ia,Ob,List.lookup_cons,hxn]using h
theorem jrc(c:CompOk X scope Nc js)(I:Inv X pins σ H s)(hf:∀b∈fp,FpOk X pins H b)(ho:∀b∈fp,∃o,s.heap.get? b=some o):(X.comp scope s.heap.objs.size Nc s H fp).Ok:=by
 have hs:=c.has I
 have sub:∀x a,(clOf X.env scope.names []).lookup x=some a->X.env.cells.lookup x=some a:=λx a=>jgp _ _ x a hs (λ_ _ z=>nomatch z)
 refine⟨I.ok.mod,c.kind,I.ok.glob,I.ok.blt,Ak _,λx y a e1 e2=>I.ok.inj x y a (sub x a e1) (sub y a e2),λx h=>jgo _ _ x (jfw (env:=X.env) c.nocell h),(λx a h=>nomatch h),I.ok.hd,I.ok.frames,.inl rfl,λb hb=>⟨?_,λx a e=>?_⟩,I.bs,
  Im I.ok.bsz I.sz,λb o e hb=>?_,λb hb hb'=>?_,I.stack,I.stkFree⟩
 ·obtain⟨o,e⟩:=ho b hb
  exact Ax (At e)
 ·exact(hf b hb).2.2.2.2.1 x a (sub x a e)
 ·rcases(hf b hb).2.2.2.1 with z|z
  ·exact I.ok.noex b o e z
  ·exact absurd (A4 (At (I.ok.bs b o e).1) z) (Wm _)
 ·rcases Ap.mp (I.stkSub b hb')with z|z
  ·exact(hf b hb).2.1 z
  ·exact(hf b hb).2.2.1 z
theorem jkp(c:CompOk X scope Nc js)(I:Inv X pins σ H s)(hf:∀b∈fp,FpOk X pins H b)(ho:∀b∈fp,∃o,s.heap.get? b=some o){h':Heap}{m:Str->Option Value}{tk:Nat}(hn:h'.Ns s.heap.objs.size m)
  (hk:∀b o,s.heap.get? b=some o->h'.get? b=some o):Inv (X.comp scope s.heap.objs.size Nc s H fp) [] (jdv js σ) H {s with heap:=h',toks:=tk}:=by
 have hs:=c.has I
 have sub:∀x a,(clOf X.env scope.names []).lookup x=some a->X.env.cells.lookup x=some a:=λx a=>jgp _ _ x a hs (λ_ _ z=>nomatch z)
 refine⟨jrc c I hf ho,rfl,I.bare,Un.kept hk,⟨m,hn,λi x v e1 e2 e3=>?_⟩,λx a e=>?_,I.hok.fresh (Ak _),λx a e=>I.freeC x a (sub x a e),(λp hp=>nomatch hp),I.hok.kept hk,by simp only[jdv,Ad];exact c.len⟩
 ·have e2':(jdv js σ)[i]?=some (some v):=e2
  unfold jdv at e2'
  rw[Ag]at e2'
  cases ej:js[i]? with
  |none=>rw[ej]at e2';cases e2'
  |some o =>
   rw[ej]at e2'
   cases o with
   |none=>cases e2'
   |some j =>
    have e4:(σ[j]?).getD none=some v:=Aq e2'
    have e5:σ[j]?=some (some v):=by
     cases q:σ[j]? with
     |none=>rw[q]at e4;cases e4
     |some w=>rw[q]at e4;exact Um some e4
    obtain⟨n1,n2⟩:=c.see i j x ej e1
    have hkd:=c.free _ n2 rfl
    obtain⟨a,ha⟩:=jgo (env:=X.env) scope.names [] x n2
    obtain⟨m0,_,hl⟩:=I.loc
    obtain⟨u,r,l⟩:=hl j x v n1 e5 (by
     rcases hkd with z|z
     ·exact .inr (.inl z)
     ·exact .inr (.inr z))
    refine⟨u,r,?_⟩
    rcases l with⟨k,_⟩|⟨_,a',ha',hcell⟩
    ·rcases hkd with z|z
     ·rw[z]at k;cases k
     ·rw[z]at k;cases k
    ·have:a'=a:=Aq (ha'.symm.trans (sub x a ha))
     subst this
     refine .inr ⟨?_,a',ha,?_⟩
     ·rcases e3 with z|z|z
      ·exfalso
       have q:(relabel scope X.env).names.lookup x=some .local:=z
       exact c.nol x n2 (jgj q)
      ·exact .inl z
      ·exact .inr z
     ·obtain⟨o,q,d⟩:=hcell
      exact⟨o,hk _ o q,d⟩
 ·obtain⟨v,o,q,d⟩:=I.cell x a (sub x a e)
  exact⟨v,o,hk _ o q,d⟩
theorem jef(I:Inv X pins σ H s)(hf:∀b∈fp,FpOk X pins H b){σ':L2.St}{H':Hp}{s':Shared}{h'':Heap}(J:Inv (X.comp scope s.heap.objs.size Nc s H fp) [] σ' H' s')(hs:Heap.SameBut s.heap.objs.size s'.heap h'') :
  Inv X pins σ H' {s' with heap:=h''}:=by
 have ne:∀b o,s.heap.get? b=some o->b≠s.heap.objs.size:=λb o e=>Ax (At e)
 have u:Un (frs X.stack) fp H H' s.heap s'.heap:=J.base
 refine I.call' (s':={s' with heap:=h''}) (ch:=fp) J.os ⟨λb o e n hb hx=>?_,λb o e n hb hx=>?_,u.free,λb o e hx=>?_,u.tups,u.frzs,u.tbls⟩ (λb o e=>?_) J.bare λb hb=>?_
 ·exact(hs.2 b (ne b o e)).trans (u.keep b o e n hb hx)
 ·obtain⟨sl,q⟩:=u.slot b o e n hb hx
  exact⟨sl,(hs.2 b (ne b o e)).trans q⟩
 ·obtain⟨o',q⟩:=u.there b o e hx
  exact⟨o',(hs.2 b (ne b o e)).trans q⟩
 ·have hC:H' s.heap.objs.size=none:=J.free
  refine(J.hok b o e).stay (λd v hd q=>(hs.2 d ?_).trans q) (λ_ q=>q) λ_ _ q=>q
  rintro rfl
  rcases hd with z|z
  ·rw[<-z,hC]at e;cases e
  ·rw[hC]at z;cases z
 ·obtain⟨_,f1,_,f3,f4,f5⟩:=hf b hb
  exact⟨f3,f1,f4,f5⟩
end
section
variable{X:Cx}{scope:Scope}{Nc:List Str}{js:List (Option Nat)}{elt tg iter:Expr}{pos:Pos}{wi:TI}{g:TG}{te:TE}
theorem jir(hc:X.calm=true)(c:CompOk X scope Nc js)(hi:PI X tg iter wi)(hg:∀C s3 H3 fp,PG (X.comp scope C Nc s3 H3 fp) tg g)(he:∀C s3 H3 fp,PE (X.comp scope C Nc s3 H3 fp) elt te)
  {pins:List (Addr×Obj)}{s:Shared}{σ:L2.St}{H:Hp} (I:Inv X pins σ H s) {RR:Value->Addr->Result->Shared->Prop}{NX:Addr->Hp->Prop}
  (h:wi σ H λJ H1=>∀D,H1 D=none->jc8 J g (jdy D te) {nx:=λ_ H'=>NX D H',rt:=λ_ _=>False} (jdv js σ) (upd H1 D (.lst [])))
  (fin:∀D H3 s3 fp σ5 H5 s6,Inv X pins σ H3 s3->(∀b∈fp,FpOk X pins H3 b)->Inv (X.comp scope s3.heap.objs.size Nc s3 H3 fp) [] σ5 H5 s6->NX D H5->RR (.ref D) s3.heap.objs.size (.ok .next) s6) :
  wpAny (model X.prog X.w) X.A (eval iter X.env) (λx s₁=>wpAny (model X.prog X.w) X.A (pyIter x) (λit s₂=>wpAny (model X.prog X.w) X.A (newList []) (λacc s₃ =>
   wpAny (model X.prog X.w) X.A (newFunctionEnv scope X.env.globals (clOf X.env scope.names []) [] X.env.qual none .none (some X.env)) (λcenv s₄ =>
    codeAny (model X.prog X.w) X.A (.compStart (.ListComp elt [⟨tg,iter,[],0⟩] scope pos) 0 it acc {cenv with scope:=relabel scope X.env}) (RR acc cenv.locals) s₄) X.xe s₃) X.xe s₂) X.xe s₁) X.xe s:=by
 refine thn (hi pins s σ H _ I h) λv s1 h1=>thn h1 λitv s2 h2=>?_
 obtain⟨it,fp,tn,J,H2,rfl,I2,T,st2,f2,h2⟩:=h2
 refine Oh ?_ (by show 0<=sizeLine;decide)
 have hD:H2 s2.heap.objs.size=none:=I2.hok.fresh (Ak _)
 have I3:Inv X pins σ (upd H2 s2.heap.objs.size (.lst [])) {s2 with heap:=s2.heap.push {cls:=.type "list",data:=.seq ([]:List Value).toArray}} :=
  I2.laid (t':=s2.toks) (λb u e=>Ai _ e) (Ak _) ⟨by show 0<=sizeLine;decide,[],0,.nil,A1 _ rfl⟩
 have f3:∀b∈fp,FpOk X pins (upd H2 s2.heap.objs.size (.lst [])) b:=λb hb=>by
  obtain⟨q0,q⟩:=f2 b hb
  obtain⟨o,e,_⟩:=T.obj _ _ st2 b hb
  exact⟨by rw[jd (Ax (At e))];exact q0,q⟩
 have o3:∀b∈fp,∃o,(s2.heap.push {cls:=.type "list",data:=.seq ([]:List Value).toArray}).get? b=some o:=λb hb=>by
  obtain⟨o,e,_⟩:=T.obj _ _ st2 b hb
  exact⟨o,Ai _ e⟩
 have st3:tn 0 (s2.heap.push {cls:=.type "list",data:=.seq ([]:List Value).toArray}):=T.keep _ _ _ st2 λb _ o e=>Ai _ e
 generalize hh3:s2.heap.push {cls:=.type "list",data:=.seq ([]:List Value).toArray}=h3 at I3 o3 st3⊢
 refine Y1 c.nocell (by intro y hy;simp at hy) (λh4 hn4 hs4=>?_) c.kind
 have k4:∀b o,h3.get? b=some o->h4.get? b=some o:=λb o e=>(hs4.2 b (Ax (At e))).trans (Ai _ e)
 have I4:=jkp (tk:=s2.toks+([]:List (Str×Value)).length) c I3 f3 o3 hn4 k4
 have st4:tn 0 h4:=T.keep _ _ _ st3 λb _ o e=>k4 b o e
 obtain⟨W,⟨m0,w0⟩,turn⟩:=h2 _ hD
 let s3:Shared:={s2 with heap:=h3}
 let Y:Cx:=X.comp scope h3.objs.size Nc s3 (upd H2 s2.heap.objs.size (.lst [])) fp
 have stat:∀{H':Hp},(∀b∈fp,H' b=none)->∀b∈fp,FpOk Y [] H' b:=λhn b hb=>⟨hn b hb,(I4.ok.exf b hb).1,I4.ok.exfs b hb,.inl hb,(I4.ok.exf b hb).2,(λp hp=>nomatch hp)⟩
 have loop:codeAny (model X.prog X.w) X.A (.compLoop (.ListComp elt [⟨tg,iter,[],0⟩] scope pos) 0 (.ref it) (.ref s2.heap.objs.size) Y.env)
   (RR (.ref s2.heap.objs.size) h3.objs.size) {s2 with heap:=h4,toks:=s2.toks+([]:List (Str×Value)).length}:=by
  refine codeAny_loop rfl (λn s'=>∃i σ' H',Inv Y [] σ' H' s'/\tn i s'.heap/\(∀b∈fp,H' b=none)/\W i n σ' H') (λn s5 hI=>?_) m0 ⟨0,_,_,I4,st4,λb hb=>(f3 b hb).1,w0⟩
  obtain⟨i,σ5,H5,I5,st5,fr5,w5⟩:=hI
  show wpAny _ X.A ((compTurn (.ListComp elt [⟨tg,iter,[],0⟩] scope pos) 0 (.ref it) (.ref s2.heap.objs.size) Y.env).onRaise (λx=>do noteFrame x Y.env;theTreesLotGoes x)) _ _ s5
  refine wpAny_noted (Ur (E:=λ_ _=>False) ?_ (λ_ _ q=>q) λ_ _ z=>z.elim)
  rw[compTurn_list1]
  refine Ab (W6 (Ab ?_))
  rcases turn i n σ5 H5 w5 with⟨stop,qn⟩|⟨go,N,hN,step⟩
  ·refine thn (T.done Y rfl rfl rfl hc i [] s5 σ5 H5 _ I5 (stat fr5) st5 stop) λr s6 ⟨hr,I6⟩=>?_
   subst hr
   refine Ah ?_
   exact fin _ _ s3 fp σ5 H5 s6 I3 f3 I6 qn
  ·refine thn (T.item Y rfl rfl rfl hc i [] s5 σ5 H5 _ I5 (stat fr5) st5 go) λr s6 ⟨u,hr,h6⟩=>?_
   subst hr
   refine Ab (thn h6 λ_ s7 ⟨x,H7,I7,r7,y7,st7,fr7⟩=>?_)
   have I7':=I7.pinned (stat fr7) (T.obj _ _ st7)
   refine Ab (thn (hg _ _ _ _ _ s7 σ5 H7 x u _ I7' r7 (step x H7 y7)) λ_ s8 ⟨σ8,H8,I8,q8⟩=>?_)
   refine Ab (Ab (thn (he _ _ _ _ _ s8 σ8 H8 _ I8 q8) λv s9 ⟨y,H9,I9,r9,ys,e9,z9,n9⟩=>?_))
   refine Ab (thn (ja4 (X:=Y) _ s9 σ8 H9 (.ref s2.heap.objs.size) [y] (.ref s2.heap.objs.size) [v] (λw H'=>N σ8 H') I9 rfl (.cons r9 .nil) ⟨_,ys,y,rfl,rfl,jc2 e9,z9,n9⟩) λw s10 ⟨_,H10,I10,_,n10⟩=>?_)
   refine Ah (Ah ⟨rfl,?_⟩)
   obtain⟨m',hm,w10⟩:=hN σ8 H10 n10
   refine⟨m',hm,i+1,σ8,H10,I10.unpinned,T.keep _ _ _ st7 λb hb o e=>(I10.pin (b,o) (Io _ (Io _ (jdt hb e)))).1,λb hb=>?_,w10⟩
   obtain⟨o,e,d⟩:=T.obj _ _ st7 b hb
   exact(I10.pin (b,o) (Io _ (Io _ (jdt hb e)))).2.1
 exact codeAny_compStart_list loop (T.self _ 0 _ _ _ st4 loop)
theorem pe_comp(hc:X.calm=true)(c:CompOk X scope Nc js)(hi:PI X tg iter wi)(hg:∀C s3 H3 fp,PG (X.comp scope C Nc s3 H3 fp) tg g)(he:∀C s3 H3 fp,PE (X.comp scope C Nc s3 H3 fp) elt te)
  (hs:∀x,foldedSetIterable iter X.env x=pure x:=by intro _;rfl):PE X (.ListComp elt [⟨tg,iter,[],0⟩] scope pos) (jf6 wi g js te):=by
 intro pins s σ H Q I h
 rw[eval_ListComp]
 refine Wf (use:=none) (g:=⟨tg,iter,[],0⟩) (gs:=[]) rfl hs (jee (c.has I)) c.kind c.loc
  (jir (RR:=λacc C=>compPost (model X.prog X.w) X.A X.xe none (EP X pins σ Q) acc C) (NX:=λD H'=>Q (.ref D) H') hc c hi hg he I h λD H3 s3 fp σ5 H5 s6 I3 f3 I6 qn=>?_)
 obtain⟨m,hn,_⟩:=I6.loc
 exact⟨m,hn,λh' hs'=>⟨.ref D,H5,jef I3 f3 I6 hs',rfl,qn⟩⟩
theorem ps_setc{i:Nat}{y:Str}{py spos:Pos}(hN:X.N.Nodup)(hiN:X.N[i]?=some y)(hy:Loc X.env.scope y)(hc:X.calm=true)(c:CompOk X scope Nc js)(hi:PI X tg iter wi)(hg:∀C s3 H3 fp,PG (X.comp scope C Nc s3 H3 fp) tg g)
  (he:∀C s3 H3 fp,PE (X.comp scope C Nc s3 H3 fp) elt te) (hsw:swapsWith (.ListComp elt [⟨tg,iter,[],0⟩] scope pos) (some (.Name y py)) spos.line X.env=pure true:=by rfl)
  (hs:∀x,foldedSetIterable iter X.env x=pure x:=by intro _;rfl) (hf:X.fn y=true\/X.env.scope.names.lookup y=some .local:=by first|exact .inl rfl|exact .inr rfl|assumption) :
  PS X (.Assign [.Name y py] (.ListComp elt [⟨tg,iter,[],0⟩] scope pos) spos) (tAsg (jf6 wi g js te) (jdi i)):=by
 intro pins s σ H D I h
 rw[exec_Assign_Name_used _ _ _ _ hsw]
 refine Ab (W6 (Ab ?_))
 show wpAny _ X.A (do let _ <-comprehension (.ListComp elt [⟨tg,iter,[],0⟩] scope pos) scope X.env _ (newList []) false (eval iter X.env) (some (assign (.Name y py) X.env))) _ _ s
 refine Ab (Ur (Wf (use:=some (assign (.Name y py) X.env)) (g:=⟨tg,iter,[],0⟩) (gs:=[]) (Q:=λ_ s'=>SP X pins D .next s') rfl hs (jee (c.has I)) c.kind c.loc
  (jir (RR:=λacc C=>compPost (model X.prog X.w) X.A X.xe (some (assign (.Name y py) X.env)) (λ_ s'=>SP X pins D .next s') acc C) (NX:=λDa H'=>D.nx (σ.set i (some (.ref Da))) H') hc c hi hg he I h λDa H3 s3 fp σ5 H5 s6 I3 f3 I6 qn=>?_))
  (λ_ s' hq=>Ah (Ah hq)) λ_ _ e=>e)
 obtain⟨m,hn,_⟩:=id I6.loc
 have I7:Inv X pins σ H5 s6:=jef I3 f3 I6 (.refl ..)
 have hC:H5 s3.heap.objs.size=none:=I6.free
 have nL:s3.heap.objs.size≠X.env.locals:=Wc I3.lt
 have nc:∀x a,X.env.cells.lookup x=some a->a≠s3.heap.objs.size:=λx a e=>by
  obtain⟨v,q⟩:=I3.cell x a e
  exact Ax q.lt
 have np:∀p∈X.pn++pins,p.1≠s3.heap.objs.size:=λp hp=>Ax (At (I3.pin p hp).1)
 show wpAny _ _ (assign (.Name y py) X.env (.ref Da)) _ _ _
 refine wpAny_assign_Name (jfz (v:=.ref Da) I7 hN hiN hy rfl (λs8 I8 hb=>?_) hf)
 obtain⟨a,hs8,ha⟩:=hb
 have nCa:s3.heap.objs.size≠a:=by
  rcases ha with z|z
  ·rw[z];exact nL
  ·exact(nc y a z).symm
 refine⟨m,hn.sameBut hs8 nCa,λh9 hs9=>?_⟩
 exact⟨_,H5,I8.turned (t':=s8.toks) (λb o hb e=>(hs9.2 b hb).trans e) hC nL (.inr (Im I3.sz (Ak _))) nc np,qn⟩
end
section
variable{X:Cx}
def jie:List V->Hp->VK->Prop:=λxs H Q=>match xs with
 |[.ref p]=>(∃ys,jcx (H p)=some ys/\∀l,H l=none->Q (.ref l) (upd H l (.tup ys)))\/(∃ys,jgb (H p)=some ys/\Q (.ref p) H)
 |_=>False
theorem kc:jc0 X (.type "tuple") jie:=by
 intro pins s σ H xs us Q I r h
 unfold jie at h
 split at h
 ·rename_i p
  rcases h with⟨ys,e,h⟩|⟨ys,e,h⟩
  ·exact ja1 pins s σ H _ us Q I r ⟨p,ys,rfl,.inl ⟨SqL.of (jc2 e),h⟩⟩
  ·exact ja1 pins s σ H _ us Q I r ⟨p,ys,rfl,.inr ⟨SqT.of (jgr e),h⟩⟩
 ·exact h.elim
theorem jcr{p:Addr}{H:Hp}{Q:VK}{ys:List V}(e:H p=some (.lst ys))(h:∀l,H l=none->Q (.ref l) (upd H l (.tup ys))):jie [.ref p] H Q:=.inl ⟨ys,by rw[e];rfl,h⟩
def jn3:R2:=λx y H Q=>match x,y with
 |.int i,.int j=>CMul i j/\Q (.int (i*j)) H
 |.ref l,.int k=>∃xs,jcx (H l)=some xs/\0<=k/\k<2^62/\xs.length*k.toNat<=sizeLine/\∀p,H p=none->Q (.ref p) (upd H p (.lst (List.replicate k.toNat xs).flatten))
 |_,_=>False
theorem zt:OpR X (binaryOp .Mult) jn3:=by
 intro pins s σ H x y v u Q I rx ry h
 cases x with
 |int i=>cases y with
  |int j=>exact op_mul pins s σ H _ _ v u Q I rx ry ⟨i,j,rfl,rfl,h⟩
  |_=>exact False.elim h
 |ref l=>cases y with
  |int k =>
   obtain⟨xs,e,k0,k1,h⟩:=h
   exact op_rep pins s σ H _ _ v u Q I rx ry ⟨l,k,xs,rfl,rfl,jc2 e,by omega,by omega,h⟩
  |_=>exact False.elim h
 |_=>exact False.elim h
theorem jje(H:Hp)(Q:VK)(i j:Int):jn3 (.int i) (.int j) H Q=(CMul i j/\Q (.int (i*j)) H):=rfl
theorem jjf(H:Hp)(Q:VK)(l:Addr)(k:Int):jn3 (.ref l) (.int k) H Q=(∃xs,jcx (H l)=some xs/\0<=k/\k<2^62/\xs.length*k.toNat<=sizeLine/\∀p,H p=none->Q (.ref p) (upd H p (.lst (List.replicate k.toNat xs).flatten))):=rfl
variable{o e:Expr}{es:List Expr}{to:TE}{t:TA}{name:Str}{apos cpos:Pos}{id:String}{r:V->List V->Hp->VK->Prop}
def cutS(z:Str)(lo hi:Option Int):Str:=⟨((z.cps.toList.drop (HT.sIx z.length 0 lo)).take (HT.sIx z.length z.length hi-HT.sIx z.length 0 lo)).toArray⟩
theorem jlw(lo hi:Option Int)(n:Nat):Builtin.Str.strSliceIndices lo hi 1 n=(List.range (HT.sIx n n hi-HT.sIx n 0 lo)).map (HT.sIx n 0 lo+·):=by
 rw[<-sliceRange_one]
 unfold Builtin.Str.strSliceIndices
 have e1:(match lo with|none=>(if(1:Int)>0 then(0:Int)else(n:Int)-1)|some i=>let i:=if i<0 then i+(n:Int)else i;if(1:Int)>0 then max 0 (min i (n:Int))else max (-1) (min i ((n:Int)-1)))=((HT.sIx n 0 lo:Nat):Int):=by
  cases lo with
  |none=>simp[HT.sIx]
  |some v =>
   simp only[show(1:Int)>0 by decide,O0,HT.sIx]
   by_cases h:v<0
   ·simp only[h,O0];omega
   ·simp only[h,Ob];omega
 have e2:(match hi with|none=>(if(1:Int)>0 then(n:Int)else -1)|some i=>let i:=if i<0 then i+(n:Int)else i;if(1:Int)>0 then max 0 (min i (n:Int))else max (-1) (min i ((n:Int)-1)))=((HT.sIx n n hi:Nat):Int):=by
  cases hi with
  |none=>simp[HT.sIx]
  |some v =>
   simp only[show(1:Int)>0 by decide,O0,HT.sIx]
   by_cases h:v<0
   ·simp only[h,O0];omega
   ·simp only[h,Ob];omega
 have key:∀a b a' b':Int,a=a'->b=b'->sliceRange a b 1=sliceRange a' b' 1:=by
  intro a b a' b' h1 h2
  rw[h1,h2]
 exact key _ _ _ _ e1 e2
theorem jmf(z:Str)(lo hi:Option Int):Txt.slice z lo hi=cutS z lo hi:=by
 have e:(Builtin.Str.strSliceIndices lo hi 1 z.length).filterMap (z.cps[·]?)=(z.cps.toList.drop (HT.sIx z.length 0 lo)).take (HT.sIx z.length z.length hi-HT.sIx z.length 0 lo):=by
  rw[jlw,pick_run]
 unfold Txt.slice cutS
 split
 ·rename_i h
  have h2:((Builtin.Str.strSliceIndices lo hi 1 z.length).length == z.length)=true:=by simpa using h
  have h3:(Builtin.Str.strSliceIndices lo hi 1 z.length).length=z.length:=eq_of_beq h2
  rw[jlw,Ad,Az]at h3
  have hl:z.cps.toList.length=z.length:=by simp[Str.length]
  have q:((z.cps.toList.drop (HT.sIx z.length 0 lo)).take (HT.sIx z.length z.length hi-HT.sIx z.length 0 lo))=z.cps.toList:=by
   have hb:HT.sIx z.length z.length hi<=z.length:=by
    cases hi with
    |none=>exact Ak _
    |some v=>simp only[HT.sIx];split <;> omega
   by_cases h0:z.length=0
   ·have:z.cps.toList=[]:=Ul.mp (by omega)
    rw[this];simp
   ·have ha:HT.sIx z.length 0 lo=0:=by omega
    rw[h3,ha,List.drop_zero]
    exact O7 (by omega)
  rw[q]
 ·rw[e]
def rSlS:V->Option Int->Option Int->Hp->VK->Prop:=λx lo hi H Q=>∃z,x=.str z/\z.length<=sizeLine/\Q (.str (cutS z lo hi)) H
theorem sl_str:SlR X rSlS:=by
 intro pins s σ H x v vl vu lo hi sl Q I rx hs pl pu h
 obtain⟨z,rfl,hz,q⟩:=h
 obtain⟨t,rfl⟩:=rx
 have gen:∀(l u:Option (Int×Tok)),vl=partValue l->vu=partValue u->lo=l.map (·.1)->hi=u.map (·.1) ->
   wpAny (model X.prog X.w) X.A (getItem (.str z t) (.ref sl)) (EP X pins σ Q) X.xe s:=by
  intro l u e1 e2 e3 e4
  subst e1 e2 e3 e4
  refine wpAny_getItem_str_slice (l:=l) (u:=u) (st:=none) hs (by rfl) ?_
  have e:(if((((none:Option (Int×Tok)).map (·.1)).getD 1 == 1 && (slicePicked z l u none).length == z.length)=true)then z else⟨((slicePicked z l u none).filterMap (z.cps[·]?)).toArray⟩)=cutS z (l.map (·.1)) (u.map (·.1)):=by
   rw[<-jmf];rfl
  refine post_val_or_str ⟨?_,λt' c=>⟨.str (cutS z (l.map (·.1)) (u.map (·.1))),H,I.tok c,⟨t',Um (Value.str · t') e⟩,q⟩⟩
  rw[e,<-jmf]
  exact Im (Txt.slice_le _ _ _) hz
 refine⟨"str",_,F.slot_str_getitem.lookup,typeIs_str _ _ _,?_⟩
 cases pl with
 |none=>cases pu with
  |none=>exact gen none none rfl rfl rfl rfl
  |int j tj=>exact gen none (some (j,tj)) rfl rfl rfl rfl
 |int i ti=>cases pu with
  |none=>exact gen (some (i,ti)) none rfl rfl rfl rfl
  |int j tj=>exact gen (some (i,ti)) (some (j,tj)) rfl rfl rfl rfl
def jme(sc:Scope)(N:List Str)(scope:Scope)(Nc:List Str)(js:List (Option Nat)):Bool :=
 (scope.kind == .function) && scope.names.all (λy=>!(y.2 == .cell)) && scope.names.all (λy=>!(y.2 == .local) || scope.names.lookup y.1 == some .local) &&
 scope.names.all (λy=>!(y.2 == .free) || ((sc.names.lookup y.1 == some .cell || sc.names.lookup y.1 == some .free) && !(scope.names.lookup y.1 == some .local))) && (js.length == Nc.length) &&
 (List.range js.length).all (λi=>match js[i]? with
  |some (some j)=>(N[j]? == Nc[i]?) && (match Nc[i]? with|some x=>scope.names.any (λy=>y.1 == x && y.2 == .free)|none=>true)
  |_=>true)
theorem jco{sc scope:Scope}{N Nc:List Str}{js:List (Option Nat)}(hd:jme sc N scope Nc js=true)(hsc:X.env.scope=sc:=by rfl)(hN:X.N=N:=by rfl):CompOk X scope Nc js:=by
 simp only[jme,Ou,List.all_eq_true,Bool.or_eq_true,Bool.not_eq_true',beq_iff_eq,Ar]at hd
 obtain⟨⟨⟨⟨⟨h1,h2⟩,h3⟩,h4⟩,h5⟩,h6⟩:=hd
 have kk:∀x,X.env.kindOf x=sc.names.lookup x:=λx=>by rw[<-hsc];rfl
 refine⟨h1,λy hy e=>?_,λy hy e=>?_,λy hy e=>?_,h5,λx hx=>?_,λi j x e1 e2=>?_⟩
 ·have:=h2 y hy
  rw[e]at this;cases this
 ·rcases h3 y hy with q|q
  ·rw[e]at q;cases q
  ·exact q
 ·rcases h4 y hy with q|q
  ·rw[e]at q;cases q
  ·rw[kk]
   exact q.1
 ·rcases h4 _ hx with q|q
  ·cases q
  ·intro z
   have q2:=q.2
   rw[z]at q2
   cases q2
 ·have hi:i<js.length:=(Ae.mp e1).1
  have q:=h6 i hi
  rw[e1,e2]at q
  simp only[Ou,beq_iff_eq,List.any_eq_true]at q
  refine⟨by rw[hN];exact q.1,?_⟩
  obtain⟨y,hy,hy1,hy2⟩:=q.2
  obtain⟨a,b⟩:=y
  simp only at hy1 hy2
  subst hy1 hy2
  exact hy
theorem Reps.len{H:Hp}:∀{vs:List V}{ds:List PyData},Reps H vs ds->vs.length=ds.length
 |[],[],_=>rfl
 |[],_::_,h=>by simp only[Reps]at h
 |_::_,[],h=>by simp only[Reps]at h
 |_::vs,_::ds,h=>by simp only[Reps]at h;simp[Reps.len h.2]
theorem Reps.app{H:Hp}:∀{vs us:List V}{ds es:List PyData},Reps H vs ds->Reps H us es->Reps H (vs++us) (ds++es)
 |[],_,[],_,_,h=>h
 |[],_,_::_,_,h,_=>by simp only[Reps]at h
 |_::_,_,[],_,h,_=>by simp only[Reps]at h
 |_::vs,us,_::ds,es,h,h'=>by
  simp only[Reps]at h
  simp only[List.cons_append,Reps]
  exact⟨h.1,Reps.app h.2 h'⟩
mutual
def jd4:PyData->Bool
 |.list _=>false
 |.tuple ds=>jdj ds
 |.dict _=>false
 |_=>true
def jdj:List PyData->Bool
 |[]=>true
 |d::ds=>jd4 d && jdj ds
end
mutual
theorem Rep.kp{S:List Addr}{H H':Hp}(k:Kp S H H'):∀{d:PyData}{v:V},jd4 d=true->Rep H v d->Rep H' v d
 |.none,_,_,h=>by simp only[Rep]at h⊢;exact h
 |.bool _,_,_,h=>by simp only[Rep]at h⊢;exact h
 |.int _,_,_,h=>by simp only[Rep]at h⊢;exact h
 |.str _,_,_,h=>by simp only[Rep]at h⊢;exact h
 |.list _,_,t,_=>by simp only[jd4]at t;cases t
 |.tuple ds,_,t,h=>by
  simp only[Rep]at h⊢
  obtain⟨a,vs,e,e2,h⟩:=h
  exact⟨a,vs,e,k.tup _ _ e2,Reps.kp k (by simpa only[jd4]using t) h⟩
 |.dict _,_,t,_=>by simp only[jd4]at t;cases t
theorem Reps.kp{S:List Addr}{H H':Hp}(k:Kp S H H'):∀{ds:List PyData}{vs:List V},jdj ds=true->Reps H vs ds->Reps H' vs ds
 |[],[],_,_=>by simp only[Reps]
 |[],_::_,_,h=>by simp only[Reps]at h
 |_::_,[],_,h=>by simp only[Reps]at h
 |d::ds,v::vs,t,h=>by
  simp only[Reps]at h⊢
  simp only[jdj,Ou]at t
  exact⟨Rep.kp k t.1 h.1,Reps.kp k t.2 h.2⟩
end
theorem Reps.ints(H:Hp):∀l:List Int,Reps H (l.map V.int) (l.map PyData.int)
 |[]=>by simp[Reps]
 |x::r=>by simp[Reps,Rep,Reps.ints H r]
theorem Reps.bools(H:Hp):∀l:List Bool,Reps H (l.map V.bl) (l.map PyData.bool)
 |[]=>by simp[Reps]
 |x::r=>by simp[Reps,Rep,Reps.bools H r]
end
def ItT(n:Nat)(vals:Nat->List V):It:=⟨λi _=>i<n,λi H x H'=>∃T,H T=none/\x=.ref T/\H'=upd H T (.tup (vals i)),λi _=>i=n⟩
theorem Inv.turnedNew{X:Cx}{pins:List (Addr×Obj)}{σ:L2.St}{H:Hp}{s:Shared}{h':Heap}{t':Nat}{fp wr:List Addr}{T:Addr}{xs:List V}{vs:List Value}(I:Inv X pins σ H s)(hf:∀b∈wr,FpOk X pins H b)
  (k:∀b o,b∉wr->s.heap.get? b=some o->h'.get? b=some o) (hT:s.heap.objs.size<=T) (tup:IsTup h' T vs.toArray) (r:Vals xs vs) (hz:xs.length<=sizeLine) (there:∀b∈wr,∃o,h'.get? b=some o) :
  Inv X pins σ (upd H T (.tup xs)) {s with heap:=h',toks:=t'}:=by
 have neT:∀b u,H b=some u->b≠T:=λb u e=>Ax (A4 (I.hok.lt e) hT)
 have nw:∀b u,H b=some u->b∉wr:=λb u e hb=>by rw[(hf b hb).1]at e;cases e
 refine I.step (g':=s.gens) (d':=s.drawn) (ch:=wr) (λb hb=>?_) (λb o _ _ hc e _=>k b o hc e) (λb o _ _ hc e _=>⟨o.slots,k b o hc e⟩) (λb o hc e n=>?_) (λb o hc e=>⟨o,k b o hc e⟩)
  (λb ys e=>by rw[jd (neT b _ e)];exact e) (λb o u e=>by rw[jd (neT b _ e)];exact e) (λb ps e=>⟨#[],by rw[jd (neT b _ e),e];simp⟩) (λm hm=>?_) (λb u e=>?_) I.bare
 ·obtain⟨_,f1,_,f3,f4,f5⟩:=hf b hb
  exact⟨f3,f1,f4,f5⟩
 ·rw[jd (Ax (A4 (At e) hT))];exact n
 ·obtain⟨o,es,ep,ho,rr⟩:=hm
  exact⟨o,es,ep,k _ o (λz=>(hf _ z).2.1 rfl) ho,rr⟩
 ·by_cases hb:b=T
  ·subst hb
   rw[jb]at e
   cases e
   exact⟨hz,vs,r,tup⟩
  ·rw[jd hb]at e
   refine(I.hok b u e).stay (λd v hd q=>k d v ?_ q) (λd q=>by rw[jd (neT d _ q)];exact q) λd ys q=>by rw[jd (neT d _ q)];exact q
   rcases hd with rfl|hd
   ·exact nw _ _ e
   ·exact nw _ _ hd
theorem jr5{P:Program}{w:World}{K:PySem.W.Frag}{elts:List Expr}{kk:Nat}{pos:Pos}{it:Addr}{fp wr:List Addr}{n:Nat}{Pt:Nat->Array Value->Prop}{St:Nat->Heap->Prop}{Mid:Nat->Addr->Heap->Prop}{vals:Nat->List V}
  (W:∀A:Around,A.handled=none->WalksT P w A it fp wr n Pt St Mid) (hI:it∈fp) (obj:∀i h,St i h->∀b∈fp,∃o,h.get? b=some o/\∀v,o.data≠.cell v)
  (hself:∀(A:Around)(i:Nat)(s:Shared)(Q:Value->Shared->Prop)(E:Value->Shared->Prop),St i s.heap->Q (.ref it) s->wpAny (model P w) A (pyIter (.ref it)) Q E s)
  (hv:∀i vs,Pt i vs->Vals (vals i) vs.toList) (hz:∀i,(vals i).length<=sizeLine):Turn P w K (.Tuple elts kk pos) (ItT n vals) fp it St where
 mem:=hI
 obj:=obj
 keep:=λi h h' st k=>by
  obtain⟨A,hA⟩:∃A:Around,A.handled=none:=⟨callerA,rfl⟩
  exact(W A hA).frame i h h' st k
 item:=by
  intro X hP hw hK hc i pins s σ H E I hf st hg
  subst hP hw hK
  have WA:=W X.A (I.ok.hd hc)
  refine WA.item i s _ _ hg st λT vs h' tk hp hT htup mid kk'=>⟨_,rfl,?_⟩
  have nTw:=WA.apart _ _ _ mid
  refine WA.go _ _ _ i T {s with heap:=h',toks:=tk} _ _ mid λh'' st'' k''=>?_
  have fw:∀b∈wr,FpOk X pins H b:=λb hb=>hf b (WA.sub b hb)
  have tup':IsTup h'' T vs:=by
   obtain⟨o,e,r⟩:=htup
   exact⟨o,k'' T o nTw e,r⟩
  refine⟨.ref T,upd H T (.tup (vals i)),?_,rfl,⟨T,I.hok.fresh hT,rfl,rfl⟩,st'',λb hb=>?_⟩
  ·exact I.turnedNew (fp:=fp) fw (λb o hb e=>k'' b o hb (kk' b o hb e)) hT (by simpa using tup') (hv i vs hp) (hz i) λb hb=>let⟨o,e,_⟩:=obj _ _ st'' b (WA.sub b hb);⟨o,e⟩
  ·have hlt:b<s.heap.objs.size:=by
    obtain⟨o,e,_⟩:=obj _ _ st b hb
    exact At e
   rw[jd (Ax (A4 hlt hT))]
   exact(hf b hb).1
 done:=by
  intro X hP hw hK hc i pins s σ H E I hf st hg
  subst hP hw hK
  have hi:i=n:=hg
  subst hi
  have WA:=W X.A (I.ok.hd hc)
  refine WA.done s _ _ st λh' tk kk'=>⟨rfl,?_⟩
  have fw:∀b∈wr,FpOk X pins H b:=λb hb=>hf b (WA.sub b hb)
  have nw:∀b u,H b=some u->b∉wr:=λb u e hb=>by rw[(fw b hb).1]at e;cases e
  refine I.step (g':=s.gens) (d':=s.drawn) (ch:=wr) (λb hb=>?_) (λb o _ _ hc e _=>kk' b o hc e) (λb o _ _ hc e _=>⟨o.slots,kk' b o hc e⟩) (λb o hc e n=>n) (λb o hc e=>⟨o,kk' b o hc e⟩)
   (λ_ _ e=>e) (λ_ _ _ e=>e) (λb ps e=>⟨#[],by rw[e];simp⟩) (λm hm=>?_) (λb u e=>?_) I.bare
  ·obtain⟨_,f1,_,f3,f4,f5⟩:=fw b hb
   exact⟨f3,f1,f4,f5⟩
  ·obtain⟨o,es,ep,ho,rr⟩:=hm
   exact⟨o,es,ep,kk' _ o (λz=>(fw _ z).2.1 rfl) ho,rr⟩
  ·refine(I.hok b u e).stay (λd v hd q=>kk' d v ?_ q) (λ_ q=>q) λ_ _ q=>q
   rcases hd with rfl|hd
   ·exact nw _ _ e
   ·exact nw _ _ hd
 self:=hself
theorem jsr{n:Nat}{vals:Nat->List V}{g:TG}{tb:TS}{D:Ends}{σ:L2.St}{H:Hp}(Pv:Nat->L2.St->Hp->Prop)(h0:Pv 0 σ H)
  (hs:∀i σ H T,i<n->Pv i σ H->H T=none->g (.ref T) σ (upd H T (.tup (vals i))) λσ2 H2=>tb {D with nx:=Pv (i+1),ct:=Pv (i+1),bk:=D.nx} σ2 H2) (hd:∀σ H,Pv n σ H->D.nx σ H):jc8 (ItT n vals) g tb D σ H:=by
 refine⟨λi m σ H=>m=n-i/\i<=n/\Pv i σ H,⟨n,by simp,Oa _,h0⟩,?_⟩
 rintro i m σ H ⟨rfl,hi,p⟩
 by_cases hlt:i<n
 ·refine .inr ⟨hlt,Pv (i+1),λσ' H' p'=>⟨n-(i+1),by omega,rfl,hlt,p'⟩,λx H' y=>?_⟩
  obtain⟨T,hT,e1,e2⟩:=y
  subst e1 e2
  exact hs i σ H T hlt p hT
 ·have e:i=n:=by omega
  subst e
  exact .inl ⟨rfl,hd σ H p⟩
def jhb(z:Str)(i:Nat):List V:=[.int (i:Int),.str ⟨#[z.cps.toList.getD i 0]⟩]
section
variable{X:Cx}
def jhf(ta:TA):TI:=λσ H R=>ta σ H λvs H1=>∃z,vs=[.str z]/\R (ItT z.length (jhb z)) H1
theorem jn8{P:Program}{w:World}{K:PySem.W.Frag}{elts:List Expr}{kk:Nat}{pos:Pos}(z:Str)(t:Tok)(e it:Addr)(ne:e≠it) :
  Turn P w K (.Tuple elts kk pos) (ItT z.length (jhb z)) [e,it] e (λi h=>(∃old,IsEnum h e it i old)/\h.IsStrIter it (strIterType z) z t i):=by
 have D:∀A:Around,A.handled=none->Draws P w A.in1 it [it] z.cps.size (λi v=>∃c u,z.cps[i]?=some c/\v=.str ⟨#[c]⟩ u) (λi h=>h.IsStrIter it (strIterType z) z t i):=λA hA=>by
  unfold strIterType
  split
  ·exact Draws.strAscii (A:=A.in1) (show A.in1.handled=none from hA) it z t
  ·exact Draws.strWide (A:=A.in1) (show A.in1.handled=none from hA) it z t
 refine jr5 (wr:=[e,it]) (λA hA=>Wv (D A hA) e ne (by simpa using ne) (by simp)) (by simp) (λi h st b hb=>?_) (λA i s Q E st q=>?_) (λi vs hp=>?_) (λi=>by show 2<=sizeLine;decide)
 ·obtain⟨⟨old,he⟩,⟨o,ho,hc,hd⟩⟩:=st
  rcases Ap.mp hb with rfl|hb
  ·exact⟨_,he,λv z=>by cases z⟩
  ·rw[Aj.mp hb]
   exact⟨o,ho,λv z=>by rw[hd]at z;cases z⟩
 ·obtain⟨⟨old,he⟩,_⟩:=st
  exact U7 he q
 ·obtain⟨t',x,⟨c,u,hc,rfl⟩,rfl⟩:=hp
  have e1:z.cps.toList.getD i 0=c:=by
   have:z.cps.toList[i]?=some c:=by simpa using hc
   rw[Ac,this];rfl
  refine .cons ⟨t',rfl⟩ (.cons ⟨u,?_⟩ .nil)
  rw[e1]
theorem pi_enumerate{a:Expr}{ta:TA}{p pos tpos:Pos}{elts:List Expr}{kk:Nat}(hg:Gl X "enumerate")(hm:X.mg "enumerate"=none)(ha:PA X [a] ta)(hs:starEach [a] X.env=[(false,eval a X.env)]:=by rfl) :
  PI X (.Tuple elts kk tpos) (.Call (.Name "enumerate" p) [a] [] pos) (jhf ta):=by
 intro pins s σ H R I h
 refine Call_ (jdw I hg hm jaq (Op (thn (ha pos pins s σ H _ I h) λus s1 ⟨vs,H1,I1,r1,q1⟩=>?_) hs rfl))
 obtain⟨z,e,q⟩:=q1
 subst e
 obtain⟨u,rfl,t,rfl⟩:=jdd r1
 refine call_enumerate_str λh' he hi hz hk=>?_
 have I2:Inv X pins σ H1 {s1 with heap:=h'}:=I1.kept (t':=s1.toks) hk
 refine U7 he ⟨s1.heap.objs.size+1,[s1.heap.objs.size+1,s1.heap.objs.size],_,_,H1,rfl,I2,jn8 z t (s1.heap.objs.size+1) s1.heap.objs.size (Nat.succ_ne_self _),⟨⟨.none,he⟩,hi⟩,λb hb=>?_,q⟩
 have hb':s1.heap.objs.size<=b:=by
  rcases Ap.mp hb with rfl|hb
  ·omega
  ·rw[Aj.mp hb];exact Ak _
 obtain⟨f0,f1,f2,f3,f4,f5⟩:=I1.fpOk (H':=H1) hb' (I1.hok.fresh hb')
 exact⟨f0,f1,f2,f3,f4,f5⟩
def jm3:List V->Hp->VK->Prop:=λxs H Q=>match xs with
 |[.int j]=>-(2^62)<=j/\j<2^62/\∀p,H p=none->Q (.ref p) (upd H p (.rng 0 j))
 |[.int i,.int j]=>-(2^62)<=i/\i<2^62/\-(2^62)<=j/\j<2^62/\∀p,H p=none->Q (.ref p) (upd H p (.rng i j))
 |_=>False
theorem jbc:jc0 X (.type "range") jm3:=by
 intro pins s σ H xs us Q I r h
 unfold jm3 at h
 split at h
 ·rename_i j
  obtain⟨u,rfl,t,rfl⟩:=jdd r
  obtain⟨h1,h2,q⟩:=h
  refine call_range_1 ⟨.ref s.heap.objs.size,upd H s.heap.objs.size (.rng 0 j),I.laid (λb o e=>Ai _ e) (Ak _) ⟨_,_,_,A1 _ rfl⟩,rfl,q _ (I.hok.fresh (Ak _))⟩
 ·rename_i i j
  obtain⟨u,w',rfl,⟨t,rfl⟩,⟨t',rfl⟩⟩:=jkc r
  obtain⟨h1,h2,h3,h4,q⟩:=h
  refine call_range_2 ⟨.ref s.heap.objs.size,upd H s.heap.objs.size (.rng i j),I.laid (λb o e=>Ai _ e) (Ak _) ⟨_,_,_,A1 _ rfl⟩,rfl,q _ (I.hok.fresh (Ak _))⟩
 ·exact h.elim
end
section
variable{X:Cx}
def jli:List V->Hp->VK->Prop:=λxs H Q=>match xs with
 |[x]=>∃d,Rep H x d/\d.showable=true/\d.hasDict=false/\d.depth<=60/\d.shown.length<=sizeLine/\Q (.str d.shown) H
 |_=>False
theorem jak(hg:X.A.guards=some [])(hu:X.A.units+64<cLine):jc0 X (.builtin "repr") jli:=by
 intro pins s σ H xs us Q I r h
 unfold jli at h
 split at h
 ·rename_i x
  obtain⟨d,hr,hs,hd,hp,hz,q⟩:=h
  obtain⟨u,rfl,rx⟩:=jdd r
  cases d with
  |none=>simp only[Rep]at hr;subst hr;cases rx;exact PySem.P.repr_of_none ⟨.str _,H,I.tok _,⟨_,rfl⟩,q⟩
  |bool b=>simp only[Rep]at hr;subst hr;cases rx;exact PySem.P.repr_of_bool ⟨.str _,H,I.tok _,⟨_,rfl⟩,q⟩
  |int i=>simp only[Rep]at hr;subst hr;obtain⟨t,rfl⟩:=rx;exact PySem.P.repr_of_int (by simpa[PyData.showable]using hs) ⟨.str _,H,I.tok _,⟨_,rfl⟩,q⟩
  |str x=>simp only[Rep]at hr;subst hr;obtain⟨t,rfl⟩:=rx;exact PySem.P.repr_of_str ⟨.str _,H,I.tok _,⟨_,rfl⟩,q⟩ hz
  |list ds =>
   obtain⟨as,rd⟩:=hr.reads I rx
   simp only[Rep]at hr
   obtain⟨a,vs,rfl,_⟩:=hr
   cases rx
   exact repr_of_reads' rd hs (PyData.noDict_hsm hd) hg (by omega) (λ_ _ e=>e) (λh' u tk hk=>⟨.str _,H,I.kept hk,⟨_,rfl⟩,q⟩) hz
  |tuple ds =>
   obtain⟨as,rd⟩:=hr.reads I rx
   simp only[Rep]at hr
   obtain⟨a,vs,rfl,_⟩:=hr
   cases rx
   exact repr_of_reads' rd hs (PyData.noDict_hsm hd) hg (by omega) (λ_ _ e=>e) (λh' u tk hk=>⟨.str _,H,I.kept hk,⟨_,rfl⟩,q⟩) hz
  |dict _=>simp only[Rep]at hr
 ·exact h.elim
def jpa:List V->Hp->VK->Prop:=λxs H Q=>match xs with
 |[.ref p]=>∃lo hi:Int,H p=some (.rng lo hi)/\-(2^62)<=lo/\lo<2^62/\-(2^62)<=hi/\hi<2^62/\(hi-lo).toNat<=sizeLine/\∀l,H l=none->Q (.ref l) (upd H l (.lst ((List.range (hi-lo).toNat).map λi=>V.int (lo+(i:Nat)))))
 |_=>False
theorem jr8{xs:List V}{us:List Value}(hl:xs.length=us.length)(h:∀(i:Nat) (x:V) (u:Value),xs[i]?=some x->us[i]?=some u->RelV x u):Vals xs us:=by
 induction xs generalizing us with
 |nil=>cases us with
  |nil=>exact .nil
  |cons _ _=>simp at hl
 |cons x xs ih=>cases us with
  |nil=>simp at hl
  |cons u us=>exact .cons (h 0 x u rfl rfl) (ih (by simpa using hl) λi a b e1 e2=>h (i+1) a b (by simpa using e1) (by simpa using e2))
theorem jbh(hc:X.calm=true):jc0 X (.type "list") jpa:=by
 intro pins s σ H xs us Q I r h
 unfold jpa at h
 split at h
 ·rename_i p
  obtain⟨lo,hi,e,h1,h2,h3,h4,hz,q⟩:=h
  obtain⟨u,rfl,ru⟩:=jdd r
  cases ru
  obtain⟨t,u,v,e'⟩:=(show ObjOk X.prog X.w H s.heap p (.rng lo hi)from I.hok p _ e)
  have hsz:sizeLine=16777216:=O3
  refine call_list_range (n:=(hi-lo).toNat) (I.ok.hd hc) (show IsRange s.heap p lo hi 1 t u v from e') (small_one h1 h2 h3 h4) (by rw[rangeSize_one];split <;> omega) (by omega) λh' tk acc c hk hn hit=>?_
  refine⟨.ref s.heap.objs.size,_,I.laid (o:=.lst ((List.range (hi-lo).toNat).map λi=>V.int (lo+(i:Nat)))) hk (Ak _) ⟨?_,acc.toList,c,?_,by simpa using hn⟩,rfl,q _ (I.hok.fresh (Ak _))⟩
  ·rw[Ad,Az];exact hz
  ·obtain⟨i1,i2⟩:=hit
   refine jr8 (by simp[i1]) λi x u e1 e2=>?_
   obtain⟨t',ht⟩:=i2 i u (by simpa using e2)
   subst ht
   rw[Ag]at e1
   cases q:(List.range (hi-lo).toNat)[i]? with
   |none=>rw[q]at e1;cases e1
   |some j =>
    rw[q]at e1
    have ej:j=i:=by
     have:=Ae.mp q
     obtain⟨_,e⟩:=this
     simpa using e.symm
    subst ej
    have e1':V.int (lo+(j:Nat))=x:=Aq e1
    subst e1'
    exact⟨t',by rw[Int.mul_one]⟩
 ·exact h.elim
def rAddW:R2:=λx y H Q=>match x,y with
 |.int i,.int j=>Q (.int (i+j)) H
 |.str i,.str j=>i.length+j.length<=sizeLine/\Q (.str (i++j)) H
 |.ref l,.ref b=>(∃xs zs,jcx (H l)=some xs/\jcx (H b)=some zs/\xs.length+zs.length<=sizeLine/\∀p,H p=none->Q (.ref p) (upd H p (.lst (xs++zs)))) \/
   (∃xs zs,jgb (H l)=some xs/\jgb (H b)=some zs/\xs≠[]/\zs≠[]/\xs.length+zs.length<=sizeLine/\∀p,H p=none->Q (.ref p) (upd H p (.tup (xs++zs))))
 |_,_=>False
theorem yo:OpR X (binaryOp .Add) rAddW:=by
 intro pins s σ H x y v u Q I rx ry h
 cases x with
 |int i=>cases y with
  |int j=>exact op_add pins s σ H _ _ v u Q I rx ry ⟨i,j,rfl,rfl,h⟩
  |_=>exact False.elim h
 |str i=>cases y with
  |str j=>exact op_add_str pins s σ H _ _ v u Q I rx ry ⟨i,j,rfl,rfl,h⟩
  |_=>exact False.elim h
 |ref l=>cases y with
  |ref b =>
   rcases h with⟨xs,zs,e1,e2,h⟩|⟨xs,zs,e1,e2,n1,n2,hz,h⟩
   ·exact op_cat pins s σ H _ _ v u Q I rx ry ⟨l,b,xs,zs,rfl,rfl,jc2 e1,jc2 e2,h⟩
   ·exact op_catT pins s σ H _ _ v u Q I rx ry ⟨l,b,xs,zs,rfl,rfl,SqT.of (jgr e1),SqT.of (jgr e2),n1,hz,λz=>absurd z n2,λ_=>h⟩
  |_=>exact False.elim h
 |_=>exact False.elim h
theorem jfr(H:Hp)(Q:VK)(i j:Int):rAddW (.int i) (.int j) H Q=(Q (.int (i+j)) H):=rfl
theorem ji8(H:Hp)(Q:VK)(i j:Str):rAddW (.str i) (.str j) H Q=(i.length+j.length<=sizeLine/\Q (.str (i++j)) H):=rfl
theorem rAddW.tup{H:Hp}{Q:VK}{l b:Addr}{xs zs:List V}(e1:H l=some (.tup xs))(e2:H b=some (.tup zs))(n1:xs≠[])(n2:zs≠[])(hz:xs.length+zs.length<=sizeLine)
  (h:∀p,H p=none->Q (.ref p) (upd H p (.tup (xs++zs)))):rAddW (.ref l) (.ref b) H Q:=.inr ⟨xs,zs,by rw[e1];rfl,by rw[e2];rfl,n1,n2,hz,h⟩
theorem rAddW.lst{H:Hp}{Q:VK}{l b:Addr}{xs zs:List V}(e1:H l=some (.lst xs))(e2:H b=some (.lst zs))(hz:xs.length+zs.length<=sizeLine)
  (h:∀p,H p=none->Q (.ref p) (upd H p (.lst (xs++zs)))):rAddW (.ref l) (.ref b) H Q:=.inl ⟨xs,zs,by rw[e1];rfl,by rw[e2];rfl,hz,h⟩
end
section
variable{X:Cx}{pos:Pos}{k v:Expr}{tk tv:TE}
def jh1(tk tv:TE):TE:=λσ H Q=>∀p,H p=none->tk σ (upd H p (.dT [])) λx H1=>tv σ H1 λy H2=>∃kvs ks b,H2 p=some (.dT kvs)/\x=.ref b/\H2 b=some (.tup (ks.map kV))/\kvs.length<sizeLine/\Q (.ref p) (upd H2 p (.dT (putK kvs ks y)))
theorem pe_disp1(hu:X.A.units+1<cLine)(hk:PE X k tk)(hv:PE X v tv):PE X (.Dict [some k] [v] pos) (jh1 tk tv):=by
 intro pins s σ H Q I q
 have hn:=I.hok.fresh (Ak s.heap.objs.size)
 have I1:=I.laid (a:=s.heap.objs.size) (o:=.dT []) (h':=s.heap.push {cls:=.type "dict",data:=.dict #[]}) (t':=s.toks) (λ_ _ q=>Ai _ q) (Ak _) (jp2 s.heap I.big)
 rw[arm_eval_Dict,zip_pairTrees [some k] [v] X.env pos rfl rfl,dictDisplay_pairs (pairTrees [some k] [v] X.env pos) (by simp[pairTrees]) (by simp[pairTrees])]
 refine Ab (W6 (Ab ?_))
 unfold subDict
 refine Ab (wpAny_alloc (Ab (Og ?_)))
 rw[Ao (by simp[pairTrees])]
 have hp:PPs X pos [some k] [v] [(tk,tv)]:=jb4 hk hv jcf
 refine Ab (thn (hp pins _ σ _ (λps H2=>match ps with
  |[(x,y)]=>∃kvs ks b,H2 s.heap.objs.size=some (.dT kvs)/\x=.ref b/\H2 b=some (.tup (ks.map kV))/\kvs.length<sizeLine/\Q (.ref s.heap.objs.size) (upd H2 s.heap.objs.size (.dT (putK kvs ks y)))
  |_=>False) I1 (q _ hn)) λws s2 ⟨ps,H2,I2,rel,q2⟩=>?_)
 split at q2
 ·rename_i x y
  obtain⟨kvs,ks,b,e,rfl,eb,l,q2⟩:=q2
  cases rel with
  |@cons pa pb as bs h t =>
   cases t
   obtain⟨u,r⟩:=pb
   obtain⟨ru,rr⟩:=h
   have eu:u=Value.ref b:=ru
   subst eu
   refine Og ?_
   simp only[List.forIn_cons,List.forIn_nil]
   obtain⟨z,hd,xs,rl,dd⟩:=jqu I2.hok e
   have hz:xs.length<=sizeLine:=by rw[<-Il rl];exact z
   have hl:(putK kvs ks y).length<=sizeLine:=by have:=jde kvs ks y;omega
   refine Ab (Ab (Ab (wpAny_dictSet_heap (hsz:=hz) (knd:=tupleKind (jcn X.prog X.w)) (show X.A.units<cLine by omega) (je4 I2.hok eb) dd λh' dd' hs=>?_)))
   refine Ah (Ah (Ah (Ah (Ah ?_))))
   obtain⟨qo,es,ep,hq,h2,h3,h4,_,h5⟩:=dd'
   refine⟨.ref s.heap.objs.size,_,?_,rfl,q2⟩
   refine jeh I2 (by rw[e];exact True.intro) hs ⟨qo,hq⟩ ⟨hl,hd,_,(rl.put ks eb rr).keeps λc ys ec=>?_,qo,es,ep,hq,h2,h3,h4,h5⟩
   rw[jd (jn0 ec e (λz=>nomatch z))]
   exact ec
 ·exact q2.elim
end
section
variable{X:Cx}
def rSlU(K:PySem.W.Frag):V->Option Int->Option Int->Hp->VK->Prop:=λx lo hi H Q=>match x with
 |.str z=>z.length<=sizeLine/\Q (.str (cutS z lo hi)) H
 |.ref a=>(∃xs,SqL K H a xs/\∀p,H p=none->Q (.ref p) (upd H p (.lst (cutV xs lo hi)))) \/
   ∃xs,SqT K H a xs/\¬(HT.sIx xs.length 0 lo=0/\HT.sIx xs.length xs.length hi=xs.length)/\∀p,H p=none->Q (.ref p) (upd H p (.tup (cutV xs lo hi)))
 |_=>False
theorem sl_U:SlR X (rSlU X.K):=by
 intro pins s σ H x v vl vu lo hi sl Q I rx hs pl pu h
 unfold rSlU at h
 split at h
 ·rename_i z
  exact sl_str pins s σ H (.str z) v vl vu lo hi sl Q I rx hs pl pu ⟨z,rfl,h⟩
 ·rename_i a
  rcases h with⟨xs,hx,q⟩|⟨xs,hx,nw,q⟩
  ·exact sl_list pins s σ H (.ref a) v vl vu lo hi sl Q I rx hs pl pu ⟨a,xs,rfl,hx,q⟩
  ·exact sl_tup pins s σ H (.ref a) v vl vu lo hi sl Q I rx hs pl pu ⟨a,xs,rfl,hx,nw,q⟩
 ·exact h.elim
theorem jlj(K:PySem.W.Frag)(H:Hp)(Q:VK)(z:Str)(lo hi:Option Int):rSlU K (.str z) lo hi H Q=(z.length<=sizeLine/\Q (.str (cutS z lo hi)) H):=rfl
theorem rSlU.sq{K:PySem.W.Frag}{H:Hp}{Q:VK}{a:Addr}{xs:List V}{lo hi:Option Int}(e:SqL K H a xs)(h:∀p,H p=none->Q (.ref p) (upd H p (.lst (cutV xs lo hi)))):rSlU K (.ref a) lo hi H Q:=.inl ⟨xs,e,h⟩
theorem rSlU.lst{K:PySem.W.Frag}{H:Hp}{Q:VK}{a:Addr}{xs:List V}{lo hi:Option Int}(e:H a=some (.lst xs))(h:∀p,H p=none->Q (.ref p) (upd H p (.lst (cutV xs lo hi)))):rSlU K (.ref a) lo hi H Q:=.inl ⟨xs,SqL.of e,h⟩
theorem jpx{xs:List V}{lo hi:Option Int}{x:V}(h:x∈cutV xs lo hi):x∈xs:=Y2 (Y3 h)
end
section
variable{X:Cx}
def hasS(z y:Str):Bool:=!(Builtin.Str.occurrences z y 0 z.length 1).isEmpty
def rInU(K:PySem.W.Frag)(neg:Bool):R2:=λx y H Q=>match x,y with
 |.str i,.str j=>Q (.bl (if neg then !hasS j i else hasS j i)) H
 |x,.ref p=>∃xs,(SqL K H p xs\/SqT K H p xs)/\jdq x=true/\xs.all jdq=true/\Q (.bl (if neg then !inV x xs else inV x xs)) H
 |_,_=>False
theorem jla(K:PySem.W.Frag)(neg:Bool)(H:Hp)(Q:VK)(i j:Str):rInU K neg (.str i) (.str j) H Q=Q (.bl (if neg then !hasS j i else hasS j i)) H:=rfl
theorem op_notinU{K:PySem.W.Frag}(hK:X.K=K):OpR X (compareOp .NotIn) (rInU K true):=by
 subst hK
 intro pins s σ H x y v u Q I rx ry h
 unfold rInU at h
 split at h
 ·rename_i i j
  exact op_notIn_str pins s σ H _ _ v u Q I rx ry ⟨i,j,rfl,rfl,h⟩
 ·rename_i p
  obtain⟨xs,h⟩:=h
  exact op_notIn_seq pins s σ H _ _ v u Q I rx ry ⟨p,xs,rfl,h⟩
 ·exact h.elim
theorem rInU.lst{K:PySem.W.Frag}{neg:Bool}{H:Hp}{Q:VK}{x:V}{p:Addr}{xs:List V}(e:H p=some (.lst xs))(fx:jdq x=true)(fs:xs.all jdq=true)(q:Q (.bl (if neg then !inV x xs else inV x xs)) H):rInU K neg x (.ref p) H Q:=by
 cases x <;> exact⟨xs,.inl (SqL.of e),fx,fs,q⟩
end
theorem jh3{H:Hp}{D:Addr}{a b:HO}:upd (upd H D a) D b=upd H D b:=jik
section
variable{D:Addr}{te:TE}{E:Ends}{r:L2.St}{H:Hp}
theorem jnj{lo:Int}{n:Nat}(f:Nat->V)(hz:n<=sizeLine)(he:∀i,i<n->∀l Q,Q (f i) (upd H D (.lst l))->te (some (.int (lo+(i:Nat)))::r) (upd H D (.lst l)) Q)
  (hn:∀v,E.nx (v::r) (upd H D (.lst ((List.range n).map f)))):jc8 (Itr lo n) (jdi 0) (jdy D te) E (none::r) (upd H D (.lst [])):=by
 refine jcw (λi σ H'=>∃v:Option V,σ=v::r/\H'=upd H D (.lst ((List.range i).map f))) ⟨none,rfl,rfl⟩ ?_ ?_
 ·rintro i σ H' hi ⟨v,rfl,rfl⟩
  refine he i hi _ _ ⟨_,by rw[jb];rfl,by simp;omega,some (.int (lo+(i:Nat))),rfl,?_⟩
  rw[jh3,Ub]
  simp
 ·rintro σ H' ⟨v,rfl,rfl⟩
  exact hn v
theorem jec{K:PySem.W.Frag}{a:Addr}{xs:List V}(f:V->V)(ha:H a=some (.lst xs))(hD:H D=none)(hz:xs.length<=sizeLine)(he:∀x∈xs,∀l Q,Q (f x) (upd H D (.lst l))->te (some x::r) (upd H D (.lst l)) Q)
  (hn:∀v,E.nx (v::r) (upd H D (.lst (xs.map f)))):jc8 (Itl K a) (jdi 0) (jdy D te) E (none::r) (upd H D (.lst [])):=by
 have ne:a≠D:=jf ha hD
 refine jdm (xs:=xs) (λi σ H'=>∃v:Option V,σ=v::r/\H'=upd H D (.lst ((xs.take i).map f))) ⟨none,rfl,rfl⟩ ?_ ?_ ?_
 ·rintro i σ H' _ ⟨v,_,rfl⟩
  rw[jd ne];exact ha
 ·rintro i x σ H' hx ⟨v,rfl,rfl⟩
  have hl:i<xs.length:=(Ae.mp hx).1
  refine he x (Al hx) _ _ ⟨_,by rw[jb];rfl,by simp;omega,some x,rfl,?_⟩
  rw[jh3,Yg,hx]
  simp
 ·rintro σ H' ⟨v,rfl,rfl⟩
  rw[O7 (Ak _)]
  exact hn v
theorem jdz{K:PySem.W.Frag}{a:Addr}{xs:List V}(f:V->V)(ha:H a=some (.tup xs))(hD:H D=none)(hz:xs.length<=sizeLine)(he:∀x∈xs,∀l Q,Q (f x) (upd H D (.lst l))->te (some x::r) (upd H D (.lst l)) Q)
  (hn:∀v,E.nx (v::r) (upd H D (.lst (xs.map f)))):jc8 (Itt K a) (jdi 0) (jdy D te) E (none::r) (upd H D (.lst [])):=by
 have ne:a≠D:=jf ha hD
 refine jfg (xs:=xs) (λi σ H'=>∃v:Option V,σ=v::r/\H'=upd H D (.lst ((xs.take i).map f))) ⟨none,rfl,rfl⟩ ?_ ?_ ?_
 ·rintro i σ H' _ ⟨v,_,rfl⟩
  rw[jd ne];exact ha
 ·rintro i x σ H' hx ⟨v,rfl,rfl⟩
  have hl:i<xs.length:=(Ae.mp hx).1
  refine he x (Al hx) _ _ ⟨_,by rw[jb];rfl,by simp;omega,some x,rfl,?_⟩
  rw[jh3,Yg,hx]
  simp
 ·rintro σ H' ⟨v,rfl,rfl⟩
  rw[O7 (Ak _)]
  exact hn v
end
end L2
set_option autoImplicit true
set_option relaxedAutoImplicit true
namespace L2
open PySem PySem.Spec PyProof.Rows
structure QE(X:Cx)(e:Expr)(t:TE):Prop where
 h:PE X e t
structure QT(X:Cx)(e:Expr)(t:TT):Prop where
 h:PT X e t
structure QW(X:Cx)(e:Expr)(t:TT):Prop where
 h:PW X e t
structure QA(X:Cx)(es:List Expr)(t:TA):Prop where
 h:PA X es t
structure QS(X:Cx)(st:Stmt)(t:TS):Prop where
 h:PS X st t
structure QSs(X:Cx)(st:List Stmt)(t:TS):Prop where
 h:PSs X st t
structure QG(X:Cx)(e:Expr)(t:TG):Prop where
 h:PG X e t
structure QGs(X:Cx)(es:List Expr)(t:TGs):Prop where
 h:PGs X es t
structure QI(X:Cx)(tg iter:Expr)(wi:TI):Prop where
 h:PI X tg iter wi
structure QO(X:Cx)(e:Option Expr)(t:TO):Prop where
 h:PO X e t
structure QC(X:Cx)(op:CmpOp)(a b:Expr)(t:TE):Prop where
 h:PC X op a b t
theorem kg:QSs X [] jj8:=⟨pss_nil⟩
theorem jj(h1:QS X stm t):QSs X [stm] t:=⟨pss_one h1.h⟩
theorem je(h1:QS X stm t)(h2:QSs X rst u):QSs X (stm::rst) (tSeq t u):=⟨pss_cons h1.h h2.h⟩
theorem qpv(i:Nat){x:Str}{pos:Pos}(hN:X.N[i]?=some x:=by rfl)(hv:Vis X.env.scope x:=by first|exact Or.inl rfl|exact Or.inr (Or.inl rfl)|exact Or.inr (Or.inr rfl))
  (hd:(x == ("__debug__":Str))=false:=by decide) (hcd:(x == ("__classdict__":Str))=false:=by decide):QE X (.Name x pos) (tVar i):=⟨pv i hN hv hd hcd⟩
theorem jh:QE X (.Constant (.int i) j pos) (tC (.int i)):=⟨pe_int⟩
theorem zr:QE X (.Constant (.bool b) j pos) (tC (.bl b)):=⟨pe_bl⟩
theorem jbr:QE X (.Constant .none j pos) (tC .non):=⟨pe_non⟩
theorem jac:QE X (.Constant (.str x) j pos) (tC (.str x)):=⟨pe_str⟩
theorem jz(ho:OpR X (binaryOp op) r)(ha:QE X a ta)(hb:QE X b tb):QE X (.BinOp a op b pos) (tOp r ta tb):=⟨pe_op ho ha.h hb.h⟩
theorem jab(ho:OpR X (compareOp op) r)(ha:QE X a ta)(hb:QE X b tb)(hm:behindInMarks op b=false):QE X (.Compare a [op] [b] pos) (tOp r ta tb):=⟨pe_cmpR ho ha.h hb.h hm⟩
theorem j5(ho:OpR X (compareOp op) r)(ha:QE X a ta)(hb:QE X b tb)(hm:behindInMarks op b=false):QT X (.Compare a [op] [b] pos) (jka (tOp r ta tb)):=⟨pt_cmpR ho ha.h hb.h hm⟩
theorem ja9(h:QC X op a b t)(h1:behindInMarks op b=false:=by first|exact nobehind _ (by decide) (by decide)|rfl):QT X (.Compare a [op] [b] pos) (tB t):=⟨pt_cmp h.h h1⟩
theorem jal(hu:X.A.units+1<cLine)(hi:QE X i ty)(ho:QE X o td):QC X .NotIn i o (jf7 ty td):=⟨pc_dnotin hu hi.h ho.h⟩
theorem jba(ha:QT X a tA):QT X (.UnaryOp .Not a pos) (tNot tA):=⟨pt_not ha.h⟩
theorem QW.pt(h:QW X e t):QT X e t:=⟨PW.pt h.h⟩
theorem qpw_and(ha:QT X a tA)(hb:QW X (.BoolOp .And (b::rst) pos) tB'):QW X (.BoolOp .And (a::b::rst) pos) (tAnd tA tB'):=⟨pw_and ha.h hb.h⟩
theorem jbm(ha:QT X a tA)(hb:QW X (.BoolOp .Or (b::rst) pos) tB'):QW X (.BoolOp .Or (a::b::rst) pos) (tOr tA tB'):=⟨pw_or ha.h hb.h⟩
theorem qpw_and1(ha:QT X a tA):QW X (.BoolOp .And [a] pos) tA:=⟨pw_and1 ha.h⟩
theorem jbb(ha:QT X a tA):QW X (.BoolOp .Or [a] pos) tA:=⟨pw_or1 ha.h⟩
theorem jap{e:Expr}(h:QE X e t)(he:∀whole,isTrue e X.env whole=(do let v <-whole;standAt e.pos;holding [v] (truthy v)):=by intro _;rfl):QT X e (tB t):=⟨pt_val h.h he⟩
theorem qpe_one(h:QE X a t):QE X (.BoolOp op [a] pos) t:=⟨pe_one h.h⟩
theorem qpe_and(ha:QE X a ta)(hb:QE X (.BoolOp .And (b::rst) pos) tb):QE X (.BoolOp .And (a::b::rst) pos) (jj2 ta tb):=⟨pe_and ha.h hb.h⟩
theorem kx(h:QA X es t):QE X (.List es pos) (tLst t):=⟨pe_lst h.h⟩
theorem yq(h:QA X es t):QE X (.Tuple es x1 pos) (tTup t):=⟨pe_tup h.h⟩
theorem jby(hr:SlR X r)(he:QE X e te)(hl:QO X lw tl)(hu:QO X hi th):QE X (.Subscript e (.Slice lw hi none p2) pos) (tSl r te tl th):=⟨pe_slice hr he.h hl.h hu.h⟩
theorem jb8:QO X none jga:=⟨po_none⟩
theorem jb9(h:QE X e te):QO X (some e) (jj9 te):=⟨po_some h.h⟩
theorem jo(hr:IxR X r)(ha:QE X a ta)(hb:QE X b tb)(hs:jma b):QE X (.Subscript a b pos) (tOp r ta tb):=⟨pe_ix hr ha.h hb.h hs⟩
theorem qpe_disp1(hu:X.A.units+1<cLine)(hk:QE X k tk)(hv:QE X v tv):QE X (.Dict [some k] [v] pos) (jh1 tk tv):=⟨pe_disp1 hu hk.h hv.h⟩
theorem yp(hc:X.calm=true)(c:CompOk X scope Nc js)(hi:QI X tg iter wi)(hg:∀C s3 H3 fp,QG (X.comp scope C Nc s3 H3 fp) tg g)(he:∀C s3 H3 fp,QE (X.comp scope C Nc s3 H3 fp) elt te)
  (hs:∀x,foldedSetIterable iter X.env x=pure x:=by intro _;rfl):QE X (.ListComp elt [⟨tg,iter,[],0⟩] scope pos) (jf6 wi g js te):=⟨pe_comp hc c hi.h (λC s H f=>(hg C s H f).h) (λC s H f=>(he C s H f).h) hs⟩
theorem jad{i:Nat}{y:Str}{py spos:Pos}(hN:X.N.Nodup)(hiN:X.N[i]?=some y)(hy:Loc X.env.scope y)(hc:X.calm=true)(c:CompOk X scope Nc js)(hi:QI X tg iter wi)(hg:∀C s3 H3 fp,QG (X.comp scope C Nc s3 H3 fp) tg g)
  (he:∀C s3 H3 fp,QE (X.comp scope C Nc s3 H3 fp) elt te) (hsw:swapsWith (.ListComp elt [⟨tg,iter,[],0⟩] scope pos) (some (.Name y py)) spos.line X.env=pure true:=by rfl)
  (hs:∀x,foldedSetIterable iter X.env x=pure x:=by intro _;rfl) (hf:X.fn y=true\/X.env.scope.names.lookup y=some .local:=by first|exact .inl rfl|exact .inr rfl|assumption) :
  QS X (.Assign [.Name y py] (.ListComp elt [⟨tg,iter,[],0⟩] scope pos) spos) (tAsg (jf6 wi g js te) (jdi i)):=⟨ps_setc hN hiN hy hc c hi.h (λC s H f=>(hg C s H f).h) (λC s H f=>(he C s H f).h) hsw hs hf⟩
theorem ju(F:FnOk X.prog X.w X.K X.mg X.base CX k f fd ps sp)(hr:Room k X.A)(hg:Gl X x)(hm:X.mg x=some (.ref f))(hk:PySem.W.keepIn X.K (.ref f)=true)(hb:Binds X.K fd ps ds)(hd:Vals dvs ds)(hx:jg3 CX X E)
  (ha:QA X (e::es) t) (hdb:(x == ("__debug__":Str))=false:=by decide) (he:starEach (e::es) X.env=(false,eval e X.env)::starEach es X.env:=by rfl) (hpl:(backTo pos (starEach es X.env)).any (·.1)=false:=by rfl) :
  QE X (.Call (.Name x p) (e::es) [] pos) (jj4 sp dvs E t):=⟨pe_call F hr hg hm hk hb hd hx ha.h hdb he hpl⟩
theorem jv(hc:jc0 X (.type T) r)(hg:Gl X x)(hm:X.mg x=none)(hv:bootBuiltins x=some (.type T))(ha:QA X (e::es) t)(hn:x≠"__name__":=by decide)(hdb:(x == ("__debug__":Str))=false:=by decide)
  (he:starEach (e::es) X.env=(false,eval e X.env)::starEach es X.env:=by rfl) (hpl:(backTo pos (starEach es X.env)).any (·.1)=false:=by rfl):QE X (.Call (.Name x p) (e::es) [] pos) (tCB r t):=⟨pe_callTy hc hg hm hv ha.h hn hdb he hpl⟩
theorem jt(hc:jc0 X (.builtin idn) r)(hg:Gl X x)(hm:X.mg x=none)(hv:bootBuiltins x=some (.builtin idn))(ha:QA X (e::es) t)(hn:x≠"__name__":=by decide)(hdb:(x == ("__debug__":Str))=false:=by decide)
  (he:starEach (e::es) X.env=(false,eval e X.env)::starEach es X.env:=by rfl) (hpl:(backTo pos (starEach es X.env)).any (·.1)=false:=by rfl):QE X (.Call (.Name x p) (e::es) [] pos) (tCB r t):=⟨pe_callB hc hg hm hv ha.h hn hdb he hpl⟩
theorem ko(slot:Slot "list" name idn)(hty:typeOf (.builtin idn)=pure (.type "method_descriptor"))(hm:MtM X idn r)(ho:QE X o to)(ha:QA X (e::es) t)(mono:∀σ H Q Q',(∀v H',Q v H'->Q' v H')->to σ H Q->to σ H Q')
  (hbase:attributeBase o name X.env (eval o X.env)=eval o X.env:=by rfl)
  (hfew:((backTo cpos (starEach (e::es) X.env)).all (λx=>!x.1) && (backToKw cpos (keywordEach [] X.env)).all (λx=>x.1.isSome)
   && decide ((e::es).length+([]:List Keyword).length+(if([]:List Keyword).isEmpty then 0 else 1)<30))=true:=by rfl)
  (hline:(apos.endLine == cpos.line)=true:=by rfl) (hs:starEach (e::es) X.env=(false,eval e X.env)::starEach es X.env:=by rfl) (hplain:(backTo cpos (starEach es X.env)).any (·.1)=false:=by rfl) :
  QE X (.Call (.Attribute o name apos) (e::es) [] cpos) (tBML r to t):=⟨pe_bmL slot hty hm ho.h ha.h mono hbase hfew hline hs hplain⟩
theorem qpe_bmL0(slot:Slot "list" name idn)(hty:typeOf (.builtin idn)=pure (.type "method_descriptor"))(hm:MtM X idn r)(ho:QE X o to)(mono:∀σ H Q Q',(∀v H',Q v H'->Q' v H')->to σ H Q->to σ H Q')
  (hbase:attributeBase o name X.env (eval o X.env)=eval o X.env:=by rfl) (hline:(apos.endLine == cpos.line)=true:=by rfl):QE X (.Call (.Attribute o name apos) [] [] cpos) (jj3 r to):=⟨pe_bmL0 slot hty hm ho.h mono hbase hline⟩
theorem jc:QA X [] tNil:=⟨jb3⟩
theorem ja(ha:QE X e te)(hr:QA X es t)(hs:starEach (e::es) X.env=(false,eval e X.env)::starEach es X.env:=by rfl):QA X (e::es) (jew te t):=⟨jbq ha.h hr.h hs⟩
theorem jr{i:Nat}{x:Str}(hN:X.N.Nodup)(hi:X.N[i]?=some x)(hx:Loc X.env.scope x)(hf:X.fn x=true\/X.env.scope.names.lookup x=some .local:=by first|exact .inl rfl|exact .inr rfl|assumption):QG X (.Name x pos) (jdi i):=⟨pg_name hN hi hx hf⟩
theorem ja8{es:List Expr}{t:TGs}{n:Nat}{K:PySem.W.Frag}(hc:X.calm=true)(h:QGs X es t)(hK:X.K=K)(hn:(assignEach es X.env).length=n:=by rfl)(hst:(assignEach es X.env).findIdx? (·.1)=none:=by rfl) :
  QG X (.Tuple es k pos) (gTup K n t):=by subst hK;exact⟨pg_tup hc h.h hn hst⟩
theorem ja0:QGs X [] gNil:=⟨pgs_nil⟩
theorem zg{e:Expr}{es:List Expr}(h1:QG X e t)(h2:QGs X es u)(hs:(assignEach (e::es) X.env).map (·.2)=assign e X.env::(assignEach es X.env).map (·.2):=by rfl):QGs X (e::es) (jqv t u):=⟨pgs_cons h1.h h2.h hs⟩
theorem jav{o i:Expr}(ho:QE X o to)(hi:QE X i ti)(hs:PSet X t)
  (ha:∀v,assign (.Subscript o i pos) X.env v=(do
   let ov <-holding [v] (eval o X.env)
   let iv <-holding [v,ov] (eval i X.env)
   standAt pos
   holding [v,ov,iv] (setItem ov iv v)
   release [v,ov,iv] []):=by intro _;rfl):QG X (.Subscript o i pos) (gSub to ti t):=⟨pg_sub ho.h hi.h hs ha⟩
theorem jq{i:Nat}{x:Str}{e:Expr}{te:TE}{pos':Pos}(hN:X.N.Nodup)(hi:X.N[i]?=some x)(hx:Loc X.env.scope x)(he:QE X e te)(hs:swapsWith e (some (.Name x pos')) pos.line X.env=pure false:=by rfl)
  (hf:X.fn x=true\/X.env.scope.names.lookup x=some .local:=by first|exact .inl rfl|exact .inr rfl|assumption):QS X (.Assign [.Name x pos'] e pos) (tAsg te (jdi i)):=⟨ps_set hN hi hx he.h hs hf⟩
theorem jao{tg e:Expr}(he:QE X e te)(hg:QG X tg g)(hs:swapsWithSole [tg] e pos.line X.env=pure false:=by rfl)(hw:swappedStores [tg] e X.env=pure none:=by rfl)
  (h1:(assignEach [tg] X.env).map (·.2)=[assign tg X.env]:=by rfl):QS X (.Assign [tg] e pos) (tAsg te g):=⟨ps_asg he.h hg.h hs hw h1⟩
theorem qps_aug{i:Nat}{x:Str}{e:Expr}{te:TE}{op:Operator}{ti:TIp}{pos':Pos}(hN:X.N.Nodup)(hi:X.N[i]?=some x)(hx:Loc X.env.scope x)(he:QE X e te)(ho:PIp X op ti)
  (hf:X.fn x=true\/X.env.scope.names.lookup x=some .local:=by first|exact .inl rfl|exact .inr rfl|assumption):QS X (.AugAssign (.Name x pos') op e pos) (tAug i te ti):=⟨ps_aug hN hi hx he.h ho hf⟩
theorem jbg(hu:X.A.units+1<cLine)(ho:QE X o td)(hi:QE X i ty)(hv:QE X value tv)(hs:swapsWith value (some (.Subscript o i pos')) pos.line X.env=pure false) :
  QS X (.Assign [.Subscript o i pos'] value pos) (jj1 td ty tv):=⟨ps_dput hu ho.h hi.h hv.h hs⟩
theorem j3(he:QE X e te):QS X (.Return (some e) pos) (tRet te):=⟨ps_ret he.h⟩
theorem kj(he:QE X e te)(hs:swapsWith e none pos.line X.env=pure false:=by rfl):QS X (.Expr e pos) (jj7 te):=⟨ps_expr he.h hs⟩
theorem yf(hc:QT X c tc)(ha:QSs X a t)(hb:QSs X b u):QS X (.If c a b pos) (tIfS tc t u):=⟨ps_if hc.h ha.h hb.h⟩
theorem yc{iter:Expr}(hp:PassesOwn (model X.prog X.w) X.A X.env X.xe)(hc:X.calm=true)(hi:QI X tg iter wi)(hg:QG X tg g)(hb:QSs X body tb)(hs:∀x,foldedSetIterable iter X.env x=pure x:=by intro _;rfl) :
  QS X (.For tg iter body [] pos) (tFor wi g tb):=⟨ps_for hp hc hi.h hg.h hb.h hs⟩
theorem zy(hp:PassesOwn (model X.prog X.w) X.A X.env X.xe)(hc:QT X c tc)(hb:QSs X body tb):QS X (.While c body [] pos) (jh2 tc tb):=⟨ps_while hp hc.h hb.h⟩
theorem qps_continue:QS X (.Continue pos) jj5:=⟨ps_continue⟩
theorem yg{a:Expr}{ta:TA}{p pos:Pos}(hg:Gl X "range")(hm:X.mg "range"=none)(ha:QA X [a] ta)(hs:starEach [a] X.env=[(false,eval a X.env)]:=by rfl):QI X tg (.Call (.Name "range" p) [a] [] pos) (jjw ta):=⟨pi_range1 hg hm ha.h hs⟩
theorem qpi_enumerate{a:Expr}{ta:TA}{p pos tpos:Pos}(hg:Gl X "enumerate")(hm:X.mg "enumerate"=none)(ha:QA X [a] ta)(hs:starEach [a] X.env=[(false,eval a X.env)]:=by rfl) :
  QI X (.Tuple elts kk tpos) (.Call (.Name "enumerate" p) [a] [] pos) (jhf ta):=⟨pi_enumerate hg hm ha.h hs⟩
theorem kh{K:PySem.W.Frag}(hl:QE X l tl)(hK:X.K=K):QI X tg l (iAny K tl):=by subst hK;exact⟨pi_any hl.h⟩
def jf9(D:Addr)(tt:TT)(te:TE):TS:=λE σ H=>tt σ H λb H1=>if b=true then jdy D te E σ H1 else E.nx σ H1
def jei(wi:TI)(g:TG)(js:List (Option Nat))(tt:TT)(te:TE):TE:=λσ H Q=>wi σ H λJ H1=>∀D,H1 D=none ->
 jc8 J g (jf9 D tt te) {nx:=λ_ H'=>Q (.ref D) H',rt:=λ_ _=>False} (jdv js σ) (upd H1 D (.lst []))
theorem jko(elt target iter cd:Expr)(scope:Scope)(pos:Pos)(it acc:Value)(env:Env) :
  compTurn (.ListComp elt [⟨target,iter,[cd],0⟩] scope pos) 0 it acc env=(standAt iter.pos >>= λ_=>pyNext it >>= λr=>match r with
   |none=>pure (.done .next)
   |some v=>letOwnedTupleGo target it v >>= λ_=>assign target env v >>= λ_ =>
    (forIn [cd] true λc ok=>if ok=true then(isTrue c env (eval c env) >>= λb=>pure (ForInStep.yield b))else pure (ForInStep.yield ok)) >>= λok =>
    if ok=true then((eval elt env >>= λx=>call (.builtin "list.append") [acc,x] >>= λ_=>pure ()) >>= λ_=>again (.compLoop (.ListComp elt [⟨target,iter,[cd],0⟩] scope pos) 0 it acc env))
    else again (.compLoop (.ListComp elt [⟨target,iter,[cd],0⟩] scope pos) 0 it acc env)):=by rfl
section
variable{X:Cx}{scope:Scope}{Nc:List Str}{js:List (Option Nat)}{elt tg iter cd:Expr}{pos:Pos}{wi:TI}{g:TG}{te:TE}{tt:TT}
theorem jge(hc:X.calm=true)(c:CompOk X scope Nc js)(hi:PI X tg iter wi)(hg:∀C s3 H3 fp,PG (X.comp scope C Nc s3 H3 fp) tg g)(ht:∀C s3 H3 fp,PT (X.comp scope C Nc s3 H3 fp) cd tt)(he:∀C s3 H3 fp,PE (X.comp scope C Nc s3 H3 fp) elt te)
  {pins:List (Addr×Obj)}{s:Shared}{σ:L2.St}{H:Hp} (I:Inv X pins σ H s) {RR:Value->Addr->Result->Shared->Prop}{NX:Addr->Hp->Prop}
  (h:wi σ H λJ H1=>∀D,H1 D=none->jc8 J g (jf9 D tt te) {nx:=λ_ H'=>NX D H',rt:=λ_ _=>False} (jdv js σ) (upd H1 D (.lst [])))
  (fin:∀D H3 s3 fp σ5 H5 s6,Inv X pins σ H3 s3->(∀b∈fp,FpOk X pins H3 b)->Inv (X.comp scope s3.heap.objs.size Nc s3 H3 fp) [] σ5 H5 s6->NX D H5->RR (.ref D) s3.heap.objs.size (.ok .next) s6) :
  wpAny (model X.prog X.w) X.A (eval iter X.env) (λx s₁=>wpAny (model X.prog X.w) X.A (pyIter x) (λit s₂=>wpAny (model X.prog X.w) X.A (newList []) (λacc s₃ =>
   wpAny (model X.prog X.w) X.A (newFunctionEnv scope X.env.globals (clOf X.env scope.names []) [] X.env.qual none .none (some X.env)) (λcenv s₄ =>
    codeAny (model X.prog X.w) X.A (.compStart (.ListComp elt [⟨tg,iter,[cd],0⟩] scope pos) 0 it acc {cenv with scope:=relabel scope X.env}) (RR acc cenv.locals) s₄) X.xe s₃) X.xe s₂) X.xe s₁) X.xe s:=by
 refine thn (hi pins s σ H _ I h) λv s1 h1=>thn h1 λitv s2 h2=>?_
 obtain⟨it,fp,tn,J,H2,rfl,I2,T,st2,f2,h2⟩:=h2
 refine Oh ?_ (by show 0<=sizeLine;decide)
 have hD:H2 s2.heap.objs.size=none:=I2.hok.fresh (Ak _)
 have I3:Inv X pins σ (upd H2 s2.heap.objs.size (.lst [])) {s2 with heap:=s2.heap.push {cls:=.type "list",data:=.seq ([]:List Value).toArray}} :=
  I2.laid (t':=s2.toks) (λb u e=>Ai _ e) (Ak _) ⟨by show 0<=sizeLine;decide,[],0,.nil,A1 _ rfl⟩
 have f3:∀b∈fp,FpOk X pins (upd H2 s2.heap.objs.size (.lst [])) b:=λb hb=>by
  obtain⟨q0,q⟩:=f2 b hb
  obtain⟨o,e,_⟩:=T.obj _ _ st2 b hb
  exact⟨by rw[jd (Ax (At e))];exact q0,q⟩
 have o3:∀b∈fp,∃o,(s2.heap.push {cls:=.type "list",data:=.seq ([]:List Value).toArray}).get? b=some o:=λb hb=>by
  obtain⟨o,e,_⟩:=T.obj _ _ st2 b hb
  exact⟨o,Ai _ e⟩
 have st3:tn 0 (s2.heap.push {cls:=.type "list",data:=.seq ([]:List Value).toArray}):=T.keep _ _ _ st2 λb _ o e=>Ai _ e
 generalize hh3:s2.heap.push {cls:=.type "list",data:=.seq ([]:List Value).toArray}=h3 at I3 o3 st3⊢
 refine Y1 c.nocell (by intro y hy;simp at hy) (λh4 hn4 hs4=>?_) c.kind
 have k4:∀b o,h3.get? b=some o->h4.get? b=some o:=λb o e=>(hs4.2 b (Ax (At e))).trans (Ai _ e)
 have I4:=jkp (tk:=s2.toks+([]:List (Str×Value)).length) c I3 f3 o3 hn4 k4
 have st4:tn 0 h4:=T.keep _ _ _ st3 λb _ o e=>k4 b o e
 obtain⟨W,⟨m0,w0⟩,turn⟩:=h2 _ hD
 let s3:Shared:={s2 with heap:=h3}
 let Y:Cx:=X.comp scope h3.objs.size Nc s3 (upd H2 s2.heap.objs.size (.lst [])) fp
 have stat:∀{H':Hp},(∀b∈fp,H' b=none)->∀b∈fp,FpOk Y [] H' b:=λhn b hb=>⟨hn b hb,(I4.ok.exf b hb).1,I4.ok.exfs b hb,.inl hb,(I4.ok.exf b hb).2,(λp hp=>nomatch hp)⟩
 have loop:codeAny (model X.prog X.w) X.A (.compLoop (.ListComp elt [⟨tg,iter,[cd],0⟩] scope pos) 0 (.ref it) (.ref s2.heap.objs.size) Y.env)
   (RR (.ref s2.heap.objs.size) h3.objs.size) {s2 with heap:=h4,toks:=s2.toks+([]:List (Str×Value)).length}:=by
  refine codeAny_loop rfl (λn s'=>∃i σ' H',Inv Y [] σ' H' s'/\tn i s'.heap/\(∀b∈fp,H' b=none)/\W i n σ' H') (λn s5 hI=>?_) m0 ⟨0,_,_,I4,st4,λb hb=>(f3 b hb).1,w0⟩
  obtain⟨i,σ5,H5,I5,st5,fr5,w5⟩:=hI
  show wpAny _ X.A ((compTurn (.ListComp elt [⟨tg,iter,[cd],0⟩] scope pos) 0 (.ref it) (.ref s2.heap.objs.size) Y.env).onRaise (λx=>do noteFrame x Y.env;theTreesLotGoes x)) _ _ s5
  refine wpAny_noted (Ur (E:=λ_ _=>False) ?_ (λ_ _ q=>q) λ_ _ z=>z.elim)
  rw[jko]
  refine Ab (W6 (Ab ?_))
  rcases turn i n σ5 H5 w5 with⟨stop,qn⟩|⟨go,N,hN,step⟩
  ·refine thn (T.done Y rfl rfl rfl hc i [] s5 σ5 H5 _ I5 (stat fr5) st5 stop) λr s6 ⟨hr,I6⟩=>?_
   subst hr
   refine Ah ?_
   exact fin _ _ s3 fp σ5 H5 s6 I3 f3 I6 qn
  ·refine thn (T.item Y rfl rfl rfl hc i [] s5 σ5 H5 _ I5 (stat fr5) st5 go) λr s6 ⟨u,hr,h6⟩=>?_
   subst hr
   refine Ab (thn h6 λ_ s7 ⟨x,H7,I7,r7,y7,st7,fr7⟩=>?_)
   have I7':=I7.pinned (stat fr7) (T.obj _ _ st7)
   refine Ab (thn (hg _ _ _ _ _ s7 σ5 H7 x u _ I7' r7 (step x H7 y7)) λ_ s8 ⟨σ8,H8,I8,q8⟩=>?_)
   have fin2:∀{H':Hp}{s':Shared},Inv Y ([]++jfp fp s7.heap) σ8 H' s'->N σ8 H'->∃m,m<n/\∃i σ1 H1,Inv Y [] σ1 H1 s'/\tn i s'.heap/\(∀b∈fp,H1 b=none)/\W i m σ1 H1:=fun{H'}{s'} I10 n10=>by
    obtain⟨m',hm,w10⟩:=hN σ8 H' n10
    refine⟨m',hm,i+1,σ8,H',I10.unpinned,T.keep _ _ _ st7 λb hb o e=>(I10.pin (b,o) (Io _ (Io _ (jdt hb e)))).1,λb hb=>?_,w10⟩
    obtain⟨o,e,d⟩:=T.obj _ _ st7 b hb
    exact(I10.pin (b,o) (Io _ (Io _ (jdt hb e)))).2.1
   rw[List.forIn_cons,Ao rfl]
   refine Ab (Ab (Ab (thn (ht _ _ _ _ _ s8 σ8 H8 _ I8 q8) λok s9 ⟨H9,I9,q9⟩=>Ah ?_)))
   simp only[List.forIn_nil]
   refine Ah ?_
   cases ok with
   |false =>
    simp only[Ia,Ob]at q9⊢
    exact Ah ⟨rfl,fin2 I9 q9⟩
   |true =>
    simp only[O0]at q9⊢
    refine Ab (Ab (thn (he _ _ _ _ _ s9 σ8 H9 _ I9 q9) λv s10 ⟨y,H10,I10,r10,ys,e10,z10,n10⟩=>?_))
    refine Ab (thn (ja4 (X:=Y) _ s10 σ8 H10 (.ref s2.heap.objs.size) [y] (.ref s2.heap.objs.size) [v] (λw H'=>N σ8 H') I10 rfl (.cons r10 .nil) ⟨_,ys,y,rfl,rfl,jc2 e10,z10,n10⟩) λw s11 ⟨_,H11,I11,_,n11⟩=>?_)
    exact Ah (Ah ⟨rfl,fin2 I11 n11⟩)
 exact codeAny_compStart_list loop (T.self _ 0 _ _ _ st4 loop)
theorem pe_compIf(hc:X.calm=true)(c:CompOk X scope Nc js)(hi:PI X tg iter wi)(hg:∀C s3 H3 fp,PG (X.comp scope C Nc s3 H3 fp) tg g)(ht:∀C s3 H3 fp,PT (X.comp scope C Nc s3 H3 fp) cd tt)(he:∀C s3 H3 fp,PE (X.comp scope C Nc s3 H3 fp) elt te)
  (hs:∀x,foldedSetIterable iter X.env x=pure x:=by intro _;rfl):PE X (.ListComp elt [⟨tg,iter,[cd],0⟩] scope pos) (jei wi g js tt te):=by
 intro pins s σ H Q I h
 rw[eval_ListComp]
 refine Wf (use:=none) (g:=⟨tg,iter,[cd],0⟩) (gs:=[]) rfl hs (jee (c.has I)) c.kind c.loc
  (jge (RR:=λacc C=>compPost (model X.prog X.w) X.A X.xe none (EP X pins σ Q) acc C) (NX:=λD H'=>Q (.ref D) H') hc c hi hg ht he I h λD H3 s3 fp σ5 H5 s6 I3 f3 I6 qn=>?_)
 obtain⟨m,hn,_⟩:=I6.loc
 exact⟨m,hn,λh' hs'=>⟨.ref D,H5,jef I3 f3 I6 hs',rfl,qn⟩⟩
theorem ps_setcIf{i:Nat}{y:Str}{py spos:Pos}(hN:X.N.Nodup)(hiN:X.N[i]?=some y)(hy:Loc X.env.scope y)(hc:X.calm=true)(c:CompOk X scope Nc js)(hi:PI X tg iter wi)(hg:∀C s3 H3 fp,PG (X.comp scope C Nc s3 H3 fp) tg g)
  (ht:∀C s3 H3 fp,PT (X.comp scope C Nc s3 H3 fp) cd tt) (he:∀C s3 H3 fp,PE (X.comp scope C Nc s3 H3 fp) elt te) (hsw:swapsWith (.ListComp elt [⟨tg,iter,[cd],0⟩] scope pos) (some (.Name y py)) spos.line X.env=pure true:=by rfl)
  (hs:∀x,foldedSetIterable iter X.env x=pure x:=by intro _;rfl) (hf:X.fn y=true\/X.env.scope.names.lookup y=some .local:=by first|exact .inl rfl|exact .inr rfl|assumption) :
  PS X (.Assign [.Name y py] (.ListComp elt [⟨tg,iter,[cd],0⟩] scope pos) spos) (tAsg (jei wi g js tt te) (jdi i)):=by
 intro pins s σ H D I h
 rw[exec_Assign_Name_used _ _ _ _ hsw]
 refine Ab (W6 (Ab ?_))
 show wpAny _ X.A (do let _ <-comprehension (.ListComp elt [⟨tg,iter,[cd],0⟩] scope pos) scope X.env _ (newList []) false (eval iter X.env) (some (assign (.Name y py) X.env))) _ _ s
 refine Ab (Ur (Wf (use:=some (assign (.Name y py) X.env)) (g:=⟨tg,iter,[cd],0⟩) (gs:=[]) (Q:=λ_ s'=>SP X pins D .next s') rfl hs (jee (c.has I)) c.kind c.loc
  (jge (RR:=λacc C=>compPost (model X.prog X.w) X.A X.xe (some (assign (.Name y py) X.env)) (λ_ s'=>SP X pins D .next s') acc C) (NX:=λDa H'=>D.nx (σ.set i (some (.ref Da))) H') hc c hi hg ht he I h λDa H3 s3 fp σ5 H5 s6 I3 f3 I6 qn=>?_))
  (λ_ s' hq=>Ah (Ah hq)) λ_ _ e=>e)
 obtain⟨m,hn,_⟩:=id I6.loc
 have I7:Inv X pins σ H5 s6:=jef I3 f3 I6 (.refl ..)
 have hC:H5 s3.heap.objs.size=none:=I6.free
 have nL:s3.heap.objs.size≠X.env.locals:=Wc I3.lt
 have nc:∀x a,X.env.cells.lookup x=some a->a≠s3.heap.objs.size:=λx a e=>by
  obtain⟨v,q⟩:=I3.cell x a e
  exact Ax q.lt
 have np:∀p∈X.pn++pins,p.1≠s3.heap.objs.size:=λp hp=>Ax (At (I3.pin p hp).1)
 show wpAny _ _ (assign (.Name y py) X.env (.ref Da)) _ _ _
 refine wpAny_assign_Name (jfz (v:=.ref Da) I7 hN hiN hy rfl (λs8 I8 hb=>?_) hf)
 obtain⟨a,hs8,ha⟩:=hb
 have nCa:s3.heap.objs.size≠a:=by
  rcases ha with z|z
  ·rw[z];exact nL
  ·exact(nc y a z).symm
 refine⟨m,hn.sameBut hs8 nCa,λh9 hs9=>?_⟩
 exact⟨_,H5,I8.turned (t':=s8.toks) (λb o hb e=>(hs9.2 b hb).trans e) hC nL (.inr (Im I3.sz (Ak _))) nc np,qn⟩
theorem jbk(hc:X.calm=true)(c:CompOk X scope Nc js)(hi:QI X tg iter wi)(hg:∀C s3 H3 fp,QG (X.comp scope C Nc s3 H3 fp) tg g)(ht:∀C s3 H3 fp,QT (X.comp scope C Nc s3 H3 fp) cd tt)(he:∀C s3 H3 fp,QE (X.comp scope C Nc s3 H3 fp) elt te)
  (hs:∀x,foldedSetIterable iter X.env x=pure x:=by intro _;rfl):QE X (.ListComp elt [⟨tg,iter,[cd],0⟩] scope pos) (jei wi g js tt te) :=
 ⟨pe_compIf hc c hi.h (λC s H f=>(hg C s H f).h) (λC s H f=>(ht C s H f).h) (λC s H f=>(he C s H f).h) hs⟩
theorem qps_setcIf{i:Nat}{y:Str}{py spos:Pos}(hN:X.N.Nodup)(hiN:X.N[i]?=some y)(hy:Loc X.env.scope y)(hc:X.calm=true)(c:CompOk X scope Nc js)(hi:QI X tg iter wi)(hg:∀C s3 H3 fp,QG (X.comp scope C Nc s3 H3 fp) tg g)
  (ht:∀C s3 H3 fp,QT (X.comp scope C Nc s3 H3 fp) cd tt) (he:∀C s3 H3 fp,QE (X.comp scope C Nc s3 H3 fp) elt te) (hsw:swapsWith (.ListComp elt [⟨tg,iter,[cd],0⟩] scope pos) (some (.Name y py)) spos.line X.env=pure true:=by rfl)
  (hs:∀x,foldedSetIterable iter X.env x=pure x:=by intro _;rfl) (hf:X.fn y=true\/X.env.scope.names.lookup y=some .local:=by first|exact .inl rfl|exact .inr rfl|assumption) :
  QS X (.Assign [.Name y py] (.ListComp elt [⟨tg,iter,[cd],0⟩] scope pos) spos) (tAsg (jei wi g js tt te) (jdi i)) :=
 ⟨ps_setcIf hN hiN hy hc c hi.h (λC s H f=>(hg C s H f).h) (λC s H f=>(ht C s H f).h) (λC s H f=>(he C s H f).h) hsw hs hf⟩
end
section
variable{D:Addr}{te:TE}{tt:TT}{E:Ends}{r:L2.St}{H:Hp}
theorem jiv{α:Type}(p:α->Bool)(f:α->V)(xs:List α)(i:Nat)(x:α)(h:xs[i]?=some x):((xs.take (i+1)).filter p).map f=((xs.take i).filter p).map f++(if p x=true then[f x]else[]):=by
 rw[Yg,h]
 simp only[Option.toList_some,Aac,A3]
 congr 1
 by_cases q:p x=true
 ·simp[q]
 ·simp[q]
theorem jfm{lo:Int}{n:Nat}(p:Nat->Bool)(f:Nat->V)(hz:n<=sizeLine)
  (ht:∀i,i<n->∀l Q,Q (p i) (upd H D (.lst l))->tt (some (.int (lo+(i:Nat)))::r) (upd H D (.lst l)) Q) (he:∀i,i<n->p i=true->∀l Q,Q (f i) (upd H D (.lst l))->te (some (.int (lo+(i:Nat)))::r) (upd H D (.lst l)) Q)
  (hn:∀v,E.nx (v::r) (upd H D (.lst (((List.range n).filter p).map f)))):jc8 (Itr lo n) (jdi 0) (jf9 D tt te) E (none::r) (upd H D (.lst [])):=by
 refine jcw (λi σ H'=>∃v:Option V,σ=v::r/\H'=upd H D (.lst (((List.range i).filter p).map f))) ⟨none,rfl,rfl⟩ ?_ ?_
 ·rintro i σ H' hi ⟨v,rfl,rfl⟩
  have hf:(((List.range i).filter p).map f).length<=i:=by
   rw[Ad]
   exact Im (Ud _ _) (by rw[Az];omega)
  refine ht i hi _ _ ?_
  by_cases q:p i=true
  ·rw[q,Ao rfl]
   refine he i hi q _ _ ⟨_,by rw[jb];rfl,by omega,some (.int (lo+(i:Nat))),rfl,?_⟩
   rw[jh3,Ub]
   simp[q]
  ·rw[Am q]
   refine⟨some (.int (lo+(i:Nat))),rfl,?_⟩
   rw[Ub]
   simp[q]
 ·rintro σ H' ⟨v,rfl,rfl⟩
  exact hn v
end
section
variable{X:Cx}
def rTru(x:V)(H:Hp)(Q:Bool->Hp->Prop):Prop:=match x with
 |.bl b=>Q b H
 |.int i=>Q (i != 0) H
 |.non=>Q false H
 |.str y=>y.length<=sizeLine/\Q ((y.length:Int) != 0) H
 |.ref p=>∃xs,jda (H p)=some xs/\Q (!xs.isEmpty) H
 |_=>False
def tTru(ta:TE):TT:=λσ H Q=>ta σ H λx H1=>rTru x H1 Q
theorem jfi(p:Addr)(H:Hp)(Q:Bool->Hp->Prop):rTru (.ref p) H Q=(∃xs,jda (H p)=some xs/\Q (!xs.isEmpty) H):=rfl
theorem jm4(b:Bool)(H:Hp)(Q:Bool->Hp->Prop):rTru (.bl b) H Q=Q b H:=rfl
theorem jlk(y:Str)(H:Hp)(Q:Bool->Hp->Prop):rTru (.str y) H Q=(y.length<=sizeLine/\Q ((y.length:Int) != 0) H):=rfl
theorem pt_tru{a:Expr}{ta:TE}(ha:PE X a ta)(he:∀whole,isTrue a X.env whole=(do let v <-whole;standAt a.pos;holding [v] (truthy v)):=by intro _;rfl):PT X a (tTru ta):=by
 intro pins s σ H Q I h
 refine isTrue_plain (thn (ha pins s σ H _ I h) λv s1 ⟨x,H1,I1,r1,q1⟩=>jsx pins s1 σ H1 x v Q I1 r1 ?_) (he _)
 replace q1:rTru x H1 Q:=q1
 unfold rTru at q1
 split at q1
 ·exact⟨_,rfl,q1⟩
 ·exact⟨_,rfl,q1⟩
 ·exact⟨_,rfl,q1⟩
 ·exact⟨_,⟨q1.1,rfl⟩,q1.2⟩
 ·obtain⟨xs,e,q⟩:=q1
  rcases jfh e with e|e
  ·exact⟨_,.inl ⟨xs,SqL.of e,rfl⟩,q⟩
  ·exact⟨_,.inr (.inl ⟨xs,SqT.of e,rfl⟩),q⟩
 ·exact q1.elim
def jlh:V->List V->Hp->VK->Prop:=λx vs H Q=>match x,vs with
 |.ref l,[]=>∃xs,jcx (H l)=some xs/\∃y,xs[xs.length-1]?=some y/\Q y (upd H l (.lst xs.dropLast))
 |_,_=>False
theorem jhq(l:Addr)(H:Hp)(Q:VK):jlh (.ref l) [] H Q=(∃xs,jcx (H l)=some xs/\∃y,xs[xs.length-1]?=some y/\Q y (upd H l (.lst xs.dropLast))):=rfl
theorem mt_pop0U:MtM X "list.pop" jlh:=by
 intro pins s σ H x vs v us Q I rx rv h
 unfold jlh at h
 split at h
 ·rename_i l
  obtain⟨xs,e,y,hy,q⟩:=h
  exact mt_pop pins s σ H _ _ v us Q I rx rv ⟨l,xs,y,rfl,rfl,jc2 e,hy,q⟩
 ·exact h.elim
end
def tMid(t u:TS):TS:=λD σ H=>∃J:L2.St->Hp->Prop,t {D with nx:=J} σ H/\∀σ H,J σ H->u D σ H
theorem pss_mid{X:Cx}{st:Stmt}{rest:List Stmt}{t u:TS}(h1:PS X st t)(h2:PSs X rest u):PSs X (st::rest) (tMid t u):=by
 intro pins s σ H D I h
 obtain⟨J,h,hJ⟩:=h
 refine wpAny_execs_cons (thn (h1 pins s σ H {D with nx:=J} I h) λf s1 q=>?_)
 cases f with
 |next =>
  obtain⟨σ1,H1,I1,q1⟩:=q
  exact h2 pins s1 σ1 H1 D I1 (hJ _ _ q1)
 |ret v=>exact q
 |brk=>exact q
 |cont=>exact q
theorem yh{X:Cx}{st:Stmt}{rest:List Stmt}{t u:TS}(h1:QS X st t)(h2:QSs X rest u):QSs X (st::rest) (tMid t u):=⟨pss_mid h1.h h2.h⟩
section
variable{X:Cx}
theorem ja5{st:Stmt}:QS X st jpp:=⟨ps_never⟩
theorem qpt_tru{a:Expr}{ta:TE}(ha:QE X a ta)(he:∀whole,isTrue a X.env whole=(do let v <-whole;standAt a.pos;holding [v] (truthy v)):=by intro _;rfl):QT X a (tTru ta):=⟨pt_tru ha.h he⟩
end
theorem jku:entryFor table "dict.update.loop"=some Builtin.«dict.update.loop»:=entryFor_of_tree (by kernel_rfl)
theorem jfb:plainId "dict.update.loop"=true:=by decide +kernel
theorem jor:typeLookup (.type "list") "keys"=pure none:=by rw[typeLookup_type,Yw];kernel_rfl
section
variable{P:Program}{w:World}{A:Around}{R:Result->Shared->Prop}{I:Addr}{fp wr:List Addr}{n:Nat}{Pv:Nat->Value->Prop}{St:Nat->Heap->Prop}
theorem jrf{A:Around}{E:Value->Shared->Prop}{s:Shared}{a:Addr}{o:Obj}{xs:Array Value}{k:Nat}{u:Tok}{Q:Value->Shared->Prop}
  (hx:s.heap.get? a=some o) (hc:o.cls=.type "list") (hdat:o.data=.seq xs k) (hd:o.dict=none) (hA:A.handled=none)
  (h:∀h' tk e,Heap.NewExcOf s.heap h' e "AttributeError"->E (.ref e) {s with heap:=h',toks:=tk}):wpAny (model P w) A (getAttrBy (.ref a) (.str "keys" u) false) Q E s:=by
 obtain⟨c,dct,dat,sl⟩:=o
 simp only at hc hdat hd
 subst hc hdat hd
 obtain⟨hp,g,d,tk,os⟩:=s
 have hT:∀tk',(⟨hp,g,d,tk',os⟩:Shared).TypeIs (.ref a) "list":=λ_=>⟨_,hx,rfl⟩
 have g1:=sub_AttributeError
 have g3:=Yc.lookup
 have g4:=Yc.bind (.ref a)
 have g5:=am_list_getattr_none
 unfold getAttrBy
 repeat (any_goals (first|assumption|exact hT _|((with_reducible show wpAny _ _ (call (Value.builtin "list.__getattribute__") _ _) _ _ _);refine W4 Yc (hT _) am_entry_list_getattribute (F.args_list_getattribute_2 _ _) (meets_getattribute_miss_list a xs k sl "keys" _ jor (by decide +kernel) (by size_fits)) ⟨hx,hA,λh' tk' e hx'=>?_⟩)|wp_step))
 obtain⟨t',u',he⟩:=hx'.there
 show wpAny _ _ (getattributeRaised _ _ _ _ _ _ _) _ _ _
 unfold getattributeRaised
 repeat (any_goals (first|assumption|wp_step))
 exact h _ _ _ hx'.of
end
section
variable{P:Program}{w:World}{A:Around}{E:Value->Shared->Prop}{s:Shared}{d it:Addr}{o:Obj}{es:Array DictEntry}{ep i:Nat}
theorem jrq{Q:Value->Shared->Prop}(hd:(d == sysModules)=false)(ho:s.heap.get? d=some o)(hx:o.ExactDict)(hdat:o.data=.dict es ep)
  (hQ:Q (.ref s.heap.objs.size) {s with heap:=s.heap.push {cls:=.type "dict_keyiterator",data:=.fields #[.ref d,.int 0 0,.int es.size 0,.int ep 0]}}):wpAny (model P w) A (pyIter (.ref d)) Q E s:=by
 have hT:s.TypeIs (.ref d) "dict":=⟨o,ho,hx.1⟩
 refine wpAny_pyIter_slot hT F.slot_dict_iter (Ot F.slot_dict_iter hT F.entry_dict_iter ?_ (F.args_dict_iter_1 _))
 unfold Builtin.«dict.__iter__»
 refine Ab ?_
 unfold Builtin.Dict.dictSlotNone
 refine Ab (wpAny_notOrdered_dict hT ?_)
 refine(show wpAny _ _ (pure (Value.ref d)) _ _ s from Ah ?_)
 show wpAny _ _ (Builtin.Dict.showsAll d >>= _) _ _ s
 unfold Builtin.Dict.showsAll
 rw[Am (show ¬((d == sysModules)=true)by rw[hd];exact A7)]
 refine Ab (Ah (Ab (wpAny_dictEntries ho hdat (Ab (wpAny_dictEpoch ho hdat ?_)))))
 refine Ab (Oh (Ah ⟨_,rfl,"dict_keyiterator",_,⟨_,A1 _ rfl,rfl⟩,Ui.lookup,?_⟩))
 simpa[rawInt]using hQ
theorem jrp{e:DictEntry}{Q:Option Value->Shared->Prop}(hit:s.heap.IsKeyIter it d i es.size ep)(hod:s.heap.get? d=some o)(hdd:o.data=.dict es ep)(hx:es[i]?=some e)
  (hQ:∀h',h'.IsKeyIter it d (i+1) es.size ep->Heap.SameBut it s.heap h'->Q (some e.key) {s with heap:=h'}):wpAny (model P w) A (pyNext (.ref it)) Q E s:=by
 obtain⟨oi,hoi,hci,hdi⟩:=id hit
 unfold pyNext
 refine Ab (Aae (Uk (name:=Str.ofString "__next__") hit.typeIs Ui (Ot Ui hit.typeIs F.entry_dict_keyiterator_next ?_ (F.args_dict_keyiterator_next_1 _))))
 refine Ab (Ah (Ab (Ab ?_)))
 first|refine Ab (Uz hit.typeIs (Ah (Ab (Yh hoi hdi ?_))))|refine Ab (Wg hit.typeIs (Ah (Ab (Yh hoi hdi ?_))))
 have own0:Builtin.Dict_items.ownsTuple "dict_keyiterator"=false:=by decide
 simp only[own0,Ia,Ob]
 refine(show wpAny _ _ (if(Value.ref d == Value.none)=true then _ else _) _ _ s from ?_)
 rw[Am (show ¬((Value.ref d == Value.none)=true)by exact A7)]
 refine Ab (Ah (Ab (wpAny_dictEntries hod hdd ?_)))
 rw[Am (show ¬_ by simp)]
 refine Ab (Ah (Ab (wpAny_dictEpoch hod hdd ?_)))
 rw[Am (show ¬_ by simp)]
 refine Ah ?_
 simp only[show ¬((i:Int)<0)by omega,Ob,Int.toNat_natCast,hx]
 refine Ab ?_
 first|refine Ab (Uz hit.typeIs (Ah (Ab (Yx hit.typeIs ?_))))|refine Ab (Wg hit.typeIs (Ah (Ab (Yx hit.typeIs ?_))))
 refine(show wpAny _ _ (setField (.ref it) 1 (rawInt ((i:Int)+1)) >>= _) _ _ s from Ab (Wa hoi hdi (by simp) ?_))
 have hit2:(s.heap.update it (Obj.mapFields (·.setIfInBounds 1 (rawInt ((i:Int)+1))))).IsKeyIter it d (i+1) es.size ep :=
  ⟨_,O1 _ hoi (Yy (U2 hdi _)),(Obj.cls_mapFields ..).trans hci,by rw[U2 hdi];simp[rawInt]⟩
 refine Ab (Og (Ab (Yx (s:={s with heap:=s.heap.update it (Obj.mapFields (·.setIfInBounds 1 (rawInt ((i:Int)+1))))}) hit2.typeIs ?_)))
 refine(show wpAny _ _ (pure e.key) _ _ _ from Ah (Ah ⟨_,rfl,Ah (hQ _ hit2 (Up ..))⟩))
theorem jsk{Q:Option Value->Shared->Prop}(hh:A.handled=none)(hit:s.heap.IsKeyIter it d i es.size ep)(hod:s.heap.get? d=some o)(hdd:o.data=.dict es ep)(hx:es.size<=i)
  (hQ:∀h',Heap.ExtBut it s.heap h'->Q none {s with heap:=h'}):wpAny (model P w) A (pyNext (.ref it)) Q E s:=by
 obtain⟨oi,hoi,hci,hdi⟩:=id hit
 unfold pyNext
 refine Ab (Aae (Uk (name:=Str.ofString "__next__") hit.typeIs Ui (Ot Ui hit.typeIs F.entry_dict_keyiterator_next ?_ (F.args_dict_keyiterator_next_1 _))))
 refine Ab (Ah (Ab (Ab ?_)))
 first|refine Ab (Uz hit.typeIs (Ah (Ab (Yh hoi hdi ?_))))|refine Ab (Wg hit.typeIs (Ah (Ab (Yh hoi hdi ?_))))
 have own0:Builtin.Dict_items.ownsTuple "dict_keyiterator"=false:=by decide
 simp only[own0,Ia,Ob]
 refine(show wpAny _ _ (if(Value.ref d == Value.none)=true then _ else _) _ _ s from ?_)
 rw[Am (show ¬((Value.ref d == Value.none)=true)by exact A7)]
 refine Ab (Ah (Ab (wpAny_dictEntries hod hdd ?_)))
 rw[Am (show ¬_ by simp)]
 refine Ab (Ah (Ab (wpAny_dictEpoch hod hdd ?_)))
 rw[Am (show ¬_ by simp)]
 refine Ah ?_
 simp only[show ¬((i:Int)<0)by omega,Ob,Int.toNat_natCast,Array.getElem?_eq_none hx]
 refine Ab ?_
 first|refine Ab (Uz hit.typeIs (Ah ?_))|refine Ab (Wg hit.typeIs (Ah ?_))
 refine(show wpAny _ _ (setField (.ref it) 0 .none >>= _) _ _ s from Ab (Wa hoi hdi (by simp) ?_))
 refine(show wpAny _ _ (newExc (.type "StopIteration") [] >>= _) _ _ _ from Ab ?_)
 simp only[newExc,newTuple]
 refine Ab (Oh ?_ (by size_fits))
 refine Ab (m:=firstArgMember _ _) (wpAny_of_eq (a:=Value.none) (by first|rfl|(simp only[firstArgMember];rfl)) (Oh ?_ (by size_fits)))
 simp only[raiseNew]
 refine Ab (wpAny_handled ?_)
 rw[show A.in1.handled=none by exact hh]
 refine Ab (Ah (wpAny_throw ?_))
 refine Ab (Yu (T:="StopIteration") (b:=true) (by exact⟨_,A1 _ rfl,rfl⟩) isSubtype_stop ?_)
 exact Ah (hQ _ (((Up ..).extBut.push _).push _))
end
section
variable{D:Addr}{te:TE}{tt:TT}{E:Ends}{r:L2.St}{H:Hp}
def Firm(P:V->Hp->Prop):Prop:=∀S x H1 H2,Kp S H1 H2->P x H1->P x H2
theorem jl3{lo:Int}{n:Nat}(P:Nat->V->Hp->Prop)(hP:∀i,Firm (P i))(hD:H D=none)(hz:n<=sizeLine)
  (he:∀i H1 Q,i<n->Kp [] H H1->(∀v H2,Kp [] H1 H2->P i v H2->Q v H2)->te (some (.int (lo+(i:Nat)))::r) H1 Q)
  (hn:∀v xs H',Kp [] H H'->H' D=some (.lst xs)->Paired (λi x=>P i x H') (List.range n) xs->E.nx (v::r) H'):jc8 (Itr lo n) (jdi 0) (jdy D te) E (none::r) (upd H D (.lst [])):=by
 refine jcw (λi σ H'=>∃(v:Option V)(xs:List V),σ=v::r/\Kp [] H H'/\H' D=some (.lst xs)/\Paired (λi x=>P i x H') (List.range i) xs) ⟨none,[],rfl,(Kp.refl [] H).new hD,jb,.nil⟩ ?_ ?_
 ·rintro i σ H' hi ⟨v,xs,rfl,kp,hd,pr⟩
  have hl:xs.length=i:=by have:=Il pr;simpa using this.symm
  refine he i H' _ hi kp λy H2 k2 hy=>?_
  have hd2:H2 D=some (.lst xs):=k2.old _ _ hd Af
  refine⟨xs,by rw[hd2];rfl,by omega,some (.int (lo+(i:Nat))),xs++[y],rfl,(kp.trans k2).set hd2 (.inr hD),jb,?_⟩
  have k3:Kp [D] H2 (upd H2 D (.lst (xs++[y]))):=(Kp.refl [D] H2).set hd2 (.inl (.head _))
  rw[Ub]
  exact Wt (Paired.mapP pr λj x q=>hP j _ x _ _ k3 (hP j _ x _ _ k2 q)) (hP i _ y _ _ k3 hy)
 ·rintro σ H' ⟨v,xs,rfl,kp,hd,pr⟩
  exact hn v xs H' kp hd pr
theorem jd5{K:PySem.W.Frag}{a:Addr}{ys:List V}(P:V->V->Hp->Prop)(hP:∀y,Firm (P y))(ha:H a=some (.lst ys))(hD:H D=none)(hz:ys.length<=sizeLine)
  (he:∀(i:Nat)(y:V)(H1:Hp)(Q:VK),ys[i]?=some y->Kp [] H H1->(∀v H2,Kp [] H1 H2->P y v H2->Q v H2)->te (some y::r) H1 Q)
  (hn:∀v xs H',Kp [] H H'->H' D=some (.lst xs)->Paired (λy x=>P y x H') ys xs->E.nx (v::r) H'):jc8 (Itl K a) (jdi 0) (jdy D te) E (none::r) (upd H D (.lst [])):=by
 refine jdm (xs:=ys) (λi σ H'=>∃(v:Option V)(xs:List V),σ=v::r/\Kp [] H H'/\H' D=some (.lst xs)/\Paired (λy x=>P y x H') (ys.take i) xs) ⟨none,[],rfl,(Kp.refl [] H).new hD,jb,.nil⟩ ?_ ?_ ?_
 ·rintro i σ H' _ ⟨v,xs,rfl,kp,hd,pr⟩
  exact kp.old _ _ ha Af
 ·rintro i y σ H' hy ⟨v,xs,rfl,kp,hd,pr⟩
  have hi:i<ys.length:=(Ae.mp hy).1
  have hl:xs.length=i:=by have:=Il pr;rw[Iz]at this;omega
  refine he i y H' _ hy kp λx H2 k2 hx=>?_
  have hd2:H2 D=some (.lst xs):=k2.old _ _ hd Af
  refine⟨xs,by rw[hd2];rfl,by omega,some y,xs++[x],rfl,(kp.trans k2).set hd2 (.inr hD),jb,?_⟩
  have k3:Kp [D] H2 (upd H2 D (.lst (xs++[x]))):=(Kp.refl [D] H2).set hd2 (.inl (.head _))
  rw[Yg,hy]
  exact Wt (Paired.mapP pr λj x q=>hP j _ x _ _ k3 (hP j _ x _ _ k2 q)) (hP y _ x _ _ k3 hx)
 ·rintro σ H' ⟨v,xs,rfl,kp,hd,pr⟩
  rw[O7 (Ak _)]at pr
  exact hn v xs H' kp hd pr
end
theorem jcl{X:Cx}{K:PySem.W.Frag}(hK:X.K=K):SlR X (rSlU K):=by
 subst hK
 exact sl_U
def plc(l:List Nat)(c:Nat):Int:=if c∈l then(l.idxOf c:Int)else -1
theorem jry(x:Str)(c:Nat):(match Builtin.Str.occurrences x ⟨#[c]⟩ 0 x.length 1 with|i::_=>(i:Int)|[]=>-1)=plc x.cps.toList c:=by
 rcases StrLaws.occ_head x ⟨#[c]⟩ 1 (Ak _)with⟨e,hn⟩|⟨i,r,e,hi,hk⟩
 ·rw[e]
  unfold plc
  rw[Am]
  intro hm
  obtain⟨i,hi⟩:=List.mem_iff_getElem?.mp hm
  exact hn i ((StrLaws.subAt_one x c i).mpr hi)
 ·rw[e]
  have h1:=(StrLaws.subAt_one x c i).mp hi
  have hm:c∈x.cps.toList:=List.mem_iff_getElem?.mpr ⟨i,h1⟩
  unfold plc
  rw[Ao hm]
  have hlt:x.cps.toList.idxOf c<x.cps.toList.length:=List.idxOf_lt_length_of_mem hm
  have h2:x.cps.toList[x.cps.toList.idxOf c]?=some c:=by rw[Aa hlt,Oe]
  have a1:¬x.cps.toList.idxOf c<i:=λh=>hk _ h ((StrLaws.subAt_one x c _).mpr h2)
  have a2:¬i<x.cps.toList.idxOf c:=λh=>by
   have h3:=List.not_of_lt_findIdx (p:=(· == c)) (xs:=x.cps.toList) (i:=i) h
   obtain⟨hl,h4⟩:=Ae.mp h1
   simp[h4]at h3
  show(i:Int)=_
  omega
theorem jrx(x:Str)(c:Nat)(hm:c∈x.cps.toList):∃i r,Builtin.Str.occurrences x ⟨#[c]⟩ 0 x.length 1=i::r/\(i:Int)=plc x.cps.toList c:=by
 have h:=jry x c
 cases e:Builtin.Str.occurrences x ⟨#[c]⟩ 0 x.length 1 with
 |nil =>
  rw[e]at h
  unfold plc at h
  rw[Ao hm]at h
  simp at h
  try omega
 |cons i r=>rw[e]at h;exact⟨i,r,rfl,h⟩
section
variable{X:Cx}
def jid:V->List V->Hp->VK->Prop:=λx vs H Q=>match x,vs with
 |.str z,[.str y]=>∃c,y=⟨#[c]⟩/\c∈z.cps.toList/\Q (.int (plc z.cps.toList c)) H
 |_,_=>False
theorem jgi(z y:Str)(H:Hp)(Q:VK):jid (.str z) [.str y] H Q=(∃c,y=⟨#[c]⟩/\c∈z.cps.toList/\Q (.int (plc z.cps.toList c)) H):=rfl
theorem mt_indexU:MtM X "str.index" jid:=by
 intro pins s σ H x vs v us Q I rx rv h
 unfold jid at h
 split at h
 ·rename_i z y
  obtain⟨c,rfl,hm,q⟩:=h
  obtain⟨t,rfl⟩:=rx
  obtain⟨u,rfl,⟨t',rfl⟩⟩:=rv.one
  obtain⟨i,r,e,ei⟩:=jrx z c hm
  refine call_gives PySem.F.slot_str_index (typeIs_str s z t) PySem.F.entry_str_index (PySem.F.args_str_index_2 _ _) (gives_str_index z _ t t' i r e) ?_
  rw[ei]
  exact⟨.int _,H,I.tok _,⟨_,rfl⟩,q⟩
 ·exact h.elim
end
end L2
set_option autoImplicit true
set_option relaxedAutoImplicit true
set_option autoImplicit true
set_option relaxedAutoImplicit true
namespace L2
open PySem PySem.Spec PyProof.Rows
section
variable{X:Cx}
theorem jnf(K:PySem.W.Frag)(z:Str)(H:Hp):tyV K "str" (.str z) H=True:=by simp[tyV]
theorem qpe_bmT{o e:Expr}{es:List Expr}{to:TE}{t:TA}{name:Str}{apos cpos:Pos}{id:String}{r:V->List V->Hp->VK->Prop}(slot:Slot "str" name id)(hty:typeOf (.builtin id)=pure (.type "method_descriptor"))(hm:MtM X id r)(ho:QE X o to)(ha:QA X (e::es) t)
  (hbase:attributeBase o name X.env (eval o X.env)=eval o X.env:=by rfl)
  (hfew:((backTo cpos (starEach (e::es) X.env)).all (λx=>!x.1) && (backToKw cpos (keywordEach [] X.env)).all (λx=>x.1.isSome)
   && decide ((e::es).length+([]:List Keyword).length+(if([]:List Keyword).isEmpty then 0 else 1)<30))=true:=by rfl)
  (hline:(apos.endLine == cpos.line)=true:=by rfl) (hs:starEach (e::es) X.env=(false,eval e X.env)::starEach es X.env:=by rfl) (hplain:(backTo cpos (starEach es X.env)).any (·.1)=false:=by rfl) :
  QE X (.Call (.Attribute o name apos) (e::es) [] cpos) (tBM X.K "str" r to t):=⟨jch PySem.F.plainAttrs_str slot hty hm ho.h ha.h hbase hfew hline hs hplain⟩
end
section
variable{prog:Program}{w:World}{A:Around}{E:Value->Shared->Prop}{s:Shared}
theorem jly{h:Heap}{g:Array GenState}{d:Drawn}{t:Nat}{os:OsState}{it a:Addr}{i:Nat}{vs:Array Value}{u:Value}{Q:Value->Shared->Prop}(hi:h.IsTupleIter it a i)(ha:h.IsTuple a vs)(hu:vs[i]?=some u)
  (q:∀h',h'.IsTupleIter it a (i+1)->Heap.SameBut it h h'->Q u ⟨h',g,d,t,os⟩):wpAny (model prog w) A (Builtin.SmallTypes.nextOf (.ref it)) Q E ⟨h,g,d,t,os⟩:=by
 obtain⟨⟨ci,di,dti,si⟩,e1,c1,d1⟩:=id hi
 obtain⟨⟨ca,da,dta,sa⟩,e2,c2,n2,d2⟩:=ha
 dsimp only at c1 d1 c2 d2
 subst c1 d1 c2 d2
 have sl:=PySem.F.slot_tuple_iterator_next
 have hT:(⟨h,g,d,t,os⟩:Shared).TypeIs (.ref it) "tuple_iterator":=hi.typeIs
 have fin:=q _ ⟨_,O1 (Obj.mapFields (·.setIfInBounds 1 (rawInt (i+1)))) e1 rfl,rfl,by simp[Obj.mapFields,rawInt]⟩ (.update ..)
 refine Ab (Uk hT sl (Ot sl hT Ys ?_ (Ym _)))
 unfold Builtin.«tuple_iterator.__next__»
 repeat (any_goals (first|assumption|with_reducible refine Yn e1 ?_|with_reducible refine Yn e2 ?_|wp_step))
 have e3:vs[((i:Nat):Int).toNat]?=some u:=hu
 rw[e3]
 exact Ab (Wa e1 rfl (by simp) (Ah ⟨u,rfl,Ah fin⟩))
theorem jl8{h:Heap}{g:Array GenState}{d:Drawn}{t:Nat}{os:OsState}{it a:Addr}{i:Nat}{vs:Array Value}{Q:Value->Shared->Prop}(hh:A.handled=none)(hi:h.IsTupleIter it a i)(ha:h.IsTuple a vs)(hu:vs[i]?=none)
  (q:∀h' e,Heap.ExtBut it h h'->(∃o,h'.get? e=some o/\o.cls=.type "StopIteration")->E (.ref e) ⟨h',g,d,t,os⟩):wpAny (model prog w) A (Builtin.SmallTypes.nextOf (.ref it)) Q E ⟨h,g,d,t,os⟩:=by
 obtain⟨⟨ci,di,dti,si⟩,e1,c1,d1⟩:=id hi
 obtain⟨⟨ca,da,dta,sa⟩,e2,c2,n2,d2⟩:=ha
 dsimp only at c1 d1 c2 d2
 subst c1 d1 c2 d2
 have sl:=PySem.F.slot_tuple_iterator_next
 have hT:(⟨h,g,d,t,os⟩:Shared).TypeIs (.ref it) "tuple_iterator":=hi.typeIs
 have h1:A.in1.handled=none:=hh
 refine Ab (Uk hT sl (Ot sl hT Ys ?_ (Ym _)))
 unfold Builtin.«tuple_iterator.__next__»
 repeat (any_goals (first|assumption|with_reducible refine Yn e1 ?_|with_reducible refine Yn e2 ?_|wp_step))
 have e3:vs[((i:Nat):Int).toNat]?=none:=hu
 rw[e3]
 refine Ab (wpAny_rule (Ab (Wa e1 rfl (by simp) ?_)))
 unfold Builtin.SmallTypes.stopIteration
 have fm:firstArgMember (.type "StopIteration") []=pure .none:=rfl
 unfold newExc
 repeat (any_goals (first|assumption|rw[fm]|wp_step))
 exact wpAny_raiseNew_none h1 (q _ _ (((Up ..).extBut.push _).push _) ⟨_,A1 _ rfl,rfl⟩)
theorem jos(hh:A.handled=none)(it a:Addr)(ne:a≠it)(vs:Array Value):Draws prog w A it [it,a] vs.size (λi v=>vs[i]?=some v) (λi h=>h.IsTupleIter it a i/\h.IsTuple a vs) where
 live:=λ_ _ st=>let⟨o,ho,_⟩:=st.1;⟨o,ho⟩
 frame:=λ_ _ _ st hk=>by
  obtain⟨⟨o,ho,r⟩,⟨o2,ho2,r2⟩⟩:=st
  exact⟨⟨o,hk it (by simp) o ho,r⟩,⟨o2,hk a (by simp) o2 ho2,r2⟩⟩
 item:=λi s Q E hi st hQ=>by
  obtain⟨hp,g,d,t,os⟩:=s
  obtain⟨o2,ho2,r2⟩:=st.2
  exact jly st.1 st.2 (u:=vs[i]) (by simp[hi]) λh' hit' hs'=>hQ _ h' t (by simp[hi]) ⟨hit',⟨o2,(hs'.2 a ne).trans ho2,r2⟩⟩ hs'
 done:=λs Q E st hE=>by
  obtain⟨hp,g,d,t,os⟩:=s
  exact jl8 hh st.1 st.2 (by simp) hE
open AutoSeq1 (wpAny_loadPart')in
theorem jot(a:Addr)(vs:Array Value)(n:Nat)(dct:Option Addr)(sl:Array (Option Value)) :
  Meets (Builtin.«enumerate.__new__» ⟨[.type "enumerate",.ref a],[]⟩) (λ_ R s=>s.heap.get? a=some ⟨.type "tuple",dct,.seq vs n,sl⟩ /\
   R (.ok (.ret (.ref (s.heap.push {cls:=.type "tuple_iterator",data:=.fields #[.ref a,.int 0 0]}).objs.size)))
    {s with heap:=(s.heap.push {cls:=.type "tuple_iterator",data:=.fields #[.ref a,.int 0 0]}).push {cls:=.type "enumerate",data:=.fields #[.none,.bool false,.ref s.heap.objs.size,rawInt 0,.none,.none]}}) :=
 .of_wp λprog w A R s h=>by
  obtain⟨hp,g,d,tk,os⟩:=s;obtain⟨ha,h⟩:=h
  have hsb:=sub_enumerate
  have hT:Heap.IsTuple (Shared.heap ⟨hp,g,d,tk,os⟩) a vs:=⟨_,ha,rfl,n,rfl⟩
  wp_walk using Wr ha
  refine wpAny_stack_any λk=>Ah ?_
  split <;> (try (rename_i c _ _ _ _ _;generalize(c == Value.type "enumerate")=b;cases b)) <;> (wp_walk using Wr ha,wpAny_pyIter_tuple hT) <;> exact⟨_,rfl,h⟩
theorem call_enumT{a:Addr}{vs:Array Value}{Q:Value->Shared->Prop}(ht:s.heap.IsTuple a vs)
  (q:∀h',IsEnum h' (s.heap.objs.size+1) s.heap.objs.size 0 .none->h'.IsTupleIter s.heap.objs.size a 0->(∀b o,s.heap.get? b=some o->h'.get? b=some o)->Q (.ref (s.heap.objs.size+1)) {s with heap:=h'}) :
  wpAny (model prog w) A (call (.type "enumerate") [.ref a]) Q E s:=by
 obtain⟨⟨c,dct,dt,sl⟩,ha,hc,n,hd⟩:=ht
 dsimp only at hc hd
 subst hc hd
 refine callType_new PySem.F.called_enumerate (by decide) (PySem.F.typeCall_enumerate_1 _) (PySem.F.newCall_enumerate_1 _) (λobj=>PySem.F.args_object_init_2 obj _) PySem.F.entry_enumerate_new (jot a vs n dct sl) ⟨ha,?_⟩
 have hz:(s.heap.push {cls:=.type "tuple_iterator",data:=.fields #[.ref a,.int 0 0]}).objs.size=s.heap.objs.size+1:=Yi ..
 have he:IsEnum ((s.heap.push {cls:=.type "tuple_iterator",data:=.fields #[.ref a,.int 0 0]}).push {cls:=.type "enumerate",data:=.fields #[.none,.bool false,.ref s.heap.objs.size,rawInt 0,.none,.none]}) (s.heap.objs.size+1) s.heap.objs.size 0 .none:=by
  have e:=A1 (s.heap.push {cls:=.type "tuple_iterator",data:=.fields #[.ref a,.int 0 0]}) (o:={cls:=.type "enumerate",data:=.fields #[.none,.bool false,.ref s.heap.objs.size,rawInt 0,.none,.none]}) rfl
  rw[hz]at e;exact e
 show _/\_
 rw[hz]
 exact⟨⟨_,he,rfl⟩,q _ he ⟨_,Ai _ (A1 _ rfl),rfl,rfl⟩ λb o x=>Ai _ (Ai _ x)⟩
end
def ItE(K:PySem.W.Frag)(a:Addr):It:=⟨λi H=>∃xs x,SqT K H a xs/\xs[i]?=some x,λi H x H'=>∃T y,H T=none/\x=.ref T/\(∀xs,SqT K H a xs->xs[i]?=some y)/\H'=upd H T (.tup [.int (i:Int),y]),λi H=>∃xs,SqT K H a xs/\xs.length=i⟩
theorem jn9{P:Program}{w:World}{K:PySem.W.Frag}{elts:List Expr}{kk:Nat}{pos:Pos}(a e it:Addr)(ne:e≠it):Turn P w K (.Tuple elts kk pos) (ItE K a) [e,it] e (λi h=>(∃old,IsEnum h e it i old)/\h.IsTupleIter it a i) where
 mem:=by simp
 obj:=λi h st b hb=>by
  obtain⟨⟨old,he⟩,⟨o,ho,hc,hd⟩⟩:=st
  rcases Ap.mp hb with rfl|hb
  ·exact⟨_,he,λv z=>by cases z⟩
  ·rw[Aj.mp hb]
   exact⟨o,ho,λv z=>by rw[hd]at z;cases z⟩
 keep:=λi h h' st k=>by
  obtain⟨⟨old,he⟩,⟨o,ho,r⟩⟩:=st
  exact⟨⟨old,k e (by simp) _ he⟩,⟨o,k it (by simp) o ho,r⟩⟩
 item:=by
  intro X hP hw hK hc i pins s σ H E I hf st hg
  subst hP hw hK
  obtain⟨xs,x,hq,hx⟩:=hg
  obtain⟨its,rv,p,hz⟩:=I.tuple hq
  obtain⟨u,hu,ru⟩:=rv.get hx
  have fr:∀b∈[e,it],b≠a:=λb hb z=>by
   subst z
   obtain⟨o,eo,hcl⟩:∃o,s.heap.get? b=some o/\o.cls≠.type "tuple":=by
    obtain⟨⟨old,he⟩,⟨o,ho,hc',hd⟩⟩:=st
    rcases Ap.mp hb with rfl|hb
    ·exact⟨_,he,by simp⟩
    ·rw[Aj.mp hb]
     exact⟨o,ho,by rw[hc'];simp⟩
   obtain⟨o2,ho2,hc2,_⟩:=p
   rw[eo]at ho2
   cases ho2
   exact hcl hc2
  have WA:=Wv (jos (prog:=X.prog) (w:=X.w) (A:=X.A.in1) (show X.A.in1.handled=none from I.ok.hd hc) it a (fr it (by simp)).symm its.toArray) e ne (by simp[ne,fr e (by simp)]) (by simp)
  have hlt:i<its.toArray.size:=by
   rw[Au]
   exact(Ae.mp hu).1
  refine WA.item i s _ _ hlt ⟨st.1,st.2,p⟩ λT vs h' tk hp hT htup mid kk'=>⟨_,rfl,?_⟩
  have nTw:=WA.apart _ _ _ mid
  refine WA.go _ _ _ i T {s with heap:=h',toks:=tk} _ _ mid λh'' st'' k''=>?_
  have tup':IsTup h'' T vs:=by
   obtain⟨o,eo,r⟩:=htup
   exact⟨o,k'' T o nTw eo,r⟩
  have hv:Vals [V.int (i:Int),x] vs.toList:=by
   obtain⟨t',u',hu',rfl⟩:=hp
   rw[show its.toArray[i]?=some u from by simpa using hu]at hu'
   cases hu'
   exact .cons ⟨t',rfl⟩ (.cons ru .nil)
  refine⟨.ref T,upd H T (.tup [.int (i:Int),x]),?_,rfl,⟨T,x,I.hok.fresh hT,rfl,λys hy=>by rw[I.tuple_inj hy hq];exact hx,rfl⟩,⟨st''.1,st''.2.1⟩,λb hb=>?_⟩
  ·refine I.turnedNew (fp:=[e,it]) (wr:=[e,it]) hf (λb o hb eo=>k'' b o hb (kk' b o hb eo)) hT (by simpa using tup') hv (by show 2<=sizeLine;decide) λb hb=>?_
   obtain⟨⟨old,he⟩,⟨⟨o,ho,_⟩,_⟩⟩:=st''
   rcases Ap.mp hb with rfl|hb
   ·exact⟨_,he⟩
   ·rw[Aj.mp hb];exact⟨o,ho⟩
  ·have hlt:b<s.heap.objs.size:=by
    obtain⟨⟨old,he⟩,⟨o,ho,_⟩⟩:=st
    rcases Ap.mp hb with rfl|hb
    ·exact At he
    ·rw[Aj.mp hb];exact At ho
   rw[jd (Ax (A4 hlt hT))]
   exact(hf b hb).1
 done:=by
  intro X hP hw hK hc i pins s σ H E I hf st hg
  subst hP hw hK
  obtain⟨xs,hq,hi⟩:=hg
  obtain⟨its,rv,p,hz⟩:=I.tuple hq
  have fr:∀b∈[e,it],b≠a:=λb hb z=>by
   subst z
   obtain⟨o,eo,hcl⟩:∃o,s.heap.get? b=some o/\o.cls≠.type "tuple":=by
    obtain⟨⟨old,he⟩,⟨o,ho,hc',hd⟩⟩:=st
    rcases Ap.mp hb with rfl|hb
    ·exact⟨_,he,by simp⟩
    ·rw[Aj.mp hb]
     exact⟨o,ho,by rw[hc'];simp⟩
   obtain⟨o2,ho2,hc2,_⟩:=p
   rw[eo]at ho2
   cases ho2
   exact hcl hc2
  have WA:=Wv (jos (prog:=X.prog) (w:=X.w) (A:=X.A.in1) (show X.A.in1.handled=none from I.ok.hd hc) it a (fr it (by simp)).symm its.toArray) e ne (by simp[ne,fr e (by simp)]) (by simp)
  have hn:its.toArray.size=i:=by rw[Au,<-rv.length];exact hi
  refine WA.done s _ _ (by rw[hn];exact⟨st.1,st.2,p⟩) λh' tk kk'=>⟨rfl,?_⟩
  have nw:∀b u,H b=some u->b∉[e,it]:=λb u eo hb=>by rw[(hf b hb).1]at eo;cases eo
  refine I.step (g':=s.gens) (d':=s.drawn) (ch:=[e,it]) (λb hb=>?_) (λb o _ _ hc e _=>kk' b o hc e) (λb o _ _ hc e _=>⟨o.slots,kk' b o hc e⟩) (λb o hc e n=>n) (λb o hc e=>⟨o,kk' b o hc e⟩)
   (λ_ _ e=>e) (λ_ _ _ e=>e) (λb ps e=>⟨#[],by rw[e];simp⟩) (λm hm=>?_) (λb u e=>?_) I.bare
  ·obtain⟨_,f1,_,f3,f4,f5⟩:=hf b hb
   exact⟨f3,f1,f4,f5⟩
  ·obtain⟨o,es,ep,ho,rr⟩:=hm
   exact⟨o,es,ep,kk' _ o (λz=>(hf _ z).2.1 rfl) ho,rr⟩
  ·refine(I.hok b u e).stay (λd v hd q=>kk' d v ?_ q) (λ_ q=>q) λ_ _ q=>q
   rcases hd with rfl|hd
   ·exact nw _ _ e
   ·exact nw _ _ hd
 self:=λA i s Q E st q=>by
  obtain⟨⟨old,he⟩,_⟩:=st
  exact U7 he q
theorem jrw{K:PySem.W.Frag}{a:Addr}{xs:List V}{g:TG}{tb:TS}{D:Ends}{σ:L2.St}{H:Hp}(Pv:Nat->L2.St->Hp->Prop)(h0:Pv 0 σ H)(hl:∀i σ H,i<=xs.length->Pv i σ H->H a=some (.tup xs))
  (hs:∀i x σ H T,xs[i]?=some x->Pv i σ H->H T=none->g (.ref T) σ (upd H T (.tup [.int (i:Int),x])) λσ2 H2=>tb {D with nx:=Pv (i+1),ct:=Pv (i+1),bk:=D.nx} σ2 H2) (hd:∀σ H,Pv xs.length σ H->D.nx σ H):jc8 (ItE K a) g tb D σ H:=by
 refine⟨λi m σ H=>m=xs.length-i/\i<=xs.length/\Pv i σ H,⟨xs.length,by simp,Oa _,h0⟩,?_⟩
 rintro i m σ H ⟨rfl,hi,p⟩
 have q:SqT K H a xs:=SqT.of (hl i σ H hi p)
 by_cases hlt:i<xs.length
 ·refine .inr ⟨⟨xs,xs[i],q,by simp[hlt]⟩,Pv (i+1),λσ' H' p'=>⟨xs.length-(i+1),by omega,rfl,hlt,p'⟩,λx H' y=>?_⟩
  obtain⟨T,y',hT,e1,hy,e2⟩:=y
  subst e1 e2
  exact hs i y' σ H T (hy xs q) p hT
 ·have e:i=xs.length:=by omega
  subst e
  exact .inl ⟨⟨xs,q,rfl⟩,hd σ H p⟩
section
variable{X:Cx}
def jhg(K:PySem.W.Frag)(ta:TA):TI:=λσ H R=>ta σ H λvs H1=>∃a,vs=[.ref a]/\(∃xs,SqT K H1 a xs)/\R (ItE K a) H1
theorem pi_enumT{K:PySem.W.Frag}{a:Expr}{ta:TA}{p pos tpos:Pos}{elts:List Expr}{kk:Nat}(hK:X.K=K)(hg:Gl X "enumerate")(hm:X.mg "enumerate"=none)(ha:PA X [a] ta)(hs:starEach [a] X.env=[(false,eval a X.env)]:=by rfl) :
  PI X (.Tuple elts kk tpos) (.Call (.Name "enumerate" p) [a] [] pos) (jhg K ta):=by
 subst hK
 intro pins s σ H R I h
 refine Call_ (jdw I hg hm jaq (Op (thn (ha pos pins s σ H _ I h) λus s1 ⟨vs,H1,I1,r1,q1⟩=>?_) hs rfl))
 obtain⟨ad,e,⟨xs,hx⟩,q⟩:=q1
 subst e
 obtain⟨u,rfl,ru⟩:=jdd r1
 cases ru
 obtain⟨its,rv,pt,hz⟩:=I1.tuple hx
 refine call_enumT (vs:=its.toArray) pt λh' he hi hk=>?_
 have I2:Inv X pins σ H1 {s1 with heap:=h'}:=I1.kept (t':=s1.toks) hk
 refine U7 he ⟨s1.heap.objs.size+1,[s1.heap.objs.size+1,s1.heap.objs.size],_,_,H1,rfl,I2,jn9 ad (s1.heap.objs.size+1) s1.heap.objs.size (Nat.succ_ne_self _),⟨⟨.none,he⟩,hi⟩,λb hb=>?_,q⟩
 have hb':s1.heap.objs.size<=b:=by
  rcases Ap.mp hb with rfl|hb
  ·omega
  ·rw[Aj.mp hb];exact Ak _
 exact I1.fpOk (H':=H1) hb' (I1.hok.fresh hb')
theorem qpi_enumT{K:PySem.W.Frag}{a:Expr}{ta:TA}{p pos tpos:Pos}{elts:List Expr}{kk:Nat}(hK:X.K=K)(hg:Gl X "enumerate")(hm:X.mg "enumerate"=none)(ha:QA X [a] ta)(hs:starEach [a] X.env=[(false,eval a X.env)]:=by rfl) :
  QI X (.Tuple elts kk tpos) (.Call (.Name "enumerate" p) [a] [] pos) (jhg K ta):=⟨pi_enumT hK hg hm ha.h hs⟩
end
theorem Inv.walked{X:Cx}{pins:List (Addr×Obj)}{σ:L2.St}{H:Hp}{s:Shared}{h':Heap}{t':Nat}{wr:List Addr}(I:Inv X pins σ H s)(hf:∀b∈wr,FpOk X pins H b)(k:∀b o,b∉wr->s.heap.get? b=some o->h'.get? b=some o) :
  Inv X pins σ H {s with heap:=h',toks:=t'}:=by
 have nw:∀b u,H b=some u->b∉wr:=λb u e hb=>by rw[(hf b hb).1]at e;cases e
 refine I.step (g':=s.gens) (d':=s.drawn) (ch:=wr) (λb hb=>?_) (λb o _ _ hc e _=>k b o hc e) (λb o _ _ hc e _=>⟨o.slots,k b o hc e⟩) (λb o hc e n=>n) (λb o hc e=>⟨o,k b o hc e⟩)
  (λ_ _ e=>e) (λ_ _ _ e=>e) (λb ps e=>⟨#[],by rw[e];simp⟩) (λm hm=>?_) (λb u e=>?_) I.bare
 ·obtain⟨_,f1,_,f3,f4,f5⟩:=hf b hb
  exact⟨f3,f1,f4,f5⟩
 ·obtain⟨o,es,ep,ho,rr⟩:=hm
  exact⟨o,es,ep,k _ o (λz=>(hf _ z).2.1 rfl) ho,rr⟩
 ·refine(I.hok b u e).stay (λd v hd q=>k d v ?_ q) (λ_ q=>q) λ_ _ q=>q
  rcases hd with rfl|hd
  ·exact nw _ _ e
  ·exact nw _ _ hd
section
variable{X:Cx}
def ItF(a:Addr):It:=⟨λi H=>∃xs x,H a=some (.lst xs)/\xs[i]?=some x,λi H v H'=>∃T x,H T=none/\v=.ref T/\(∀xs,H a=some (.lst xs)->xs[i]?=some x)/\H'=upd H T (.tup [.int (i:Int),x]),λi H=>∃xs,H a=some (.lst xs)/\xs.length=i⟩
theorem jn7{P:Program}{w:World}{K:PySem.W.Frag}{elts:List Expr}{kk:Nat}{pos:Pos}(a e it:Addr)(ne:e≠it):Turn P w K (.Tuple elts kk pos) (ItF a) [e,it] e (λi h=>(∃old,IsEnum h e it i old)/\h.IsListIter it a i) where
 mem:=by simp
 obj:=λi h st b hb=>by
  obtain⟨⟨old,he⟩,⟨o,ho,hc,hd⟩⟩:=st
  simp only[Ap,Af,O2]at hb
  rcases hb with rfl|rfl
  ·exact⟨_,he,λv z=>by cases z⟩
  ·exact⟨o,ho,λv z=>by rw[hd]at z;cases z⟩
 keep:=λi h h' st k=>⟨let⟨old,he⟩:=st.1;⟨old,k e (by simp) _ he⟩,let⟨o,ho,r⟩:=st.2;⟨o,k it (by simp) o ho,r⟩⟩
 item:=by
  intro X hP hw hK hc i pins s σ H E I hf st hg
  subst hP hw hK
  obtain⟨xs,x,hq,hx⟩:=hg
  obtain⟨its,rv,p,_⟩:=I.list (SqL.of hq)
  obtain⟨u,hu,ru⟩:=rv.get hx
  have fr:∀b∈[e,it],b≠a:=λb hb z=>by rw[z]at hb;rw[(hf a hb).1]at hq;cases hq
  have W:=Wv (Draws.list (prog:=X.prog) (w:=X.w) (A:=X.A.in1) (show X.A.in1.handled=none from I.ok.hd hc) it a (fr it (by simp)).symm its.toArray) e ne (by simp[ne,fr e (by simp)]) (by simp)
  have hlt:i<its.toArray.size:=by rw[Au];exact(Ae.mp hu).1
  refine W.item i s _ _ hlt ⟨st.1,st.2,p.isList⟩ λT vs h' tk hp hT htup mid kk'=>⟨_,rfl,?_⟩
  have nT:=W.apart _ _ _ mid
  refine W.go _ _ _ i T {s with heap:=h',toks:=tk} _ _ mid λh'' st'' k''=>?_
  have tup':IsTup h'' T vs:=let⟨o,eo,r⟩:=htup;⟨o,k'' T o nT eo,r⟩
  have hv:Vals [V.int (i:Int),x] vs.toList:=by
   obtain⟨t',u',hu',rfl⟩:=hp
   rw[show its.toArray[i]?=some u from by simpa using hu]at hu'
   cases hu'
   exact .cons ⟨t',rfl⟩ (.cons ru .nil)
  have live:∀b∈[e,it],∃o,h''.get? b=some o:=λb hb=>by
   obtain⟨⟨old,he⟩,⟨⟨o,ho,_⟩,_⟩⟩:=st''
   simp only[Ap,Af,O2]at hb
   rcases hb with rfl|rfl
   ·exact⟨_,he⟩
   ·exact⟨o,ho⟩
  refine⟨.ref T,upd H T (.tup [.int (i:Int),x]),?_,rfl,⟨T,x,I.hok.fresh hT,rfl,λys hy=>by rw[hq]at hy;cases hy;exact hx,rfl⟩,⟨st''.1,st''.2.1⟩,λb hb=>?_⟩
  ·exact I.turnedNew (fp:=[e,it]) (wr:=[e,it]) hf (λb o hb eo=>k'' b o hb (kk' b o hb eo)) hT (by simpa using tup') hv (by show 2<=sizeLine;decide) live
  ·have hlt:b<s.heap.objs.size:=by
    obtain⟨⟨old,he⟩,⟨o,ho,_⟩⟩:=st
    simp only[Ap,Af,O2]at hb
    rcases hb with rfl|rfl
    ·exact At he
    ·exact At ho
   rw[jd (Ax (A4 hlt hT))]
   exact(hf b hb).1
 done:=by
  intro X hP hw hK hc i pins s σ H E I hf st hg
  subst hP hw hK
  obtain⟨xs,hq,hi⟩:=hg
  obtain⟨its,rv,p,_⟩:=I.list (SqL.of hq)
  have fr:∀b∈[e,it],b≠a:=λb hb z=>by rw[z]at hb;rw[(hf a hb).1]at hq;cases hq
  have W:=Wv (Draws.list (prog:=X.prog) (w:=X.w) (A:=X.A.in1) (show X.A.in1.handled=none from I.ok.hd hc) it a (fr it (by simp)).symm its.toArray) e ne (by simp[ne,fr e (by simp)]) (by simp)
  have hn:its.toArray.size=i:=by rw[Au,<-rv.length];exact hi
  exact W.done s _ _ (by rw[hn];exact⟨st.1,st.2,p.isList⟩) λh' tk kk'=>⟨rfl,I.walked hf kk'⟩
 self:=λA i s Q E st q=>let⟨_,he⟩:=st.1;U7 he q
theorem jrv{a:Addr}{xs:List V}{g:TG}{tb:TS}{D:Ends}{σ:L2.St}{H:Hp}(Pv:Nat->L2.St->Hp->Prop)(h0:Pv 0 σ H)(hl:∀i σ H,i<=xs.length->Pv i σ H->H a=some (.lst xs))
  (hs:∀i x σ H T,xs[i]?=some x->Pv i σ H->H T=none->g (.ref T) σ (upd H T (.tup [.int (i:Int),x])) λσ2 H2=>tb {D with nx:=Pv (i+1),ct:=Pv (i+1),bk:=D.nx} σ2 H2) (hd:∀σ H,Pv xs.length σ H->D.nx σ H):jc8 (ItF a) g tb D σ H:=by
 refine⟨λi m σ H=>m+i=xs.length/\Pv i σ H,⟨xs.length,rfl,h0⟩,?_⟩
 rintro i m σ H ⟨hm,p⟩
 have q:=hl i σ H (by omega) p
 by_cases hi:i<xs.length
 ·refine .inr ⟨⟨xs,xs[i],q,by simp[hi]⟩,Pv (i+1),λσ' H' p'=>⟨m-1,by omega,by omega,p'⟩,λv H' y=>?_⟩
  obtain⟨T,x,hT,rfl,hx,rfl⟩:=y
  exact hs i x σ H T (hx xs q) p hT
 ·have e:i=xs.length:=by omega
  subst e
  exact .inl ⟨⟨xs,q,rfl⟩,hd σ H p⟩
def jkx(ta:TA):TI:=λσ H R=>ta σ H λvs H1=>∃a xs,vs=[.ref a]/\H1 a=some (.lst xs)/\R (ItF a) H1
theorem qpi_enumF{a:Expr}{ta:TA}{p pos tpos:Pos}{elts:List Expr}{kk:Nat}(hg:Gl X "enumerate")(hm:X.mg "enumerate"=none)(ha:QA X [a] ta)(hs:starEach [a] X.env=[(false,eval a X.env)]:=by rfl) :
  QI X (.Tuple elts kk tpos) (.Call (.Name "enumerate" p) [a] [] pos) (jkx ta):=by
 refine⟨λpins s σ H R I h=>?_⟩
 refine Call_ (jdw I hg hm jaq (Op (thn (ha.h pos pins s σ H _ I h) λus s1 ⟨vs,H1,I1,r1,q1⟩=>?_) hs rfl))
 obtain⟨ad,xs,rfl,hx,q⟩:=q1
 obtain⟨u,rfl,ru⟩:=jdd r1
 cases ru
 obtain⟨its,rv,pt,_⟩:=I1.list (SqL.of hx)
 refine call_enumerate_list (items:=its.toArray) pt.isList λh' he hi _ hk=>?_
 have I2:Inv X pins σ H1 {s1 with heap:=h'}:=I1.kept (t':=s1.toks) hk
 refine U7 he ⟨s1.heap.objs.size+1,[s1.heap.objs.size+1,s1.heap.objs.size],_,_,H1,rfl,I2,jn7 ad (s1.heap.objs.size+1) s1.heap.objs.size (Nat.succ_ne_self _),⟨⟨.none,he⟩,hi⟩,λb hb=>?_,q⟩
 have hb':s1.heap.objs.size<=b:=by
  simp only[Ap,Af,O2]at hb
  rcases hb with rfl|rfl
  ·exact Nat.le_add_right _ _
  ·exact Ak _
 exact I1.fpOk (H':=H1) hb' (I1.hok.fresh hb')
end
def jf3(ks:Nat->Key)(vs:Nat->Value):Nat->List (Key×Value)
 |0=>[]
 |i+1=>stored (jf3 ks vs i) (ks i) (vs i)
theorem jfn(ks:Nat->Key)(vs:Nat->Value):∀i,(jf3 ks vs i).length<=i
 |0=>Ak 0
 |i+1=>by
  have ih:=jfn ks vs i
  show(stored _ _ _).length<=_
  unfold stored
  split
  ·rw[Ad];omega
  ·rw[Av];simp;omega
section
variable{P:Program}{w:World}{A:Around}{R:Result->Shared->Prop}{I:Addr}{fp wr:List Addr}{n:Nat}{Pv:Nat->Value->Prop}{St:Nat->Heap->Prop}
theorem jks{h h':Heap}{D:Addr}{kvs:List (Key×Value)}(x:h.DictOf (jcn P w) D kvs)(e:∀o,h.get? D=some o->h'.get? D=some o):h'.DictOf (jcn P w) D kvs :=
 let⟨o,es,ep,h1,r⟩:=x
 ⟨o,es,ep,e _ h1,r⟩
theorem jp0(W:Walks P w A.in1 I fp wr n Pv St)(D:Addr)(hDf:D∉fp)(hu:A.in1.units<cLine)(h0:Heap)(hw0:∀b∈wr,h0.get? b=none)(hD0:h0.get? D=none)(ks:Nat->Key)(bs:Nat->Value)(vs:Nat->Value)
  (hit:∀i v,i<n->Pv i v->∃t o c,v=.ref t/\h0.get? t=some o/\o.cls=.type "tuple"/\o.data=.seq #[bs i,vs i] c) (hkey:∀i,i<n->(jcn P w).is (ks i) (bs i)=true) (hn:n<=sizeLine) :
  ∀(k i:Nat)(s:Shared),n-i=k->i<=n->St i s.heap->s.heap.DictOf (jcn P w) D (jf3 ks vs i)->(∀b o,h0.get? b=some o->s.heap.get? b=some o) ->
   (∀h' tk',h'.DictOf (jcn P w) D (jf3 ks vs n)->(∀b o,h0.get? b=some o->h'.get? b=some o)->R (.ok (.ret .none)) {s with heap:=h',toks:=tk'}) ->
   codeAny (model P w) A (.builtin "dict.update.loop" ⟨[.ref D,.ref I,rawInt (i:Int),.none],[]⟩) R s:=by
 have hDw:D∉wr:=λh=>hDf (W.sub _ h)
 have base:∀(h h':Heap),(∀b o,h0.get? b=some o->h.get? b=some o)->(∀b o,b∉wr->h.get? b=some o->h'.get? b=some o)->∀b o,h0.get? b=some o->h'.get? b=some o :=
  λh h' k1 k2 b o e=>k2 b o (λz=>by rw[hw0 b z]at e;cases e) (k1 b o e)
 intro k
 induction k with
 |zero =>
  intro i s hk hi hst hd kb hR
  have hin:i=n:=by omega
  subst hin
  refine Uu jku ?_
  rw[Uj jfb _]
  show wpAny _ A.in1 (pyNext (.ref I) >>= _) _ _ s
  refine Ab (W.done s _ _ hst λh' tk' hm=>?_)
  show wpAny _ A.in1 (Builtin.Dict.addKeywords D [] >>= λ_=>ret Value.none) _ _ _
  refine Ab (Ah (Ah ?_))
  have kb':=base _ _ kb hm
  exact hR h' tk' (jks hd (λo e=>hm D o hDw e)) kb'
 |succ k ih =>
  intro i s hk hi hst hd kb hR
  have hin:i<n:=by omega
  refine Uu jku ?_
  rw[Uj jfb _]
  show wpAny _ A.in1 (pyNext (.ref I) >>= _) _ _ s
  refine Ab (W.item i s _ _ hin hst λv h' tk' hv hst' hm=>?_)
  have kb':=base _ _ kb hm
  obtain⟨t,o,c,rfl,ho,hoc,hod⟩:=hit i v hin hv
  have ho':=kb' _ _ ho
  have hd':=jks hd (λo e=>hm D o hDw e)
  refine Ab (Og ?_)
  refine Ab (wpAny_tryCatch ?_)
  unfold Builtin.Dict.pairItems
  refine Ab (Yb (T:="tuple") ⟨o,ho',hoc⟩ ?_)
  rw[Ao (by decide)]
  refine Ab (wpAny_seqItems ho' hod (Ah ?_))
  show wpAny _ A.in1 (holding [bs i,vs i] (dictSet D (bs i) (vs i))) _ _ _
  have hlen:=jfn ks vs i
  refine Og (wpAny_dictSet_pairs (hsz:=by omega) (knd:=jcn P w) (hkey i hin) hd' λh2 hd2 hs=>?_)
  refine Ah ⟨Wn jfb _,?_⟩
  have kD:∀b o,h0.get? b=some o->b≠D:=λb o e z=>by rw[z,hD0]at e;cases e
  have kb2:∀b o,h0.get? b=some o->h2.get? b=some o:=λb o e=>(hs.2 b (kD b o e)).trans (kb' b o e)
  have e1:rawInt ((i:Int)+1)=rawInt ((i+1:Nat):Int):=by simp
  rw[e1]
  refine ih (i+1) _ (by omega) (by omega) (W.frame _ _ _ hst' λb hb o e=>(hs.2 b (λz=>hDf (z▸hb))).trans e) hd2 kb2 λh3 tk3 hd3 kb3=>?_
  exact hR h3 tk3 hd3 kb3
theorem jpz{E:Value->Shared->Prop}{s:Shared}{Q:Value->Shared->Prop}{l:Addr}{items:Array Value}(hh:A.handled=none)(hu:A.in1.in1.units<cLine)(hl:s.heap.IsList l items)(hnd:∀o,s.heap.get? l=some o->o.dict=none)(ks:Nat->Key)(bs:Nat->Value)(vs:Nat->Value)
  (hit:∀i v,items[i]?=some v->∃t o c,v=.ref t/\s.heap.get? t=some o/\o.cls=.type "tuple"/\o.data=.seq #[bs i,vs i] c) (hkey:∀i,i<items.size->(jcn P w).is (ks i) (bs i)=true) (hn:items.size<=sizeLine)
  (hQ:∀h' tk',h'.DictOf (jcn P w) s.heap.objs.size (jf3 ks vs items.size)->(∀b o,s.heap.get? b=some o->h'.get? b=some o)->Q (.ref s.heap.objs.size) {s with heap:=h',toks:=tk'}) :
  wpAny (model P w) A (call (.type "dict") [.ref l]) Q E s:=by
 refine callType_codes (Q₁:=λobj s1=>obj=.ref s.heap.objs.size/\s1={s with heap:=s.heap.push {cls:=.type "dict",data:=.dict #[]}}) F.kt_called_dict (F.kt_typeCall_dict_1 _) F.entry_dict_init (kt_code_dict_new _ ⟨rfl,rfl⟩) λobj s1 hs1=>?_
 obtain⟨rfl,rfl⟩:=hs1
 have hnew:(s.heap.push {cls:=.type "dict",data:=.dict #[]}).DictOf (jcn P w) s.heap.objs.size []:=Heap.DictOf.new s.heap
 have hl1:=hl.push {cls:=.type "dict",data:=.dict #[]}
 refine⟨hnew.typeIs,F.args_dict_init_2 _ _,?_⟩
 unfold Builtin.«dict.__init__»
 refine Ab ?_
 unfold Builtin.Dict.selfAndRest
 refine Ab (wpAny_notOrdered_dict hnew.typeIs ?_)
 refine(show wpAny _ _ (pure (s.heap.objs.size,[Value.ref l])) _ _ _ from Ah ?_)
 show wpAny _ _ (Builtin.Dict.updateFrom "dict.__init__" s.heap.objs.size (.ref l) [] .none) _ _ _
 unfold Builtin.Dict.updateFrom
 refine Ab (Yb hl1.typeIs ?_)
 rw[Ao (by decide)]
 refine Ab ?_
 unfold getAttr?
 refine Ab (wpAny_mkText ?_)
 unfold getAttrBy?
 obtain⟨ol,hol0,hoc,n0,hod⟩:=id hl
 have hol:=Ai {cls:=.type "dict",data:=.dict #[]} hol0
 refine Ab (Aae (jrf hol hoc hod (hnd _ hol0) hh λh' tk1 e hx=>?_))
 obtain⟨ob,fs,he,hec,_⟩:=hx.there
 refine Ab (Yu (T:="AttributeError") (b:=true) ⟨ob,he,hec⟩ sub_AttributeError ?_)
 rw[Ao rfl]
 refine Ah ?_
 rw[Ao (show(Option.isNone (none:Option Value))=true from rfl)]
 refine Ab (wpAny_rule ?_)
 have keep1:∀b o,s.heap.get? b=some o->h'.get? b=some o:=λb o e=>hx.keeps _ _ (Ai _ e)
 have hl2:h'.IsList l items:=⟨ol,keep1 _ _ hol0,hoc,n0,hod⟩
 have nov:∀a,s.heap.objs.size<=a->s.heap.get? a=none:=λa ha=>by
  cases q:s.heap.get? a with
  |none=>rfl
  |some o=>exact absurd (At q) (Nat.not_lt.mpr ha)
 have hD':h'.DictOf (jcn P w) s.heap.objs.size []:=by
  obtain⟨o,es,ep,q1,q2⟩:=hnew
  exact⟨o,es,ep,hx.keeps _ _ q1,q2⟩
 have hDlt:s.heap.objs.size<h'.objs.size:=by obtain⟨o,_,_,q1,_⟩:=hD';exact At q1
 have hllt:l<s.heap.objs.size:=At hol0
 refine Ab (wpAny_pyIter_list hl2 ?_)
 refine Ah ⟨Wn jfb _,?_⟩
 have nlI:l≠h'.objs.size:=Ax (We hllt hDlt)
 have W:=Walks.list (prog:=P) (w:=w) (A:=A.in1.in1) hh h'.objs.size l nlI items
 refine jp0 W s.heap.objs.size (λhm=>?_) hu s.heap (λb hb=>?_) (nov _ (Ak _)) ks bs vs (λi v hi hv=>hit i v hv) hkey hn items.size 0 _ (by omega) (Oa _) ⟨⟨_,A1 _ rfl,rfl,rfl⟩,hl2.push _⟩ ?_ (λb o e=>Ai _ (keep1 b o e)) (λh3 tk3 hd3 kb3=>?_)
 ·rcases Ap.mp hm with q|q
  ·exact Ax hDlt q
  ·exact Wc hllt (Aj.mp q)
 ·rw[Aj.mp hb]
  exact nov _ (Wb hDlt)
 ·obtain⟨o,es,ep,q1,q2⟩:=hD'
  exact⟨o,es,ep,Ai _ q1,q2⟩
 ·exact⟨rfl,hQ h3 tk3 hd3 kb3⟩
end
section
variable{X:Cx}
def PairsK(H:Hp)(ys:List V)(kvs:List (Key×V)):Prop:=Paired (λy (kv:Key×V)=>∃t,y=.ref t/\H t=some (.tup [kV kv.1,kv.2])) ys kvs
def jdp(kvs:List (Key×V)):List (Key×V):=kvs.foldl (λd kv=>putK d kv.1 kv.2) []
theorem PairsK.get:∀{H:Hp}{ys:List V}{kvs:List (Key×V)}{i:Nat}{y:V},PairsK H ys kvs->ys[i]?=some y->∃kv t,kvs[i]?=some kv/\y=.ref t/\H t=some (.tup [kV kv.1,kv.2])
 |_,_,_,i,y,.nil,e=>by simp at e
 |_,_,_,0,y,.cons (b:=kv) ⟨t,q⟩ _,e=>by simp at e;subst e;exact⟨kv,t,rfl,q⟩
 |_,_,_,i+1,y,.cons _ r,e=>by simp at e;obtain⟨kv,t,h⟩:=PairsK.get (kvs:=_) r e;exact⟨kv,t,by simpa using h.1,h.2⟩
def rDictK:List V->Hp->VK->Prop:=λxs H Q=>match xs with
 |[.ref l]=>(∃ys kvs,H l=some (.lst ys)/\PairsK H ys kvs/\∀p,H p=none->Q (.ref p) (upd H p (.dK (jdp kvs))))\/(∃kvs,H l=some (.dK kvs)/\∀p,H p=none->Q (.ref p) (upd H p (.dK kvs)))
 |_=>False
theorem rDictK.of{l:Addr}{H:Hp}{Q:VK}{ys:List V}{kvs:List (Key×V)}(e:H l=some (.lst ys))(h:PairsK H ys kvs)(q:∀p,H p=none->Q (.ref p) (upd H p (.dK (jdp kvs)))):rDictK [.ref l] H Q:=.inl ⟨ys,kvs,e,h,q⟩
theorem jax(hc:X.calm=true)(hu:X.A.units+64<cLine):jc0 X (.type "dict") rDictK:=by
 intro pins s σ H xs us Q I r h
 unfold rDictK at h
 split at h
 ·rename_i l
  obtain⟨u,rfl,ru⟩:=jdd r
  cases ru
  rcases h with⟨ys,kvs,e,hp,q⟩|⟨kvs,e,q⟩
  ·obtain⟨its,rr,pl,hz⟩:=I.list (SqL.of e)
   have hl:ys.length=its.length:=rr.length
   have hlk:ys.length=kvs.length:=Il hp
   have fn:∀i,∃p:Key×Value×Value,i<its.length->∃kv t o c,kvs[i]?=some kv/\p.1=kv.1/\its[i]?=some (.ref t)/\s.heap.get? t=some o/\o.cls=.type "tuple"/\o.data=.seq #[p.2.1,p.2.2] c /\
     RelV (kV kv.1) p.2.1/\RelV kv.2 p.2.2:=by
    intro i
    by_cases hi:i<its.length
    ·have hy:ys[i]?=some (ys[i]'(by omega)):=by simp
     obtain⟨kv,t,h1,h2,h3⟩:=hp.get hy
     obtain⟨u,hu1,hu2⟩:=rr.get hy
     rw[h2]at hu2
     cases hu2
     obtain⟨_,its2,r2,o,q1,q2,n,q3⟩:=(show ObjOk X.prog X.w H s.heap t (.tup [kV kv.1,kv.2])from I.hok t _ h3)
     obtain⟨u1,u2,rfl,ru1,ru2⟩:=r2.two
     exact⟨(kv.1,u1,u2),λ_=>⟨kv,t,o,n,h1,rfl,hu1,q1,q2,q3,ru1,ru2⟩⟩
    ·exact⟨(.inl 0,.none,.none),λz=>absurd z hi⟩
   obtain⟨f,hf⟩:=Classical.skolem.mp fn
   have kt:∀i,i<=its.length->KV (jdp (kvs.take i)) (jf3 (λi=>(f i).1) (λi=>(f i).2.2) i):=by
    intro i
    induction i with
    |zero=>intro _;exact .nil
    |succ i ih =>
     intro hi
     obtain⟨kv,t,o,c,h1,h2,h3,h4,h5,h6,h7,h8⟩:=hf i (by omega)
     have e1:jdp (kvs.take (i+1))=putK (jdp (kvs.take i)) kv.1 kv.2:=by
      rw[Yg,h1]
      simp[jdp,Oz]
     rw[e1]
     show KV _ (stored _ _ _)
     rw[<-h2]
     exact(ih (by omega)).put _ h8
   have hs:sizeLine=16777216:=O3
   obtain⟨ol,nl,w1,w2,w3,w4⟩:=id pl
   refine jpz (P:=X.prog) (w:=X.w) (I.ok.hd hc) (by show X.A.units+1+1<cLine;omega) pl.isList (λo e=>by rw[w1]at e;cases e;exact w3) (λi=>(f i).1) (λi=>(f i).2.1) (λi=>(f i).2.2) (λi v hv=>?_) (λi hi=>?_) (by simpa using(by omega:its.length<=sizeLine)) λh' tk' hd kb=>?_
   ·have hv':its[i]?=some v:=by simpa using hv
    have hi:i<its.length:=(Ae.mp hv').1
    obtain⟨kv,t,o,c,h1,h2,h3,h4,h5,h6,h7,h8⟩:=hf i hi
    rw[h3]at hv'
    cases hv'
    exact⟨t,o,c,rfl,h4,h5,h6⟩
   ·obtain⟨kv,t,o,c,h1,h2,h3,h4,h5,h6,h7,h8⟩:=hf i (by simpa using hi)
    show(jcn X.prog X.w).is (f i).1 (f i).2.1=true
    rw[h2]
    exact jeu h7
   ·have kt1:=kt its.length (Ak _)
    rw[O7 (by omega)]at kt1
    have hfl:=jfn (λi=>(f i).1) (λi=>(f i).2.2) its.length
    have hpl:(jdp kvs).length<=sizeLine:=by have:=Il kt1;omega
    have hfr:H s.heap.objs.size=none:=I.hok.fresh (Ak _)
    rw[Au]at hd
    refine⟨.ref s.heap.objs.size,upd H s.heap.objs.size (.dK (jdp kvs)),I.laid (t':=tk') kb (Ak _) (je2 hpl ?_ kt1 hd),rfl,q _ hfr⟩
    have:=I.big
    exact Ox.mpr (Wc this)
  ·exact jpy I (.inl e) λp s' hp I'=>⟨.ref p,_,I',rfl,q p hp⟩
 ·exact h.elim
end
section
variable{X:Cx}
def je6:V->List V->Hp->VK->Prop:=λx vs H Q=>match x,vs with
 |.ref l,[y]=>∃(xs:List V)(ds:List PyData)(d:PyData)(j:Nat),H l=some (.lst xs)/\Reps H xs ds/\Rep H y d/\PyData.canLayAll0 ds=true/\d.canLay0=true/\PyData.depthAll ds<=40/\(∃e,ds[j]?=some e/\PyData.eqv e d=true) /\
   (∀m e,m<j->ds[m]?=some e->PyData.eqv e d=false)/\Q (.int (j:Int)) H
 |_,_=>False
theorem jas(hu:X.A.units+64<cLine):MtM X "list.index" je6:=by
 intro pins s σ H x vs v us Q I rx rv h
 unfold je6 at h
 split at h
 ·rename_i l y
  obtain⟨xs,ds,d,j,e,hr,hy,hcs,hcd,hdp,⟨ej,hj,hit⟩,hno,q⟩:=h
  cases rx
  obtain⟨u,rfl,ru⟩:=rv.one
  obtain⟨z,its,n,r,hl,eo⟩:=I.lstM e
  obtain⟨as,ra⟩:=hr.reads I r
  obtain⟨bs,rb⟩:=hy.reads I ru
  have hm:=SeqAt.readsAll_map ds its as hcs ra
  have hlen:its.length=ds.length:=by rw[<-hm,Ad]
  have hjl:j<ds.length:=(Ae.mp hj).1
  have at':∀m (hm':m<its.toArray.size),ds[m]?=some (SeqAt.readOf s.heap its.toArray[m]):=λm hm'=>by
   rw[<-hm,Ag]
   have:its[m]?=some its.toArray[m]:=by simp
   rw[this]
   rfl
  have hs:sizeLine=16777216:=O3
  have hjs:j<its.toArray.size:=by rw[Au];omega
  have hxl:xs.length=its.length:=r.length
  have hz:xs.length<=sizeLine:=z
  refine W4 F.slot_list_index ⟨_,eo,rfl⟩ F.entry_list_index (F.args_list_index_2 _ _) (SeqAt.list_indexAt l its.toArray n none #[] u (λy=>PyData.eqv (SeqAt.readOf s.heap y) d) j hjs (by omega) ?_ ?_) ⟨eo,?_,?_⟩
  ·have:=at' j hjs
   rw[hj]at this
   rw[<-Aq this]
   exact hit
  ·intro m hm' hlt
   exact hno m _ hlt (at' m hm')
  ·refine SeqAt.items_eqAt (by simpa using ra) rb hcs hcd ?_
   omega
  ·exact⟨.int (j:Int),H,I.tok _,⟨_,rfl⟩,q⟩
 ·exact h.elim
theorem jaz{o i:Expr}{td ty:TE}{pos:Pos}(hu:X.A.units+1<cLine)(ho:QE X o td)(hi:QE X i ty)(hs:NoSl i):QE X (.Subscript o i pos) (jj6 td ty):=⟨pe_dget hu ho.h hi.h hs⟩
end
section
variable{X:Cx}{scope:Scope}{Nc:List Str}{js:List (Option Nat)}{elt tg iter:Expr}{pos:Pos}{wi:TI}{g:TG}{te:TE}
def jqf(scope sc:Scope):Scope:={scope with names:=scope.names.map fun(n,k)=>if(k == .free && sc.kind == .function && sc.names.lookup n == some .cell)then(n,.cell)else(n,k)}
end
def setO(L:Bool):Obj:={cls:=.type "set",dict:=none,data:=.set #[] 0 (.fresh 0 0 L)}
section
variable{prog:Program}{w:World}{A:Around}{E:Value->Shared->Prop}{s:Shared}
theorem jqi(a:Value){Q₁:Value->Shared->Prop}(h:Q₁ (.ref s.heap.objs.size) {s with heap:=s.heap.push (setO (!w.params.followText "set-order"))}) :
  codeAny (model prog w) A (.call (.builtin "set.__new__") ⟨[.type "set",a],[]⟩) (wants Q₁ E) s:=by
 have hsub:=sub_set_self
 refine codeAny_of_tree (show wpAny _ A.in1 (do checkBuiltinCall "set.__new__" ⟨[.type "set",a],[]⟩;again (.builtin "set.__new__" ⟨[.type "set",a],[]⟩)) _ _ s from ?_)
 refine Ab (wpAny_of_eq (PySem.F.newCall_set_1 a) (Ah ⟨Wn PySem.F.plain_set_new _,Uu PySem.F.entry_set_new ?_⟩))
 rw[Uj PySem.F.plain_set_new _,Builtin.«set.__new__»,Builtin.Frozenset.newClass]
 obtain⟨hp,g,d,tk,os⟩:=s
 dsimp only
 wp_walk
 refine Wh (Ah ?_)
 show wpAny _ _ (newObj (.type "set") (.set #[] 0 (.fresh 0 0 (!w.params.followText "set-order")))) _ _ _
 unfold newObj
 exact Ab (wpAny_alloc (Ah (Ah h)))
end
theorem sit_next:Slot "set_iterator" "__next__" "set_iterator.__next__":=.of (owner:="set_iterator") (n:="__next__") (by rw[typeLookup_type,Yw];kernel_rfl) (by decide +kernel) (by decide +kernel) (by decide +kernel) (.inl (by decide +kernel)) (by rw[isSubtype_type];kernel_rfl)
theorem jls:Slot "set_iterator" "__iter__" "set_iterator.__iter__":=.of (owner:="set_iterator") (n:="__iter__") (by rw[typeLookup_type,Yw];kernel_rfl) (by decide +kernel) (by decide +kernel) (by decide +kernel) (.inl (by decide +kernel)) (by rw[isSubtype_type];kernel_rfl)
theorem jpk:entryFor table "set_iterator.__next__"=some Builtin.«set_iterator.__next__»:=entryFor_of_tree (by kernel_rfl)
theorem jqk(a:Value):argsOk "set_iterator.__next__" ⟨[a],[]⟩:=by unfold argsOk;kernel_rfl
theorem jpj(a:Value):argsOk "set_iterator.__iter__" ⟨[a],[]⟩:=by unfold argsOk;kernel_rfl
theorem jig:entryFor table "set.__iter__"=some Builtin.«frozenset.__iter__»:=entryFor_alias (id':="frozenset.__iter__") (by kernel_rfl) rfl (by decide +kernel) (by kernel_rfl)
theorem jn5:entryFor table "set_iterator.__iter__"=some Builtin.«dict_keyiterator.__iter__»:=entryFor_alias (id':="dict_keyiterator.__iter__") (by kernel_rfl) rfl (by decide +kernel) (by kernel_rfl)
def SIt(h:Heap)(I:Addr)(f:Value)(i:Nat)(a:Addr)(n ep:Nat):Prop:=∃o,h.get? I=some o/\o.cls=.type "set_iterator"/\o.data=.fields #[f,.int i 0,.ref a,.int n 0,.int ep 0]
theorem SIt.ty{s:Shared}{I:Addr}{f:Value}{i:Nat}{a:Addr}{n ep:Nat}(x:SIt s.heap I f i a n ep):s.TypeIs (.ref I) "set_iterator":=let⟨o,h,c,_⟩:=x;⟨o,h,c⟩
section
variable{prog:Program}{w:World}{A:Around}{E:Value->Shared->Prop}{s:Shared}
theorem jlt{I:Addr}{f:Value}{i:Nat}{a:Addr}{n ep:Nat}{Q:Value->Shared->Prop}(x:SIt s.heap I f i a n ep)(h:Q (.ref I) s):wpAny (model prog w) A (pyIter (.ref I)) Q E s:=by
 refine wpAny_pyIter_slot x.ty jls (Ot jls x.ty jn5 ?_ (jpj _))
 exact Ah ⟨_,rfl,"set_iterator",_,x.ty,sit_next.lookup,h⟩
theorem SIt.upd{h:Heap}{I:Addr}{f:Value}{i:Nat}{a:Addr}{n ep:Nat}{o:Obj}(g:h.get? I=some o)(c:o.cls=.type "set_iterator")(d:o.data=.fields #[f,.int i 0,.ref a,.int n 0,.int ep 0])(k:Nat)(v:Value) :
  ∃o',(h.update I (Obj.mapFields (·.setIfInBounds k v))).get? I=some o'/\o'.cls=.type "set_iterator"/\o'.data=.fields ((#[f,.int i 0,.ref a,.int n 0,.int ep 0]:Array Value).setIfInBounds k v) :=
 ⟨_,O1 _ g (Yy (U2 d _)),(Obj.cls_mapFields ..).trans c,by rw[U2 d]⟩
theorem jql{B:Around}(hh:B.handled=none){Q:Option Value->Shared->Prop}{R:Fin->Shared->Prop}(h:∀h',(∀b o,s.heap.get? b=some o->h'.get? b=some o)->Q none {s with heap:=h'}) :
  wpAny (model prog w) B.in1 (newExc (.type "StopIteration") [] >>= λe=>(raiseNew e:Sem Fin)) R
   (λe s'=>wpAny (model prog w) B (do if(<-isInstance e (.type "StopIteration"))=true then pure none else throw e) Q E s') s:=by
 refine Ab ?_
 simp only[newExc,newTuple]
 refine Ab (Oh ?_ (by size_fits))
 refine Ab (m:=firstArgMember _ _) (wpAny_of_eq (a:=Value.none) (by first|rfl|(simp only[firstArgMember];rfl)) (Oh ?_ (by size_fits)))
 simp only[raiseNew]
 refine Ab (wpAny_handled ?_)
 rw[show B.in1.handled=none from hh]
 refine Ab (Ah (wpAny_throw ?_))
 refine Ab (Yu (T:="StopIteration") (b:=true) ⟨_,A1 _ rfl,rfl⟩ isSubtype_stop (Ah ?_))
 exact(h _ λb o e=>Ai _ (Ai _ e))
end
theorem jk6{α:Type}:∀(l:List α)(i:Nat)(x:α),l[i]?=some x->(x::l.eraseIdx i).Perm l
 |[],i,x,h=>by simp at h
 |a::l,0,x,h=>by simp at h;subst h;exact Yj _
 |a::l,i+1,x,h=>by
  rw[List.eraseIdx_cons_succ]
  exact(List.Perm.swap a x _).trans ((jk6 l i x (by simpa using h)).cons a)
theorem jce{α:Type}(f:Nat->Nat):∀(fuel k:Nat)(left:List α)(out:Array α),left.length=fuel->(pickOrder.go f fuel k left out).toList.Perm (out.toList++left)
 |0,k,left,out,h=>by
  rw[Ul.mp h,O9]
  exact Yj _
 |fuel+1,k,left,out,h=>by
  have hlt:f k%left.length<left.length:=Nat.mod_lt _ (by omega)
  unfold pickOrder.go
  rw[Aa hlt]
  dsimp only
  refine(jce f fuel (k+1) _ _ (by rw[List.length_eraseIdx_of_lt hlt];omega)).trans ?_
  rw[Array.toList_push,Uo]
  exact List.Perm.append_left _ (jk6 left _ _ (Aa hlt))
theorem pick_perm{α:Type}(f:Nat->Nat)(es:Array α):(pickOrder f es).toList.Perm es.toList:=by
 have:=jce f es.size 0 es.toList #[] (by simp)
 simpa[pickOrder]using this
section
variable{prog:Program}{w:World}{A:Around}{E:Value->Shared->Prop}{s:Shared}
theorem SIt.keep{h h':Heap}{I:Addr}{f:Value}{i:Nat}{a:Addr}{n ep:Nat}(x:SIt h I f i a n ep)(k:∀o,h.get? I=some o->h'.get? I=some o):SIt h' I f i a n ep:=let⟨o,g,c,d⟩:=x;⟨o,k _ g,c,d⟩
end
section
variable{prog:Program}{w:World}{A:Around}{E:Value->Shared->Prop}{s:Shared}
theorem jp7{r:Addr}{Q:Bool->Shared->Prop}(hT:s.TypeIs (.ref r) "set")(h:Q false s):wpAny (model prog w) A (Builtin.List.listLengthHint (.ref r)) Q E s:=by
 unfold Builtin.List.listLengthHint
 refine Ab (wpAny_specialOf hT PySem.F.slot_set_len.lookup ?_)
 generalize hid:("set.__len__":String)=id0
 wp_delta
 rw[show splitId id0=some ("set","__len__")from by subst hid;decide +kernel]
 subst hid
 refine Ab (Yu (T:="set") (b:=true) hT (by rw[isSubtype_type];kernel_rfl) (Oc (λq=>absurd q (by decide)) (λ_=>?_)))
 refine Oc (λ_=>Ab (Yb hT ?_)) (λq=>absurd (by decide +kernel) q)
 exact Ah h
end
abbrev FZ(o:Obj):HO:=.frz o (.ext λ_=>True)
section
variable{P:Program}{w:World}{H H':Hp}{h h':Heap}{a:Addr}{o:Obj}{cs:List Addr}
theorem FZ.get(x:HOk P w H h)(e:H a=some (FZ o)):h.get? a=some o:=(x a _ e).1
theorem FZ.mk(e:h.get? a=some o):ObjOk P w H h a (FZ o):=⟨e,trivial,⟨o,e⟩,λ_ _ _ _=>trivial⟩
def hideC(H:Hp)(cs:List Addr):Hp:=λb=>if b∈cs then none else H b
def backC(H H':Hp)(cs:List Addr):Hp:=λb=>if b∈cs then H b else H' b
theorem jd8(m:a∈cs):hideC H cs a=none:=Ao m
theorem jcs(m:a∉cs):hideC H cs a=H a:=Am m
theorem jns{u:HO}(e:hideC H cs a=some u):a∉cs/\H a=some u:=by
 by_cases m:a∈cs
 ·rw[jd8 m]at e;cases e
 ·exact⟨m,by rwa[jcs m]at e⟩
theorem jdn(e:H a=none):hideC H cs a=none:=by unfold hideC;split <;> first|rfl|exact e
theorem jel(m:a∈cs):backC H H' cs a=H a:=Ao m
theorem jc7(m:a∉cs):backC H H' cs a=H' a:=Am m
theorem HOk.hideC(x:HOk P w H h)(fz:∀c∈cs,∃o,H c=some (FZ o)):HOk P w (hideC H cs) h:=λb u q=>by
 obtain⟨_,q'⟩:=jns q
 refine(x b u q').stay (λ_ _ _ z=>z) (λc z=>?_) λc xs z=>?_
 ·rw[jcs λm=>by obtain⟨o,e⟩:=fz c m;rw[z]at e;cases e];exact z
 ·rw[jcs λm=>by obtain⟨o,e⟩:=fz c m;rw[z]at e;cases e];exact z
theorem Un.backC{fs:List Addr}(u:Un fs [] (hideC H cs) H' h h')(fz:∀c∈cs,∃o,H c=some (FZ o)):Un fs [] H (backC H H' cs) h h' where
 keep:=λb o e n hb hx=>u.keep b o e (jdn n) hb hx
 slot:=λb o e n hb hx=>u.slot b o e (jdn n) hb hx
 free:=λb o e n hx=>by
  rw[jc7 λm=>by obtain⟨o,z⟩:=fz b m;rw[n]at z;cases z]
  exact u.free b o e (jdn n) hx
 there:=u.there
 tups:=λb xs e=>by
  have m:b∉cs:=λm=>by obtain⟨o,z⟩:=fz b m;rw[e]at z;cases z
  rw[jc7 m];exact u.tups b xs (by rw[jcs m];exact e)
 frzs:=λb o u' e=>by
  by_cases m:b∈cs
  ·rw[jel m];exact e
  ·rw[jc7 m];exact u.frzs b o u' (by rw[jcs m];exact e)
 tbls:=λb ps e=>by
  have m:b∉cs:=λm=>by obtain⟨o,z⟩:=fz b m;rw[e]at z;cases z
  obtain⟨more,q⟩:=u.tbls b ps (by rw[jcs m];exact e)
  exact⟨more,by rw[jc7 m];exact q⟩
theorem HOk.backC{fs:List Addr}(x:HOk P w H h)(x':HOk P w H' h')(u:Un fs [] (L2.hideC H cs) H' h h')(fz:∀c∈cs,∃o,H c=some (FZ o))(nf:∀c∈cs,c∉fs):HOk P w (backC H H' cs) h':=λb v q=>by
 by_cases m:b∈cs
 ·rw[jel m]at q
  obtain⟨o,e⟩:=fz b m
  rw[e]at q
  cases Aq q
  exact FZ.mk (u.keep b o (FZ.get x e) (jd8 m) (nf b m) (by simp))
 ·rw[jc7 m]at q
  have no:∀c∈cs,H' c=none:=λc hc=>by
   obtain⟨o,e⟩:=fz c hc
   exact u.free c o (FZ.get x e) (jd8 hc) (by simp)
  refine(x' b v q).stay (λ_ _ _ z=>z) (λc z=>?_) λc xs z=>?_
  ·rw[jc7 λhc=>by rw[no c hc]at z;cases z];exact z
  ·rw[jc7 λhc=>by rw[no c hc]at z;cases z];exact z
theorem Kp.backC{S:List Addr}(k:Kp S (L2.hideC H cs) H'):Kp S H (backC H H' cs):=by
 refine⟨λb o e n=>?_,λb xs e=>?_,λb o e=>?_⟩
 ·by_cases m:b∈cs
  ·rw[jel m];exact e
  ·rw[jc7 m];exact k.old b o (by rw[jcs m];exact e) n
 ·by_cases m:b∈cs
  ·rw[jel m];exact e
  ·rw[jc7 m];exact k.tup b xs (by rw[jcs m];exact e)
 ·by_cases m:b∈cs
  ·exact⟨o,by rw[jel m];exact e⟩
  ·rw[jc7 m];exact k.dom b o (by rw[jcs m];exact e)
end
structure LamScope(ps fs:List Str)(sc:Scope):Prop where
 kind:sc.kind=.function
 co:sc.isCoroutine=false
 gen:sc.isGenerator=false
 nd:(ps++fs).Nodup
 par:∀x∈ps,sc.names.lookup x=some .local
 nocell:∀y∈sc.names,y.2≠.cell
 fr:∀x∈fs,sc.names.lookup x=some .free
 only:∀x,sc.names.lookup x=some .free->x∈fs
def jnm(P:Program)(w:World)(K:PySem.W.Frag)(mg:Str->Option Value)(base:Heap)(N:List Str)(qual:Str)(scope:Scope)(f:Addr)(cd:Value)(cl:List (Str×Addr))(A:Around)(outer:List Env)(s:Shared)(H:Hp):Cx where
 prog:=P
 w:=w
 K:=K
 mg:=mg
 base:=base
 A:=A.deeper (PySem.W.envX qual scope s.heap.objs.size f cd cl)
 N:=N
 s₀:=s
 H₀:=H
 env:=PySem.W.envX qual scope s.heap.objs.size f cd cl
 outer:=outer
 stack:=PySem.W.envX qual scope s.heap.objs.size f cd cl::outer
 ex:=[]
 calm:=true
 fn:=λ_=>false
 pn:=[]
 xe:=λ_ _=>False
structure Caps(H:Hp)(cl:List (Str×Addr))(fs:List Str)(ws:List V):Prop where
 len:ws.length=fs.length
 at_:∀(i:Nat)(x:Str)(v:V),fs[i]?=some x->ws[i]?=some v->∃c o u,cl.lookup x=some c/\H c=some (FZ o)/\o.data=.cell (some u)/\RelV v u
 has:∀x∈fs,∃c,cl.lookup x=some c
 fz:∀p∈cl,∃o u,H p.2=some (FZ o)/\o.data=.cell u
 inj:∀x y c,cl.lookup x=some c->cl.lookup y=some c->x=y
def CodeZ(H:Hp)(c:Addr)(qual:Str):Prop:=∃oc vs t,H c=some (FZ oc)/\oc.data=.fields vs/\vs[1]?=some (.str qual t)
theorem jng{α β:Type}:∀{l:List α}{m:List β}{i:Nat}{x:α}{y:β},l[i]?=some x->m[i]?=some y->(l.zip m)[i]?=some (x,y)
 |[],_,_,_,_,h,_=>by simp at h
 |_::_,[],_,_,_,_,h=>by simp at h
 |_::_,_::_,0,_,_,h,h'=>by simp at h h';subst h;subst h';rfl
 |_::l,_::m,i+1,_,_,h,h'=>by
  simp at h h'
  simpa using jng (l:=l) (m:=m) h h'
theorem jny{ps:List Str}{us:List Value}(nd:ps.Nodup){i:Nat}{x:Str}{u:Value}(h:ps[i]?=some x)(h':us[i]?=some u):(ps.zip us).reverse.lookup x=some u:=by
 have key:∀(l:List (Str×Value)),(l.map Prod.fst).Nodup->(x,u)∈l->l.lookup x=some u:=by
  intro l
  induction l with
  |nil=>intro _ m;cases m
  |cons q l ih =>
   intro nd m
   obtain⟨y,v⟩:=q
   rw[Ay,Of]at nd
   rcases Ap.mp m with e|m
   ·cases e;simp[List.lookup]
   ·have:x≠y:=λe=>nd.1 (by rw[<-e];exact An.mpr ⟨(x,u),m,rfl⟩)
    rw[List.lookup_cons]
    have b:(x == y)=false:=by simpa using this
    rw[b]
    exact ih nd.2 m
 refine key _ ?_ (List.mem_reverse.mpr (Al (jng h h')))
 rw[List.map_reverse]
 refine(List.reverse_perm _).nodup_iff.mpr ?_
 have:∀(l:List Str)(m:List Value),((l.zip m).map Prod.fst).Sublist l:=by
  intro l
  induction l with
  |nil=>intro m;simp
  |cons y l ih =>
   intro m
   cases m with
   |nil=>simp
   |cons v m=>exact(ih m).cons₂ y
 exact nd.sublist (this ps us)
section
variable{P:Program}{w:World}{K:PySem.W.Frag}{mg:Str->Option Value}{base:Heap}{k:Nat}{f c':Addr}{name qual:Str}{params:Arguments}{body:Expr}{scope:Scope}{pm ct:Value}{ps fs:List Str}{cl:List (Str×Addr)}{sp:Sp}
theorem jro{A:Around}{outer:List Env}{s:Shared}{h1:Heap}{tk:Tok}{H:Hp}{us:List Value}{vs ws:List V}(S:LamScope ps fs scope)(hd:A.handled=none)(e0:Env0 P w K mg base A outer s H)(hl:vs.length=ps.length)(r:Vals vs us)(cap:Caps H cl fs ws)
  (hns:h1.Ns s.heap.objs.size λy=>(ps.zip us).reverse.lookup y) (hk:∀b o,s.heap.get? b=some o->h1.get? b=some o) :
  Inv (jnm P w K mg base (ps++fs) qual scope f (.ref c') cl A outer s (hideC H (cl.map Prod.snd))) [] (vs.map some++ws.map some) (hideC H (cl.map Prod.snd)) {s with heap:=h1,toks:=tk}:=by
 have fz:∀c∈cl.map Prod.snd,∃o,H c=some (FZ o):=λc hc=>by
  obtain⟨p,hp,rfl⟩:=An.mp hc
  obtain⟨o,u,e,_⟩:=cap.fz p hp
  exact⟨o,e⟩
 have hok:=HOk.hideC e0.hok fz
 have inC:∀x c,cl.lookup x=some c->c∈cl.map Prod.snd:=λx c e=>An.mpr ⟨(x,c),Oy e,rfl⟩
 have noA:∀b:Addr,b∉(jnm P w K mg base (ps++fs) qual scope f (.ref c') cl A outer s (hideC H (cl.map Prod.snd))).ex:=λb z=>absurd (show b∈([]:List Addr)from z) (by simp)
 refine⟨⟨e0.mod,S.kind,rfl,rfl,Ak _,cap.inj,λy hy=>?_,λy c z=>(by cases z),λ_=>hd,Around.frames_deeper e0.frames,.inr ⟨rfl,rfl⟩,λb z=>absurd z (noA b),λb o e=>⟨(e0.bs b o e).1,jdn (e0.bs b o e).2⟩,e0.bsz,λb _ _=>noA b,λb z=>absurd z (noA b),e0.funs,λb z=>jdn (e0.frf b z)⟩,
  rfl,e0.bare,Un.kept hk,⟨_,hns,λi y v q1 q2 q3=>?_⟩,λy c h=>?_,jdn (e0.hok.fresh (Ak _)),λy c h=>jd8 (inC y c h),λp hp=>absurd (show p∈([]:List (Addr×Obj))from hp) (by simp),hok.kept hk,?_⟩
 ·have hy:scope.names.lookup y=some .cell\/scope.names.lookup y=some .free:=hy
  rcases hy with hy|hy
  ·exact absurd rfl (S.nocell _ (Oy hy))
  ·exact cap.has y (S.only y hy)
 ·have q1:(ps++fs)[i]?=some y:=q1
  by_cases hi:i<ps.length
  ·rw[A2 hi]at q1
   rw[A2 (by rw[Ad];omega),Ag]at q2
   have ha:vs[i]?=some v:=by
    cases e:vs[i]? with
    |none=>rw[e]at q2;cases q2
    |some a=>rw[e]at q2;cases q2;rfl
   obtain⟨u,hu,rv⟩:=r.get ha
   exact⟨u,rv,.inl ⟨S.par y (Al q1),jny (S.nd.sublist (List.sublist_append_left _ _)) q1 hu⟩⟩
  ·rw[A9 (by omega)]at q1
   rw[A9 (by rw[Ad];omega),Ad,hl,Ag]at q2
   have ha:ws[i-ps.length]?=some v:=by
    cases e:ws[i-ps.length]? with
    |none=>rw[e]at q2;cases q2
    |some a=>rw[e]at q2;cases q2;rfl
   obtain⟨c,o,u,e1,e2,e3,rv⟩:=cap.at_ _ y v q1 ha
   exact⟨u,rv,.inr ⟨.inr (S.fr y (Al q1)),c,e1,o,hk _ _ (FZ.get e0.hok e2),e3⟩⟩
 ·obtain⟨o,u,e,d⟩:=cap.fz (y,c) (Oy h)
  exact⟨u,o,hk _ _ (FZ.get e0.hok e),d⟩
 ·show(vs.map some++ws.map some).length=(ps++fs).length
  rw[Av,Av,Ad,Ad,hl,cap.len]
theorem jox(S:LamScope ps fs scope)(len:∀vs H Q E,sp vs H Q E->vs.length=ps.length)
  (hbody:∀(vs:List V)(H:Hp)(Q:VK)(E:XK),sp vs H Q E->H f=some (FZ (PySem.W.kla_obj name qual params body scope cl pm c' ct))/\CodeZ H c' qual/\∃ws,Caps H cl fs ws /\
   ∀(A:Around)(outer:List Env)(s:Shared),Room k (A.deeper (PySem.W.envX qual scope s.heap.objs.size f (.ref c') cl)) ->
    ∃t,PE (jnm P w K mg base (ps++fs) qual scope f (.ref c') cl A outer s (hideC H (cl.map Prod.snd))) body t/\t (vs.map some++ws.map some) (hideC H (cl.map Prod.snd)) λv H'=>(∀c∈cl.map Prod.snd,H' c=none)->Q v (backC H H' (cl.map Prod.snd))) :
  FnOk P w K mg base CX0 (k+1) f (PySem.W.kla_fn name qual params body scope cl pm (.ref c') ct) ps sp:=by
 refine⟨len,λA outer s H args us vs Q E hr e0 hb r hsp=>?_⟩
 have hl:=len _ _ _ _ hsp
 obtain⟨hf,⟨oc,vc,tc,hc,hoc,hv1⟩,ws,cap,hb0⟩:=hbody vs H Q E hsp
 have lim:s.heap.NoLimit:=e0.mod.nolimit.keeps λb o e=>(e0.bs b o e).1
 have fz:∀c∈cl.map Prod.snd,∃o,H c=some (FZ o):=λc hc=>by
  obtain⟨p,hp,rfl⟩:=An.mp hc
  obtain⟨o,u,e,_⟩:=cap.fz p hp
  exact⟨o,e⟩
 refine PySem.W.kla_callFunE hr.depth (FZ.get e0.hok hf) rfl S.co S.gen rfl ⟨c',oc,vc,tc,rfl,FZ.get e0.hok hc,hoc,hv1⟩ (hb _ _ _ _ ?_)
 refine Y1 S.nocell (λy hy=>S.par _ (Wp hy).1) (λh1 hns hsb=>⟨lim.fresh _ hsb,?_⟩) S.kind
 show codeAny _ _ (.expr body (PySem.W.envX qual scope s.heap.objs.size f (.ref c') cl)) _ _
 have hk:∀b o,s.heap.get? b=some o->h1.get? b=some o:=λb o e=>hsb.extBut b o (Ax (At e)) (Ai _ e)
 obtain⟨t,ht,hq⟩:=hb0 A outer s (hr.deeper _)
 have I:=jro (f:=f) (c':=c') (qual:=qual) (tk:=s.toks+(ps.zip us).length) S hr.hd e0 hl r cap hns hk
 refine PySem.W.kla_codeExpr (Ur (ht [] _ _ _ _ I hq) (λu s' hs=>?_) λe s' hs=>False.elim hs)
 obtain⟨v,H',J,rv,q⟩:=hs
 have nf:∀c∈cl.map Prod.snd,c∉frs outer:=λc hc z=>by
  obtain⟨o,e⟩:=fz c hc
  rw[e0.frf c z]at e;cases e
 exact⟨v,_,J.os,J.bare,Un.backC J.base fz,HOk.backC e0.hok J.hok J.base fz nf,rv,q λc hc=>by
  obtain⟨o,e⟩:=fz c hc
  exact J.base.free c o (FZ.get e0.hok e) (jd8 hc) (by intro z;exact absurd (show c∈([]:List Addr)from z) (by simp))⟩
end
section
variable{X:Cx}
def jhy(P:Program)(w:World)(K:PySem.W.Frag)(mg:Str->Option Value)(base:Heap)(k i:Nat)(t:TA):TE:=λσ H Q=>∃(f:Addr)(o:Obj)(fd:FuncData)(ps:List Str)(sp:Sp),σ[i]?=some (some (.ref f))/\o.data=.func fd /\
 FnOk P w K mg base CX0 k f fd ps sp/\Binds K fd ps []/\t σ H λvs H1=>H1 f=some (FZ o)/\sp vs H1 Q E0
theorem pe_callD{P:Program}{w:World}{K:PySem.W.Frag}{mg:Str->Option Value}{base:Heap}(hP:X.prog=P)(hw:X.w=w)(hK:X.K=K)(hM:X.mg=mg)(hB:X.base=base){k:Nat}{x:Str}{p pos:Pos}{e:Expr}{es:List Expr}{t:TA}(i:Nat)(hr:Room k X.A)(ha:PA X (e::es) t)
  (hN:X.N[i]?=some x:=by rfl) (hv:Vis X.env.scope x:=by first|exact Or.inl rfl|exact Or.inr (Or.inl rfl)|exact Or.inr (Or.inr rfl))
  (hdb:(x == ("__debug__":Str))=false:=by decide) (hcd:(x == ("__classdict__":Str))=false:=by decide) (he:starEach (e::es) X.env=(false,eval e X.env)::starEach es X.env:=by rfl) :
  PE X (.Call (.Name x p) (e::es) [] pos) (jhy P w K mg base k i t):=by
 subst hP;subst hw;subst hK;subst hM;subst hB
 intro pins s σ H Q I h
 obtain⟨f,o,fd,ps,sp,e0,hd,F,hb,h⟩:=h
 refine O4 (thn (jcj hN hv hdb hcd pins s σ H (λv H'=>v=.ref f/\t σ H' λvs H1=>H1 f=some (FZ o)/\sp vs H1 Q E0) I ⟨_,e0,rfl,h⟩) λu s1 ⟨v,H1,I1,r,hv1,h1⟩=>?_)
 subst hv1
 cases r
 refine callWith_def (o:=o) (fd:=fd) hd (thn (ha pos pins s1 σ H1 _ I1 h1) λus s2 ⟨vs,H2,I2,r2,q1,q2⟩=>⟨FZ.get I2.hok q1,?_⟩) he
 exact jpe F hr hb .nil ka I2 r2 (by rw[O9];exact q2)
def jc6(H:Hp)(cs:List (Addr×Obj)):Hp:=λb=>match cs.lookup b with
 |some o=>some (FZ o)
 |none=>H b
theorem jd1{H:Hp}{cs:List (Addr×Obj)}{b:Addr}{o:Obj}(e:cs.lookup b=some o):jc6 H cs b=some (FZ o):=by unfold jc6;rw[e]
theorem jc1{H:Hp}{cs:List (Addr×Obj)}{b:Addr}(e:cs.lookup b=none):jc6 H cs b=H b:=by unfold jc6;rw[e]
theorem jhj{cs:List (Addr×Obj)}{b:Addr}(h:b∈cs.map Prod.fst):∃o,cs.lookup b=some o:=by
 cases e:cs.lookup b with
 |some o=>exact⟨o,rfl⟩
 |none =>
  obtain⟨p,hp,rfl⟩:=An.mp h
  have:=List.lookup_eq_none_iff.mp e p hp
  simp at this
theorem jk1{cs:List (Addr×Obj)}{b:Addr}(h:b∉cs.map Prod.fst):cs.lookup b=none:=by
 refine List.lookup_eq_none_iff.mpr λp hp=>?_
 simp only[bne_iff_ne,ne_eq]
 rintro rfl
 exact h (An.mpr ⟨p,hp,rfl⟩)
theorem Inv.env0C{pins:List (Addr×Obj)}{σ:St}{H:Hp}{s:Shared}{cs:List (Addr×Obj)}(I:Inv X pins σ H s)(hc:∀b o,cs.lookup b=some o->s.heap.get? b=some o/\H b=none/\X.base.get? b=none/\b∉frs X.stack) :
  Env0 X.prog X.w X.K X.mg X.base X.A X.stack s (jc6 H cs):=by
 have e:=I.env0
 refine⟨e.frames,e.mod,λb o q=>⟨(e.bs b o q).1,?_⟩,e.bsz,e.funs,λb hb=>?_,λb u q=>?_,e.bare⟩
 ·cases z:cs.lookup b with
  |some o'=>rw[(hc b o' z).2.2.1]at q;cases q
  |none=>rw[jc1 z];exact(e.bs b o q).2
 ·cases z:cs.lookup b with
  |some o'=>exact absurd hb (hc b o' z).2.2.2
  |none=>rw[jc1 z];exact e.frf b hb
 ·cases z:cs.lookup b with
  |some o' =>
   rw[jd1 z]at q
   cases Aq q
   exact FZ.mk (hc b o' z).1
  |none =>
   rw[jc1 z]at q
   have no:∀c,(∃v,H c=some v)->jc6 H cs c=H c:=λc ⟨v,hv⟩=>jc1 (by
    cases y:cs.lookup c with
    |none=>rfl
    |some o=>rw[(hc c o y).2.1]at hv;cases hv)
   exact(e.hok b u q).stay (λ_ _ _ y=>y) (λc y=>by rw[no c ⟨_,y⟩];exact y) λc xs y=>by rw[no c ⟨_,y⟩];exact y
theorem Un.hideS{fs:List Addr}{P:Program}{w:World}{H H':Hp}{h h':Heap}{cs:List (Addr×Obj)}(u:Un fs [] (jc6 H cs) H' h h')(x':HOk P w H' h')(hc:∀b o,cs.lookup b=some o->h.get? b=some o/\H b=none):Un fs [] H (hideC H' (cs.map Prod.fst)) h h':=by
 have out:∀b v,H b=some v->cs.lookup b=none:=λb v e=>by
  cases y:cs.lookup b with
  |none=>rfl
  |some o=>rw[(hc b o y).2]at e;cases e
 have nin:∀b v,H b=some v->b∉cs.map Prod.fst:=λb v e m=>by
  obtain⟨o,y⟩:=jhj m
  rw[out b v e]at y;cases y
 have kept:∀b o,cs.lookup b=some o->h'.get? b=some o:=λb o z=>FZ.get x' (u.frzs b o _ (jd1 z))
 refine⟨λb o e n hb hx=>?_,λb o e n hb hx=>?_,λb o e n hx=>?_,u.there,λb xs e=>?_,λb o v e=>?_,λb ps e=>?_⟩
 ·cases z:cs.lookup b with
  |some o' =>
   have:=(hc b o' z).1
   rw[e]at this;cases this
   exact kept b o z
  |none=>exact u.keep b o e (by rw[jc1 z];exact n) hb hx
 ·cases z:cs.lookup b with
  |some o' =>
   have:=(hc b o' z).1
   rw[e]at this;cases this
   exact⟨o.slots,kept b o z⟩
  |none=>exact u.slot b o e (by rw[jc1 z];exact n) hb hx
 ·cases z:cs.lookup b with
  |some o' =>
   refine jd8 (Ig λm=>?_)
   rw[jk1 m]at z;cases z
  |none=>exact jdn (u.free b o e (by rw[jc1 z];exact n) hx)
 ·rw[jcs (nin b _ e)];exact u.tups b xs (by rw[jc1 (out b _ e)];exact e)
 ·rw[jcs (nin b _ e)];exact u.frzs b o v (by rw[jc1 (out b _ e)];exact e)
 ·obtain⟨more,q⟩:=u.tbls b ps (by rw[jc1 (out b _ e)];exact e)
  exact⟨more,by rw[jcs (nin b _ e)];exact q⟩
variable{pins:List (Addr×Obj)}{σ:St}{H:Hp}{s:Shared}
def jl9(σ:St)(H:Hp)(js:List (Nat×Addr))(cs:List (Addr×Obj)):Prop :=
 Paired (fun(j:Nat×Addr) (p:Addr×Obj)=>p.1=j.2/\H j.2=none/\∃v u,σ[j.1]?=some (some v)/\p.2.data=.cell (some u)/\RelV v u) js cs
theorem Inv.cellAt(I:Inv X pins σ H s){i:Nat}{c:Addr}{x:Str}{v:V}(hN:X.N[i]?=some x)(hk:X.env.kindOf x=some .cell)(hf:X.fn x=true)(hl:X.env.cells.lookup x=some c)(e:σ[i]?=some (some v)) :
  ∃o u,s.heap.get? c=some o/\o.data=.cell (some u)/\RelV v u/\H c=none/\X.base.get? c=none/\c∉frs X.stack:=by
 obtain⟨m,hns,loc⟩:=I.loc
 obtain⟨u,rv,lk⟩:=loc i x v hN e (.inr (.inl hk))
 rcases lk with⟨k,_⟩|⟨_,c',e',o,ho,hd⟩
 ·rw[hk]at k;cases k
 ·rw[hl]at e'
  cases Aq e'
  have ge:=I.ok.cab x c hf hl
  refine⟨o,u,ho,hd,rv,I.freeC x c hl,Heap.get?_none_of_le (Im I.ok.bsz ge),λhb=>?_⟩
  rcases Ap.mp (I.stkSub c hb)with z|z
  ·obtain⟨ol,es,ep,e1,e2,_⟩:=hns
   rw[<-z,ho]at e1
   cases Aq e1
   rw[hd]at e2;cases e2
  ·obtain⟨_,ob,hob,_⟩:=I.ok.funs.mem z
   exact absurd (At hob) (Nat.not_lt.mpr ge)
theorem jkm(I:Inv X pins σ H s):∀{js:List (Nat×Addr)},(∀j∈js,∃x,X.N[j.1]?=some x/\X.env.kindOf x=some .cell/\X.fn x=true/\X.env.cells.lookup x=some j.2)->(∀j∈js,∃v,σ[j.1]?=some (some v)) ->
  ∃cs,jl9 σ H js cs/\∀b o,cs.lookup b=some o->s.heap.get? b=some o/\H b=none/\X.base.get? b=none/\b∉frs X.stack
 |[],_,_=>⟨[],.nil,λb o z=>by cases z⟩
 |j::js,h1,h2=>by
  obtain⟨cs,pr,hc⟩:=jkm I (js:=js) (λi hi=>h1 i (.tail _ hi)) λi hi=>h2 i (.tail _ hi)
  obtain⟨x,e1,e2,e3,e4⟩:=h1 j (.head _)
  obtain⟨v,e5⟩:=h2 j (.head _)
  obtain⟨o,u,q1,q2,q3,q4,q5,q6⟩:=I.cellAt e1 e2 e3 e4 e5
  refine⟨(j.2,o)::cs,.cons ⟨rfl,q4,v,u,e5,q2,q3⟩ pr,λb o' z=>?_⟩
  rw[List.lookup_cons]at z
  split at z
  ·rename_i hb
   cases Aq z
   have:b=j.2:=by simpa using hb
   subst this
   exact⟨q1,q4,q5,q6⟩
  ·exact hc b o' z
end
theorem jni{pos pos':Pos}{c:Value}(l:List Value)(h:TriplesOk l){v:Value}(e:codeAmong pos' (l++[rawInt pos.line,rawInt pos.col,c])=some v):codeAmong pos' l=some v\/v=c:=by
 fun_induction TriplesOk l with
 |case1 =>
  simp only[List.nil_append,codeAmong,rawInt]at e
  split at e
  ·exact .inr (Aq e).symm
  ·cases e
 |case2 a t b u x rest ih =>
  simp only[List.cons_append,codeAmong]at e⊢
  split at e
  ·rename_i hc;rw[Ao hc];exact .inl e
  ·rename_i hc;rw[Am hc];exact ih h e
 |case3 l h1 h2=>exact h.elim
def TabOk(H:Hp)(Pt:Addr)(qual:Str):Prop:=∃ps,H Pt=some (.tbl ps)/\TriplesOk ps.toList/\∀pos cv,codeAmong pos ps.toList=some cv->∃c,cv=.ref c/\CodeZ H c qual
theorem CodeZ.kp{S:List Addr}{H H':Hp}{c:Addr}{qual:Str}(k:Kp S H H')(n:c∉S)(x:CodeZ H c qual):CodeZ H' c qual:=let⟨oc,vs,t,e,r⟩:=x;⟨oc,vs,t,k.old _ _ e n,r⟩
def tLam(Pt:Addr)(qual:Str)(params:Arguments)(body:Expr)(scope:Scope)(cl:List (Str×Addr))(pm:Value):TE:=λσ H Q=>TabOk H Pt qual/\∀f c ct H',H f=none->Kp [Pt] H H'->H' f=some (FZ (PySem.W.kla_obj "<lambda>" qual params body scope cl pm c ct))->CodeZ H' c qual->TabOk H' Pt qual->Q (.ref f) H'
section
variable{X:Cx}
theorem pe_lambda{params:Arguments}{body:Expr}{scope:Scope}{pos:Pos}{c Pt:Addr}{cl:List (Str×Addr)}(hdef:defaultsOf params X.env=([],[]))(hcl:closureFor scope X.env=pure cl)(hcode:X.env.code=.ref c)(hC:PySem.W.CodeHd X.base c Pt)(hbt:X.base.BuiltinsAt X.mg Pt) :
  PE X (.Lambda params body scope pos) (tLam Pt (X.env.qual++"<lambda>") params body scope cl ((X.mg "__name__").getD .none)):=by
 intro pins s σ H Q I h
 obtain⟨⟨ps,hP,ht,hin⟩,h⟩:=h
 have oP:s.heap.get? Pt=some (PySem.W.tabObj ps):=I.hok Pt _ hP
 have hgs:s.heap.Ns mainGlobals X.mg:=I.mod.glob.keeps I.bk
 have hgP:mainGlobals≠Pt:=λq=>by
  obtain⟨o,es,ep,e,hd,_⟩:=hgs
  rw[q,oP]at e;cases e;cases hd
 have hb:s.heap.BuiltinsAt X.mg Pt:=let⟨bm,o,b1,b2,b3,b4,b5,r⟩:=hbt;⟨bm,o,b1,b2,b3,b4,I.bk _ _ b5,r⟩
 have C:=hC.keeps I.bk
 refine PySem.W.kla_eval hdef ?_
 cases hf:codeAmong pos ps.toList with
 |some cv =>
  obtain⟨c',rfl,cz⟩:=hin pos cv hf
  refine PySem.W.kla_makeFunctionHit (mg:=X.mg) hcl I.ok.glob hgs hcode C oP ht hf hb λctv h' tk hk hsz=>?_
  have hf:H h'.objs.size=none:=I.hok.fresh hsz
  have kp:Kp [Pt] H (upd H h'.objs.size (FZ (PySem.W.kla_obj "<lambda>" (X.env.qual++"<lambda>") params body scope cl ((X.mg "__name__").getD .none) c' ctv))):=(Kp.refl [Pt] H).new hf
  have kp0:Kp [] H (upd H h'.objs.size (FZ (PySem.W.kla_obj "<lambda>" (X.env.qual++"<lambda>") params body scope cl ((X.mg "__name__").getD .none) c' ctv))):=(Kp.refl [] H).new hf
  refine⟨.ref h'.objs.size,_,I.laid (t':=tk) (λb u e=>Ai _ (hk b u e)) hsz (FZ.mk (A1 _ rfl)),rfl,h _ c' ctv _ hf kp jb (cz.kp kp0 (by simp)) ⟨ps,kp0.old _ _ hP Af,ht,λp v e=>?_⟩⟩
  obtain⟨c2,e2,z⟩:=hin p v e
  exact⟨c2,e2,z.kp kp0 (by simp)⟩
 |none =>
  refine PySem.W.kla_makeFunction (mg:=X.mg) hcl I.ok.glob hgs hcode C oP ht hf hgP hb λc' ctv h' tk hx hge hlt hrec htb=>?_
  obtain⟨c₂,oc,vs,t,e2,hoc,hd,hv⟩:=hrec
  cases e2
  have lP:Pt<s.heap.objs.size:=At oP
  have lt:∀b u,H b=some u->b<s.heap.objs.size:=λb u e=>(I.hok b u e).lt
  have nPc:Pt≠c':=Ax (A4 lP hge)
  have nPf:Pt≠h'.objs.size:=Ax (We (A4 lP hge) hlt)
  have ncf:c'≠h'.objs.size:=Ax hlt
  have fC:H c'=none:=I.hok.fresh hge
  have fF:H h'.objs.size=none:=I.hok.fresh (Im hge (Wb hlt))
  let o1:Obj:=PySem.W.kla_obj "<lambda>" (X.env.qual++"<lambda>") params body scope cl ((X.mg "__name__").getD .none) c' ctv
  let ps':Array Value:=ps++#[rawInt pos.line,rawInt pos.col,.ref c']
  let H':Hp:=upd (upd (upd H Pt (.tbl ps')) c' (FZ oc)) h'.objs.size (FZ o1)
  have eF:H' h'.objs.size=some (FZ o1):=jb
  have eC:H' c'=some (FZ oc):=by show upd _ _ _ c'=_;rw[jd ncf,jb]
  have eP:H' Pt=some (.tbl ps'):=by show upd _ _ _ Pt=_;rw[jd nPf,jd nPc,jb]
  have eO:∀b,b≠Pt->b≠c'->b≠h'.objs.size->H' b=H b:=λb n1 n2 n3=>by show upd _ _ _ b=_;rw[jd n3,jd n2,jd n1]
  have eS:∀b,b<s.heap.objs.size->b≠Pt->H' b=H b:=λb l n=>eO b n (Ax (A4 l hge)) (Ax (We (A4 l hge) hlt))
  have kp:Kp [Pt] H H':=by
   refine⟨λb o e n=>?_,λb xs e=>?_,λb o e=>?_⟩
   ·rw[eS b (lt b _ e) (by simpa using n)];exact e
   ·rw[eS b (lt b _ e) (λz=>by rw[z,hP]at e;cases e)];exact e
   ·by_cases z:b=Pt
    ·exact⟨_,by rw[z];exact eP⟩
    ·exact⟨o,by rw[eS b (lt b _ e) z];exact e⟩
  have kept:∀b o,b≠Pt->s.heap.get? b=some o->(h'.push o1).get? b=some o:=λb o n e=>Ai _ (hx b o n e)
  have un:Un (frs X.stack) [] H H' s.heap (h'.push o1):=by
   refine⟨λb o e n _ _=>kept b o (λz=>by rw[z,hP]at n;cases n) e,λb o e n _ _=>⟨o.slots,kept b o (λz=>by rw[z,hP]at n;cases n) e⟩,λb o e n _=>?_,λb o e _=>?_,λb xs e=>kp.tup b xs e,λb o u e=>?_,λb qs e=>?_⟩
   ·rw[eS b (At e) (λz=>by rw[z,hP]at n;cases n)];exact n
   ·by_cases z:b=Pt
    ·exact⟨_,by rw[z];exact Ai _ htb⟩
    ·exact⟨o,kept b o z e⟩
   ·exact kp.old b _ e (by simp;intro z;rw[z,hP]at e;cases e)
   ·by_cases z:b=Pt
    ·subst z
     rw[hP]at e
     cases Aq e
     exact⟨_,eP⟩
    ·exact⟨#[],by rw[eS b (lt b _ e) z,e];simp⟩
  have hok:HOk X.prog X.w H' (h'.push o1):=λb u q=>by
   by_cases z1:b=h'.objs.size
   ·subst z1
    rw[eF]at q
    cases Aq q
    exact FZ.mk (A1 _ rfl)
   ·by_cases z2:b=c'
    ·subst z2
     rw[eC]at q
     cases Aq q
     exact FZ.mk (Ai _ hoc)
    ·by_cases z3:b=Pt
     ·subst z3
      rw[eP]at q
      cases Aq q
      exact Ai _ htb
     ·rw[eO b z3 z2 z1]at q
      refine(I.hok b u q).stay (λd v hd' e=>kept d v ?_ e) (λd e=>?_) λd xs e=>kp.tup d xs e
      ·rcases hd' with rfl|hd'
       ·exact z3
       ·intro z;rw[z,hP]at hd';cases hd'
      ·exact kp.old d _ e (by simp;intro z;rw[z,hP]at e;cases e)
  have nC:∀c2,(∃o,H c2=some (FZ o))->c2∉[Pt]:=λc2 ⟨o,e⟩ m=>by
   rw[Aj.mp m,hP]at e;cases e
  refine⟨.ref h'.objs.size,H',I.call (g':=s.gens) (d':=s.drawn) (t':=tk) (ch:=[]) un hok I.bare (λb z=>absurd z (by simp)),rfl,h _ c' ctv H' fF kp eF ⟨oc,vs,t,eC,hd,hv⟩ ⟨ps',eP,?_,λp v e=>?_⟩⟩
  ·have hl:ps'.toList=ps.toList++[rawInt pos.line,rawInt pos.col,.ref c']:=by simp[ps']
   rw[hl];exact TriplesOk_snoc _ _ _ _ ht
  ·have hl:ps'.toList=ps.toList++[rawInt pos.line,rawInt pos.col,.ref c']:=by simp[ps']
   rw[hl]at e
   rcases jni _ ht e with e|rfl
   ·obtain⟨c2,e2,z⟩:=hin p v e
    exact⟨c2,e2,z.kp kp (nC c2 (let⟨oc,_,_,q,_⟩:=z;⟨oc,q⟩))⟩
   ·exact⟨c',rfl,oc,vs,t,eC,hd,hv⟩
end
theorem jrb{h:Heap}{c P:Addr}{ps:Array Value}(C:PySem.W.CodeHd h c P)(e:h.get? P=some (PySem.W.tabObj ps)):isCodeTable h P:=(C.tab e).isCodeTable
theorem jo4{P:Program}{w:World}{K:PySem.W.Frag}{mg mb:Str->Option Value}{CX:CXT}{k:Nat}{fa a:Addr}{fd:FuncData}{x:Str}{sp:Sp}{s₁:Shared}{vs:List Value}{ns:List Int}{ts:List Addr}
  (KX:K.In s₁.heap) (hns:s₁.heap.Ns mainGlobals mg) (hb:s₁.heap.Ns builtinsNs mb) (hbb:∀x:Str,x≠"__name__"->mb x=bootBuiltins x) (hlim:s₁.heap.NoLimit) (hg:s₁.gens=#[])
  (ha:s₁.heap.get? a=some {cls:=.type "list",data:=.seq vs.toArray}) (hi:IntsAre vs ns) (hl:ns.length<=sizeLine) (hr:Room k callerA)
  (hts:∀t∈ts,s₁.heap.get? t=some (PySem.W.tabObj #[])) (hcd:∀t∈ts,∃c,PySem.W.CodeHd s₁.heap c t) (hKt:∀t∈ts,K.lookup t=none) (hbm:∀t∈ts,s₁.heap.BuiltinsAt mg t)
  (F:∀base:Heap,K.In base->base.Ns mainGlobals mg->(∀t∈ts,base.BuiltinsAt mg t)->FnOk P w K mg base CX k fa fd [x] sp) (hbind:∀(s:Shared)(u:Value),BindsTo s fd ⟨[u],[]⟩ [(x,u)])
  (hsp:∀H:Hp,SqL K H a (ns.map V.int)->(∀t∈ts,H t=some (.tbl #[]))->sp [.ref a] H (λv _=>v=.bl true) λ_ _ _=>False)
  (hCX:∀H e s',CX [] H s₁ (λ_ _ _=>False) e s'->False) :
  codeAny (model P w) callerA (.call (.ref fa) ⟨[.ref a],[]⟩) (λr s'=>r=.ok (.ret (.bool true))/\OldK s₁.heap s'.heap/\s'.os=s₁.os/\AllBare s'.gens) s₁:=by
 have rv:=jjs hi
 have lenV:=hi.length
 have naT:a∉ts:=λm=>by
  have:=hts a m
  rw[ha]at this
  cases this
 have core:∀H:Hp,(∀b,H b=none\/(∃o xs,H b=some (.frz o (.lst xs)))\/b∈ts)->(∀t∈ts,H t=some (.tbl #[]))->SqL K H a (ns.map V.int)->HOk P w H s₁.heap->(∀b,H b≠none->b=a\/b∈ts)->(H a≠none->K.lookup a=none) ->
   codeAny (model P w) callerA (.call (.ref fa) ⟨[.ref a],[]⟩) (λr s'=>r=.ok (.ret (.bool true))/\OldK s₁.heap s'.heap/\s'.os=s₁.os/\AllBare s'.gens) s₁:=by
  intro H hO hT hS hok hA hK
  have base_of:∀{b:Addr}{o:Obj},s₁.heap.get? b=some o->H b=none->(hidT s₁.heap H).get? b=some o:=λe n=>jp6 e n
  have noB:∀{b:Addr}{o:Obj},s₁.heap.get? b=some o->(∀vs n,o.data≠.seq vs n)->(∀vs,o.data≠.fields vs)->H b=none:=fun{b o} e d1 d2=>by
   cases q:H b with
   |none=>rfl
   |some u =>
    rcases hA b (by rw[q];simp)with e'|e'
    ·subst e'
     rw[ha]at e;cases e
     exact absurd rfl (d1 _ _)
    ·rw[hts b e']at e;cases e
     exact absurd rfl (d2 _)
  have nsK:∀{b:Addr}{m:Str->Option Value},s₁.heap.Ns b m->(hidT s₁.heap H).Ns b m:=fun{b m} ⟨o,es,ep,e,d,r⟩=>⟨o,es,ep,base_of e (noB e (by rw[d];nofun) (by rw[d];nofun)),d,r⟩
  have hKb:K.In (hidT s₁.heap H):=λb o e=>base_of (KX b o e) (by
   cases q:H b with
   |none=>rfl
   |some u =>
    rcases hA b (by rw[q];simp)with e'|e'
    ·subst e'
     rw[hK (by rw[q];simp)]at e;cases e
    ·rw[hKt b e']at e;cases e)
  have hBb:∀t∈ts,(hidT s₁.heap H).BuiltinsAt mg t:=λt ht=>let⟨bm,o,b1,b2,b3,b4,b5,b6,b7,b8⟩:=hbm t ht
   ⟨bm,o,b1,b2,b3,b4,base_of b5 (noB b5 (by rw[b8];nofun) (by rw[b8];nofun)),b6,b7,b8⟩
  have hM:Mod K mg (hidT s₁.heap H):=⟨hKb,nsK hns,⟨mb,nsK hb,hbb⟩,let⟨mc,h1,h2⟩:=hlim;⟨mc,nsK h1,h2⟩⟩
  have e0:Env0 P w K mg (hidT s₁.heap H) callerA [] s₁ H:=⟨rfl,hM,λb o e=>jrz e,Nat.le_of_eq (joz _ _),trivial,λb hb=>absurd (show b∈([]:List Addr)from hb) (by simp),hok,.of_eq hg⟩
  refine Wy ((F _ hKb (nsK hns) hBb).run callerA [] s₁ H ⟨[.ref a],[]⟩ [.ref a] [.ref a] _ _ hr e0 (hbind s₁ (.ref a)) (.cons rfl .nil) (hsp H hS hT)) λr s' h=>?_
  cases r with
  |error e=>exact(hCX H e s' h).elim
  |ok fl =>
   cases fl with
   |next=>exact False.elim h
   |brk=>exact False.elim h
   |cont=>exact False.elim h
   |ret u =>
    obtain⟨v,H',os,bare,un,hok',r',q⟩:=h
    have q':v=.bl true:=q
    subst q'
    obtain rfl:u=Value.bool true:=r'
    have grown:∀b∈ts,∃ps,s'.heap.get? b=some (PySem.W.tabObj ps):=λb m=>by
     obtain⟨more,e⟩:=un.tbls b #[] (hT b m)
     exact⟨_,hok' b _ e⟩
    have keep:∀b o,b∉ts->s₁.heap.get? b=some o->s'.heap.get? b=some o:=λb o m e=>by
     cases q:H b with
     |none=>exact un.keep b o e q (by intro z;exact absurd (show b∈([]:List Addr)from z) (by simp)) (by simp)
     |some u =>
      rcases hO b with z|⟨ob,xs,z⟩|z
      ·rw[q]at z;cases z
      ·have z2:=un.frzs b ob _ z
       obtain⟨e1,_⟩:=hok b _ z
       obtain⟨e2,_⟩:=hok' b _ z2
       rw[e]at e1;cases e1
       exact e2
      ·exact absurd z m
    refine⟨rfl,⟨λb o e=>?_,λb o e=>?_⟩,os,bare⟩
    ·by_cases m:b∈ts
     ·obtain⟨c,hc⟩:=hcd b m
      obtain⟨ps,hP⟩:=grown b m
      have e2:=hts b m
      rw[e]at e2
      cases Aq e2
      exact .inr (.inl ⟨jrb hc (hts b m),rfl,#[],ps,rfl,by rw[Array.empty_append];exact hP⟩)
     ·exact .inl (keep b o m e)
    ·by_cases m:b∈ts
     ·obtain⟨ps,hP⟩:=grown b m
      exact⟨_,hP⟩
     ·exact⟨o,keep b o m e⟩
 cases hk:K.lookup a with
 |some o =>
  have e:=KX a o hk
  rw[ha]at e
  cases e
  refine core (λb=>if b∈ts then some (.tbl #[])else none) (λb=>?_) (λt m=>Ao m) (.inr ⟨_,vs.toArray,_,hk,rfl,rfl,rfl,by rw[Au,lenV];exact hl,by simpa using rv⟩) (λb u z=>?_) (λb z=>?_) λz=>absurd (Am naT) z
  ·by_cases m:b∈ts
   ·exact .inr (.inr m)
   ·exact .inl (Am m)
  ·by_cases m:b∈ts
   ·have z':=(Ao m).symm.trans z
    cases z'
    exact hts b m
   ·have z':=(Am m).symm.trans z
    cases z'
  ·by_cases m:b∈ts
   ·exact .inr m
   ·exact absurd (Am m) z
 |none =>
  refine core (λb=>if b∈ts then some (.tbl #[])else if b=a then some (.frz {cls:=.type "list",data:=.seq vs.toArray} (.lst (ns.map V.int)))else none) (λb=>?_) (λt m=>Ao m) (.inl (.inr ⟨{cls:=.type "list",data:=.seq vs.toArray},(Am naT).trans (Ao rfl)⟩)) (λb u z=>?_) (λb z=>?_) λ_=>hk
  ·by_cases m:b∈ts
   ·exact .inr (.inr m)
   ·by_cases hb:b=a
    ·exact .inr (.inl ⟨_,_,(Am m).trans (Ao hb)⟩)
    ·exact .inl ((Am m).trans (Am hb))
  ·by_cases m:b∈ts
   ·have z':=(Ao m).symm.trans z
    cases z'
    exact hts b m
   ·by_cases hb:b=a
    ·have z':=((Am m).trans (Ao hb)).symm.trans z
     cases z'
     subst hb
     exact⟨ha,by rw[Ad];exact hl,vs,_,rv,ha⟩
    ·have z':=((Am m).trans (Am hb)).symm.trans z
     cases z'
  ·by_cases m:b∈ts
   ·exact .inr m
   ·by_cases hb:b=a
    ·exact .inl hb
    ·exact absurd ((Am m).trans (Am hb)) z
theorem walk_ofT{l:PySem.W.OpenLaw}{n k:Nat}{q:Program}{loose:List Str}{XP:(Str->Option Value)->Heap->Prop}{YP:World->Heap->Prop}{d:DefRec}{K:Params->PySem.W.Frag}{CX:World->CXT}{sp:World->Sp}{x:Str}{ts:List Addr}
  (hn:l.most=some n) (hn2:n<=sizeLine) (hdf:d.params.defaults=[]) (hr:Room k callerA)
  (hY:∀(w:World)(h:Heap),YP w h->(K w.params).In h) (hT:∀(w:World)(h:Heap),YP w h->∀t∈ts,h.get? t=some (PySem.W.tabObj #[]))
  (hC:∀(w:World)(h:Heap),(K w.params).In h->∀t∈ts,∃c,PySem.W.CodeHd h c t) (hN:∀w:World,∀t∈ts,(K w.params).lookup t=none)
  (F:∀(w:World)(mg:Str->Option Value)(fa:Addr)(h:Heap),(K w.params).In h->h.Ns mainGlobals mg->mg d.name=some (.ref fa) ->
   ∃fd:FuncData,(∀(s:Shared)(u:Value),BindsTo s fd ⟨[u],[]⟩ [(x,u)]) /\
    ∀base:Heap,(K w.params).In base->base.Ns mainGlobals mg->(∀t∈ts,base.BuiltinsAt mg t)->FnOk l.prog w (K w.params) mg base (CX w) k fa fd [x] (sp w))
  (hsp:∀(w:World)(H:Hp)(a:Addr)(ns:List Int),ns.length<=n->SqL (K w.params) H a (ns.map V.int)->(∀t∈ts,H t=some (.tbl #[]))->sp w [.ref a] H (λv _=>v=.bl true) λ_ _ _=>False)
  (hCX:∀(w:World)(H:Hp)(s:Shared)(e:Value)(s':Shared),CX w [] H s (λ_ _ _=>False) e s'->False) :
  PySem.W.WalkO q loose XP YP l.row.toRowW d [] (λf vs=>PySem.call f vs):=by
 refine Att.attach_call hn hdf λw s₀ s₁ mg mb fa o pm cd doc a vs ns G Y ho hd hcd hmg hobj hints hlen hg=>?_
 have KX:=hY w _ Y
 have TX:=hT w _ Y
 obtain⟨fd,hb,hF⟩:=F w mg fa _ KX G.T.g hmg
 refine jo4 (ts:=ts) KX G.T.g G.T.b G.T.builtins G.T.nolimit hg hobj hints (Im hlen hn2) hr TX (hC w _ KX) (hN w) (λt ht=>?_) hF hb (λH hS hT=>hsp w H a ns hlen hS hT) λH e s'=>hCX w H s₁ e s'
 obtain⟨bm,ob,b1,b2,b3,b4,b5,b6⟩:=G.T.bmain
 refine⟨bm,ob,b1,b2,λq=>?_,λq=>?_,b3,b4,b5,b6⟩
 ·obtain⟨o,es,ep,e,hd,_⟩:=G.T.g
  rw[q,e]at b3;cases b3;rw[hd]at b6;cases b6
 ·rw[q,TX t ht]at b3;cases b3;cases b4
section
variable{X:Cx}{o i:Expr}{td ty:TE}{pos:Pos}
theorem jbw{P:Program}{w:World}{K:PySem.W.Frag}{mg:Str->Option Value}{base:Heap}(hP:X.prog=P)(hw:X.w=w)(hK:X.K=K)(hM:X.mg=mg)(hB:X.base=base){k:Nat}{x:Str}{p pos:Pos}{e:Expr}{es:List Expr}{t:TA}(i:Nat)(hr:Room k X.A)(ha:QA X (e::es) t)
  (hN:X.N[i]?=some x:=by rfl) (hv:Vis X.env.scope x:=by first|exact Or.inl rfl|exact Or.inr (Or.inl rfl)|exact Or.inr (Or.inr rfl))
  (hdb:(x == ("__debug__":Str))=false:=by decide) (hcd:(x == ("__classdict__":Str))=false:=by decide) (he:starEach (e::es) X.env=(false,eval e X.env)::starEach es X.env:=by rfl) :
  QE X (.Call (.Name x p) (e::es) [] pos) (jhy P w K mg base k i t):=⟨pe_callD hP hw hK hM hB i hr ha.h hN hv hdb hcd he⟩
theorem jbl{params:Arguments}{body:Expr}{scope:Scope}{pos:Pos}{c Pt:Addr}{cl:List (Str×Addr)}{qual:Str}{pm:Value}(hq:X.env.qual++"<lambda>"=qual)(hpm:(X.mg "__name__").getD .none=pm)(hcode:X.env.code=.ref c)(hC:PySem.W.CodeHd X.base c Pt)(hbt:X.base.BuiltinsAt X.mg Pt)
  (hdef:defaultsOf params X.env=([],[]):=by rfl) (hcl:closureFor scope X.env=pure cl:=by rfl):QE X (.Lambda params body scope pos) (tLam Pt qual params body scope cl pm):=by
 subst hq;subst hpm
 exact⟨pe_lambda hdef hcl hcode hC hbt⟩
structure QPP(X:Cx)(pos:Pos)(keys:List (Option Expr))(values:List Expr)(trs:List (TE×TE)):Prop where
 h:PPs X pos keys values trs
theorem qpps_nil{pos:Pos}:QPP X pos [] [] []:=⟨jcf⟩
theorem qpps_cons{pos:Pos}{k v:Expr}{ks:List (Option Expr)}{vs:List Expr}{tk tv:TE}{trs:List (TE×TE)}(hk:QE X k tk)(hv:QE X v tv)(hr:QPP X pos ks vs trs):QPP X pos (some k::ks) (v::vs) ((tk,tv)::trs):=⟨jb4 hk.h hv.h hr.h⟩
theorem qpe_disp{pos:Pos}{keys:List (Option Expr)}{values:List Expr}{trs:List (TE×TE)}(h:QPP X pos keys values trs)(hall:keys.all (·.isSome)=true:=by rfl)(hl:keys.length=values.length:=by rfl)(h0:keys≠[]:=by nofun)(h15:keys.length<=15:=by decide):QE X (.Dict keys values pos) (jf8 trs):=⟨pe_disp h.h hall hl h0 h15⟩
end
theorem Fun.okC{P:Program}{w:World}{K:PySem.W.Frag}{mg:Str->Option Value}{base:Heap}{x qual:Str}{st:Stmt}{f:Addr}{fd:FuncData}{N ps:List Str}{k:Nat}{sp:Sp}(F:Fun K x qual st f fd)(S:FnScope N ps (jg st))(len:∀vs H Q E,sp vs H Q E->vs.length=ps.length)
  (hbody:∀(A:Around)(outer:List Env)(s:Shared)(H:Hp)(vs:List V)(Q:VK)(E:XK),Room k (A.deeper (envOfC qual (jg st) s.heap.objs.size f fd.code))->sp vs H Q E ->
   ∃t,PSs (cxOf CX0 P w K mg base N qual (jg st) f fd.code A outer s H E).nox (jx st) t/\t {nx:=λ_ H'=>Q .non H',rt:=Q} (start N vs) H):FnOk P w K mg base CX0 (k+1) f fd ps sp:=by
 obtain⟨oc,od,kV,doc,pm,an,cdv,ct,osl,rfl,lk,hcd⟩:=F.ex
 refine jjv lk hcd S len λA outer s H vs Q E hr hsp=>?_
 obtain⟨t,h,q⟩:=hbody A outer s H vs Q E hr hsp
 exact⟨t,h.nox,q⟩
theorem Caps.kp{S:List Addr}{H H':Hp}{cl:List (Str×Addr)}{fs:List Str}{ws:List V}(k:Kp S H H')(n:∀p∈cl,p.2∉S)(c:Caps H cl fs ws):Caps H' cl fs ws :=
 ⟨c.len,λi x v e1 e2=>let⟨a,o,u,h1,h2,h3,h4⟩:=c.at_ i x v e1 e2;⟨a,o,u,h1,k.old _ _ h2 (n (x,a) (Oy h1)),h3,h4⟩,c.has,λp hp=>let⟨o,u,e,d⟩:=c.fz p hp;⟨o,u,k.old _ _ e (n p hp),d⟩,c.inj⟩
theorem TabOk.kp{S:List Addr}{H H':Hp}{Pt:Addr}{qual:Str}(k:Kp S H H')(n:Pt∉S)(hc:∀c o,H c=some (FZ o)->c∉S)(x:TabOk H Pt qual):TabOk H' Pt qual :=
 let⟨ps,e,t,h⟩:=x
 ⟨ps,k.old _ _ e n,t,λp v q=>let⟨c,e2,z⟩:=h p v q;⟨c,e2,z.kp k (let⟨oc,_,_,q,_⟩:=z;hc c oc q)⟩⟩
section
variable{X:Cx}{o e f:Expr}{apos cpos:Pos}{td ty tx:TE}
def jh0:TE:=λ_ H Q=>∀p,H p=none->Q (.ref p) (upd H p (.dK []))
theorem pe_disp0{pos:Pos}:PE X (.Dict [] [] pos) jh0:=by
 intro pins s σ H Q I q
 have hn:=I.hok.fresh (Ak s.heap.objs.size)
 have I1:=I.laid (a:=s.heap.objs.size) (o:=.dK []) (h':=s.heap.push {cls:=.type "dict",data:=.dict #[]}) (t':=s.toks) (λ_ _ q=>Ai _ q) (Ak _) (jkt s.heap I.big)
 exact wpAny_Dict_empty ⟨.ref s.heap.objs.size,_,I1,rfl,q _ hn⟩
theorem jbx{pos:Pos}:QE X (.Dict [] [] pos) jh0:=⟨pe_disp0⟩
def jhz(td ty tx:TE):TE:=λσ H Q=>td σ H λx H1=>∃a,x=.ref a/\IsD H1 a/\ty σ H1 λy H2=>tx σ H2 λz H3=>∃kvs k,H3 a=some (.dK kvs)/\y=kV k/\kvs.length<sizeLine /\
 (∀v,valV kvs k=some v->Q v H3)/\(valV kvs k=none->Q z (upd H3 a (.dK (putK kvs k z))))
theorem pe_dset(ho:PE X o td)(he:PE X e ty)(hf:PE X f tx)(m:M2 X o "setdefault" apos e f cpos):PE X (.Call (.Attribute o "setdefault" apos) [e,f] [] cpos) (jhz td ty tx):=by
 intro pins s σ H Q I h
 refine wpAny_Call_method m.base m.few m.line PySem.F.plainAttrs_dict PySem.F.slot_dict_setdefault PySem.F.type_dict_setdefault (thn (ho pins s σ H _ I h) λu s1 ⟨x,H1,I1,rx,a,ex,d,q1⟩=>?_)
 subst ex
 obtain rfl:u=Value.ref a:=rx
 obtain⟨t1,t2,_⟩:=jsi I1 d
 refine⟨t1,t2,?_⟩
 rw[m.trees]
 refine Yr rfl (Calls.evalArgs_plain (Wo (thn (he pins s1 σ H1 _ I1 q1) λiv s2 ⟨y,H2,I2,ry,q2⟩ =>
  Wo (thn (hf pins s2 σ H2 _ I2 q2) λfv s3 ⟨z,H3,I3,rz,kvs,k,ea,ey,hl,q3,q4⟩=>Yl ?_))))
 subst ey
 obtain⟨zz,hd,vs,rel,dd⟩:=jju I3.hok ea
 have hz:vs.length<=sizeLine:=by rw[<-rel.length];exact zz
 refine call_meetsIn PySem.F.slot_dict_setdefault dd.typeIs PySem.F.entry_dict_setdefault (PySem.F.args_dict_setdefault_3 _ _ _) (kt_meets_setdefault (jcn X.prog X.w) a (jeu ry) hd fv) ⟨vs,dd,hz,λv hv=>?_,λhn h' dd' hs=>?_⟩
 ·cases l:valV kvs k with
  |none =>
   have:=rel.val k
   rw[l,hv]at this
   cases this
  |some v' =>
   obtain⟨w',hw,rw'⟩:=RelO.some_of (v:=v') (o:=valueAt vs k) (by rw[<-l];exact rel.val k)
   rw[hv]at hw
   cases hw
   exact⟨v',H3,I3.tok _,rw',q3 v' l⟩
 ·have ln:valV kvs k=none:=by
   cases l:valV kvs k with
   |none=>rfl
   |some v' =>
    obtain⟨w',hw,_⟩:=RelO.some_of (v:=v') (o:=valueAt vs k) (by rw[<-l];exact rel.val k)
    rw[hn]at hw;cases hw
  have hlp:(putK kvs k z).length<=sizeLine:=by have:=jde kvs k z;omega
  have he':∃q,h'.get? a=some q:=let⟨q,_,_,hq,_⟩:=dd';⟨q,hq⟩
  exact⟨z,_,jeh I3 (by rw[ea];exact True.intro) hs he' (je2 hlp hd (rel.put k rz) dd'),rz,q4 ln⟩
theorem qpe_dset(ho:QE X o td)(he:QE X e ty)(hf:QE X f tx)(m:M2 X o "setdefault" apos e f cpos):QE X (.Call (.Attribute o "setdefault" apos) [e,f] [] cpos) (jhz td ty tx):=⟨pe_dset ho.h he.h hf.h m⟩
end
structure FunD(K:PySem.W.Frag)(x qual:Str)(st:Stmt)(f:Addr)(fd:FuncData)(td:Addr):Prop where
 ex:∃(oc:Value)(od:Option Addr)(kV doc pm:Value)(an:Option Addr)(cdv ct:Value)(osl:Array (Option Value)),
  fd=PySem.W.fnOf x qual (jy st) (jx st) (jg st) (.ref td) kV doc pm an cdv ct/\K.lookup f=some ⟨oc,od,.func fd,osl⟩/\PySem.W.codeIn K cdv qual=true
 kp:PySem.W.keepIn K (.ref f)=true
section
variable{P:Program}{w:World}{K:PySem.W.Frag}{mg:Str->Option Value}{base:Heap}{x qual:Str}{st:Stmt}{f td:Addr}{fd:FuncData}{N ps:List Str}{k:Nat}{sp:Sp}
theorem FunD.ok(F:FunD K x qual st f fd td)(S:FnScope N ps (jg st))(len:∀vs H Q E,sp vs H Q E->vs.length=ps.length)
  (hbody:∀(cdv:Value)(A:Around)(outer:List Env)(s:Shared)(H:Hp)(vs:List V)(Q:VK)(E:XK),Room k (A.deeper (envOfC qual (jg st) s.heap.objs.size f cdv))->sp vs H Q E ->
   ∃t,PSs (cxOf CX0 P w K mg base N qual (jg st) f cdv A outer s H E).nox (jx st) t/\t {nx:=λ_ H'=>Q .non H',rt:=Q} (start N vs) H):FnOk P w K mg base CX0 (k+1) f fd ps sp:=by
 obtain⟨oc,od,kV,doc,pm,an,cdv,ct,osl,rfl,lk,hcd⟩:=F.ex
 refine jjv lk hcd S len λA outer s H vs Q E hr hsp=>?_
 obtain⟨t,h,q⟩:=hbody cdv A outer s H vs Q E hr hsp
 exact⟨t,h.nox,q⟩
theorem FunD.binds{ds:List Value}{o:Obj}{items:Array Value}{n:Nat}(F:FunD K x qual st f fd td)(lk:K.lookup td=some o)(hs:o.data=.seq items n)
  (h:∀(kV doc pm:Value)(an:Option Addr)(cdv ct:Value)(us:List Value),(us++ds).length=ps.length->∃g,bindArgs (PySem.W.fnOf x qual (jy st) (jx st) (jg st) (.ref td) kV doc pm an cdv ct) ⟨us,[]⟩=(seqItems? (.ref td) >>= g)/\g (some items)=pure (ps.zip (us++ds))):Binds K fd ps ds:=by
 obtain⟨oc,od,kV,doc,pm,an,cdv,ct,osl,rfl,_,_⟩:=F.ex
 intro s us hK hl
 obtain⟨g,h1,h2⟩:=h kV doc pm an cdv ct us hl
 exact BindsTo.of_defaults (T:=td) rfl (hK _ _ lk) hs h1 h2
theorem jmp{oc:Value}{od an:Option Addr}{osl:Array (Option Value)}{kV doc pm cdv ct:Value}(l:K.lookup f=some ⟨oc,od,.func (PySem.W.fnOf x qual (jy st) (jx st) (jg st) (.ref td) kV doc pm an cdv ct),osl⟩)
  (c:PySem.W.codeIn K cdv qual=true) (k:PySem.W.keepIn K (.ref f)=true):FunD K x qual st f (PySem.W.fnOf x qual (jy st) (jx st) (jg st) (.ref td) kV doc pm an cdv ct) td:=⟨⟨oc,od,kV,doc,pm,an,cdv,ct,osl,rfl,l,c⟩,k⟩
end
section
variable{X:Cx}{pins:List (Addr×Obj)}{σ:St}{H:Hp}{s:Shared}
theorem Inv.thaw{d:Addr}{o:Obj}{u:HO}(I:Inv X pins σ H s)(e:H d=some (.frz o u))(n0:∀o u,X.H₀ d≠some (.frz o u)):Inv X pins σ (upd H d u) s:=by
 have ne:∀b v,H b=v->(∀o u,v≠some (.frz o u))->b≠d:=λb v q n z=>n o u (by rw[<-q,z,e])
 have stay:∀{b:Addr}{v:HO},ObjOk X.prog X.w H s.heap b v->ObjOk X.prog X.w (upd H d u) s.heap b v:=λx=>x.stay (λ_ _ _ q=>q) (λc q=>by rw[jd (ne c _ q (λ_ _ z=>nomatch z))];exact q) λc xs q=>by rw[jd (ne c _ q (λ_ _ z=>nomatch z))];exact q
 refine⟨I.ok,I.os,I.bare,⟨I.base.keep,I.base.slot,λb ob q n hx=>?_,I.base.there,λb xs q=>?_,λb ob v q=>?_,λb ps q=>?_⟩,I.loc,I.cell,?_,λx c q=>?_,λp hp=>?_,λb v q=>?_,I.len⟩
 ·have:=I.base.free b ob q n hx
  rw[jd (ne b _ this (λ_ _ z=>nomatch z))];exact this
 ·have:=I.base.tups b xs q
  rw[jd (ne b _ this (λ_ _ z=>nomatch z))];exact this
 ·rw[jd (λz=>n0 ob v (by rw[<-z];exact q))];exact I.base.frzs b ob v q
 ·obtain⟨more,this⟩:=I.base.tbls b ps q
  exact⟨more,by rw[jd (ne b _ this (λ_ _ z=>nomatch z))];exact this⟩
 ·rw[jd (ne _ _ I.free (λ_ _ z=>nomatch z))];exact I.free
 ·have:=I.freeC x c q
  rw[jd (ne _ _ this (λ_ _ z=>nomatch z))];exact this
 ·obtain⟨h1,h2,h3⟩:=I.pin p hp
  exact⟨h1,by rw[jd (ne _ _ h2 (λ_ _ z=>nomatch z))];exact h2,h3⟩
 ·by_cases hb:b=d
  ·subst hb
   rw[jb]at q
   cases q
   exact stay (show ObjOk X.prog X.w H s.heap b (.frz o u)from I.hok b _ e).2
  ·rw[jd hb]at q
   exact stay (I.hok b v q)
def jkb(H0:Hp)(t:TS):TS:=λD σ H=>∃d,(∀o u,H0 d≠some (.frz o u))/\t {D with nx:=λσ' H'=>∃o u,H' d=some (.frz o u)/\D.nx σ' (upd H' d u)} σ H
theorem ps_thaw{st:Stmt}{t:TS}(h:PS X st t):PS X st (jkb X.H₀ t):=by
 intro pins s σ H D I ⟨d,n0,q⟩
 refine thn (h pins s σ H _ I q) λfl s' hs=>?_
 cases fl with
 |next=>obtain⟨σ',H',I',o,u,e,q'⟩:=hs;exact⟨σ',upd H' d u,I'.thaw e n0,q'⟩
 |_=>exact hs
theorem jca{st:Stmt}{t:TS}(h:QS X st t):QS X st (jkb X.H₀ t):=⟨ps_thaw h.h⟩
end
def ItK(d:Addr)(kvs:List (Key×V))(o:Obj):It:=⟨λi H=>i<kvs.length/\H d=some (.frz o (.dK kvs)),λi H x H'=>H'=H/\∃kv,kvs[i]?=some kv/\x=kV kv.1,λi H=>kvs.length<=i/\H d=some (.frz o (.dK kvs))⟩
theorem jnn{P:Program}{w:World}{H:Hp}{h:Heap}{d:Addr}{o:Obj}{kvs:List (Key×V)}(ok:HOk P w H h)(e:H d=some (.frz o (.dK kvs))) :
  h.get? d=some o/\(d == sysModules)=false/\o.ExactDict/\∃es ep,o.data=.dict es ep/\es.size=kvs.length/\∀(i:Nat)(kv:Key×V),kvs[i]?=some kv->∃en,es[i]?=some en/\RelV (kV kv.1) en.key:=by
 obtain⟨g,z,y,vs,r,o',es,ep,q1,q2,q3,q4,q5,q6⟩:=(show ObjOk P w H h d (.frz o (.dK kvs))from ok d _ e)
 rw[g]at q1
 cases q1
 have two:∀{kvs:List (Key×V)}{vs:List (Key×Value)}{l:List DictEntry},KV kvs vs->Pairs (jcn P w) l vs->l.length=kvs.length/\∀(i:Nat)(kv:Key×V),kvs[i]?=some kv->∃en,l[i]?=some en/\RelV (kV kv.1) en.key:=by
  intro kvs vs l r
  induction r generalizing l with
  |nil=>intro p;cases p;exact⟨rfl,λi kv e=>by simp at e⟩
  |cons h _ ih =>
   intro p
   cases p with
   |cons h1 _ t =>
    obtain⟨i1,i2⟩:=ih t
    refine⟨by simp[i1],λi kv e=>?_⟩
    cases i with
    |zero =>
     simp at e
     subst e
     refine⟨_,rfl,?_⟩
     rw[h.1]
     rcases jcz h1 with⟨j,t,e1,e2⟩|⟨x,t,e1,e2⟩
     ·rw[e1,e2];exact⟨t,rfl⟩
     ·rw[e1,e2];exact⟨t,rfl⟩
    |succ i=>simp at e;obtain⟨en,a,b⟩:=i2 i kv e;exact⟨en,by simpa using a,b⟩
 obtain⟨h1,h2⟩:=two r q5
 exact⟨g,y,q2,es,ep,q3,by simpa using h1,λi kv e=>by obtain⟨en,a,b⟩:=h2 i kv e;exact⟨en,by simpa using a,b⟩⟩
theorem jr6{P:Program}{w:World}{K:PySem.W.Frag}{tg:Expr}(d it:Addr)(kvs:List (Key×V))(o:Obj)(es:Array DictEntry)(ep:Nat)(hdo:o.data=.dict es ep)(hes:es.size=kvs.length):Turn P w K tg (ItK d kvs o) [it] it (λi h=>h.IsKeyIter it d i es.size ep) where
 mem:=by simp
 obj:=λi h st b hb=>by
  cases Aj.mp hb
  obtain⟨oi,e,c,q⟩:=st
  exact⟨oi,e,λv z=>by rw[q]at z;cases z⟩
 keep:=λi h h' st k=>st.at λo e=>k it (by simp) o e
 item:=by
  intro X hP hw hK hc i pins s σ H E I hf st hg
  subst hP hw hK
  obtain⟨g,_,_,es',ep',q3,_,all⟩:=jnn I.hok hg.2
  rw[hdo]at q3
  cases q3
  obtain⟨kv,hkv⟩:∃kv,kvs[i]?=some kv:=⟨kvs[i]'hg.1,by simp⟩
  obtain⟨en,h1,h2⟩:=all i kv hkv
  obtain⟨f0,f1,f2,f3,f4,f5⟩:=hf it (by simp)
  refine jrp st g hdo h1 λh' st' sb=>?_
  have I1:Inv X pins σ H {s with heap:=h'}:=I.turned (t':=s.toks) (λb o hb e=>(sb.2 b hb).trans e) f0 f1 f3 f4 f5
  obtain⟨oi,ei,c,q⟩:=id st'
  exact⟨en.key,rfl,jf4 (s:={s with heap:=h'}) ei c q (by decide) ⟨kV kv.1,H,I1,h2,⟨rfl,kv,hkv,rfl⟩,st',λb hb=>(hf b hb).1⟩⟩
 done:=by
  intro X hP hw hK hc i pins s σ H E I hf st hg
  subst hP hw hK
  obtain⟨g,_⟩:=jnn I.hok hg.2
  obtain⟨f0,f1,f2,f3,f4,f5⟩:=hf it (by simp)
  have hi:=hg.1
  exact jsk (I.ok.hd hc) st g hdo (by omega) λh' eb=>⟨rfl,I.turned (t':=s.toks) (λb o hb e=>eb b o hb e) f0 f1 f3 f4 f5⟩
 self:=λ_ _ _ _ _ st h=>wpAny_pyIter_keyiter st h
section
variable{X:Cx}{tg:Expr}
def rDK(x:V)(H1:Hp)(R:It->Hp->Prop):Prop:=∃d kvs,x=.ref d/\((H1 d=some (.dK kvs)/\∀o,R (ItK d kvs o) (upd H1 d (.frz o (.dK kvs))))\/∃o,H1 d=some (.frz o (.dK kvs))/\R (ItK d kvs o) H1)
def iDK(ta:TE):TI:=λσ H R=>ta σ H λx H1=>rDK x H1 R
theorem pi_dK{l:Expr}{tl:TE}(hl:PE X l tl):PI X tg l (iDK tl):=by
 intro pins s σ H R I h
 refine thn (hl pins s σ H _ I h) λv s1 ⟨x,H1,I1,r1,d,kvs,ex,q1⟩=>?_
 subst ex
 cases r1
 have fin:∀(H2:Hp)(o:Obj),Inv X pins σ H2 s1->H2 d=some (.frz o (.dK kvs))->R (ItK d kvs o) H2->wpAny (model X.prog X.w) X.A (pyIter (.ref d)) (PIE X pins σ tg R) X.xe s1:=by
  intro H2 o I2 e q
  obtain⟨g,hS,q2,es,ep,q3,hes,_⟩:=jnn I2.hok e
  refine jrq hS g q2 q3 ⟨s1.heap.objs.size,[s1.heap.objs.size],_,_,H2,rfl,I2.kept (t':=s1.toks) λb o e=>Ai _ e,jr6 d _ kvs o es ep q3 hes,⟨_,A1 _ rfl,rfl,rfl⟩,λb hb=>?_,q⟩
  cases Aj.mp hb
  exact I2.fpOk (Ak _) (I2.hok.fresh (Ak _))
 rcases q1 with⟨e,q1⟩|⟨o,e,q1⟩
 ·obtain⟨z,hS,vs,r,o,es,ep,w1,w2⟩:=(show ObjOk X.prog X.w H1 s1.heap d (.dK kvs)from I1.hok d _ e)
  exact fin (upd H1 d (.frz o (.dK kvs))) o (I1.write (t':=s1.toks) (x:=d) (e:=d) (by rw[e];exact True.intro) (.inl rfl) (λb u _ q=>q) ⟨o,w1⟩ ⟨w1,z,hS,vs,r,o,es,ep,w1,w2⟩) jb (q1 o)
 ·exact fin H1 o I1 e q1
theorem jb7{l:Expr}{tl:TE}(hl:QE X l tl):QI X tg l (iDK tl):=⟨pi_dK hl.h⟩
end
theorem jia{d:Addr}{kvs:List (Key×V)}{o:Obj}{g:TG}{tb:TS}{D:Ends}{σ:L2.St}{H:Hp}(Pv:Nat->L2.St->Hp->Prop)(h0:Pv 0 σ H)(hl:∀i σ H,i<=kvs.length->Pv i σ H->H d=some (.frz o (.dK kvs)))
  (hs:∀i kv σ H,kvs[i]?=some kv->Pv i σ H->g (kV kv.1) σ H λσ2 H2=>tb {D with nx:=Pv (i+1),ct:=Pv (i+1),bk:=D.nx} σ2 H2) (hd:∀σ H,Pv kvs.length σ H->D.nx σ H):jc8 (ItK d kvs o) g tb D σ H:=by
 refine⟨λi m σ H=>m+i=kvs.length/\Pv i σ H,⟨kvs.length,rfl,h0⟩,?_⟩
 rintro i m σ H ⟨hm,p⟩
 have fz:=hl i σ H (by omega) p
 rcases Nat.lt_or_ge i kvs.length with hi|hi
 ·refine .inr ⟨⟨hi,fz⟩,Pv (i+1),λσ' H' p'=>⟨m-1,by omega,by omega,p'⟩,?_⟩
  rintro x H' ⟨rfl,kv,hkv,rfl⟩
  exact hs i kv σ H' hkv p
 ·obtain rfl:i=kvs.length:=by omega
  exact .inl ⟨⟨hi,fz⟩,hd σ H p⟩
section
variable{H:Hp}{D:Addr}{r:L2.St}{tt:TT}{te:TE}{E:Ends}
theorem joj{d:Addr}{kvs:List (Key×V)}{o:Obj}(p:V->Bool)(f:V->V)(hd:H d=some (.frz o (.dK kvs)))(hD:H D=none)(hz:kvs.length<=sizeLine)
  (ht:∀x∈kvs.map (λkv=>kV kv.1),∀l Q,Q (p x) (upd H D (.lst l))->tt (some x::r) (upd H D (.lst l)) Q) (he:∀x∈kvs.map (λkv=>kV kv.1),p x=true->∀l Q,Q (f x) (upd H D (.lst l))->te (some x::r) (upd H D (.lst l)) Q)
  (hn:∀v,E.nx (v::r) (upd H D (.lst (((kvs.map λkv=>kV kv.1).filter p).map f)))):jc8 (ItK d kvs o) (jdi 0) (jf9 D tt te) E (none::r) (upd H D (.lst [])):=by
 have ne:d≠D:=jf hd hD
 refine jia (λi σ H'=>∃v:Option V,σ=v::r/\H'=upd H D (.lst ((((kvs.map λkv=>kV kv.1).take i).filter p).map f))) ⟨none,rfl,rfl⟩ ?_ ?_ ?_
 ·rintro i σ H' _ ⟨v,_,rfl⟩
  rw[jd ne];exact hd
 ·rintro i kv σ H' hx0 ⟨v,rfl,rfl⟩
  have hx:(kvs.map λkv=>kV kv.1)[i]?=some (kV kv.1):=by rw[Ag,hx0];rfl
  have hl:i<kvs.length:=(Ae.mp hx0).1
  have hm:=Al hx
  have hf:((((kvs.map λkv=>kV kv.1).take i).filter p).map f).length<=i:=by
   rw[Ad]
   exact Im (Ud _ _) (by rw[Iz];omega)
  refine ht _ hm _ _ ?_
  by_cases q:p (kV kv.1)=true
  ·rw[q,Ao rfl]
   refine he _ hm q _ _ ⟨_,by rw[jb];rfl,by omega,some (kV kv.1),rfl,?_⟩
   rw[jh3,jiv p f _ i _ hx,Ao q]
  ·rw[Am q]
   refine⟨some (kV kv.1),rfl,?_⟩
   rw[jiv p f _ i _ hx,Am q,O9]
 ·rintro σ H' ⟨v,rfl,rfl⟩
  have:=hn v
  rw[O7 (by simp)]
  exact this
end
section
variable{X:Cx}
def js6:List V->Hp->VK->Prop:=λxs H Q=>∃a kvs,xs=[.ref a]/\Rd H a (.dK kvs)/\Q (.int (kvs.length:Int)) H
theorem jbu:jc0 X (.builtin "len") js6:=by
 intro pins s σ H xs us Q I r h
 obtain⟨a,kvs,rfl,e,q⟩:=h
 obtain⟨u,rfl,rx⟩:=jdd r
 cases rx
 exact js0 I e λt s' I'=>⟨.int _,H,I',⟨t,rfl⟩,q⟩
def js7:V->List V->Hp->VK->Prop:=λx vs H Q=>∃a kvs k v,x=.ref a/\vs=[kV k]/\H a=some (.dK kvs)/\valV kvs k=some v/\Q v (upd H a (.dK (jfc kvs k)))
theorem mt_popD:MtM X "dict.pop" js7:=by
 intro pins s σ H x vs v us Q I rx rv h
 obtain⟨a,kvs,k,y,rfl,rfl,e,l,q⟩:=h
 cases rx
 obtain⟨u,rfl,ru⟩:=rv.one
 exact js1 I e ru l (.inl rfl) λw' s' I' rw'=>⟨y,_,I',rw',q⟩
def isDk(x:V)(H:Hp):Prop:=∃p kvs,x=.ref p/\H p=some (.dK kvs)
def tBMD(r:V->List V->Hp->VK->Prop)(to:TE)(t:TA):TE:=λσ H Q=>to σ H λx H1=>isDk x H1/\t σ H1 λxs H2=>r x xs H2 Q
theorem qpe_bmD{o e:Expr}{es:List Expr}{to:TE}{t:TA}{name:Str}{apos cpos:Pos}{id:String}{r:V->List V->Hp->VK->Prop}(slot:Slot "dict" name id)(hty:typeOf (.builtin id)=pure (.type "method_descriptor"))(hm:MtM X id r)(ho:QE X o to)(ha:QA X (e::es) t)(mono:∀σ H Q Q',(∀v H',Q v H'->Q' v H')->to σ H Q->to σ H Q')
  (hbase:attributeBase o name X.env (eval o X.env)=eval o X.env:=by rfl)
  (hfew:((backTo cpos (starEach (e::es) X.env)).all (λx=>!x.1) && (backToKw cpos (keywordEach [] X.env)).all (λx=>x.1.isSome)
   && decide ((e::es).length+([]:List Keyword).length+(if([]:List Keyword).isEmpty then 0 else 1)<30))=true:=by rfl)
  (hline:(apos.endLine == cpos.line)=true:=by rfl) (hs:starEach (e::es) X.env=(false,eval e X.env)::starEach es X.env:=by rfl) (hplain:(backTo cpos (starEach es X.env)).any (·.1)=false:=by rfl) :
  QE X (.Call (.Attribute o name apos) (e::es) [] cpos) (tBMD r to t) :=
 ⟨(jch PySem.F.plainAttrs_dict slot hty hm ho.h ha.h hbase hfew hline hs hplain).imp λσ H Q h=>mono σ H _ _ (λv H' q=>⟨by
  obtain⟨⟨p,kvs,rfl,e⟩,_⟩:=q
  exact .inr (.inr (.inl ⟨rfl,.inl ⟨kvs,e⟩⟩)),q.2⟩) h⟩
def Mono(t:TE):Prop:=∀σ H (Q Q':VK),(∀v H',Q v H'->Q' v H')->t σ H Q->t σ H Q'
theorem je5(i:Nat):Mono (tVar i):=jcq
theorem jib{a b:TE}(ha:Mono a)(hb:Mono b):Mono (tOp rIxU a b):=λσ H Q Q' h q=>ha σ H _ _ (λx H1 q1=>hb σ H1 _ _ (λy H2 q2=>by
 unfold rIxU at q2⊢
 split at q2
 ·exact⟨q2.1,let⟨c,e,q3⟩:=q2.2;⟨c,e,h _ _ q3⟩⟩
 ·exact let⟨xs,e,v,e2,q3⟩:=q2;⟨xs,e,v,e2,h _ _ q3⟩
 ·exact q2.elim) q1) q
theorem jqa:Mono (tLst tNil):=λσ H Q Q' h q=>⟨q.1,λp hp=>h _ _ (q.2 p hp)⟩
theorem jo8{a b c:TE}(ha:Mono a)(hb:Mono b)(hc:Mono c):Mono (jhz a b c):=λσ H Q Q' h q=>ha σ H _ _ (λx H1 ⟨d,e,i,q1⟩=>⟨d,e,i,hb σ H1 _ _ (λy H2 q2=>hc σ H2 _ _ (λz H3 ⟨kvs,k,e1,e2,e3,q3,q4⟩=>⟨kvs,k,e1,e2,e3,λv hv=>h _ _ (q3 v hv),λhn=>h _ _ (q4 hn)⟩) q2) q1⟩) q
end
section
variable{X:Cx}{pins:List (Addr×Obj)}{σ:St}{H:Hp}{s:Shared}
theorem jqg{k:Nat}{f:Addr}{fd:FuncData}{ps:List Str}{sp:Sp}{Q:VK}{us ds:List Value}{vs dvs:List V}{cs:List (Addr×Obj)}(F:FnOk X.prog X.w X.K X.mg X.base CX0 k f fd ps sp)(hr:Room k X.A)(hb:Binds X.K fd ps ds)(hd:Vals dvs ds)
  (I:Inv X pins σ H s) (r:Vals vs us) (hc:∀b o,cs.lookup b=some o->s.heap.get? b=some o/\H b=none/\X.base.get? b=none/\b∉frs X.stack)
  (h:sp (vs++dvs) (jc6 H cs) (λv H2=>Q v (hideC H2 (cs.map Prod.fst))) E0):wpAny (model X.prog X.w) X.A (call (.ref f) us) (EP X pins σ Q) X.xe s:=by
 have r2:Vals (vs++dvs) (us++ds):=r.append hd
 have hl:(us++ds).length=ps.length:=by rw[<-r2.length];exact F.len _ _ _ _ h
 refine wpAny_call (Wy (F.run X.A X.stack s (jc6 H cs) ⟨us,[]⟩ (us++ds) (vs++dvs) _ E0 hr (I.env0C hc) (hb s us I.kIn hl) r2 h) λr s' hq=>?_)
 cases r with
 |error e=>exact False.elim hq
 |ok fl =>
  cases fl with
  |ret u =>
   obtain⟨v,H',os,bare,un,hok,rv,q⟩:=hq
   refine I.after ⟨v,_,os,bare,Un.hideS un hok λb o z=>⟨(hc b o z).1,(hc b o z).2.1⟩,HOk.hideC hok λc m=>?_,rv,q⟩
   obtain⟨o,z⟩:=jhj m
   exact⟨o,un.frzs c o _ (jd1 z)⟩
  |next=>exact False.elim hq
  |brk=>exact False.elim hq
  |cont=>exact False.elim hq
def jii(js:List (Nat×Addr))(sp:Sp)(dvs:List V)(t:TA):TE:=λσ H Q=>t σ H λvs H1=>(∀j∈js,∃v,σ[j.1]?=some (some v))/\∀cs,jl9 σ H1 js cs->sp (vs++dvs) (jc6 H1 cs) (λv H2=>Q v (hideC H2 (cs.map Prod.fst))) E0
theorem jbj{k:Nat}{f:Addr}{fd:FuncData}{ps:List Str}{sp:Sp}{x:Str}{p pos:Pos}{e:Expr}{es:List Expr}{t:TA}{ds:List Value}{dvs:List V}(js:List (Nat×Addr))(hjs:∀j∈js,∃x,X.N[j.1]?=some x/\X.env.kindOf x=some .cell/\X.fn x=true/\X.env.cells.lookup x=some j.2)
  (F:FnOk X.prog X.w X.K X.mg X.base CX0 k f fd ps sp) (hr:Room k X.A) (hg:Gl X x) (hm:X.mg x=some (.ref f)) (hk:PySem.W.keepIn X.K (.ref f)=true) (hb:Binds X.K fd ps ds) (hd:Vals dvs ds) (ha:QA X (e::es) t)
  (hdb:(x == ("__debug__":Str))=false:=by decide) (he:starEach (e::es) X.env=(false,eval e X.env)::starEach es X.env:=by rfl) (hpl:(backTo pos (starEach es X.env)).any (·.1)=false:=by rfl) :
  QE X (.Call (.Name x p) (e::es) [] pos) (jii js sp dvs t):=by
 refine⟨λpins s σ H Q I h=>?_⟩
 refine O4 (jmx I hg hm ?_ hdb)
 refine PySem.W.callWith_K (h₀:=X.base) I.ok.mod.kin hk (thn (ha.h pos pins s σ H _ I h) λus s1 ⟨vs,H1,I1,r,hb1,q⟩=>⟨I1.kIn,?_⟩) he hpl
 obtain⟨cs,pr,hc⟩:=jkm I1 hjs hb1
 exact jqg F hr hb hd I1 r hc (q cs pr)
end
theorem jgm(xs:Array Nat)(j:Nat)(hr:xs.toList.Pairwise (·<·)):∀(fuel lo hi:Nat),hi-lo<=fuel->lo<=hi->hi<=xs.size->(∀k,k<lo->∀v,xs.toList[k]?=some v->v<j)->(∀k,hi<=k->∀v,xs.toList[k]?=some v->j<=v) ->
  (∀k,k<SetTable.below.go xs j fuel lo hi->∀v,xs.toList[k]?=some v->v<j)/\(∀k,SetTable.below.go xs j fuel lo hi<=k->∀v,xs.toList[k]?=some v->j<=v)/\SetTable.below.go xs j fuel lo hi<=xs.size
 |0,lo,hi,hf,hl,hs,h1,h2=>by
  rw[SetTable.below.go]
  exact⟨h1,λk hk=>h2 k (by omega),by omega⟩
 |fuel+1,lo,hi,hf,hl,hs,h1,h2=>by
  rw[SetTable.below.go]
  have mono:∀{a b:Nat}{x y:Nat},xs.toList[a]?=some x->xs.toList[b]?=some y->a<=b->x<=y:=fun{a b x y} ha hb hab=>by
   obtain⟨la,ea⟩:=Ae.mp ha
   obtain⟨lb,eb⟩:=Ae.mp hb
   by_cases c:a=b
   ·subst c;rw[<-ea,<-eb];exact Ak _
   ·have:=(Uc.mp hr) a b la lb (by omega)
    omega
  by_cases c:lo<hi
  ·rw[Ao c]
   have hm:(lo+hi) / 2<xs.size:=by omega
   have em:xs.toList[(lo+hi) / 2]?=some (xs.getD ((lo+hi) / 2) j):=by
    rw[Ii,Oq,Ix hm];rfl
   dsimp only
   by_cases d:xs.getD ((lo+hi) / 2) j<j
   ·rw[Ao d]
    exact jgm xs j hr fuel _ hi (by omega) (by omega) hs (λk hk v hv=>by have:=mono hv em (by omega);omega) h2
   ·rw[Am d]
    exact jgm xs j hr fuel lo _ (by omega) (by omega) (by omega) h1 (λk hk v hv=>by have:=mono em hv hk;omega)
  ·rw[Am c]
   exact⟨h1,λk hk=>h2 k (by omega),by omega⟩
theorem jgn{xs:Array Nat}(hr:xs.toList.Pairwise (·<·))(j:Nat):(∀k,k<SetTable.below xs j->∀v,xs.toList[k]?=some v->v<j)/\(∀k,SetTable.below xs j<=k->∀v,xs.toList[k]?=some v->j<=v)/\SetTable.below xs j<=xs.size:=by
 unfold SetTable.below
 refine jgm xs j hr xs.size 0 xs.size (by omega) (Oa _) (Ak _) (λk hk=>by omega) λk hk v hv=>?_
 have:=(Ae.mp hv).1
 rw[Array.length_toList]at this
 omega
theorem jpu{xs:Array Nat}(hr:xs.toList.Pairwise (·<·)){i j:Nat}(h:xs.toList[i]?=some j):SetTable.below xs j=i:=by
 obtain⟨h1,h2,h3⟩:=jgn hr j
 have hi:=(Ae.mp h).1
 rw[Array.length_toList]at hi
 by_cases c:i<SetTable.below xs j
 ·have:=h1 i c j h;omega
 ·by_cases d:SetTable.below xs j=i
  ·exact d
  ·have hb:SetTable.below xs j<xs.toList.length:=by rw[Array.length_toList];omega
   have q1:=h2 _ (Ak _) _ (Aa hb)
   obtain⟨li,ei⟩:=Ae.mp h
   have q2:=(Uc.mp hr) _ i hb li (by omega)
   omega
structure LY(t:SetTable)(es:Array (Int×Value))(L:List (Nat×(Int×Value))):Prop where
 pl:t.place.toList=L.map Prod.fst
 el:es.toList=L.map Prod.snd
 ris:(L.map Prod.fst).Pairwise (·<·)
 dm:t.dummies=#[]
 mx:∀x∈L,x.1<=t.mask
theorem jmq(j:Nat):SetTable.has #[] j=false:=by
 unfold SetTable.has;simp
theorem LY.rp{t:SetTable}{es:Array (Int×Value)}{L:List (Nat×(Int×Value))}(h:LY t es L):t.place.toList.Pairwise (·<·):=by rw[h.pl];exact h.ris
theorem LY.live{t:SetTable}{es:Array (Int×Value)}{L:List (Nat×(Int×Value))}(h:LY t es L){j:Nat}{e:Int×Value}(m:(j,e)∈L):∃i,t.slot j=.live i/\es[i]?=some e:=by
 obtain⟨i,hi⟩:=Iu m
 have h1:t.place.toList[i]?=some j:=by rw[h.pl,Ag,hi];rfl
 have h2:es[i]?=some e:=by rw[<-Ii,h.el,Ag,hi];rfl
 refine⟨i,?_,h2⟩
 unfold SetTable.slot
 rw[jpu h.rp h1]
 have:(t.place[i]? == some j)=true:=by rw[<-Ii,h1];simp
 simp only[this,O0]
theorem LY.empty{t:SetTable}{es:Array (Int×Value)}{L:List (Nat×(Int×Value))}(h:LY t es L){j:Nat}(m:j∉L.map Prod.fst):t.slot j=.empty:=by
 unfold SetTable.slot
 have:(t.place[SetTable.below t.place j]? == some j)=false:=by
  rw[<-Ii,h.pl]
  cases c:(L.map Prod.fst)[SetTable.below t.place j]? with
  |none=>rfl
  |some v =>
   have:v≠j:=λe=>m (e▸Al c)
   simpa using this
 simp only[this,h.dm,jmq,Ia,Ob]
theorem jfj{α:Type}(xs:Array α)(p:Nat)(x:α)(hp:p<=xs.size):(SetTable.insertAt xs p x).toList=xs.toList.take p++x::xs.toList.drop p:=by
 unfold SetTable.insertAt
 simp only[Array.toList_append,Array.toList_push,Array.toList_extract,List.extract_eq_take_drop,Nat.sub_zero,List.drop_zero]
 rw[Uo,List.singleton_append]
 congr 2
 rw[O7]
 simp
theorem LY.put{t:SetTable}{es:Array (Int×Value)}{L:List (Nat×(Int×Value))}(h:LY t es L){j:Nat}(e:Int×Value)(nj:j∉L.map Prod.fst)(jm:j<=t.mask) :
  ∃L',LY (t.put j).1 (SetTable.insertAt es (t.put j).2 e) L'/\(∀x,x∈L'↔x=(j,e)\/x∈L)/\L'.length=L.length+1/\(L'.map Prod.snd).Perm (e::L.map Prod.snd):=by
 obtain⟨b1,b2,b3⟩:=jgn h.rp j
 have sz:t.place.size=L.length:=by rw[<-Array.length_toList,h.pl,Ad]
 have sz2:es.size=L.length:=by rw[<-Array.length_toList,h.el,Ad]
 have e2:(t.put j).2=SetTable.below t.place j:=rfl
 have e1:(t.put j).1.place=SetTable.insertAt t.place (SetTable.below t.place j) j:=rfl
 have e3:(t.put j).1.dummies=#[]:=by
  show(if SetTable.has t.dummies j=true then _ else t.dummies)=#[]
  rw[h.dm,jmq];rfl
 have e4:(t.put j).1.mask=t.mask:=rfl
 generalize SetTable.below t.place j=p at b1 b2 b3 e2 e1
 have tp:(L.take p).map Prod.fst=(L.map Prod.fst).take p:=List.map_take ..
 have dp:(L.drop p).map Prod.fst=(L.map Prod.fst).drop p:=List.map_drop ..
 have mem:∀x,x∈L.take p++(j,e)::L.drop p↔x=(j,e)\/x∈L:=λx=>by
  rw[Aw,Ap]
  constructor
  ·rintro(q|q|q)
   ·exact .inr (Y3 q)
   ·exact .inl q
   ·exact .inr (Y2 q)
  ·rintro(q|q)
   ·exact .inr (.inl q)
   ·rw[<-U5 p L,Aw]at q
    exact q.elim .inl λq=>.inr (.inr q)
 refine⟨L.take p++(j,e)::L.drop p,⟨?_,?_,?_,e3,λx hx=>?_⟩,mem,?_,?_⟩
 ·rw[e1,jfj _ _ _ b3,h.pl,A3,Ay,tp,dp]
 ·rw[e2,jfj _ _ _ (by omega),h.el,A3,Ay,List.map_take,List.map_drop]
 ·rw[A3,Ay,tp,dp]
  have r:=h.ris
  rw[<-U5 p (L.map Prod.fst),Y4]at r
  have lt:∀a∈(L.map Prod.fst).take p,a<j:=λa ha=>by
   obtain⟨k,hk⟩:=Iu ha
   have kp:k<p:=by have:=(Ae.mp hk).1;rw[Iz]at this;omega
   rw[Wd kp,<-h.pl]at hk
   exact b1 k kp a hk
  have gt:∀a∈(L.map Prod.fst).drop p,j<a:=λa ha=>by
   obtain⟨k,hk⟩:=Iu ha
   rw[List.getElem?_drop,<-h.pl]at hk
   have q:=b2 (p+k) (by omega) a hk
   have:a≠j:=λz=>nj (z▸Y2 ha)
   omega
  rw[Y4]
  refine⟨r.1,Aad.mpr ⟨gt,r.2.1⟩,λa ha b hb=>?_⟩
  rcases Ap.mp hb with q|q
  ·rw[q];exact lt a ha
  ·exact We (lt a ha) (gt b q)
 ·rw[e4]
  rcases(mem x).mp hx with q|q
  ·rw[q];exact jm
  ·exact h.mx x q
 ·rw[Av,List.length_cons,Iz,W3];omega
 ·rw[A3,Ay,List.map_take,List.map_drop]
  refine List.perm_middle.trans ?_
  rw[U5]
def adv(m:Nat)(p:SetTable.Probe):SetTable.Probe :=
 if p.more>0 then{p with j:=p.j+1,more:=p.more-1}else
 {p with j:=(p.i*5+1+p.perturb / 32)%(m+1),more:=SetTable.runEnd m ((p.i*5+1+p.perturb / 32)%(m+1))-(p.i*5+1+p.perturb / 32)%(m+1),i:=(p.i*5+1+p.perturb / 32)%(m+1),perturb:=p.perturb / 32}
def pst(m:Nat)(h:Int):SetTable.Probe:={j:=SetTable.bits h%(m+1),more:=SetTable.runEnd m (SetTable.bits h%(m+1))-SetTable.bits h%(m+1),i:=SetTable.bits h%(m+1),perturb:=SetTable.bits h,dummy:=none}
def advN(m:Nat)(p:SetTable.Probe):Nat->SetTable.Probe
 |0=>p
 |n+1=>adv m (advN m p n)
theorem jek(m:Nat)(p:SetTable.Probe)(a:Nat):∀b,advN m (advN m p a) b=advN m p (a+b)
 |0=>rfl
 |b+1=>by show adv m (advN m (advN m p a) b)=adv m (advN m p (a+b));rw[jek m p a b]
structure PV(m:Nat)(p:SetTable.Probe):Prop where
 i:p.i<=m
 pe:p.perturb<2^64
 mo:p.more<=9
 jm:p.j+p.more<=m
 dm:p.dummy=none
theorem jfx{m i:Nat}(h:i<=m):SetTable.runEnd m i<=m/\i<=SetTable.runEnd m i/\SetTable.runEnd m i-i<=9:=by
 unfold SetTable.runEnd
 split <;> omega
theorem PV.start(m:Nat)(h:Int):PV m (pst m h):=by
 have hi:SetTable.bits h%(m+1)<=m:=by have:=Nat.mod_lt (SetTable.bits h) (show 0<m+1 by omega);omega
 obtain⟨r1,r2,r3⟩:=jfx hi
 refine⟨hi,?_,r3,?_,rfl⟩
 ·show SetTable.bits h<2^64
  unfold SetTable.bits
  have:=Yd h (show(0:Int)<2^64 by decide)
  have:=Y5 h (show(2^64:Int)≠0 by decide)
  omega
 ·show SetTable.bits h%(m+1)+(SetTable.runEnd m (SetTable.bits h%(m+1))-SetTable.bits h%(m+1))<=m
  omega
theorem PV.adv{m:Nat}{p:SetTable.Probe}(h:PV m p):PV m (adv m p):=by
 unfold L2.adv
 by_cases c:p.more>0
 ·rw[Ao c]
  refine⟨h.i,h.pe,?_,?_,h.dm⟩
  ·show p.more-1<=9
   have:=h.mo;omega
  ·show p.j+1+(p.more-1)<=m
   have:=h.jm;omega
 ·rw[Am c]
  have hi:(p.i*5+1+p.perturb / 32)%(m+1)<=m:=by have:=Nat.mod_lt (p.i*5+1+p.perturb / 32) (show 0<m+1 by omega);omega
  obtain⟨r1,r2,r3⟩:=jfx hi
  refine⟨hi,?_,r3,?_,h.dm⟩
  ·show p.perturb / 32<2^64
   have:=h.pe
   exact Nat.lt_of_le_of_lt (Nat.div_le_self _ _) this
  ·generalize(p.i*5+1+p.perturb / 32)%(m+1)=x at *
   show x+(SetTable.runEnd m x-x)<=m
   omega
theorem PV.advN{m:Nat}{p:SetTable.Probe}(h:PV m p):∀n,PV m (advN m p n)
 |0=>h
 |n+1=>(PV.advN h n).adv
theorem PV.j{m:Nat}{p:SetTable.Probe}(h:PV m p):p.j<=m:=by have:=h.jm;omega
def lpI(m:Nat)(i pe:Nat):Nat->Nat×Nat
 |0=>(i,pe)
 |k+1=>(((lpI m i pe k).1*5+1+(lpI m i pe k).2 / 32)%(m+1),(lpI m i pe k).2 / 32)
theorem jea{m:Nat}:∀(k:Nat){p:SetTable.Probe},k<=p.more->(advN m p k).more=p.more-k/\(advN m p k).j=p.j+k/\(advN m p k).i=p.i/\(advN m p k).perturb=p.perturb
 |0,p,_=>⟨rfl,rfl,rfl,rfl⟩
 |k+1,p,h=>by
  obtain⟨h1,h2,h3,h4⟩:=jea (m:=m) k (p:=p) (by omega)
  show(adv m (advN m p k)).more=_/\(adv m (advN m p k)).j=_/\(adv m (advN m p k)).i=_/\(adv m (advN m p k)).perturb=_
  unfold adv
  rw[Ao (by omega)]
  exact⟨by show _-1=_;omega,by show _+1=_;omega,h3,h4⟩
theorem jp8{m:Nat}{p:SetTable.Probe}(h:PV m p):∃d,d<=10/\1<=d/\(advN m p d).i=(p.i*5+1+p.perturb / 32)%(m+1)/\(advN m p d).perturb=p.perturb / 32/\(advN m p d).j=(p.i*5+1+p.perturb / 32)%(m+1)/\d=p.more+1:=by
 obtain⟨h1,h2,h3,h4⟩:=jea (m:=m) p.more (p:=p) (Ak _)
 have:=h.mo
 refine⟨p.more+1,by omega,by omega,?_⟩
 show(adv m (advN m p p.more)).i=_/\(adv m (advN m p p.more)).perturb=_/\(adv m (advN m p p.more)).j=_/\_
 unfold adv
 rw[Am (by omega)]
 dsimp only
 rw[h3,h4]
 exact⟨rfl,rfl,rfl,rfl⟩
theorem ji1{m:Nat}{p:SetTable.Probe}(h:PV m p):∀k,∃d,d<=10*k/\(advN m p d).i=(lpI m p.i p.perturb k).1/\(advN m p d).perturb=(lpI m p.i p.perturb k).2/\(1<=k->(advN m p d).j=(lpI m p.i p.perturb k).1)
 |0=>⟨0,by omega,rfl,rfl,λh=>by omega⟩
 |k+1=>by
  obtain⟨d,h1,h2,h3,_⟩:=ji1 h k
  obtain⟨d',q1,_,q2,q3,q4,_⟩:=jp8 (h.advN d)
  rw[jek]at q2 q3 q4
  rw[h2,h3]at q2 q4
  rw[h3]at q3
  exact⟨d+d',by omega,q2,q3,λ_=>q4⟩
theorem jo7(m i pe:Nat):∀k,(lpI m i pe k).2=pe / 32^k
 |0=>by simp[lpI]
 |k+1=>by
  show(lpI m i pe k).2 / 32=_
  rw[jo7 m i pe k,Nat.div_div_eq_div_mul,Nat.pow_succ]
def orb(m:Nat)(i:Nat):Nat->Nat
 |0=>i
 |k+1=>(orb m i k*5+1)%(m+1)
theorem jmz{m i pe:Nat}{k0:Nat}(h:(lpI m i pe k0).2=0):∀k,(lpI m i pe (k0+k)).1=orb m (lpI m i pe k0).1 k/\(lpI m i pe (k0+k)).2=0
 |0=>⟨rfl,h⟩
 |k+1=>by
  obtain⟨h1,h2⟩:=jmz h k
  show((lpI m i pe (k0+k)).1*5+1+(lpI m i pe (k0+k)).2 / 32)%(m+1)=_/\(lpI m i pe (k0+k)).2 / 32=0
  rw[h1,h2]
  exact⟨rfl,rfl⟩
def orbL(m:Nat):Nat->Nat->List Nat
 |i,0=>[i]
 |i,k+1=>i::orbL m ((i*5+1)%(m+1)) k
theorem ji7(m i:Nat):∀k,orb m ((i*5+1)%(m+1)) k=orb m i (k+1)
 |0=>rfl
 |k+1=>by show(orb m _ k*5+1)%(m+1)=_;rw[ji7 m i k];rfl
theorem jk5(m:Nat):∀(n i j:Nat),j∈orbL m i n->∃k,k<=n/\orb m i k=j
 |0,i,j,h=>⟨0,Ak _,(Aj.mp h).symm⟩
 |n+1,i,j,h=>by
  rcases Ap.mp h with q|q
  ·exact⟨0,Oa _,q.symm⟩
  ·obtain⟨k,h1,h2⟩:=jk5 m n _ j q
   exact⟨k+1,by omega,by rw[<-ji7];exact h2⟩
theorem jf5(m i:Nat)(a:Nat):∀b,orb m (orb m i a) b=orb m i (a+b)
 |0=>rfl
 |b+1=>by show(orb m (orb m i a) b*5+1)%(m+1)=(orb m i (a+b)*5+1)%(m+1);rw[jf5 m i a b]
def jdo(m:Nat):Prop:=m=7\/m=31\/m=127
theorem jr0{m:Nat}(hm:jdo m){i j:Nat}(hi:i<=m)(hj:j<=m):∃k,k<=m/\orb m i k=j:=by
 have key:(List.range (m+1)).all (λj=>(orbL m 0 m).contains j)=true:=by
  rcases hm with rfl|rfl|rfl <;> decide +kernel
 have per:orb m 0 (m+1)=0:=by
  rcases hm with rfl|rfl|rfl <;> decide +kernel
 have at_:∀j,j<=m->∃k,k<=m/\orb m 0 k=j:=λj hj=>jk5 m m 0 j (by simpa using List.all_eq_true.mp key j (Ar.mpr (by omega)))
 obtain⟨a,a1,a2⟩:=at_ i hi
 obtain⟨b,b1,b2⟩:=at_ j hj
 by_cases c:a<=b
 ·exact⟨b-a,by omega,by rw[<-a2,jf5,show a+(b-a)=b by omega];exact b2⟩
 ·refine⟨m+1-a+b,by omega,?_⟩
  rw[<-a2,jf5,show a+(m+1-a+b)=m+1+b by omega,<-jf5,per]
  exact b2
theorem jqs{m:Nat}(hm:jdo m){p:SetTable.Probe}(h:PV m p){j:Nat}(hj:j<=m):∃k d,k<=13+m/\1<=k/\d<=10*k/\(lpI m p.i p.perturb k).1=j/\(advN m p d).j=j:=by
 have z:(lpI m p.i p.perturb 13).2=0:=by
  rw[jo7]
  exact Nat.div_eq_of_lt (We h.pe (by decide))
 have hi:(lpI m p.i p.perturb 13).1<=m:=by
  show(_%(m+1))<=m
  exact Nat.le_of_lt_succ (Nat.mod_lt ((lpI m p.i p.perturb 12).1*5+1+(lpI m p.i p.perturb 12).2 / 32) (show 0<m+1 by omega))
 obtain⟨k,h1,h2⟩:=jr0 hm hi hj
 obtain⟨d,q1,_,_,q2⟩:=ji1 h (13+k)
 have q3:=q2 (by omega)
 have q4:=(jmz z k).1
 exact⟨13+k,d,by omega,by omega,q1,by rw[q4,h2],by rw[q3,q4,h2]⟩
def pth(m:Nat)(h:Int)(n:Nat):SetTable.Probe:=advN m (pst m h) n
theorem jb6(m:Nat)(h:Int)(n:Nat):PV m (pth m h n):=(PV.start m h).advN n
def WayI(m:Nat)(L:List (Nat×(Int×Value))):Prop:=∀x∈L,∃n,(pth m x.2.1 n).j=x.1/\∀k,k<n->(pth m x.2.1 k).j∈L.map Prod.fst
theorem LY.uniq{t:SetTable}{es:Array (Int×Value)}{L:List (Nat×(Int×Value))}(h:LY t es L){j:Nat}{e e':Int×Value}(m:(j,e)∈L)(m':(j,e')∈L):e=e':=by
 obtain⟨i,h1,h2⟩:=h.live m
 obtain⟨i',h3,h4⟩:=h.live m'
 rw[h1]at h3
 cases h3
 rw[h2]at h4
 exact Aq h4
theorem mem_fst{L:List (Nat×(Int×Value))}{j:Nat}:j∈L.map Prod.fst↔∃e,(j,e)∈L:=by
 rw[An]
 exact⟨fun⟨x,h1,h2⟩=>⟨x.2,by rw[<-h2];exact h1⟩,fun⟨e,h⟩=>⟨_,h,rfl⟩⟩
theorem jb5{t:SetTable}{es:Array (Int×Value)}{L:List (Nat×(Int×Value))}(hy:LY t es L){ha:Nat->Int}(hh:∀i e,es[i]?=some e->ha i=e.1)(h:Int):∀(fuel n:Nat),(∃d,d<fuel/\(pth t.mask h (n+d)).j∉L.map Prod.fst) ->
  ∃d,d<fuel/\(∀k,k<d->∃e,((pth t.mask h (n+k)).j,e)∈L/\e.1≠h) /\
   ((SetTable.probe.go t ha h fuel (pth t.mask h n)=some (.empty (pth t.mask h (n+d)).j none)/\(pth t.mask h (n+d)).j∉L.map Prod.fst) \/
    ∃e i,((pth t.mask h (n+d)).j,e)∈L/\e.1=h/\es[i]?=some e/\SetTable.probe.go t ha h fuel (pth t.mask h n)=some (.candidate (pth t.mask h (n+d)).j i (pth t.mask h (n+d+1))))
 |0,n,⟨d,hd,_⟩=>by omega
 |fuel+1,n,⟨d,hd,he⟩=>by
  by_cases c:(pth t.mask h n).j∈L.map Prod.fst
  ·obtain⟨e,hm⟩:=mem_fst.mp c
   obtain⟨i,h1,h2⟩:=hy.live hm
   by_cases q:e.1=h
   ·refine⟨0,by omega,λk hk=>by omega,.inr ⟨e,i,hm,q,h2,?_⟩⟩
    rw[SetTable.probe.go,h1]
    dsimp only
    rw[hh i e h2,Ao (by simpa using q)]
    rfl
   ·have d0:d≠0:=λz=>he (by rw[z];exact c)
    obtain⟨d',q1,q2,q3⟩:=jb5 hy hh h fuel (n+1) ⟨d-1,by omega,by rw[show n+1+(d-1)=n+d by omega];exact he⟩
    have st:SetTable.probe.go t ha h (fuel+1) (pth t.mask h n)=SetTable.probe.go t ha h fuel (pth t.mask h (n+1)):=by
     rw[SetTable.probe.go,h1]
     dsimp only
     rw[hh i e h2,Am (by simpa using q)]
     rfl
    refine⟨d'+1,by omega,λk hk=>?_,?_⟩
    ·by_cases z:k=0
     ·subst z;exact⟨e,hm,q⟩
     ·have:=q2 (k-1) (by omega)
      rw[show n+1+(k-1)=n+k by omega]at this
      exact this
    ·rw[st,show n+(d'+1)=n+1+d' by omega]
     exact q3
  ·refine⟨0,by omega,λk hk=>by omega,.inl ⟨?_,c⟩⟩
   rw[SetTable.probe.go,hy.empty c]
   dsimp only
   rw[(jb6 t.mask h n).dm]
   rfl
theorem jrk{m:Nat}{L:List (Nat×(Int×Value))}(ris:(L.map Prod.fst).Pairwise (·<·))(hl:L.length<=m):∃j,j<=m/\j∉L.map Prod.fst:=Ig λno=>by
 have all:∀j,j<=m->j∈L.map Prod.fst:=λj hj=>Ig λc=>no ⟨j,hj,c⟩
 have nd:(List.range (m+1)).Nodup:=Iq
 have sub:∀x∈List.range (m+1),x∈L.map Prod.fst:=λx hx=>all x (by have:=Ar.mp hx;omega)
 have len:∀(a b:List Nat),a.Nodup->(∀x∈a,x∈b)->a.length<=b.length:=λa=>by
  induction a with
  |nil=>intro b _ _;simp
  |cons x a ih =>
   intro b nd sub
   obtain⟨nx,nd'⟩:=Of.mp nd
   have:=ih (b.erase x) nd' λy hy=>(U8 (λe:y=x=>nx (e▸hy))).mpr (sub y (.tail _ hy))
   have hb:=sub x (.head _)
   rw[Wi hb]at this
   have:=U1 hb
   rw[List.length_cons];omega
 have:=len _ _ nd sub
 rw[Az,Ad]at this
 omega
theorem jrl{m:Nat}(hm:jdo m){L:List (Nat×(Int×Value))}(ris:(L.map Prod.fst).Pairwise (·<·))(hl:L.length<=m)(h:Int)(n:Nat):∃d,d<10*SetTable.turns m/\(pth m h (n+d)).j∉L.map Prod.fst:=by
 obtain⟨j,j1,j2⟩:=jrk ris hl
 obtain⟨k,d,k1,_,d1,_,e⟩:=jqs hm (jb6 m h n) j1
 refine⟨d,by unfold SetTable.turns;omega,?_⟩
 have:pth m h (n+d)=advN m (pth m h n) d:=(jek m (pst m h) n d).symm
 rw[this,e];exact j2
theorem jhd{m:Nat}(hm:jdo m){L:List (Nat×(Int×Value))}(ris:(L.map Prod.fst).Pairwise (·<·))(hl:L.length<=m)(h:Int):∃N,N<10*SetTable.turns m/\(pth m h N).j∉L.map Prod.fst/\∀k,k<N->(pth m h k).j∈L.map Prod.fst:=by
 obtain⟨d,d1,d2⟩:=jrl hm ris hl h 0
 rw[Nat.zero_add]at d2
 have key:∀d,(pth m h d).j∉L.map Prod.fst->∃N,N<=d/\(pth m h N).j∉L.map Prod.fst/\∀k,k<N->(pth m h k).j∈L.map Prod.fst:=λd=>by
  induction d using Nat.strongRecOn with
  |ind d ih =>
   intro hd
   by_cases c:∀k,k<d->(pth m h k).j∈L.map Prod.fst
   ·exact⟨d,Ak _,hd,c⟩
   ·obtain⟨k,k1,k2⟩:∃k,k<d/\(pth m h k).j∉L.map Prod.fst:=Ig λno=>c λk hk=>Ig λz=>no ⟨k,hk,z⟩
    obtain⟨N,q1,q2⟩:=ih k k1 k2
    exact⟨N,by omega,q2⟩
 obtain⟨N,q1,q2⟩:=key d d2
 exact⟨N,by omega,q2⟩
theorem WayI.put{m:Nat}{L L':List (Nat×(Int×Value))}(h:WayI m L){e:Int×Value}{N:Nat}(hN:∀k,k<N->(pth m e.1 k).j∈L.map Prod.fst)(mem:∀x,x∈L'↔x=((pth m e.1 N).j,e)\/x∈L):WayI m L':=by
 have sub:∀j,j∈L.map Prod.fst->j∈L'.map Prod.fst:=λj hj=>by
  obtain⟨e',he⟩:=mem_fst.mp hj
  exact mem_fst.mpr ⟨e',(mem _).mpr (.inr he)⟩
 intro x hx
 rcases(mem x).mp hx with q|q
 ·subst q
  exact⟨N,rfl,λk hk=>sub _ (hN k hk)⟩
 ·obtain⟨n,h1,h2⟩:=h x q
  exact⟨n,h1,λk hk=>sub _ (h2 k hk)⟩
theorem WayI.found{t:SetTable}{es:Array (Int×Value)}{L:List (Nat×(Int×Value))}(hy:LY t es L)(h:WayI t.mask L){j:Nat}{e:Int×Value}(m:(j,e)∈L){N:Nat}(hN:(pth t.mask e.1 N).j∉L.map Prod.fst):∃k,k<N/\(pth t.mask e.1 k).j=j:=by
 obtain⟨n,h1,h2⟩:=h _ m
 refine⟨n,?_,h1⟩
 by_cases c:n<N
 ·exact c
 ·by_cases d:N=n
  ·subst d
   exact absurd (mem_fst.mpr ⟨e,by rw[h1];exact m⟩) hN
  ·exact absurd (h2 N (by omega)) hN
def Occ(ow:Array (Option Nat))(j:Nat):Prop:=∃k,ow.toList[j]?=some (some k)
structure LpS(m:Nat)(p:SetTable.Probe):Prop where
 v:PV m p
 ji:p.j=p.i
 mo:p.more=SetTable.runEnd m p.i-p.i
theorem ji4(m i pe:Nat):∀k,lpI m ((i*5+1+pe / 32)%(m+1)) (pe / 32) k=lpI m i pe (k+1)
 |0=>rfl
 |k+1=>by
  show(((lpI m ((i*5+1+pe / 32)%(m+1)) (pe / 32) k).1*5+1+(lpI m ((i*5+1+pe / 32)%(m+1)) (pe / 32) k).2 / 32)%(m+1),(lpI m ((i*5+1+pe / 32)%(m+1)) (pe / 32) k).2 / 32)=_
  rw[ji4 m i pe k];rfl
theorem LpS.next{m:Nat}{p:SetTable.Probe}(h:LpS m p):LpS m (advN m p (p.more+1))/\(advN m p (p.more+1)).i=(p.i*5+1+p.perturb / 32)%(m+1)/\(advN m p (p.more+1)).perturb=p.perturb / 32:=by
 obtain⟨h1,h2,h3,h4⟩:=jea (m:=m) p.more (p:=p) (Ak _)
 have e:advN m p (p.more+1)=adv m (advN m p p.more):=rfl
 have pv:=h.v.advN (p.more+1)
 rw[e]at pv⊢
 unfold adv at pv⊢
 rw[Am (by omega)]at pv⊢
 refine⟨⟨pv,rfl,rfl⟩,?_,?_⟩
 ·show((advN m p p.more).i*5+1+(advN m p p.more).perturb / 32)%(m+1)=_
  rw[h3,h4]
 ·show(advN m p p.more).perturb / 32=_
  rw[h4]
theorem jiy{m:Nat}{ow:Array (Option Nat)}(sz:ow.size=m+1):∀(fuel:Nat){p:SetTable.Probe},LpS m p->(∃k,k<fuel/\¬Occ ow (lpI m p.i p.perturb k).1) ->
  ∃n,SetTable.layClean.free m ow fuel p.i p.perturb=some (advN m p n).j/\¬Occ ow (advN m p n).j/\∀k,k<n->Occ ow (advN m p k).j
 |0,p,_,⟨k,hk,_⟩=>by omega
 |fuel+1,p,hp,⟨k,hk,hf⟩=>by
  have pi:=hp.v.i
  obtain⟨r1,r2,r3⟩:=jfx pi
  have mo:=hp.mo
  have ji:=hp.ji
  have nn:∀a,a<=m->((ow.getD a (some 0)).isNone=true↔¬Occ ow a):=λa ha=>by
   have hl:a<ow.size:=by omega
   rw[Oq,Ix hl]
   show(ow[a]).isNone=true↔_
   unfold Occ
   rw[Ii,Ix hl]
   cases ow[a]with
   |none=>simp
   |some k=>simp
  rw[SetTable.layClean.free]
  cases hq:(List.range (SetTable.runEnd m p.i+1-p.i)).find? λk=>(ow.getD (p.i+k) (some 0)).isNone with
  |some k0 =>
   obtain⟨q1,q2,q3⟩:=List.find?_range_eq_some.mp hq
   have kl:=Ar.mp q2
   obtain⟨_,w2,_,_⟩:=jea (m:=m) k0 (p:=p) (by omega)
   refine⟨k0,by rw[w2,ji],by rw[w2,ji];exact(nn _ (by omega)).mp q1,λk hk=>?_⟩
   obtain⟨_,w2,_,_⟩:=jea (m:=m) k (p:=p) (by omega)
   rw[w2,ji]
   have:=q3 k hk
   exact Ig λc=>by rw[(nn _ (by omega)).mpr c]at this;cases this
  |none =>
   have all:∀a,a<=p.more->Occ ow (p.i+a):=λa ha=>Ig λc=>by
    have:=List.find?_eq_none.mp hq a (Ar.mpr (by omega))
    exact this ((nn _ (by omega)).mpr c)
   obtain⟨nx,ni,npe⟩:=hp.next
   have k0:k≠0:=λz=>hf (by rw[z];exact all 0 (Oa _))
   obtain⟨n,g1,g2,g3⟩:=jiy sz fuel nx ⟨k-1,by omega,by rw[ni,npe,ji4,show k-1+1=k by omega];exact hf⟩
   rw[jek]at g1 g2
   refine⟨p.more+1+n,?_,g2,λk hk=>?_⟩
   ·rw[<-g1,ni,npe];rfl
   ·by_cases c:k<=p.more
    ·obtain⟨_,w2,_,_⟩:=jea (m:=m) k (p:=p) c
     rw[w2,ji];exact all k c
    ·have:=g3 (k-(p.more+1)) (by omega)
     rw[jek,show p.more+1+(k-(p.more+1))=k by omega]at this
     exact this
structure OW(m:Nat)(hs:List Int)(ow:Array (Option Nat)):Prop where
 sz:ow.size=m+1
 ex:∀k,k<hs.length->∃j:Nat,ow.toList[j]?=some (some k)
 lt:∀(j k:Nat),ow.toList[j]?=some (some k)->k<hs.length
 un:∀(j j' k:Nat),ow.toList[j]?=some (some k)->ow.toList[j']?=some (some k)->j=j'
 way:∀(j k:Nat)(h:Int),ow.toList[j]?=some (some k)->hs[k]?=some h->∃n,(pth m h n).j=j/\∀i,i<n->Occ ow (pth m h i).j
theorem OW.nil(m:Nat):OW m [] (Array.replicate (m+1) none):=by
 have no:∀j k,(Array.replicate (m+1) (none:Option Nat)).toList[j]?≠some (some k):=λj k e=>by
  rw[Array.toList_replicate,U0]at e
  split at e <;> cases e
 exact⟨by simp,λk hk=>by simp at hk,λj k e=>absurd e (no j k),λj j' k e=>absurd e (no j k),λj k h e=>absurd e (no j k)⟩
theorem nodup_len:∀(a b:List Nat),a.Nodup->(∀x∈a,x∈b)->a.length<=b.length:=λa=>by
 induction a with
 |nil=>intro b _ _;simp
 |cons x a ih =>
  intro b nd sub
  obtain⟨nx,nd'⟩:=Of.mp nd
  have:=ih (b.erase x) nd' λy hy=>(U8 (λe:y=x=>nx (e▸hy))).mpr (sub y (.tail _ hy))
  have hb:=sub x (.head _)
  rw[Wi hb]at this
  have:=U1 hb
  rw[List.length_cons];omega
theorem OW.free{m:Nat}{hs:List Int}{ow:Array (Option Nat)}(h:OW m hs ow)(hl:hs.length<=m):∃j,j<=m/\¬Occ ow j:=Ig λno=>by
 have all:∀j,j<=m->Occ ow j:=λj hj=>Ig λc=>no ⟨j,hj,c⟩
 let f:Nat->Nat:=λj=>((ow.toList[j]?).getD none).getD 0
 have fe:∀j,j<=m->ow.toList[j]?=some (some (f j)):=λj hj=>by
  obtain⟨k,hk⟩:=all j hj
  show _=some (some (((ow.toList[j]?).getD none).getD 0))
  rw[hk];rfl
 have nd:((List.range (m+1)).map f).Nodup:=by
  refine Ww.mpr (List.Pairwise.imp_of_mem (fun{i j} hi hj hij e=>?_) Iq)
  have hi:=Ar.mp hi
  have hj:=Ar.mp hj
  have q:=fe i (by omega)
  rw[e]at q
  exact hij (h.un i j _ q (fe j (by omega)))
 have:=nodup_len _ (List.range hs.length) nd λx hx=>by
  obtain⟨j,hj,rfl⟩:=An.mp hx
  have hj:=Ar.mp hj
  exact Ar.mpr (h.lt j _ (fe j (by omega)))
 rw[Ad,Az,Az]at this
 omega
theorem OW.step{m:Nat}(hm:jdo m){hs:List Int}{ow:Array (Option Nat)}(h:OW m hs ow)(hl:hs.length<=m)(x:Int) :
  ∃j,SetTable.layClean.free m ow (SetTable.turns m) (SetTable.bits x%(m+1)) (SetTable.bits x)=some j/\OW m (hs++[x]) (ow.setIfInBounds j (some hs.length)):=by
 obtain⟨j0,j1,j2⟩:=h.free hl
 have ps:LpS m (pst m x):=⟨PV.start m x,rfl,rfl⟩
 obtain⟨k,_,k1,_,_,k2,_⟩:=jqs hm ps.v j1
 obtain⟨n,n1,n2,n3⟩:=jiy h.sz (SetTable.turns m) ps ⟨k,by unfold SetTable.turns;omega,by rw[k2];exact j2⟩
 have jm:(advN m (pst m x) n).j<=m:=(ps.v.advN n).j
 refine⟨_,n1,?_⟩
 have pe:∀i,pth m x i=advN m (pst m x) i:=λ_=>rfl
 generalize hj:(advN m (pst m x) n).j=j at n2 jm
 have lj:j<ow.toList.length:=by rw[Array.length_toList,h.sz];omega
 have e1:∀i,(ow.setIfInBounds j (some hs.length)).toList[i]?=if j=i then some (some hs.length)else ow.toList[i]?:=λi=>by
  rw[Array.toList_setIfInBounds,Yo]
  by_cases c:j=i
  ·subst c;rw[Ao rfl,Ao rfl,Ao lj]
  ·rw[Am c,Am c]
 have old:∀i,Occ ow i->Occ (ow.setIfInBounds j (some hs.length)) i:=λi ⟨k,hk⟩=>by
  unfold Occ
  rw[e1]
  by_cases c:j=i
  ·exact⟨_,by rw[Ao c]⟩
  ·exact⟨k,by rw[Am c];exact hk⟩
 refine⟨by rw[Array.size_setIfInBounds];exact h.sz,λk hk=>?_,λi k e=>?_,λi i' k e e'=>?_,λi k y e ey=>?_⟩
 ·rw[Av,List.length_singleton]at hk
  by_cases c:k=hs.length
  ·exact⟨j,by rw[e1,Ao rfl,c]⟩
  ·obtain⟨i,hi⟩:=h.ex k (by omega)
   refine⟨i,?_⟩
   rw[e1,Am λz=>n2 ⟨k,by rw[z];exact hi⟩];exact hi
 ·rw[e1]at e
  rw[Av,List.length_singleton]
  split at e
  ·cases e;omega
  ·have:=h.lt i k e;omega
 ·rw[e1]at e e'
  split at e <;> split at e'
  ·rename_i a b;exact a.symm.trans b
  ·cases e;have:=h.lt _ _ e';omega
  ·cases e';have:=h.lt _ _ e;omega
  ·exact h.un i i' k e e'
 ·rw[e1]at e
  split at e
  ·rename_i c
   cases e
   rw[A9 (Ak _),Nat.sub_self]at ey
   cases ey
   exact⟨n,by rw[pe,hj];exact c,λi hi=>old _ (n3 i hi)⟩
  ·have kl:=h.lt i k e
   rw[A2 kl]at ey
   obtain⟨n',q1,q2⟩:=h.way i k y e ey
   exact⟨n',q1,λi hi=>old _ (q2 i hi)⟩
theorem jgh{m:Nat}(hm:jdo m):∀(l:List Int)(hs:List Int)(ow:Array (Option Nat)),OW m hs ow->hs.length+l.length<=m+1 ->
  ∃ow',l.foldl (λacc h=>do
   let(owner,k) <-acc
   let j <-SetTable.layClean.free m owner (SetTable.turns m) (SetTable.bits h%(m+1)) (SetTable.bits h)
   pure (owner.setIfInBounds j (some k),k+1)) (some (ow,hs.length))=some (ow',(hs++l).length)/\OW m (hs++l) ow'
 |[],hs,ow,h,_=>⟨ow,by simp,by simpa using h⟩
 |x::l,hs,ow,h,hl=>by
  rw[List.length_cons]at hl
  obtain⟨j,j1,j2⟩:=h.step hm (by omega) x
  obtain⟨ow',q1,q2⟩:=jgh hm l (hs++[x]) _ j2 (by rw[Av,List.length_singleton];omega)
  refine⟨ow',?_,by simpa using q2⟩
  rw[List.foldl_cons]
  have:(do
   let(owner,k) <-(some (ow,hs.length):Option (Array (Option Nat)×Nat))
   let j <-SetTable.layClean.free m owner (SetTable.turns m) (SetTable.bits x%(m+1)) (SetTable.bits x)
   pure (owner.setIfInBounds j (some k),k+1))=some (ow.setIfInBounds j (some hs.length),(hs++[x]).length):=by
   show(SetTable.layClean.free m ow (SetTable.turns m) (SetTable.bits x%(m+1)) (SetTable.bits x)).bind _=_
   rw[j1]
   simp
  rw[this,q1]
  simp
theorem jk0{m:Nat}(hm:jdo m)(hs:Array Int)(hl:hs.size<=m+1):∃ow,SetTable.layClean m hs=some ow/\OW m hs.toList ow:=by
 obtain⟨ow,h1,h2⟩:=jgh hm hs.toList [] _ (OW.nil m) (by simpa using hl)
 refine⟨ow,?_,by simpa using h2⟩
 unfold SetTable.layClean
 rw[<-Array.foldl_toList]
 have e:=h1
 rw[List.length_nil]at e
 rw[e]
 rfl
def jdk(m:Nat)(ow:Array (Option Nat)):List (Nat×Nat):=(List.range (m+1)).filterMap λj=>(ow.getD j none).map (j,·)
theorem jo5{m:Nat}{ow:Array (Option Nat)}(sz:ow.size=m+1){j k:Nat}:(j,k)∈jdk m ow↔ow.toList[j]?=some (some k):=by
 unfold jdk
 rw[Ya]
 constructor
 ·rintro⟨a,ha,e⟩
  have al:a<ow.size:=by have:=Ar.mp ha;omega
  rw[Oq,Ix al]at e
  have e:(ow[a]).map (a,·)=some (j,k):=e
  obtain⟨b,q1,q2⟩:=Ie.mp e
  cases q2
  rw[Ii,Ix al,q1]
 ·intro e
  have jl:=(Ae.mp e).1
  rw[Array.length_toList,sz]at jl
  refine⟨j,Ar.mpr jl,?_⟩
  rw[Ii]at e
  rw[Oq,e];rfl
theorem jow{f:Nat->Option (Nat×Nat)}(hf:∀j x,f j=some x->x.1=j):∀{l:List Nat},l.Pairwise (·<·)->((l.filterMap f).map Prod.fst).Pairwise (·<·)
 |[],_=>by simp
 |a::l,h=>by
  obtain⟨h1,h2⟩:=Aad.mp h
  have i:=jow hf h2
  rw[List.filterMap_cons]
  cases e:f a with
  |none=>exact i
  |some x =>
   dsimp only
   rw[Ay,Aad]
   refine⟨λb hb=>?_,i⟩
   obtain⟨y,hy,rfl⟩:=An.mp hb
   obtain⟨c,hc,ec⟩:=Ya.mp hy
   rw[hf a x e,hf c y ec]
   exact h1 c hc
theorem ji3(m:Nat)(ow:Array (Option Nat)):((jdk m ow).map Prod.fst).Pairwise (·<·):=by
 unfold jdk
 refine jow (λj x e=>?_) List.pairwise_lt_range
 obtain⟨b,q1,q2⟩:=Ie.mp e
 rw[<-q2]
theorem perm_of_mem:∀{a b:List Nat},a.Nodup->b.Nodup->(∀x,x∈a↔x∈b)->a.Perm b
 |a,b,ha,hb,h=>(U6 ha hb).mpr h
theorem je3{α β:Type}{f:α->Option β}{g:α->β}:∀{l:List α},(∀x∈l,f x=some (g x))->l.filterMap f=l.map g
 |[],_=>rfl
 |x::l,h=>by
  rw[List.filterMap_cons,h x (.head _),Ay,je3 λy hy=>h y (.tail _ hy)]
theorem jrs{m f mvs:Nat}{led pl:Bool}(hm:jdo m)(es:Array (Int×Value))(hl:es.size<=m) :
  ∃t order L,SetTable.laid m f mvs led pl (es.map (·.1))=some (t,order)/\t.mask=m/\t.led=led/\t.plain=pl/\LY t (order.filterMap (es[·]?)) L/\WayI m L/\(L.map Prod.snd).Perm es.toList/\L.length=es.size/\(order.filterMap (es[·]?)).size=es.size:=by
 obtain⟨ow,h1,h2⟩:=jk0 hm (es.map (·.1)) (by rw[Array.size_map];omega)
 have hlen:(es.map (·.1)).toList.length=es.size:=by simp
 have hsk:∀(k:Nat)(e:Int×Value),es.toList[k]?=some e->(es.map (·.1)).toList[k]?=some e.1:=λk e q=>by rw[Array.toList_map,Ag,q];rfl
 have mem:=fun{j k:Nat}=>jo5 (j:=j) (k:=k) h2.sz
 let g:Nat×Nat->Int×Value:=λx=>es.toList.getD x.2 (0,.none)
 have gx:∀x∈jdk m ow,es.toList[x.2]?=some (g x):=λx hx=>by
  have:=h2.lt x.1 x.2 (mem.mp hx)
  rw[hlen]at this
  show _=some (es.toList.getD x.2 (0,.none))
  rw[Ac,Aa (by rw[Array.length_toList];exact this)];rfl
 have nd2:((jdk m ow).map Prod.snd).Nodup:=by
  have r:=Ww.mp (ji3 m ow)
  refine Ww.mpr (List.Pairwise.imp_of_mem (fun{x y} hx hy hxy e=>?_) r)
  have q1:=mem.mp hx
  have q2:=mem.mp hy
  rw[e]at q1
  have:=h2.un _ _ _ q1 q2
  omega
 have p2:((jdk m ow).map Prod.snd).Perm (List.range es.size):=by
  refine perm_of_mem nd2 Iq λk=>?_
  rw[Ar,<-hlen]
  constructor
  ·intro q
   obtain⟨x,hx,rfl⟩:=An.mp q
   exact h2.lt x.1 x.2 (mem.mp hx)
  ·intro q
   obtain⟨j,hj⟩:=h2.ex k q
   exact An.mpr ⟨(j,k),mem.mpr hj,rfl⟩
 have ll:(jdk m ow).length=es.size:=by
  have:=p2.length_eq
  rw[Ad,Az]at this;exact this
 have ef:(((jdk m ow).map Prod.snd).toArray.filterMap (es[·]?)).toList=(jdk m ow).map g:=by
  rw[Array.toList_filterMap]
  rw[List.filterMap_map]
  refine je3 λx hx=>?_
  show es[x.2]?=_
  rw[<-Ii];exact gx x hx
 refine⟨{mask:=m,place:=((jdk m ow).map Prod.fst).toArray,dummies:=#[],finger:=f,led:=led,moves:=mvs,plain:=pl},((jdk m ow).map Prod.snd).toArray,(jdk m ow).map λx=>(x.1,g x),?_,rfl,rfl,rfl,⟨?_,?_,?_,rfl,?_⟩,?_,?_,by rw[Ad];exact ll,?_⟩
 ·unfold SetTable.laid
  rw[h1];rfl
 ·show((jdk m ow).map Prod.fst).toArray.toList=_
  rw[A0];rfl
 ·rw[ef,A0];rfl
 ·rw[A0]
  exact ji3 m ow
 ·intro x hx
  obtain⟨y,hy,rfl⟩:=An.mp hx
  have:=(Ae.mp (mem.mp hy)).1
  rw[Array.length_toList,h2.sz]at this
  show y.1<=m
  omega
 ·intro x hx
  obtain⟨y,hy,rfl⟩:=An.mp hx
  obtain⟨n,q1,q2⟩:=h2.way y.1 y.2 (g y).1 (mem.mp hy) (hsk _ _ (gx y hy))
  refine⟨n,q1,λk hk=>?_⟩
  obtain⟨k',hk'⟩:=q2 k hk
  rw[A0]
  exact An.mpr ⟨(_,k'),mem.mpr hk',rfl⟩
 ·rw[A0]
  have e1:(jdk m ow).map (Prod.snd∘λx=>(x.1,g x))=((jdk m ow).map Prod.snd).map λk=>es.toList.getD k (0,.none):=by rw[A0];rfl
  have e2:(List.range es.size).map (λk=>es.toList.getD k (0,.none))=es.toList:=by
   refine O5 (by simp) λi q1 q2=>?_
   rw[Uf,Ug,Ac,Aa q2];rfl
  rw[e1]
  exact(p2.map _).trans (by rw[e2])
 ·rw[<-Array.length_toList,ef,Ad];exact ll
def inK(k:List Int):List Key:=k.map Sum.inl
section
variable{prog:Program}{w:World}{A:Around}{E:Value->Shared->Prop}{s:Shared}
abbrev IsTK(prog:Program)(w:World)(h:Heap)(k:List Int)(b:Addr):Prop:=IsTupleKey (jcn prog w) h (inK k) b
abbrev hTK(prog:Program)(w:World)(k:List Int):Int:=tupleKeyHash (jcn prog w) (inK k)
theorem jdr:∀{k:List Int}{us:List Value},ItemsAre (jcn prog w) (inK k) us->∀v∈us,∃i t,v=.int i t
 |[],_,h,v,hv=>by cases h;cases hv
 |i::k,_,h,v,hv=>by
  cases h with
  |cons h1 h2 =>
   rcases Ap.mp hv with rfl|hv
   ·have h1:jff (.inl i) v=true:=h1
    obtain⟨t,e⟩:=Value.isInt_shape (k:=i) (v:=v) h1
    exact⟨_,t,e⟩
   ·exact jdr h2 v hv
theorem jfo{k:List Int}{b:Addr}{Q:Bool->Shared->Prop}(hk:IsTK prog w s.heap k b)(h:Q false s):wpAny (model prog w) A (ofAClassStatement 8 (.ref b)) Q E s:=by
 have hT:=hk.typeIs
 obtain⟨o,items,n,ho,_,hd,hi⟩:=hk
 unfold ofAClassStatement
 refine Ab (Yb hT ?_)
 dsimp only
 refine Ab (Ah ?_)
 refine Oc (λq=>absurd q (by decide)) (λ_=>?_)
 refine Ab (wpAny_seqItems ho hd ?_)
 refine Ab ?_
 show wpAny _ _ (forIn items _ _) _ _ s
 rw[<-Array.forIn_toList]
 refine wpAny_forIn_list _ (λrest r s'=>r.1=none/\s'=s/\∀v∈rest,∃i t,v=.int i t) _ ?_ ?_ _ _ ⟨rfl,rfl,jdr hi⟩
 ·rintro v rest r s' ⟨hr,rfl,hall⟩
  obtain⟨i,t,rfl⟩:=hall v Os
  refine Ab (show wpAny _ _ (ofAClassStatement 7 (.int i t)) _ _ _ from Ah ?_)
  simp only[Ia,Ob]
  exact Ah ⟨rfl,rfl,λu hu'=>hall u (Oi _ hu')⟩
 ·rintro⟨r1,r2⟩ s' ⟨hr,rfl,_⟩
  simp only at hr
  subst hr
  exact Ah h
theorem jpv{k:List Int}{b:Addr}{Q:Bool->Shared->Prop}(hk:IsTK prog w s.heap k b)(h:Q true s):wpAny (model prog w) A (hashByValue 8 (.ref b)) Q E s:=by
 have hT:=hk.typeIs
 obtain⟨o,items,n,ho,_,hd,hi⟩:=hk
 unfold hashByValue
 refine Ab (wpAny_specialOf hT F.slot_tuple_hash.lookup ?_)
 dsimp only
 refine Ab (wpAny_seqItems ho hd ?_)
 refine Ab ?_
 show wpAny _ _ (forIn items _ _) _ _ s
 rw[<-Array.forIn_toList]
 refine wpAny_forIn_list _ (λrest r s'=>r.1=none/\s'=s/\∀v∈rest,∃i t,v=.int i t) _ ?_ ?_ _ _ ⟨rfl,rfl,jdr hi⟩
 ·rintro v rest r s' ⟨hr,rfl,hall⟩
  obtain⟨i,t,rfl⟩:=hall v Os
  refine Ab (show wpAny _ _ (hashByValue 7 (.int i t)) _ _ _ from wpAny_of_eq (a:=true) (by simp[hashByValue]) ?_)
  simp only[Uy,Ia,Ob]
  exact Ah ⟨rfl,rfl,λu hu'=>hall u (Oi _ hu')⟩
 ·rintro⟨r1,r2⟩ s' ⟨hr,rfl,_⟩
  simp only at hr
  subst hr
  exact Ah h
theorem jqc{k:List Int}{b:Addr}{ys:List Value}{Q:Bool->Shared->Prop}(hk:IsTK prog w s.heap k b)(hys:∀v∈ys,∃b' k',v=.ref b'/\IsTK prog w s.heap k' b')(h:Q false s):wpAny (model prog w) A (searchCouldBeSeen (.ref b) ys) Q E s:=by
 unfold searchCouldBeSeen
 refine Ab ?_
 refine wpAny_forIn_list _ (λrest r s'=>r.1=none/\s'=s/\∀v∈rest,∃b' k',v=.ref b'/\IsTK prog w s.heap k' b') _ ?_ ?_ _ _ ⟨rfl,rfl,hys⟩
 ·rintro v rest r s' ⟨hr,rfl,hall⟩
  obtain⟨b',k',rfl,hk'⟩:=hall v Os
  have nx:∀u∈rest,∃b' k',u=.ref b'/\IsTK prog w s'.heap k' b':=λu hu'=>hall u (Oi _ hu')
  dsimp only
  refine Oc (λ_=>Ah ⟨rfl,rfl,nx⟩) (λ_=>?_)
  refine Ab (wpAny_eqIsQuiet_tuple hk ?_)
  simp only[Uy,Ia,Ob]
  refine Ab (wpAny_eqIsQuiet_tuple hk' ?_)
  simp only[Uy,Ia,Ob]
  refine Ab (jfo hk ?_)
  simp only[Ia,Ob]
  refine Ab (jfo hk' ?_)
  simp only[Ia,Ob]
  exact Ah ⟨rfl,rfl,nx⟩
 ·rintro⟨r1,r2⟩ s' ⟨hr,rfl,_⟩
  simp only at hr
  subst hr
  exact Ah h
end
def keyT(kf:Addr->List Int)(e:Int×Value):List Int:=match e.2 with
 |.ref b=>kf b
 |_=>[]
section
variable{prog:Program}{w:World}{A:Around}{E:Value->Shared->Prop}{s:Shared}
structure TX(prog:Program)(w:World)(kf:Addr->List Int)(bd:Nat)(h:Heap)(a:Addr)(led:Bool)(ks:List (List Int))(o:Obj)(es:Array (Int×Value))(ep:Nat)(t:SetTable)(L:List (Nat×(Int×Value))):Prop where
 at_:h.get? a=some o
 ex:o.ExactSet
 dt:o.data=.set es ep t
 ly:LY t es L
 wy:WayI t.mask L
 mk_:jdo t.mask
 cn:L.length*5<t.mask*3
 en:∀e∈L.map Prod.snd,∃b,e=(hTK prog w (kf b),.ref b)/\IsTK prog w h (kf b) b/\b<bd
 ky:((L.map Prod.snd).map (keyT kf)).Perm ks
 nd:ks.Nodup
 ld:t.led=led
 pl:t.plain=true
variable{kf:Addr->List Int}{bd:Nat}{a:Addr}{led:Bool}{ks:List (List Int)}{o:Obj}{es:Array (Int×Value)}{ep:Nat}{t:SetTable}{L:List (Nat×(Int×Value))}
theorem TX.len{h:Heap}(x:TX prog w kf bd h a led ks o es ep t L):es.size=L.length/\L.length=ks.length:=by
 refine⟨by rw[<-Array.length_toList,x.ly.el,Ad],?_⟩
 have:=x.ky.length_eq
 rw[Ad,Ad]at this;exact this
theorem TX.fits{h:Heap}(x:TX prog w kf bd h a led ks o es ep t L):t.fits es.size=true:=by
 have h1:t.place.size=L.length:=by rw[<-Array.length_toList,x.ly.pl,Ad]
 have h2:=x.len.1
 have h3:=x.cn
 have h4:t.dummies.size=0:=by rw[x.ly.dm];rfl
 unfold SetTable.fits SetTable.fill
 rw[Ou,beq_iff_eq,Uv]
 exact⟨by omega,by omega⟩
theorem TX.mem{h:Heap}(x:TX prog w kf bd h a led ks o es ep t L)(k:List Int):k∈ks↔∃j e,(j,e)∈L/\keyT kf e=k:=by
 rw[<-x.ky.mem_iff,An]
 constructor
 ·rintro⟨e,he,rfl⟩
  obtain⟨y,hy,rfl⟩:=An.mp he
  exact⟨y.1,y.2,hy,rfl⟩
 ·rintro⟨j,e,hm,rfl⟩
  exact⟨e,An.mpr ⟨_,hm,rfl⟩,rfl⟩
theorem TX.ent{h:Heap}(x:TX prog w kf bd h a led ks o es ep t L){j:Nat}{e:Int×Value}(m:(j,e)∈L):∃b,e=(hTK prog w (kf b),.ref b)/\IsTK prog w h (kf b) b/\keyT kf e=kf b:=by
 obtain⟨b,h1,h2,_⟩:=x.en e (An.mpr ⟨_,m,rfl⟩)
 exact⟨b,h1,h2,by rw[h1];rfl⟩
theorem jmr:∀{a b:List Int},inK a=inK b->a=b
 |[],[],_=>rfl
 |[],_::_,h=>by cases h
 |_::_,[],h=>by cases h
 |x::a,y::b,h=>by
  have h:(Sum.inl x:Key)::inK a=Sum.inl y::inK b:=h
  injection h with h1 h2
  injection h1 with h1
  rw[h1,jmr h2]
theorem jp9{m:Nat}(h:jdo m):(m%2 == 0)=false:=by rcases h with rfl|rfl|rfl <;> rfl
theorem jhs(x:TX prog w kf bd s.heap a led ks o es ep t L){b:Addr}{k:List Int}(hk:IsTK prog w s.heap k b)(hu:A.units<cLine){N:Nat}(n1:(pth t.mask (hTK prog w k) N).j∉L.map Prod.fst)(n2:∀i,i<N->(pth t.mask (hTK prog w k) i).j∈L.map Prod.fst)
  {Q:SetFound->Shared->Prop} (q1:k∈ks->Q (.there none) s) (q2:k∉ks->Q (.free (pth t.mask (hTK prog w k) N).j false) s) :
  ∀(fuel n:Nat)(st:Option SetTable.Probe),st.getD (t.probeStart (hTK prog w k))=pth t.mask (hTK prog w k) n->n<=N->N<n+fuel->(∀i,i<n->∃e,((pth t.mask (hTK prog w k) i).j,e)∈L/\keyT kf e≠k) ->
   wpAny (model prog w) A (setSearchFrom a (.ref b) (hTK prog w k) true fuel st) Q E s
 |0,n,st,_,nN,hf,_=>by omega
 |fuel+1,n,st,hst,nN,hf,no=>by
  have fit:=x.fits
  unfold setSearchFrom
  refine Ab (O8 x.at_ x.dt fit ?_)
  dsimp only
  refine Oc (λq=>absurd q (by unfold SetTable.gaveWay;rw[jp9 x.mk_];decide)) (λ_=>?_)
  rw[hst]
  obtain⟨d,d1,d2,d3⟩:=jb5 x.ly (ha:=λi=>(es[i]?.map (·.1)).getD 0) (λi e he=>by rw[he];rfl) (hTK prog w k) (10*SetTable.turns t.mask) n ⟨N-n,by
   obtain⟨N',q1,q2,q3⟩:=jhd x.mk_ x.ly.ris (by have:=x.cn;omega) (hTK prog w k)
   have:N'=N:=by
    by_cases c:N'<N
    ·exact absurd (n2 N' c) q2
    ·by_cases c':N<N'
     ·exact absurd (q3 N c') n1
     ·omega
   omega,by rw[show n+(N-n)=N by omega];exact n1⟩
  rcases d3 with⟨g,ge⟩|⟨e,i,hm,eh,ei,g⟩
  ·have nd:n+d=N:=by
    by_cases c:n+d<N
    ·exact absurd (n2 _ c) ge
    ·by_cases c':N<n+d
     ·obtain⟨e,h1,_⟩:=d2 (N-n) (by omega)
      rw[show n+(N-n)=N by omega]at h1
      exact absurd (mem_fst.mpr ⟨e,h1⟩) n1
     ·omega
   generalize hp:t.probe _ (hTK prog w k) (pth t.mask (hTK prog w k) n)=met
   have hp:met=some (.empty (pth t.mask (hTK prog w k) (n+d)).j none):=hp.symm.trans g
   subst hp
   dsimp only
   rw[nd]
   refine Ah (q2 λhin=>?_)
   obtain⟨j,e,hm,ek⟩:=(x.mem k).mp hin
   obtain⟨b',e1,e2,e3⟩:=x.ent hm
   have eh:e.1=hTK prog w k:=by rw[e1,<-ek,e3]
   obtain⟨i,i1,i2⟩:=WayI.found x.ly x.wy hm (N:=N) (by rw[eh];exact n1)
   rw[eh]at i2
   by_cases c:i<n
   ·obtain⟨e',g1,g2⟩:=no i c
    rw[i2]at g1
    exact g2 (by rw[x.ly.uniq g1 hm];exact ek)
   ·obtain⟨e',g1,g2⟩:=d2 (i-n) (by omega)
    rw[show n+(i-n)=i by omega,i2]at g1
    exact g2 (by rw[x.ly.uniq g1 hm];exact eh)
  ·generalize hp:t.probe _ (hTK prog w k) (pth t.mask (hTK prog w k) n)=met
   have hp:met=some (.candidate (pth t.mask (hTK prog w k) (n+d)).j i (pth t.mask (hTK prog w k) (n+d+1))):=hp.symm.trans g
   subst hp
   dsimp only
   obtain⟨b',e1,e2,e3⟩:=x.ent hm
   have ndN:n+d<N:=by
    by_cases c:n+d<N
    ·exact c
    ·by_cases c':N<n+d
     ·obtain⟨e',h1,_⟩:=d2 (N-n) (by omega)
      rw[show n+(N-n)=N by omega]at h1
      exact absurd (mem_fst.mpr ⟨e',h1⟩) n1
     ·rw[show n+d=N by omega]at hm
      exact absurd (mem_fst.mpr ⟨e,hm⟩) n1
   have ys:∀v∈(es.filter (·.1 == hTK prog w k)).toList.map (·.2),∃b' k',v=.ref b'/\IsTK prog w s.heap k' b':=λv hv=>by
    obtain⟨y,hy,rfl⟩:=An.mp hv
    rw[Array.toList_filter]at hy
    have hy:=(Iy.mp hy).1
    rw[x.ly.el]at hy
    obtain⟨b2,f1,f2,_⟩:=x.en y hy
    exact⟨b2,kf b2,by rw[f1],f2⟩
   obtain⟨i',hsl,ei'⟩:=x.ly.live hm
   have smm:t.sameMemory t.moves t.mask=some true:=by unfold SetTable.sameMemory;rw[Ao (by simp)]
   have again:=jhs x hk hu n1 n2 q1 q2 fuel (n+d+1) (some (pth t.mask (hTK prog w k) (n+d+1))) rfl (by omega) (by omega)
   refine Oc (λ_=>Ab (jqc hk ys ?_)) (λ_=>?_)
   rotate_left
   all_goals
    try simp only[Ia,Ob]
    rw[ei,e1]
    dsimp only
    refine Ab (Og (wpAny_eqBool_tuple hu e2 hk ?_))
    refine Ab (O8 x.at_ x.dt fit ?_)
    dsimp only
    by_cases c:kf b'=k
    ·rw[Ao (by rw[c];simp)]
     exact Ah (q1 ((x.mem k).mpr ⟨_,e,hm,by rw[e3,c]⟩))
    ·have cd:decide (inK (kf b')=inK k)=false:=Ol λz=>c (jmr z)
     rw[cd,Am (by simp),smm]
     dsimp only
     rw[Ao rfl,hsl]
     dsimp only
     rw[ei',e1]
     dsimp only
     refine Ab (wpAny_isSame_ref_self ?_)
     refine Ab (Ah ?_)
     rw[Ao rfl]
     dsimp only
     rw[Am (by simp)]
     refine again λi hi=>?_
     by_cases c1:i<n
     ·exact no i c1
     ·by_cases c2:i=n+d
      ·subst c2;exact⟨e,hm,by rw[e3];exact c⟩
      ·obtain⟨e',g1,g2⟩:=d2 (i-n) (by omega)
       rw[show n+(i-n)=i by omega]at g1
       refine⟨e',g1,λz=>g2 ?_⟩
       obtain⟨b2,f1,_,f3⟩:=x.ent g1
       rw[f1,<-z,f3]
end
def stpT(ks:List (List Int))(k:List Int):List (List Int):=if k∈ks then ks else ks++[k]
section
variable{prog:Program}{w:World}{A:Around}{E:Value->Shared->Prop}{s:Shared}
variable{kf:Addr->List Int}{bd:Nat}{a:Addr}{led:Bool}{ks:List (List Int)}{o:Obj}{es:Array (Int×Value)}{ep:Nat}{t:SetTable}{L:List (Nat×(Int×Value))}
def TXO(prog:Program)(w:World)(kf:Addr->List Int)(bd:Nat)(h:Heap)(a:Addr)(led:Bool)(ks:List (List Int)):Prop:=∃o es ep t L,TX prog w kf bd h a led ks o es ep t L
theorem jeb{h h':Heap}{k:List Int}{b:Addr}(x:IsTK prog w h k b)(e:∀o,h.get? b=some o->h'.get? b=some o):IsTK prog w h' k b:=by
 obtain⟨ob,items,n,ho,r⟩:=x
 exact⟨ob,items,n,e _ ho,r⟩
theorem js9{h:Heap}{k:List Int}{b:Addr}(x:IsTK prog w h k b)(ho:h.get? a=some o)(hd:o.data=.set es ep t):b≠a:=λz=>by
 obtain⟨ob,items,n,h1,_,h2,_⟩:=x
 rw[z,ho]at h1
 cases h1
 rw[hd]at h2;cases h2
theorem jij{h h':Heap}{k:List Int}{b:Addr}(x:IsTK prog w h k b)(ho:h.get? a=some o)(hd:o.data=.set es ep t)(hs:Heap.SameBut a h h'):IsTK prog w h' k b :=
 jeb x λob e=>(hs.2 b (js9 x ho hd)).trans e
theorem jlv{h:Heap}(es':Array (Int×Value))(t':SetTable)(ho:h.get? a=some o)(hd:o.data=.set es ep t):(h.update a (Obj.putSet es' t')).get? a=some {o with data:=.set es' (ep+1) t'}:=by
 have e:=O1 (Obj.putSet es' t') ho (by rw[putSet_of es' t' hd];rfl)
 rwa[putSet_of es' t' hd]at e
theorem TX.to{h h':Heap}(x:TX prog w kf bd h a led ks o es ep t L)(ea:h'.get? a=some o)(e:∀b o,b<bd->h.get? b=some o->h'.get? b=some o):TX prog w kf bd h' a led ks o es ep t L :=
 ⟨ea,x.ex,x.dt,x.ly,x.wy,x.mk_,x.cn,λy hy=>let⟨b,q1,q2,q3⟩:=x.en y hy;⟨b,q1,jeb q2 λo=>e b o q3,q3⟩,x.ky,x.nd,x.ld,x.pl⟩
theorem jnr{m n:Nat}(hm:jdo m)(h1:n*5<m*3)(h2:¬(n+1)*5<m*3)(h3:n+1<=76):∃m',SetTable.sizeAbove (SetTable.grown (n+1))-1=m'/\jdo m'/\(n+1)*5<m'*3/\SetTable.sizeAbove (SetTable.grown (n+1))<=sizeLine:=by
 have hs:=O3
 rcases hm with rfl|rfl|rfl
 ·have:n=4:=by omega
  subst this
  exact⟨31,by decide,.inr (.inl rfl),by decide,by rw[hs];decide⟩
 ·have:n=18:=by omega
  subst this
  exact⟨127,by decide,.inr (.inr rfl),by decide,by rw[hs];decide⟩
 ·omega
theorem jq9(hS:TXO prog w kf bd s.heap a led ks){b:Addr}{k:List Int}(hk:IsTK prog w s.heap k b)(hkf:kf b=k)(hbd:b<bd)(hu:A.units<cLine)(hr:ks.length+1<=76){Q:Bool->Shared->Prop}
  (h:∀h',Heap.SameBut a s.heap h'->TXO prog w kf bd h' a led (stpT ks k)->∀bb,Q bb {s with heap:=h'}) :
  wpAny (model prog w) A (setAddHashed a (.ref b) (hTK prog w k)) Q E s:=by
 obtain⟨o,es,ep,t,L,x⟩:=hS
 have fit:=x.fits
 obtain⟨l1,l2⟩:=x.len
 obtain⟨N,N0,N1,N2⟩:=jhd x.mk_ x.ly.ris (by have:=x.cn;omega) (hTK prog w k)
 have hsz:=O3
 have NT:N<2000:=by
  have:=x.mk_
  unfold SetTable.turns at N0
  rcases this with e|e|e <;> omega
 unfold setAddHashed
 refine Og ?_
 rw[show(100000:Nat)=99999+1 from rfl,setAddHashedIn]
 refine Ab (O8 x.at_ x.dt fit ?_)
 dsimp only
 refine Oc (λq=>absurd q (by unfold byScan;simp[Value.scannable])) (λ_=>?_)
 unfold setSearch
 refine Ab (jhs x hk hu N1 N2 (λhin=>?_) (λhout=>?_) 100000 0 none rfl (Oa _) (by omega) λi hi=>by omega)
 ·dsimp only
  have q:=h s.heap (Heap.SameBut.refl a s.heap) (by unfold stpT;rw[Ao hin];exact⟨o,es,ep,t,L,x⟩)
  exact Ah (q _)
 ·dsimp only
  refine Ab (O8 x.at_ x.dt fit ?_)
  dsimp only
  obtain⟨L',ly,mem,ll,pm⟩:=x.ly.put (j:=(pth t.mask (hTK prog w k) N).j) (hTK prog w k,.ref b) N1 (jb6 t.mask _ N).j
  have wy':WayI t.mask L':=WayI.put x.wy (e:=(hTK prog w k,.ref b)) N2 mem
  have pl':(t.put (pth t.mask (hTK prog w k) N).j).1.plain=true:=x.pl
  have ld':(t.put (pth t.mask (hTK prog w k) N).j).1.led=led:=x.ld
  have mk':(t.put (pth t.mask (hTK prog w k) N).j).1.mask=t.mask:=rfl
  generalize t.put (pth t.mask (hTK prog w k) N).j=W at ly pl' ld' mk'
  obtain⟨t1,p⟩:=W
  dsimp only at ly pl' ld' mk'⊢
  rw[Ao pl']
  refine Ab (jpv hk ?_)
  rw[Ao rfl]
  have hout':(ks++[k]).Nodup:=by
   rw[Om]
   exact⟨x.nd,by simp,λu hu v hv e=>hout (by rw[<-Aj.mp hv,<-e];exact hu)⟩
  have ky':((L'.map Prod.snd).map (keyT kf)).Perm (ks++[k]):=by
   refine(pm.map _).trans ?_
   rw[Ay]
   refine List.Perm.trans (List.Perm.cons _ x.ky) ?_
   have:keyT kf (hTK prog w k,.ref b)=k:=hkf
   rw[this]
   exact(List.perm_append_singleton k ks).symm
  have en':∀e∈L'.map Prod.snd,∃b,e=(hTK prog w (kf b),.ref b)/\IsTK prog w s.heap (kf b) b/\b<bd:=λe he=>by
   rcases Ap.mp (pm.mem_iff.mp he)with q|q
   ·exact⟨b,by rw[hkf];exact q,by rw[hkf];exact hk,hbd⟩
   ·exact x.en e q
  have sz1:(SetTable.insertAt es p (hTK prog w k,.ref b)).size=L.length+1:=by rw[<-Array.length_toList,ly.el,Ad,ll]
  have fin:stpT ks k=ks++[k]:=Am hout
  refine Ab (wpAny_storeSet_of x.at_ x.dt ?_ (by rw[sz1];omega))
  have at1:=jlv (SetTable.insertAt es p (hTK prog w k,.ref b)) t1 x.at_ x.dt
  have sb1:=Up s.heap a (Obj.putSet (SetTable.insertAt es p (hTK prog w k,.ref b)) t1)
  generalize s.heap.update a (Obj.putSet (SetTable.insertAt es p (hTK prog w k,.ref b)) t1)=h1 at at1 sb1⊢
  generalize SetTable.insertAt es p (hTK prog w k,.ref b)=es1 at ly at1 sz1⊢
  have en1:∀e∈L'.map Prod.snd,∃b,e=(hTK prog w (kf b),.ref b)/\IsTK prog w h1 (kf b) b/\b<bd:=λe he=>by
   obtain⟨b2,q1,q2,q3⟩:=en' e he
   exact⟨b2,q1,jij q2 x.at_ x.dt sb1,q3⟩
  have fl:t1.fill=L.length+1:=by
   unfold SetTable.fill
   rw[ly.dm,<-Array.length_toList,ly.pl,Ad,ll];rfl
  by_cases c:(L.length+1)*5<t.mask*3
  ·rw[Am (by unfold SetTable.tooFull;rw[fl,mk'];simp;omega)]
   exact Ah (h h1 sb1 ⟨_,es1,ep+1,t1,L',at1,x.ex,rfl,ly,by rw[mk'];exact wy',by rw[mk'];exact x.mk_,by rw[mk',ll];exact c,en1,by rw[fin];exact ky',by rw[fin];exact hout',ld',pl'⟩ _)
  ·rw[Ao (by unfold SetTable.tooFull;rw[fl,mk'];simp;omega)]
   obtain⟨m',g1,g2,g3,g4⟩:=jnr x.mk_ x.cn c (by omega)
   rw[l1]
   unfold setRelay
   have fit1:t1.fits es1.size=true:=by
    unfold SetTable.fits
    rw[Ou,beq_iff_eq,Uv,fl,mk',sz1]
    exact⟨by rw[<-Array.length_toList,ly.pl,Ad,ll],by have:=x.cn;rcases x.mk_ with e|e|e <;> omega⟩
   refine Ab (Ab (O8 at1 rfl fit1 ?_))
   dsimp only
   refine Oc (λq=>absurd q (by omega)) (λ_=>?_)
   obtain⟨t2,order,L2,r1,r2,r3,r4,r5,r6,r7,r8,r9⟩:=jrs (f:=t1.finger) (mvs:=t1.movedTo m') (led:=t1.led) (pl:=t1.plain) g2 es1 (by rw[sz1];rcases g2 with e|e|e <;> omega)
   have rl:t1.relaid (es1.map (·.1)) (SetTable.grown (L.length+1))=some (t2,order):=by
    unfold SetTable.relaid
    rw[g1];exact r1
   rw[rl]
   refine Ab (show wpAny _ _ (if((order.filterMap (es1[·]?)).size != es1.size)=true then unsupported "internal:set-table-lost-an-element"else pure (order.filterMap (es1[·]?),t2)) _ _ _ from ?_)
   rw[Am (by rw[r9];simp)]
   refine Ah ?_
   dsimp only
   refine wpAny_storeSet_of at1 rfl ?_ (by rw[r9,sz1];omega)
   have at2:=jlv (order.filterMap (es1[·]?)) t2 at1 rfl
   have sb2:=Up h1 a (Obj.putSet (order.filterMap (es1[·]?)) t2)
   generalize h1.update a (Obj.putSet (order.filterMap (es1[·]?)) t2)=h2 at at2 sb2⊢
   have pm2:(L2.map Prod.snd).Perm (L'.map Prod.snd):=by rw[<-ly.el];exact r7
   refine Ah (h h2 (sb1.trans sb2) ⟨_,_,_,t2,L2,at2,x.ex,rfl,r5,by rw[r2];exact r6,by rw[r2];exact g2,by rw[r2,r8,sz1];exact g3,λe he=>?_,by rw[fin];exact(pm2.map _).trans ky',by rw[fin];exact hout',by rw[r3];exact ld',by rw[r4];exact pl'⟩ _)
   obtain⟨b2,q1,q2,q3⟩:=en1 e (pm2.mem_iff.mp he)
   exact⟨b2,q1,jij q2 at1 rfl sb2,q3⟩
end
def Leafs{α:Type}(N:Nat)(P:α->Prop):PySem.W.KasT α->Prop
 |.ret a=>P a
 |.ask i j k=>i<N/\j<N/\∀b,Leafs N P (k b)
theorem Leafs.bind{α β:Type}{N:Nat}{P:β->Prop}{f:α->PySem.W.KasT β}:∀{t:PySem.W.KasT α},Leafs N (λa=>Leafs N P (f a)) t->Leafs N P (t.bind f)
 |.ret _,h=>h
 |.ask _ _ k,h=>⟨h.1,h.2.1,λb=>Leafs.bind (h.2.2 b)⟩
theorem Leafs.mono{α:Type}{N:Nat}{P P':α->Prop}(hp:∀a,P a->P' a):∀{t:PySem.W.KasT α},Leafs N P t->Leafs N P' t
 |.ret a,h=>hp a h
 |.ask _ _ k,h=>⟨h.1,h.2.1,λb=>Leafs.mono hp (h.2.2 b)⟩
theorem Leafs.wp{α:Type}{N:Nat}{P:α->Prop}{cmp:Nat->Nat->(Bool->Shared->Prop)->Shared->Prop}{Q:α->Shared->Prop}{s:Shared}(hc:∀i j C,i<N->j<N->(∀b,C b s)->cmp i j C s)(hq:∀a,P a->Q a s):∀{t:PySem.W.KasT α},Leafs N P t->t.kasWp cmp Q s
 |.ret a,h=>hq a h
 |.ask i j k,h=>hc i j _ h.1 h.2.1 λb=>Leafs.wp hc hq (h.2.2 b)
section
variable{N:Nat}{r:Array Nat}(hN:0<N)(hr:∀x∈r.toList,x<N)
theorem jdu{p:Array Nat}(hN:0<N)(hr:∀x∈r.toList,x<N)(h:p.Perm r)(k:Nat):p.getD k 0<N:=by
 rw[Oq]
 cases e:p[k]? with
 |none=>exact hN
 |some v =>
  rw[<-Ii]at e
  exact hr v (h.toList.mem_iff.mp (Al e))
include hN hr
theorem jgl{p:Array Nat}(h:p.Perm r){P:Nat->Prop}(hp:∀n,P n):∀(f n:Nat),Leafs N P (PySem.W.kas_asc p f n)
 |0,n=>hp n
 |f+1,n=>⟨jdu hN hr h _,jdu hN hr h _,λc=>by
  cases c with
  |true=>exact hp n
  |false=>exact jgl h hp f (n+1)⟩
theorem jay{p:Array Nat}(h:p.Perm r){P:Nat->Prop}(hp:∀n,P n)(k:Nat):∀(f l m:Nat),Leafs N P (PySem.W.kas_place p k f l m)
 |0,l,m=>hp l
 |f+1,l,m=>by
  show Leafs N P (if l ≥ m then _ else _)
  split
  ·exact hp l
  ·refine⟨jdu hN hr h _,jdu hN hr h _,λc=>?_⟩
   cases c with
   |true=>exact jay h hp k f _ _
   |false=>exact jay h hp k f _ _
omit hN hr in
theorem jep{p:Array Nat}(h:p.Perm r)(i j:Nat):(PySem.W.kas_rev p i j).Perm r:=(mirror_perm p i j _).trans h
theorem jes:∀(f:Nat){p:Array Nat}(n q:Nat),p.Perm r->Leafs N (λx:Array Nat×Nat×Nat=>x.1.Perm r) (PySem.W.kas_desc f p n q)
 |0,p,n,q,h=>h
 |f+1,p,n,q,h=>⟨jdu hN hr h _,jdu hN hr h _,λc=>by
  cases c with
  |true =>
   show Leafs N _ (if q>0 then _ else _)
   split
   ·exact jes f _ _ (jep h _ _)
   ·exact jes f _ _ h
  |false =>
   refine⟨jdu hN hr h _,jdu hN hr h _,λd=>?_⟩
   cases d with
   |true=>exact h
   |false=>exact jes f _ _ h⟩
theorem jjp{p:Array Nat}(h:p.Perm r)(n m:Nat):Leafs N (λx:Nat×Array Nat=>x.2.Perm r) (PySem.W.kas_tail3 n m p):=Leafs.bind (jgl hN hr (jep h _ _) (λ_=>jep h _ _) _ _)
theorem jbv{p:Array Nat}(h:p.Perm r)(n m:Nat):Leafs N (λx:Nat×Array Nat=>x.2.Perm r) (PySem.W.kas_descPart n m p):=by
 refine Leafs.bind (Leafs.mono (λa ha=>?_) (jes hN hr _ _ _ h))
 split
 ·exact jjp hN hr (jep ha _ _) _ _
 ·exact jjp hN hr ha _ _
theorem jnk{p:Array Nat}(h:p.Perm r)(m:Nat):Leafs N (λx:Nat×Array Nat=>x.2.Perm r) (PySem.W.kas_count m p):=by
 refine Leafs.bind (jgl hN hr h (λn=>?_) _ _)
 split
 ·exact h
 ·split
  ·refine⟨jdu hN hr h _,jdu hN hr h _,λc=>?_⟩
   cases c with
   |true=>exact h
   |false=>exact jbv hN hr (jep h _ _) _ _
  ·exact jbv hN hr h _ _
theorem jkh:∀(f:Nat){p:Array Nat}(k:Nat),p.Perm r->Leafs N (λx:Array Nat=>x.Perm r) (PySem.W.kas_bin f p k)
 |0,p,k,h=>h
 |f+1,p,k,h=>Leafs.bind (jay hN hr h (λl=>jkh f _ ((bubble_perm p _ _).trans h)) _ _ _ _)
end
theorem jpm{n:Nat}(hn:0<n):Leafs n (λx:Array Nat=>x.Perm (List.toArray (List.range n))) (PySem.W.kas_sort n):=by
 have hr:∀x∈(List.toArray (List.range n)).toList,x<n:=λx hx=>Ar.mp (by simpa using hx)
 refine Leafs.bind (Leafs.mono (λa ha=>?_) (jnk hn hr (Array.Perm.refl _) n))
 split
 ·exact jkh hn hr _ _ ha
 ·exact ha
section
variable{prog:Program}{w:World}{A:Around}{E:Value->Shared->Prop}{s:Shared}
theorem jmy{fin:Bool}{Q:Bool->Shared->Prop}(h:∀b,Q b s):∀(l:List (Value×Value))(i:Nat),(∀x∈l,(∃a t,x.1=.int a t)/\∃a t,x.2=.int a t)->PySem.W.KatLex prog w A true fin Q l i s
 |[],i,_=>h _
 |(p,q)::l,i,hl=>by
  obtain⟨⟨a,t,e1⟩,b,u,e2⟩:=hl (p,q) (.head _)
  dsimp only at e1 e2
  subst e1 e2
  refine PySem.W.kat_cons (wpAny_eqBool_int (PySem.W.kat_go (λ_=>PySem.W.kat_yes (jmy h l (i+1) λx hx=>hl x (.tail _ hx))) λ_=>PySem.W.kat_no ?_))
  cases hb:(true && i == 0)with
  |true=>exact oneLt_int (h _)
  |false=>exact PySem.W.kat_one _ _ (PyProof.Rows.lt_int (h _))
theorem jqp{xs ys:List Value}(h1:∀v∈xs,∃i t,v=.int i t)(h2:∀v∈ys,∃i t,v=.int i t):∀x∈xs.zip ys,(∃a t,x.1=.int a t)/\∃a t,x.2=.int a t:=λx hx=>⟨h1 _ (Wp hx).1,h2 _ (Wp hx).2⟩
def jg4(prog:Program)(w:World)(h:Heap)(bs:List Addr)(kf:Addr->List Int):Prop:=∀b∈bs,IsTK prog w h (kf b) b/\kf b≠[]
theorem jss{kf:Addr->List Int}{x y:Addr}{Q:Bool->Shared->Prop}(hx:IsTK prog w s.heap (kf x) x)(hy:IsTK prog w s.heap (kf y) y)(q:∀b,Q b s):wpAny (model prog w) A (keyLt' (tuples' true) (.ref x) (.ref y)) Q E s:=by
 obtain⟨ox,xs,n,h1,_,d1,i1⟩:=hx
 obtain⟨oy,ys,m,h2,_,d2,i2⟩:=hy
 exact PySem.W.kat_lt h1 d1 h2 d2 (jmy q _ 0 (jqp (jdr i1) (jdr i2)))
theorem jiw{h:Heap}{kf:Addr->List Int}:∀{bs:List Addr},jg4 prog w h bs kf->∃fs,PySem.W.KatTups h (bs.map Value.ref) fs/\fs.length=bs.length/\∀v∈fs,∃i t,v=.int i t
 |[],_=>⟨[],trivial,rfl,by simp⟩
 |b::bs,ht=>by
  obtain⟨fs,h1,h2,h3⟩:=jiw (bs:=bs) λc hc=>ht c (.tail _ hc)
  obtain⟨⟨o,items,n,ho,hc,hd,hi⟩,ne⟩:=ht b (.head _)
  obtain⟨i0,k,ek⟩:=List.exists_cons_of_ne_nil ne
  have il:=hi.length
  obtain⟨f,hf⟩:∃f,items[0]?=some f:=by
   have:0<items.size:=by rw[<-Array.length_toList,<-il,ek];simp[inK]
   exact⟨_,Ix this⟩
  have fi:=jdr hi f (by rw[<-Ii]at hf;exact Al hf)
  refine⟨f::fs,PySem.W.KatTups.cons ho hc hd hf h1,by simp[h2],λv hv=>?_⟩
  rcases Ap.mp hv with q|q
  ·rw[q];exact fi
  ·exact h3 v q
theorem jo6{h:Heap}{i:Int}{t:Tok}:PySem.W.Looks (model prog w) h (typeOf (.int i t)) (.type "int"):=PySem.W.Looks.of_pure rfl
end
section
variable{prog:Program}{w:World}{A:Around}{E:Value->Shared->Prop}{s:Shared}
theorem jo3{kf:Addr->List Int}{bs:List Addr}{Q:SortKind->Shared->Prop}(ht:jg4 prog w s.heap bs kf)(h2:2<=bs.length)(h:Q (tuples' true) s):wpAny (model prog w) A (keyKind' (bs.map Value.ref).toArray) Q E s:=by
 obtain⟨fs,f1,f2,f3⟩:=jiw ht
 refine PySem.W.kat_kind (T:=.type "int") f1 (by omega) (λv hv=>?_) (by decide) ?_
 ·obtain⟨i,t,rfl⟩:=f3 v hv
  exact jo6
 ·exact h
theorem jpf{kf:Addr->List Int}{bs:List Addr}{Q:SortSt->Shared->Prop}(ht:jg4 prog w s.heap bs kf)(h2:2<=bs.length)(h64:bs.length<64)
  (h:∀(st:SortSt)(bs':List Addr),bs'.Perm bs->(arrOf st).map (·.2)=(bs'.map Value.ref).toArray->failedOf st=none->Q st s) :
  wpAny (model prog w) A ((sortRuns').run (SortSt.mk' (tuples' true) ((bs.map Value.ref).toArray.zip (bs.map Value.ref).toArray) #[] 7 none)) (λr s'=>Q r.2 s') E s:=by
 have lv:(bs.map Value.ref).length=bs.length:=Ad ..
 refine PySem.W.kat_run (vs:=bs.map Value.ref) (ks:=bs.map Value.ref) (G:=λp s'=>s'=s/\p.Perm (List.toArray (List.range bs.length))) rfl (by omega) (by omega) (λp st s' hp ha hf hg=>?_) ?_
 ·obtain⟨rfl,pp⟩:=hg
  have sn:=PySem.W.kat_snds (vs:=bs.map Value.ref) rfl ha
  have pl:p.toList.Perm (List.range bs.length):=by simpa using pp.toList
  refine h st (p.toList.map λi=>bs.getD i 0) ?_ ?_ hf
  ·have e2:(List.range bs.length).map (λk=>bs.getD k 0)=bs:=by
    refine O5 (by simp) λi q1 q2=>?_
    rw[Uf,Ug,Ac,Aa q2];rfl
   exact(pl.map _).trans (by rw[e2])
  ·rw[sn,A0]
   congr 1
   refine Ih λi hi=>?_
   have il:=Ar.mp (pl.mem_iff.mp hi)
   show(bs.map Value.ref).getD i .none=.ref (bs.getD i 0)
   rw[Ac,Ag,Ac,Aa il];rfl
 ·rw[lv]
  refine Leafs.wp (λi j C hi hj hC=>?_) (λp hp=>⟨rfl,hp⟩) (jpm (by omega))
  have ix:∀i,i<bs.length->∃b,(bs.map Value.ref).getD i .none=.ref b/\b∈bs:=λi hi=>by
   rw[Ac,Ag,Aa hi]
   exact⟨_,rfl,Ic hi⟩
  obtain⟨x,ex,mx⟩:=ix i hi
  obtain⟨y,ey,my⟩:=ix j hj
  show wpAny _ _ (keyLt' (tuples' true) ((bs.map Value.ref).getD i .none) ((bs.map Value.ref).getD j .none)) C _ s
  rw[ex,ey]
  exact jss (ht x mx).1 (ht y my).1 hC
theorem jjn{D:Addr}{kf:Addr->List Int}{bs:List Addr}{n:Nat}{P:PySem.Fin->Shared->Prop}(ho:s.heap.get? D=some (seqObj "list" (bs.map Value.ref).toArray n))(ht:jg4 prog w s.heap bs kf)(h64:bs.length<64)
  (h:∀(h':Heap)(bs':List Addr)(c:Nat),bs'.Perm bs->h'.get? D=some (seqObj "list" (bs'.map Value.ref).toArray c)->(∀b o,b≠D->s.heap.get? b=some o->h'.get? b=some o)->P (.done (.ret .none)) {s with heap:=h'}) :
  wpAny (model prog w) A (Builtin.«list.sort» ⟨[.ref D],[]⟩) P E s:=by
 have hsz:=O3
 have lv:(bs.map Value.ref).toArray.size=bs.length:=by simp
 have nD:∀b∈bs,b≠D:=λb hb e=>by
  obtain⟨⟨o,items,n,h1,h2,_⟩,_⟩:=ht b hb
  rw[e,ho]at h1
  cases h1
  exact absurd h2 (by simp[seqObj])
 obtain⟨c1,g1⟩:∃c1,(s.heap.update D (Obj.mapSeq λ_=>(#[]:Array Value))).get? D=some (seqObj "list" #[] c1):=⟨_,get?_update_seq ho λ_=>#[]⟩
 have k1:∀b o,b≠D->s.heap.get? b=some o->(s.heap.update D (Obj.mapSeq λ_=>(#[]:Array Value))).get? b=some o:=λb o hb e=>(Ow _ _ (U9 hb)).trans e
 rw[list_sort_plain]
 refine Ab (listItems_at ho rfl (Ab (listUpdate_at ho rfl ?_ (by rw[lv,hsz];omega) (Oa _))))
 generalize s.heap.update D (Obj.mapSeq λ_=>(#[]:Array Value))=h1 at g1 k1⊢
 refine Ab (seqEpoch_at g1 rfl (Ab (wpAny_newTuple (Ab (wpAny_newList (Og ?_) (Oa _))) (by rw[Array.length_toList,lv,hsz];omega))))
 have k2:∀b o,h1.get? b=some o->((h1.push (seqObj "tuple" (bs.map Value.ref).toArray.toList.toArray 0)).push (seqObj "list" [].toArray 0)).get? b=some o:=λb o e=>Ai _ (Ai _ e)
 have g2:=k2 _ _ g1
 generalize hh2:((h1.push (seqObj "tuple" (bs.map Value.ref).toArray.toList.toArray 0)).push (seqObj "list" [].toArray 0))=h2 at k2 g2
 have ht2:jg4 prog w h2 bs kf:=λb hb=>⟨jeb (ht b hb).1 λo e=>k2 _ _ (k1 _ _ (nD b hb) e),(ht b hb).2⟩
 show wpAny _ A _ P E {s with heap:=h2}
 dsimp only
 have fin:∀(st:SortSt)(bs':List Addr),bs'.Perm bs->(arrOf st).map (·.2)=(bs'.map Value.ref).toArray->failedOf st=none->wpAny (model prog w) A (do
   let __do_lift <-seqEpoch D
   have touched:Bool:=__do_lift != c1
   Builtin.List.listUpdate (.ref D) λx=>(arrOf st).map (·.2)
   have __do_jp:Unit->Sem PySem.Fin:=λ__r =>
    have __do_jp:=fun(__r:Unit)=>ret Value.none;
    if touched=true then do
     rule "list.sort.modified"
     let __r <-raiseErrorWords "ValueError" "list modified during sort"
     __do_jp __r
    else __do_jp ()
   match failedOf st with
    |some e=>do
     rule "list.sort.comparison-raised"
     let __r <-throw e
     __do_jp __r
    |x=>__do_jp ()) P E {s with heap:=h2}:=λst bs' hp ea hf=>by
  rw[ea,hf]
  refine Ab (seqEpoch_at g2 rfl (Ab (listUpdate_at g2 rfl ?_ (Oa _) (by rw[Au,Ad,hp.length_eq,hsz];omega))))
  dsimp only
  rw[Am (by simp)]
  refine Ah (h _ bs' _ hp (get?_update_seq g2 λ_=>(bs'.map Value.ref).toArray) λb o hb e=>(Ow _ _ (U9 hb)).trans (k2 _ _ (k1 _ _ hb e)))
 by_cases c:(bs.map Value.ref).toArray.size<2
 ·rw[Ao c,Ao c]
  refine Ab (Ah ?_)
  rw[StateT.run_pure]
  refine Ab (Ah ?_)
  refine fin _ bs (Yj _) ?_ rfl
  show Array.map (·.2) ((bs.map Value.ref).toArray.zip (bs.map Value.ref).toArray)=_
  apply Array.toList_inj.mp
  rw[Array.toList_map,Array.toList_zip]
  refine O5 (by simp) λi q1 q2=>?_
  simp
 ·rw[Am c,Am c]
  rw[lv]at c
  refine Ab (jo3 (s:={s with heap:=h2}) ht2 (by omega) ?_)
  refine Ab (Ur (jpf (s:={s with heap:=h2}) (Q:=λst s'=>s'={s with heap:=h2}/\∃bs':List Addr,bs'.Perm bs/\(arrOf st).map (·.2)=(bs'.map Value.ref).toArray/\failedOf st=none) ht2 (by omega) h64 λst bs' hp ea hf=>⟨rfl,bs',hp,ea,hf⟩) ?_ λ_ _ e=>e)
  rintro⟨⟨⟩,st⟩ s' ⟨rfl,bs',hp,ea,hf⟩
  exact fin st bs' hp ea hf
end
section
variable{prog:Program}{w:World}{A:Around}{R:Result->Shared->Prop}{I S:Addr}{fp wr:List Addr}{n:Nat}{P:Nat->Value->Prop}{St:Nat->Heap->Prop}
structure SetSteps(prog:Program)(w:World)(S I:Addr)(n:Nat)(P:Nat->Value->Prop)(SP:Nat->Heap->Prop):Prop where
 keep:∀i h h',SP i h->(∀b o,b≠I->h.get? b=some o->h'.get? b=some o)->SP i h'
 add:∀(A:Around)(E:Value->Shared->Prop)(i:Nat)(v:Value)(s:Shared)(Q:Bool->Shared->Prop),A.units+8<cLine->i<n->P i v->SP i s.heap->(∀h' tk,Heap.SameBut S s.heap h'->SP (i+1) h'->∀b,Q b {s with heap:=h',toks:=tk})->wpAny (model prog w) A (setAdd S v) Q E s
theorem jjl{SP:Nat->Heap->Prop}(W:Walks prog w A.in1 I fp [I] n P St)(T:SetSteps prog w S I n P SP)(hu:A.in1.units+8<cLine)(hSf:S∉fp)(hIS:S≠I)(hfp:I∈fp) :
  ∀(k i:Nat)(s:Shared),n-i=k->i<=n->St i s.heap->SP i s.heap ->
   (∀h' tk,(∀b o,b≠S->b≠I->s.heap.get? b=some o->h'.get? b=some o)->SP n h'->R (.ok (.ret .none)) {s with heap:=h',toks:=tk}) ->
   codeAny (model prog w) A (.builtin "set.update.loop" ⟨[.ref S,.ref I],[]⟩) R s
 |0,i,s,hk,hi,st,sp,hR=>by
  have hin:i=n:=by omega
  subst hin
  refine Uu Ye ?_
  rw[Uj U3 _]
  refine show wpAny _ A.in1 (pyNext (.ref I) >>= _) _ _ s from Ab (W.done s _ _ st λh' tk kk=>?_)
  refine show wpAny _ A.in1 (ret Value.none) _ _ _ from Ah (hR h' tk (λb o _ hb e=>kk b o (by simpa using hb) e) (T.keep _ _ _ sp λb o hb e=>kk b o (by simpa using hb) e))
 |k+1,i,s,hk,hi,st,sp,hR=>by
  have hlt:i<n:=by omega
  refine Uu Ye ?_
  rw[Uj U3 _]
  refine show wpAny _ A.in1 (pyNext (.ref I) >>= _) _ _ s from Ab (W.item i s _ _ hlt st λv h1 tk hP st1 kk=>?_)
  have sp1:=T.keep _ _ _ sp λb o hb e=>kk b o (by simpa using hb) e
  refine show wpAny _ A.in1 (holding [v] (setAdd S v) >>= _) _ _ _ from Ab (Og (T.add _ _ i v {s with heap:=h1,toks:=tk} _ hu hlt hP sp1 λh2 tk2 sb sp2 _=>?_))
  refine Ah ⟨Wn U3 _,jjl W T hu hSf hIS hfp k (i+1) _ (by omega) hlt (W.frame _ _ _ st1 λb hb o e=>?_) sp2 λh3 tk3 k3 sp3=>?_⟩
  ·exact(sb.2 b λz=>hSf (z▸hb)).trans e
  ·exact hR h3 tk3 (λb o h1 h2 e=>k3 b o h1 h2 ((sb.2 b h1).trans (kk b o (by simpa using h2) e))) sp3
end
section
variable{prog:Program}{w:World}{A:Around}{E:Value->Shared->Prop}{s:Shared}
theorem call_setG{l:Addr}{items:Array Value}{SP:Nat->Heap->Prop}{Q:Value->Shared->Prop}(hh:A.handled=none)(hu:A.units+16<cLine)(hl:s.heap.IsList l items)
  (T:SetSteps prog w s.heap.objs.size (s.heap.objs.size+1) items.size (λi v=>items[i]?=some v) SP)
  (h0:∀h:Heap,h.get? s.heap.objs.size=some (setO (!w.params.followText "set-order"))->(∀b o,s.heap.get? b=some o->h.get? b=some o)->SP 0 h)
  (h:∀(h':Heap)(tk:Nat),SP items.size h'->(∀b o,b<s.heap.objs.size->s.heap.get? b=some o->h'.get? b=some o)->Q (.ref s.heap.objs.size) {s with heap:=h',toks:=tk}) :
  wpAny (model prog w) A (call (.type "set") [.ref l]) Q E s:=by
 obtain⟨ol,hol,hcl,nl,hdl⟩:=hl
 obtain⟨c,tl,hmro⟩:=Uh.mro
 have hmade:=Uh.made
 have hsub:=Uh.sub
 have h1:=Uh.notType
 have h2:=Uh.canCreate
 have hct:=PySem.F.typeCall_set_1 (.ref l)
 refine wpAny_call (codeAny_of_tree (show wpAny _ _ (callAny (.type "set") _) _ _ _ from Ah ⟨Code.quiet_builtin _ (by decide +kernel),Uu PySem.F.entry_type_call ?_⟩))
 rw[Around.under_plain (weight_type_call_type "set" [.ref l] []) rfl]
 repeat (any_goals (first|assumption|wp_step))
 refine Wy (jqi (.ref l) (E:=E) (Q₁:=λobj s₁=>obj=.ref s.heap.objs.size/\s₁={s with heap:=s.heap.push (setO (!w.params.followText "set-order"))}) ⟨rfl,rfl⟩) λr s₁ hr=>?_
 cases r with
 |error e=>exact hr
 |ok fl =>
  cases fl with
  |ret obj =>
   obtain⟨rfl,rfl⟩:=hr
   have hS:(s.heap.push (setO (!w.params.followText "set-order"))).get? s.heap.objs.size=some (setO (!w.params.followText "set-order")):=A1 _ rfl
   have hT:Shared.TypeIs {s with heap:=s.heap.push (setO (!w.params.followText "set-order"))} (.ref s.heap.objs.size) "set":=⟨_,hS,rfl⟩
   have hli:=Uh.init.lookup
   have hbi:=Uh.init.bind (.ref s.heap.objs.size)
   repeat (any_goals (first|assumption|wp_step))
   refine Wy (codeAny_call_builtin (R:=wants (λr s₂=>r=.none/\∃h' tk,s₂={s with heap:=h',toks:=tk}/\SP items.size h'/\(∀b o,b<s.heap.objs.size->s.heap.get? b=some o->h'.get? b=some o)) E) Uh.init.plain PySem.F.entry_set_init (check_set_init_1 hT ?_)) λr₂ s₂ hr₂=>?_
   ·have hol':(s.heap.push (setO (!w.params.followText "set-order"))).get? l=some ol:=Ai _ hol
    have hTl:Shared.TypeIs {s with heap:=s.heap.push (setO (!w.params.followText "set-order"))} (.ref l) "list":=⟨_,hol',hcl⟩
    have hsls:=PySem.F.sub_list_set
    have hslf:=PySem.F.sub_list_frozenset
    have hne:(Value.type "list" == Value.type "dict")=false:=by decide
    have hsp:(s.heap.push (setO (!w.params.followText "set-order"))).objs.size=s.heap.objs.size+1:=Yi ..
    have hlS:l<s.heap.objs.size:=At hol
    unfold Builtin.«set.__init__» noKeywords Builtin.Frozenset.updateFrom
    generalize hPI:pyIter=PI
    wp_walk
    subst hPI
    refine wpAny_pyIter_list ⟨ol,hol',hcl,nl,hdl⟩ ?_
    rw[hsp]
    refine Ab (wpAny_runValue ?_)
    have hSf:s.heap.objs.size∉[s.heap.objs.size+1,l]:=by
     simp only[Ap,Af,O2,not_or]
     exact⟨Ax (Yv _),Wc hlS⟩
    have kp:∀b o,s.heap.get? b=some o->((s.heap.push (setO (!w.params.followText "set-order"))).push {cls:=.type "list_iterator",data:=.fields #[.ref l,.int 0 0]}).get? b=some o:=λb o e=>Ai _ (Ai _ e)
    refine jjl (Walks.list (by simp[hh]) (s.heap.objs.size+1) l (Ax (Uw hlS)) items) T (by show _<_;simp;omega) hSf (Ax (Yv _)) (by simp) (items.size-0) 0 _ rfl (Oa _) ⟨⟨_,by rw[<-hsp];exact A1 _ rfl,rfl,rfl⟩,ol,kp _ _ hol,hcl,nl,hdl⟩ (h0 _ (Ai _ hS) kp) λh' tk kk sp=>?_
    refine show wpAny _ _ _ _ _ _ from Ah (show wpAny _ _ (ret Value.none) _ _ _ from Ah ⟨rfl,h',tk,rfl,sp,λb o hb e=>kk b o (Ax hb) (Ax (Uw hb)) (kp b o e)⟩)
   ·cases r₂ with
    |error e=>exact hr₂
    |ok fl₂ =>
     cases fl₂ with
     |ret r =>
      obtain⟨rfl,h',tk,rfl,hS',hk'⟩:=hr₂
      repeat (any_goals (first|assumption|wp_step))
      exact h _ _ hS' hk'
     |_=>exact hr₂.elim
  |_=>exact hr.elim
end
def fmT(ks:List (List Int)):List (List Int):=ks.foldl stpT []
theorem jp3(ks:List (List Int))(k:List Int):fmT (ks++[k])=stpT (fmT ks) k:=by unfold fmT;rw[Oz];rfl
theorem jmm:∀ks:List (List Int),(fmT ks).length<=ks.length:=by
 have:∀(ks a:List (List Int)),(ks.foldl stpT a).length<=a.length+ks.length:=λks=>by
  induction ks with
  |nil=>intro a;simp
  |cons k ks ih =>
   intro a
   rw[List.foldl_cons,List.length_cons]
   have h1:=ih (stpT a k)
   have h2:(stpT a k).length<=a.length+1:=by unfold stpT;split <;> simp
   omega
 intro ks
 have h:=this ks []
 rw[List.length_nil,Nat.zero_add]at h
 exact h
theorem jmn(x:List Int):∀ks:List (List Int),x∈fmT ks↔x∈ks:=by
 have:∀(ks a:List (List Int)),x∈ks.foldl stpT a↔x∈a\/x∈ks:=λks=>by
  induction ks with
  |nil=>intro a;simp
  |cons k ks ih =>
   intro a
   rw[List.foldl_cons,ih,Ap]
   unfold stpT
   split
   ·rename_i h
    constructor
    ·rintro(q|q)
     ·exact .inl q
     ·exact .inr (.inr q)
    ·rintro(q|q|q)
     ·exact .inl q
     ·exact .inl (q▸h)
     ·exact .inr q
   ·rw[Aw,Aj]
    constructor
    ·rintro((q|q)|q)
     ·exact .inl q
     ·exact .inr (.inl q)
     ·exact .inr (.inr q)
    ·rintro(q|q|q)
     ·exact .inl (.inl q)
     ·exact .inl (.inr q)
     ·exact .inr q
 intro ks
 have h:=this ks []
 simpa[fmT]using h
section
variable{prog:Program}{w:World}{A:Around}{E:Value->Shared->Prop}{s:Shared}
theorem jsy{kf:Addr->List Int}{bd:Nat}{h:Heap}{a:Addr}{led:Bool}(e:h.get? a=some (setO led)):TX prog w kf bd h a led [] (setO led) #[] 0 (.fresh 0 0 led) [] :=
 ⟨e,⟨rfl,rfl,rfl⟩,rfl,⟨rfl,rfl,by simp,rfl,by simp⟩,λx hx=>by simp at hx,.inl rfl,by show(0:Nat)*5<7*3;decide,by simp,.nil,.nil,rfl,rfl⟩
theorem jqj{l:Addr}{bs:List Addr}{kf:Addr->List Int}{Q:Value->Shared->Prop}(hh:A.handled=none)(hu:A.units+16<cLine)(hl:s.heap.IsList l (bs.map Value.ref).toArray)(hb:∀b∈bs,IsTK prog w s.heap (kf b) b)(h75:bs.length<=75)
  (h:∀(h':Heap)(tk:Nat),TXO prog w kf s.heap.objs.size h' s.heap.objs.size (!w.params.followText "set-order") (fmT (bs.map kf))->(∀b o,b<s.heap.objs.size->s.heap.get? b=some o->h'.get? b=some o)->Q (.ref s.heap.objs.size) {s with heap:=h',toks:=tk}) :
  wpAny (model prog w) A (call (.type "set") [.ref l]) Q E s:=by
 have lb:∀b∈bs,b<s.heap.objs.size:=λb q=>by
  obtain⟨o,_,_,e,_⟩:=hb b q
  exact At e
 have sz:(bs.map Value.ref).toArray.size=bs.length:=by simp
 refine call_setG (SP:=λi h=>TXO prog w kf s.heap.objs.size h s.heap.objs.size (!w.params.followText "set-order") (fmT ((bs.take i).map kf))/\∀b∈bs,IsTK prog w h (kf b) b) hh hu hl ⟨?_,?_⟩ ?_ ?_
 ·rintro i h1 h2 ⟨⟨o,es,ep,t,L,x⟩,hk⟩ kk
  refine⟨⟨o,es,ep,t,L,x.to (kk _ _ (Ax (Yv _)) x.at_) λb o hb' e=>kk b o (Ax (Uw hb')) e⟩,λb hb'=>jeb (hk b hb') λo e=>kk b o (Ax (Uw (lb b hb'))) e⟩
 ·rintro A' E' i v s' Q' hu' hi hv ⟨sp,hk⟩ q
  have hi':i<bs.length:=by rw[sz]at hi;exact hi
  have hv:v=.ref bs[i]:=by
   rw[List.getElem?_toArray,Ag,Aa hi']at hv
   exact(Aq hv).symm
  subst hv
  have bm:=Ic hi'
  unfold setAdd
  refine Og (Ab (wpAny_pyHash_tuple (by omega) (hk _ bm) ?_))
  have tk:bs.take (i+1)=bs.take i++[bs[i]]:=by rw[Od,Aa hi'];rfl
  have st:fmT ((bs.take (i+1)).map kf)=stpT (fmT ((bs.take i).map kf)) (kf bs[i]):=by rw[tk,A3,List.map_singleton,jp3]
  have ll:(fmT ((bs.take i).map kf)).length+1<=76:=by
   have:=jmm ((bs.take i).map kf)
   rw[Ad,Iz]at this
   omega
  refine jq9 (s:={s' with toks:=s'.toks+((inK (kf bs[i])).length+1)}) sp (hk _ bm) rfl (lb _ bm) (by omega) ll λh2 sb tx b=>q h2 _ sb ⟨by rw[st];exact tx,λb' hb'=>?_⟩ b
  obtain⟨o,es,ep,t,L,x⟩:=sp
  exact jij (hk b' hb') x.at_ x.dt sb
 ·intro h1 e1 kk
  refine⟨⟨_,_,_,_,[],by simpa[fmT]using jsy e1⟩,λb hb'=>jeb (hb b hb') λo e=>kk b o e⟩
 ·intro h1 tk ⟨sp,_⟩ kk
  refine h h1 tk ?_ kk
  rw[sz,Ir]at sp
  exact sp
end
structure SR(h:Heap)(a:Addr)(o:Obj)(es:Array (Int×Value))(ep:Nat)(t:SetTable):Prop where
 at_:h.get? a=some o
 ct:o.cls=.type "set"
 dt:o.data=.set es ep t
 fits:t.fits es.size=true
 ris:t.place.toList.Pairwise (·<·)
 pl:t.plain=true
 sz:es.size<1000
theorem SR.keep{h h':Heap}{a:Addr}{o:Obj}{es:Array (Int×Value)}{ep:Nat}{t:SetTable}(x:SR h a o es ep t)(k:h'.get? a=some o):SR h' a o es ep t:=⟨k,x.ct,x.dt,x.fits,x.ris,x.pl,x.sz⟩
theorem jg7{xs:Array Nat}(hr:xs.toList.Pairwise (·<·)){i j:Nat}(h1:∀k,k<i->∀v,xs.toList[k]?=some v->v<j)(h2:∀k,i<=k->∀v,xs.toList[k]?=some v->j<=v)(hi:i<=xs.size):SetTable.below xs j=i:=by
 obtain⟨q1,q2,q3⟩:=jgn hr j
 by_cases c:SetTable.below xs j<i
 ·have hl:SetTable.below xs j<xs.toList.length:=by rw[Array.length_toList];omega
  have a1:=h1 _ c _ (Aa hl)
  have a2:=q2 _ (Ak _) _ (Aa hl)
  omega
 ·by_cases d:i<SetTable.below xs j
  ·have hl:i<xs.toList.length:=by rw[Array.length_toList];omega
   have a1:=q1 _ d _ (Aa hl)
   have a2:=h2 _ (Ak _) _ (Aa hl)
   omega
  ·omega
def jn6(t:SetTable):Nat->Nat
 |0=>0
 |i+1=>t.place.getD i 0+1
theorem jgk{t:SetTable}(hr:t.place.toList.Pairwise (·<·)):∀{i:Nat},i<=t.place.size->SetTable.below t.place (jn6 t i)=i
 |0,_=>jg7 hr (λk hk=>by omega) (λk _ v _=>Oa _) (Oa _)
 |i+1,h=>by
  have hl:i<t.place.toList.length:=by rw[Array.length_toList];omega
  have e:t.place.toList[i]?=some (t.place.getD i 0):=by
   rw[Ii,Oq,Ix (by omega)];rfl
  have pw:=Uc.mp hr
  refine jg7 hr (λk hk v hv=>?_) (λk hk v hv=>?_) h
  ·show v<t.place.getD i 0+1
   obtain⟨lk,ek⟩:=Ae.mp hv
   obtain⟨li,ei⟩:=Ae.mp e
   by_cases c:k=i
   ·subst c;rw[hv]at e;cases e;omega
   ·have:=pw k i lk li (by omega)
    omega
  ·show t.place.getD i 0+1<=v
   obtain⟨lk,ek⟩:=Ae.mp hv
   obtain⟨li,ei⟩:=Ae.mp e
   have:=pw i k li lk (by omega)
   omega
section
variable{prog:Program}{w:World}{A:Around}{E:Value->Shared->Prop}{s:Shared}
variable{I a:Addr}{o:Obj}{es:Array (Int×Value)}{ep:Nat}{t:SetTable}
theorem jjm{f:Value}{i:Nat}{Q:Option Value->Shared->Prop}(x:SIt s.heap I f i a es.size ep)(y:SR s.heap a o es ep t){sl:Nat}(ef:f=.int sl 0)
  (h:wpAny (model prog w) A.in1 (do
     match <-setNext a sl i ep with
     |some (x,next) =>
      setField (.ref I) 0 (rawInt next)
      setField (.ref I) 1 (rawInt (i+1))
      ret x
     |none=>setField (.ref I) 2 .none;raiseNew (<-newExc (.type "StopIteration") []))
   (λfin s'=>∃v,fin=Fin.done (Flow.ret v)/\Q (some v) s') (λe s'=>wpAny (model prog w) A (do if(<-isInstance e (.type "StopIteration"))=true then pure none else throw e) Q E s') s) :
  wpAny (model prog w) A (pyNext (.ref I)) Q E s:=by
 subst ef
 obtain⟨oi,hi,ci,di⟩:=id x
 unfold pyNext
 refine Ab (Aae (Uk (name:=Str.ofString "__next__") x.ty sit_next (Ot sit_next x.ty jpk ?_ (jqk _))))
 unfold Builtin.«set_iterator.__next__»
 refine Ab (Ah (Ab (Yh hi di ?_)))
 dsimp only
 refine Ab (wpAny_setEntries_of y.at_ y.dt y.fits ?_)
 rw[Am (by simp)]
 refine Ur ?_ (Q:=λfin s'=>∃v,fin=Fin.done (Flow.ret v)/\Q (some v) s') (λfin s' ⟨v,e,q⟩=>⟨v,e,Ah q⟩) λ_ _ q=>q
 simp only[Int.toNat_natCast]
 exact h
theorem jlr{sl i nx:Nat}{v:Value}{Q:Option Value->Shared->Prop}(x:SIt s.heap I (.int sl 0) i a es.size ep)(y:SR s.heap a o es ep t)
  (hx:∀(A':Around)(E':Value->Shared->Prop)(Q':Option (Value×Nat)->Shared->Prop),Q' (some (v,nx)) s->wpAny (model prog w) A' (setNext a sl i ep) Q' E' s)
  (hQ:∀h',SIt h' I (.int nx 0) (i+1) a es.size ep->Heap.SameBut I s.heap h'->Q (some v) {s with heap:=h'}):wpAny (model prog w) A (pyNext (.ref I)) Q E s:=by
 refine jjm x y rfl (Ab (hx _ _ _ ?_))
 obtain⟨oi,hi,ci,di⟩:=id x
 obtain⟨o1,g1,c1,d1⟩:=SIt.upd hi ci di 0 (rawInt nx)
 dsimp only
 refine Ab (Wa hi di (by simp) (Ab (Wa g1 d1 (by simp) (Ah ⟨v,rfl,hQ _ ?_ ((Up ..).trans (Up ..))⟩))))
 exact⟨_,O1 _ g1 (Yy (U2 d1 _)),(Obj.cls_mapFields ..).trans c1,by rw[U2 d1];simp[rawInt]⟩
theorem jlq{sl i:Nat}{Q:Option Value->Shared->Prop}(hh:A.handled=none)(x:SIt s.heap I (.int sl 0) i a es.size ep)(y:SR s.heap a o es ep t)
  (hx:∀(A':Around)(E':Value->Shared->Prop)(Q':Option (Value×Nat)->Shared->Prop),Q' none s->wpAny (model prog w) A' (setNext a sl i ep) Q' E' s)
  (hQ:∀h',(∀b o,b≠I->s.heap.get? b=some o->h'.get? b=some o)->Q none {s with heap:=h'}):wpAny (model prog w) A (pyNext (.ref I)) Q E s:=by
 refine jjm x y rfl (Ab (hx _ _ _ ?_))
 obtain⟨oi,hi,ci,di⟩:=id x
 dsimp only
 refine Ab (Wa hi di (by simp) ?_)
 exact jql hh λh' k=>hQ h' λb o hb e=>k b o ((Ow _ _ (U9 hb)).trans e)
theorem jhm{sl i:Nat}{Q:Option (Value×Nat)->Shared->Prop}(hB:w.params.followText "set-order"=true)(y:SR s.heap a o es ep t)
  (h:Q (((pickOrder (w.params.setOrder a ep) es)[i]?).map λe=>(e.2,sl)) s):wpAny (model prog w) A (setNext a sl i ep) Q E s:=by
 unfold setNext setsByText
 refine Ab (O8 y.at_ y.dt y.fits ?_)
 dsimp only
 refine Ab (Ab (Wh (Ah (Oc (λ_=>Oc (λq=>absurd q (by simp)) (λ_=>?_)) (λq=>absurd hB q)))))
 unfold setWalk setsByText
 refine Ab (Ab (O8 y.at_ y.dt y.fits ?_))
 dsimp only
 exact Ab (Ab (Wh (Ah (Oc (λ_=>Ab (Wh (Ah (Ah h)))) (λq=>absurd hB q)))))
theorem jhl{i:Nat}{Q:Option (Value×Nat)->Shared->Prop}(hB:w.params.followText "set-order"=false)(y:SR s.heap a o es ep t)(ld:t.led=true){sl g:Nat}
  (h:Q (match es[SetTable.below t.place sl]?,t.place[SetTable.below t.place sl]? with|some (_,x),some j=>some (x,j+1)|_,_=>none) s):wpAny (model prog w) A (setNext a sl g ep) Q E s:=by
 unfold setNext setsByText
 refine Ab (O8 y.at_ y.dt y.fits ?_)
 dsimp only
 refine Ab (Ab (Wh (Ah (Oc (λq=>absurd q (show ¬w.params.followText "set-order"=true by rw[hB];decide)) (λ_=>?_)))))
 refine Oc (λq=>?_) (λ_=>?_)
 ·have q':(!t.plain && decide (es.size>1))=true:=q
  rw[y.pl]at q';cases q'
 refine Ab (show wpAny _ _ (if(!t.led && !es.isEmpty)=true then unsupported _ else pure ()) _ _ _ from ?_)
 exact Oc (λq=>absurd q (by rw[ld];simp)) (λ_=>Ah (Ah h))
theorem jod(hne:a≠I)(hB:w.params.followText "set-order"=true)(hh:A.handled=none) :
  Walks prog w A I [I,a] [I] ((pickOrder (w.params.setOrder a ep) es).toList.map (·.2)).length (λi v=>((pickOrder (w.params.setOrder a ep) es).toList.map (·.2))[i]?=some v)
   (λi h=>SIt h I (.int (0:Nat) 0) i a es.size ep/\SR h a o es ep t) where
 sub:=λb hb=>by simp at hb;simp[hb]
 frame:=λ_ _ _ st hk=>⟨st.1.keep λo e=>hk I (by simp) o e,st.2.keep (hk a (by simp) _ st.2.at_)⟩
 item:=λi s Q E hi st hQ=>by
  rw[Ad]at hi
  have hg:=Aa hi
  generalize(pickOrder (w.params.setOrder a ep) es).toList[i]=e at hg
  refine jlr (v:=e.2) (nx:=0) st.1 st.2 (λA' E' Q' q=>jhm hB st.2 ?_) λh' x' k=>hQ e.2 h' s.toks (by rw[Ag,hg];rfl) ⟨x',st.2.keep ((k.2 a hne).trans st.2.at_)⟩ λb o hb g=>(k.2 b (by simpa using hb)).trans g
  rw[<-Ii,hg];exact q
 done:=λs Q E st hQ=>by
  refine jlq hh st.1 st.2 (λA' E' Q' q=>jhm hB st.2 ?_) λh' k=>hQ h' s.toks λb o hb g=>k b o (by simpa using hb) g
  rw[<-Ii,Ad,I0 (Ak _)];exact q
 self:=λ_ _ _ _ st hQ=>jlt st.1 hQ
theorem joc(hne:a≠I)(hB:w.params.followText "set-order"=false)(ld:t.led=true)(hp:t.place.size=es.size)(hh:A.handled=none) :
  Walks prog w A I [I,a] [I] (es.toList.map (·.2)).length (λi v=>(es.toList.map (·.2))[i]?=some v)
   (λi h=>SIt h I (.int (jn6 t i:Nat) 0) i a es.size ep/\SR h a o es ep t) where
 sub:=λb hb=>by simp at hb;simp[hb]
 frame:=λ_ _ _ st hk=>⟨st.1.keep λo e=>hk I (by simp) o e,st.2.keep (hk a (by simp) _ st.2.at_)⟩
 item:=λi s Q E hi st hQ=>by
  rw[Ad,Array.length_toList]at hi
  have hb:=jgk st.2.ris (i:=i) (by omega)
  have he:es[i]?=some es[i]:=Ix hi
  have hj:t.place[i]?=some (t.place.getD i 0):=by rw[Oq,Ix (by omega)];rfl
  generalize es[i]=e at he
  refine jlr (v:=e.2) (nx:=jn6 t (i+1)) st.1 st.2 (λA' E' Q' q=>jhl (i:=i) hB st.2 ld ?_) λh' x' k=>hQ e.2 h' s.toks (by rw[Ag,Ii,he];rfl) ⟨x',st.2.keep ((k.2 a hne).trans st.2.at_)⟩ λb o hb g=>(k.2 b (by simpa using hb)).trans g
  rw[hb,he,hj];exact q
 done:=λs Q E st hQ=>by
  rw[Ad,Array.length_toList]at st
  refine jlq hh st.1 st.2 (λA' E' Q' q=>jhl (i:=0) hB st.2 ld ?_) λh' k=>hQ h' s.toks λb o hb g=>k b o (by simpa using hb) g
  rw[jgk st.2.ris (i:=es.size) (by omega),Array.getElem?_eq_none (Ak _)]
  exact q
 self:=λ_ _ _ _ st hQ=>jlt st.1 hQ
end
section
variable{prog:Program}{w:World}{A:Around}{E:Value->Shared->Prop}{s:Shared}
variable{a:Addr}{o:Obj}{es:Array (Int×Value)}{ep:Nat}{t:SetTable}
theorem js2{Q:Value->Shared->Prop}(y:SR s.heap a o es ep t)(ld:t.led=!w.params.followText "set-order")(hp:t.place.size=es.size)
  (hQ:∀(h':Heap)(vs:List Value)(St:Nat->Heap->Prop),(∀b o,s.heap.get? b=some o->h'.get? b=some o)->h'.objs.size=s.heap.objs.size+1->vs.Perm (es.toList.map (·.2)) ->
   (∀A':Around,A'.handled=none->Walks prog w A' s.heap.objs.size [s.heap.objs.size,a] [s.heap.objs.size] vs.length (λi v=>vs[i]?=some v) St)->St 0 h'->Q (.ref s.heap.objs.size) {s with heap:=h'}) :
  wpAny (model prog w) A (pyIter (.ref a)) Q E s:=by
 have hlt:a<s.heap.objs.size:=At y.at_
 have hT:s.TypeIs (.ref a) "set":=⟨o,y.at_,y.ct⟩
 refine wpAny_pyIter_slot hT PySem.F.slot_set_iter (Ot PySem.F.slot_set_iter hT jig ?_ (PySem.F.args_set_iter_1 _))
 unfold Builtin.«frozenset.__iter__» Builtin.Frozenset.slot0 Builtin.Frozenset.sizeOf
 refine Ab (Ab (Ah (Ah (Ab (Ab (wpAny_setEntries_of y.at_ y.dt y.fits (Ah ?_)))))))
 unfold setDrawn setsByText
 refine Ab (Ab (O8 y.at_ y.dt y.fits ?_))
 dsimp only
 refine Ab (Ab (Wh (Ah (Ah ?_))))
 refine Oc (λq=>?_) (λ_=>?_)
 ·have q':(!w.params.followText "set-order" && (!t.plain && decide (es.size>1)))=true:=q
  rw[y.pl]at q'
  simp at q'
 refine Ab (Ah (Ab (wpAny_setEpoch_of y.at_ y.dt y.fits ?_)))
 unfold newFields
 refine Ab (Oh (Ah ?_) (by size_fits))
 have hI:(s.heap.push {cls:=.type "set_iterator",data:=.fields #[rawInt 0,rawInt 0,.ref a,rawInt es.size,rawInt ep]}).get? s.heap.objs.size=some {cls:=.type "set_iterator",data:=.fields #[rawInt 0,rawInt 0,.ref a,rawInt es.size,rawInt ep]}:=A1 _ rfl
 have kp:∀b o,s.heap.get? b=some o->(s.heap.push {cls:=.type "set_iterator",data:=.fields #[rawInt 0,rawInt 0,.ref a,rawInt es.size,rawInt ep]}).get? b=some o:=λb o e=>Ai _ e
 refine⟨_,rfl,"set_iterator",_,⟨_,hI,rfl⟩,sit_next.lookup,?_⟩
 by_cases hB:w.params.followText "set-order"=true
 ·exact hQ _ _ _ kp (Yi ..) ((pick_perm (w.params.setOrder a ep) es).map _) (λA' hh=>jod (o:=o) (t:=t) (Ax hlt) hB hh) ⟨⟨_,hI,rfl,rfl⟩,y.keep (kp _ _ y.at_)⟩
 ·have hB':w.params.followText "set-order"=false:=by simpa using hB
  exact hQ _ _ _ kp (Yi ..) (Yj _) (λA' hh=>joc (o:=o) (ep:=ep) (Ax hlt) hB' (by rw[ld,hB'];rfl) hp hh) ⟨⟨_,hI,rfl,rfl⟩,y.keep (kp _ _ y.at_)⟩
theorem jpw{R:List Value->Shared->Prop}(y:SR s.heap a o es ep t)(ld:t.led=!w.params.followText "set-order")(hp:t.place.size=es.size)(hh:A.handled=none)
  (h:∀(h':Heap)(tk:Nat)(vs:List Value),(∀b o,s.heap.get? b=some o->h'.get? b=some o)->s.heap.objs.size<=h'.objs.size->vs.Perm (es.toList.map (·.2))->R vs {s with heap:=h',toks:=tk}) :
  wpAny (model prog w) A (collect (.ref a)) R E s:=by
 have hlt:a<s.heap.objs.size:=At y.at_
 have hsz:=O3
 unfold collect
 refine Ab (wpAny_runValue (Uu entry_proto_collect' ?_))
 rw[Uj PySem.F.plain_proto_collect _]
 refine show wpAny _ A.in1 (newList [] >>= λl=>again (.builtin "list.__iadd__" ⟨[l,.ref a],[]⟩)) _ _ s from ?_
 refine Ab (Oh (Ah ⟨Wn PySem.F.plain_list_iadd _,Uu entry_list_iadd' ?_⟩))
 rw[Uj PySem.F.plain_list_iadd _]
 have hS:(s.heap.push {cls:=.type "list",data:=.seq ([]:List Value).toArray}).get? s.heap.objs.size=some {cls:=.type "list",data:=.seq #[]}:=A1 _ rfl
 have k0:∀b o,s.heap.get? b=some o->(s.heap.push {cls:=.type "list",data:=.seq ([]:List Value).toArray}).get? b=some o:=λb o e=>Ai _ e
 have s0:(s.heap.push {cls:=.type "list",data:=.seq ([]:List Value).toArray}).objs.size=s.heap.objs.size+1:=Yi ..
 refine show wpAny _ A.in1 (Builtin.List.listExtendWith (.ref s.heap.objs.size) (.ref a) (.ref s.heap.objs.size)) _ _ {s with heap:=s.heap.push {cls:=.type "list",data:=.seq ([]:List Value).toArray}}from ?_
 generalize s.heap.push {cls:=.type "list",data:=.seq ([]:List Value).toArray}=h0 at hS k0 s0
 have y0:=y.keep (k0 _ _ y.at_)
 have hT:({s with heap:=h0}:Shared).TypeIs (.ref a) "set":=⟨o,y0.at_,y.ct⟩
 have hSa:s.heap.objs.size≠a:=Wc hlt
 unfold Builtin.List.listExtendWith
 refine Ab (Yb (T:="set") hT ?_)
 simp only[show Builtin.List.listSameRef (.ref s.heap.objs.size) (.ref a)=false by simp[Builtin.List.listSameRef,hSa],show(Value.type "set" == Value.type "list")=false by decide,show(Value.type "set" == Value.type "tuple")=false by decide,Bool.or_false,Ia,Ob]
 refine Ab (js2 (s:={s with heap:=h0}) y0 ld hp λh1 vs St k1 z1 hvp W st=>?_)
 have vl:vs.length=es.size:=by rw[hvp.length_eq,Ad,Array.length_toList]
 have hT1:({s with heap:=h1}:Shared).TypeIs (.ref a) "set":=⟨o,k1 _ _ y0.at_,y.ct⟩
 have hS1:=k1 _ _ hS
 have hSf:s.heap.objs.size∉[h0.objs.size,a]:=by
  rw[s0,Ap,Aj,not_or]
  exact⟨Ax (Yv _),hSa⟩
 have key:∀(h:Heap)(c1:Nat),St 0 h->(∀b o,b≠s.heap.objs.size->h1.get? b=some o->h.get? b=some o)->h.get? s.heap.objs.size=some {cls:=.type "list",data:=.seq #[] c1} ->
   codeAny (model prog w) A (.builtin "list.extend.loop" ⟨[.ref s.heap.objs.size,.ref h0.objs.size,.ref s.heap.objs.size],[]⟩) (λq s'=>∃h' tk acc c,q=.ok (.ret (.ref s.heap.objs.size))/\s'={s with heap:=h',toks:=tk}/\(∀b o,s.heap.get? b=some o->h'.get? b=some o)/\h'.get? s.heap.objs.size=some {cls:=.type "list",dict:=none,data:=.seq acc c,slots:=#[]}/\acc.toList=vs) {s with heap:=h}:=by
  intro h c1 st' kk hS'
  refine codeAny_extend_loopS (W A.in1 hh).toS (by rw[vl,hsz];have:=y.sz;omega) s.heap.objs.size hSf (.ref s.heap.objs.size) vs.length 0 _ #[] c1 rfl (Oa _) st' hS' (ItemsOf.nil _) λs' acc c' hm hS2 hacc=>?_
  refine⟨s'.heap,s'.toks,acc,c',rfl,(by have q:=Moved.eq_with hm;exact q),λb o e=>?_,hS2,?_⟩
  ·have hb:=At e
   refine hm.heap b o (λq=>?_) (kk b o (Ax hb) (k1 b o (k0 b o e)))
   rcases Ap.mp q with q|q
   ·exact Ax hb q
   ·have q:=Aj.mp q
    rw[show({s with heap:=h0}:Shared).heap.objs.size=s.heap.objs.size+1 from s0]at q
    exact Ax (Uw hb) q
  ·refine Wx λj=>?_
   by_cases c:j<vs.length
   ·have hj:j<acc.size:=by rw[hacc.1];exact c
    have:=hacc.2 j acc[j] (Ix hj)
    rw[this,Ii,Ix hj]
   ·rw[I0 (by rw[Array.length_toList,hacc.1];omega),I0 (by omega)]
 have fin:∀(q:Result)(s':Shared),(∃h' tk acc c,q=.ok (.ret (.ref s.heap.objs.size))/\s'={s with heap:=h',toks:=tk}/\(∀b o,s.heap.get? b=some o->h'.get? b=some o)/\h'.get? s.heap.objs.size=some {cls:=.type "list",dict:=none,data:=.seq acc c,slots:=#[]}/\acc.toList=vs)->∃(h':Heap)(tk:Nat)(c:Nat)(acc:Array Value),q=.ok (.ret (.ref s.heap.objs.size))/\s'={s with heap:=h',toks:=tk}/\h'.get? s.heap.objs.size=some {cls:=.type "list",dict:=none,data:=.seq acc c,slots:=#[]}/\R acc.toList {s with heap:=h',toks:=tk}:=by
  rintro q s' ⟨h',tk,acc,c,e1,e2,e3,e4,e5⟩
  exact⟨h',tk,c,acc,e1,e2,e4,by rw[e5];exact h h' tk vs e3 (Wb (At e4)) hvp⟩
 refine Ab (Og (jp7 (s:={s with heap:=h1}) hT1 ?_))
 have go:∀(h:Heap)(c1:Nat),St 0 h->(∀b o,b≠s.heap.objs.size->h1.get? b=some o->h.get? b=some o)->h.get? s.heap.objs.size=some {cls:=.type "list",data:=.seq #[] c1} ->
   ∀(R':Result->Shared->Prop),(∀q s',(∃(h':Heap)(tk:Nat)(c:Nat)(acc:Array Value),q=.ok (.ret (.ref s.heap.objs.size))/\s'={s with heap:=h',toks:=tk}/\h'.get? s.heap.objs.size=some {cls:=.type "list",dict:=none,data:=.seq acc c,slots:=#[]}/\R acc.toList {s with heap:=h',toks:=tk})->R' q s')->codeAny (model prog w) A (.builtin "list.extend.loop" ⟨[.ref s.heap.objs.size,.ref h0.objs.size,.ref s.heap.objs.size],[]⟩) R' {s with heap:=h} :=
  λh c1 a1 a2 a3 R' hR'=>Wy (key h c1 a1 a2 a3) λq s' z=>hR' q s' (fin q s' z)
 refine Oc (λ_=>?_) (λ_=>Ah ⟨Wn PySem.F.plain_extend_loop _,go _ 0 st (λb o _ e=>e) hS1 _ λq s' ⟨h',tk,c,acc,e1,e2,e3,e4⟩=>?_⟩)
 ·refine Ab (wpAny_rule (Ab (show wpAny _ _ (updateSeq s.heap.objs.size (·.push .none) >>= λ_=>updateSeq s.heap.objs.size (·.pop)) _ _ _ from ?_)))
  refine Ab (wpAny_updateSeq hS1 rfl ?_)
  have hS2:=O1 (Obj.mapSeq (·.push Value.none)) hS1 rfl
  refine wpAny_updateSeq (hz:=by seq_fits) hS2 rfl ?_
  have hS3:=O1 (Obj.mapSeq (·.pop)) hS2 rfl
  have oth:∀b o,b≠s.heap.objs.size->h1.get? b=some o->((h1.update s.heap.objs.size (Obj.mapSeq (·.push Value.none))).update s.heap.objs.size (Obj.mapSeq (·.pop))).get? b=some o:=λb o hb e=>(Ow _ _ (U9 hb)).trans ((Ow _ _ (U9 hb)).trans e)
  refine Ah ⟨Wn PySem.F.plain_extend_loop _,go _ _ ((W A.in1 hh).frame 0 _ _ st λb hb o e=>oth b o (λq=>hSf (q▸hb)) e) oth hS3 _ λq s' ⟨h',tk,c,acc,e1,e2,e3,e4⟩=>?_⟩
  subst e1 e2
  exact Ab (wpAny_load e3 (Ah e4))
 ·subst e1 e2
  exact Ab (wpAny_load e3 (Ah e4))
theorem jl7{kf:Addr->List Int}{bd:Nat}{ks:List (List Int)}{L:List (Nat×(Int×Value))}{Q:Value->Shared->Prop}(x:TX prog w kf bd s.heap a (!w.params.followText "set-order") ks o es ep t L)(hh:A.handled=none)(h64:ks.length<64)(ne:∀k∈ks,k≠[])
  (h:∀(D:Addr)(h':Heap)(tk:Nat)(bs:List Addr)(c:Nat),(∀b o,s.heap.get? b=some o->h'.get? b=some o)->s.heap.objs.size<=D->h'.get? D=some (seqObj "list" (bs.map Value.ref).toArray c)->(bs.map kf).Perm ks->(∀b∈bs,IsTK prog w s.heap (kf b) b/\b<bd)->Q (.ref D) {s with heap:=h',toks:=tk}) :
  wpAny (model prog w) A (call (.builtin "sorted") [.ref a]) Q E s:=by
 have hsz:=O3
 obtain⟨l1,l2⟩:=x.len
 have y:SR s.heap a o es ep t:=⟨x.at_,x.ex.1,x.dt,x.fits,x.ly.rp,x.pl,by omega⟩
 have pz:t.place.size=es.size:=by rw[<-Array.length_toList,x.ly.pl,Ad,l1]
 refine Calls.call_function_entry kind_sorted plain_sorted entry_sorted (args_sorted1 _) ?_
 unfold Builtin.«sorted»
 refine Ab (m:=checkCount "sorted" 1 1 _) (Ah (Ab (jpw (A:=A.in1) y x.ld pz hh λh1 tk vs k1 z1 hvp=>?_)))
 have ev:∀v∈vs,∃b,v=.ref b/\IsTK prog w s.heap (kf b) b/\b<bd:=λv hv=>by
  obtain⟨e,he,rfl⟩:=An.mp (hvp.mem_iff.mp hv)
  rw[x.ly.el]at he
  obtain⟨b,q1,q2,q3⟩:=x.en e he
  exact⟨b,by rw[q1],q2,q3⟩
 have toB:∀vs:List Value,(∀v∈vs,∃b,v=.ref b/\IsTK prog w s.heap (kf b) b/\b<bd)->∃bs:List Addr,vs=bs.map Value.ref/\∀b∈bs,IsTK prog w s.heap (kf b) b/\b<bd:=λvs=>by
  induction vs with
  |nil=>intro _;exact⟨[],rfl,by simp⟩
  |cons v vs ih =>
   intro hv
   obtain⟨b,e,q⟩:=hv v (.head _)
   obtain⟨bs,e2,q2⟩:=ih λu hu=>hv u (.tail _ hu)
   exact⟨b::bs,by rw[e,e2];rfl,λc hc=>(Ap.mp hc).elim (λz=>z▸q) (q2 c)⟩
 obtain⟨bs,rfl,hbs⟩:=toB vs ev
 have pk:(bs.map kf).Perm ks:=by
  refine List.Perm.trans ?_ x.ky
  have e1:bs.map kf=(bs.map Value.ref).map λv=>keyT kf (0,v):=by rw[A0];rfl
  have e2:(L.map Prod.snd).map (keyT kf)=(es.toList.map (·.2)).map λv=>keyT kf (0,v):=by rw[x.ly.el,A0,A0,A0];rfl
  rw[e1,e2]
  exact hvp.map _
 have bl:bs.length=ks.length:=by rw[<-pk.length_eq,Ad]
 refine Ab (wpAny_newList ?_ (by rw[Ad,bl,hsz];omega))
 have hD:(h1.push (seqObj "list" (bs.map Value.ref).toArray 0)).get? h1.objs.size=some (seqObj "list" (bs.map Value.ref).toArray 0):=A1 _ rfl
 have k2:∀b o,s.heap.get? b=some o->(h1.push (seqObj "list" (bs.map Value.ref).toArray 0)).get? b=some o:=λb o e=>Ai _ (k1 b o e)
 refine Ab (Og (Ot slot_list_sort ⟨_,hD,rfl⟩ entry_list_sort (jjn (s:={s with heap:=h1.push (seqObj "list" (bs.map Value.ref).toArray 0),toks:=tk}) (kf:=kf) hD (λb hb=>⟨jeb (hbs b hb).1 λo e=>k2 b o e,ne _ (pk.mem_iff.mp (An.mpr ⟨b,hb,rfl⟩))⟩) (by omega) λh2 bs' c hp e2 kk=>⟨_,rfl,?_⟩) (args_list_sort _)))
 refine Ah ⟨_,rfl,h h1.objs.size h2 tk bs' c (λb o e=>kk b o (Ax (A4 (At e) z1)) (k2 b o e)) z1 e2 ((hp.map kf).trans pk) λb hb=>hbs b (hp.mem_iff.mp hb)⟩
end
section
variable{X:Cx}{pins:List (Addr×Obj)}{σ:L2.St}{H:Hp}{s:Shared}
def jdx:List V->Hp->VK->Prop:=λvs H Q=>match vs with
 |[.ref l]=>∃(bs:List Addr)(kf:Addr->List Int),H l=some (.lst (bs.map V.ref))/\(∀b∈bs,H b=some (.tup ((kf b).map V.int))/\kf b≠[])/\bs.length<64 /\
   ∀(p:Addr)(bs':List Addr),H p=none->(∀b∈bs',b∈bs)->(bs'.map kf).Nodup->(∀k,k∈bs'.map kf↔k∈bs.map kf)->Q (.ref p) (upd H p (.lst (bs'.map V.ref)))
 |_=>False
def jex(ta:TE):TE:=tCB jdx (jew ta tNil)
theorem jev(l:Addr)(H:Hp)(Q:VK):jdx [.ref l] H Q=(∃(bs:List Addr)(kf:Addr->List Int),H l=some (.lst (bs.map V.ref))/\(∀b∈bs,H b=some (.tup ((kf b).map V.int))/\kf b≠[])/\bs.length<64 /\
   ∀(p:Addr)(bs':List Addr),H p=none->(∀b∈bs',b∈bs)->(bs'.map kf).Nodup->(∀k,k∈bs'.map kf↔k∈bs.map kf)->Q (.ref p) (upd H p (.lst (bs'.map V.ref)))):=rfl
theorem jq7{P:Program}{w:World}{h:Heap}{k:List Int}{b:Addr}(ok:HOk P w H h)(e:H b=some (.tup (k.map V.int))):IsTK P w h k b:=by
 refine je4 ok ?_
 rw[e]
 unfold inK
 rw[A0];rfl
theorem jil:∀(bs:List Addr),Vals (bs.map V.ref) (bs.map Value.ref)
 |[]=>.nil
 |b::bs=>.cons rfl (jil bs)
theorem jfv:∀{bs:List Addr}{us:List Value},Vals (bs.map V.ref) us->us=bs.map Value.ref
 |[],_,.nil=>rfl
 |b::bs,_,.cons r rr=>by cases r;rw[jfv rr];rfl
theorem qpe_sortedSetT{a:Expr}{ta:TE}{p1 p2 q1 q2:Pos}(hc:X.calm=true)(hu:X.A.units+64<cLine)(hg:Gl X "sorted")(hm:X.mg "sorted"=none)(hg2:Gl X "set")(hm2:X.mg "set"=none)(ha:QE X a ta)
  (hs:starEach [(.Call (.Name "set" p2) [a] [] q2)] X.env=[(false,eval (.Call (.Name "set" p2) [a] [] q2) X.env)]:=by rfl) (hs2:starEach [a] X.env=[(false,eval a X.env)]:=by rfl) :
  QE X (.Call (.Name "sorted" p1) [.Call (.Name "set" p2) [a] [] q2] [] q1) (jex ta):=⟨by
 intro pins s σ H Q I h
 refine O4 (jdw I hg hm jbs (Wq ?_ hs rfl))
 rw[hs]
 refine show wpAny _ _ (spliced ((false,eval (.Call (.Name "set" p2) [a] [] q2) X.env)::[])) _ _ s from Wo ?_
 have hA:PA X [a] (jew ta tNil):=jbq ha.h jb3 hs2
 refine O4 (jdw I hg2 hm2 jci (Op (thn (hA q2 pins s σ H (λvs H1=>jdx vs H1 Q) I h) λus s1 ⟨vs,H1,I1,r1,q1⟩=>?_) hs2 rfl))
 replace q1:jdx vs H1 Q:=q1
 unfold jdx at q1
 split at q1
 ·rename_i l
  obtain⟨bs,kf,e,hb,h64,q⟩:=q1
  obtain⟨u,rfl,ru⟩:=jdd r1
  cases ru
  have hh:=I1.ok.hd hc
  obtain⟨its,rr,pl,hz⟩:=I1.list (SqL.of e)
  have ei:=jfv rr
  subst ei
  let kf':Addr->List Int:=λb=>if b∈bs then kf b else[]
  have kin:∀b∈bs,kf' b=kf b:=λb hb=>Ao hb
  have mk:bs.map kf'=bs.map kf:=Ih kin
  refine jqj (s:=s1) (kf:=kf') hh (by omega) pl.isList (λb hb'=>by rw[kin b hb'];exact jq7 I1.hok (hb b hb').1) (by omega) λh' tk hS hk=>Yl ?_
  obtain⟨o,es,ep,t,L,x⟩:=hS
  have fl:=jmm (bs.map kf')
  rw[Ad]at fl
  have ne:∀k∈fmT (bs.map kf'),k≠[]:=λk hk=>by
   rw[jmn,mk]at hk
   obtain⟨b,hb',rfl⟩:=An.mp hk
   exact(hb b hb').2
  have I2:Inv X pins σ H1 {s1 with heap:=h',toks:=tk}:=I1.kept λb o e=>hk b o (At e) e
  refine jl7 (s:={s1 with heap:=h',toks:=tk}) x hh (by omega) ne λD h2 tk2 bs' c k2 hD e2 pm hbs=>?_
  have inb:∀b∈bs',b∈bs:=λb hb'=>Ig λn=>ne (kf' b) (pm.mem_iff.mp (An.mpr ⟨b,hb',rfl⟩)) (Am n)
  have mk':bs'.map kf'=bs'.map kf:=Ih λb hb'=>kin b (inb b hb')
  have bl:bs'.length<64:=by have:=pm.length_eq;rw[Ad]at this;omega
  have hln:sizeLine=16777216:=O3
  have I3:Inv X pins σ (upd H1 D (.lst (bs'.map V.ref))) { ({s1 with heap:=h',toks:=tk}:Shared)with heap:=h2,toks:=tk2} :=
   I2.laid (λb o e=>k2 b o e) hD ⟨by rw[Ad];omega,bs'.map Value.ref,c,jil bs',e2⟩
  refine⟨.ref D,_,I3,rfl,q D bs' (I2.hok.fresh hD) inb ?_ λk=>?_⟩
  ·rw[<-mk']
   exact pm.nodup_iff.mpr x.nd
  ·rw[<-mk',pm.mem_iff,jmn,mk]
 ·exact q1.elim⟩
def jeo:List V->Hp->VK->Prop:=λvs H Q=>match vs with
 |[.ref l]=>∃ns:List Int,H l=some (.lst (ns.map V.int))/\ns.length<1000/\∀c:List Int,c.Nodup->(∀x,x∈c↔x∈ns)->Q (.int c.length) H
 |_=>False
def jg0(ta:TE):TE:=tCB jeo (jew ta tNil)
theorem jft(l:Addr)(H:Hp)(Q:VK):jeo [.ref l] H Q=(∃ns:List Int,H l=some (.lst (ns.map V.int))/\ns.length<1000/\∀c:List Int,c.Nodup->(∀x,x∈c↔x∈ns)->Q (.int c.length) H):=rfl
theorem jgg(val:Nat->Int):∀i,(firstMet val i).Nodup
 |0=>by rw[firstMet_zero];exact .nil
 |i+1=>by
  rw[firstMet_succ]
  unfold step_dedup
  have ih:=jgg val i
  split
  ·exact ih
  ·rename_i h
   rw[Om]
   refine⟨ih,by simp,λa ha b hb e=>h ?_⟩
   rw[List.any_eq_true]
   exact⟨a,ha,by rw[e,Aj.mp hb];simp⟩
theorem jkv(ns:List Int)(x:Int):x∈firstMet (λi=>ns.getD i 0) ns.length↔x∈ns:=by
 have h:=firstMet_any (λi=>ns.getD i 0) ns.length x
 have e:(List.range ns.length).map (λi=>ns.getD i 0)=ns:=by
  refine O5 (by simp) λi q1 q2=>?_
  rw[Uf,Ug,Ac,Aa q2];rfl
 rw[e]at h
 have m:∀l:List Int,x∈l↔(l.any (· == x))=true:=λl=>by rw[List.any_eq_true];exact⟨λh=>⟨x,h,by simp⟩,fun⟨y,h1,h2⟩=>by rw[<-show y=x by simpa using h2];exact h1⟩
 rw[m,m,h]
theorem jbd{a:Expr}{ta:TE}{p1 p2 q1 q2:Pos}(hc:X.calm=true)(hg:Gl X "len")(hm:X.mg "len"=none)(hg2:Gl X "set")(hm2:X.mg "set"=none)(ha:QE X a ta)
  (hs:starEach [(.Call (.Name "set" p2) [a] [] q2)] X.env=[(false,eval (.Call (.Name "set" p2) [a] [] q2) X.env)]:=by rfl) (hs2:starEach [a] X.env=[(false,eval a X.env)]:=by rfl) :
  QE X (.Call (.Name "len" p1) [.Call (.Name "set" p2) [a] [] q2] [] q1) (jg0 ta):=⟨by
 intro pins s σ H Q I h
 refine O4 (jdw I hg hm j6 (Wq ?_ hs rfl))
 rw[hs]
 refine show wpAny _ _ (spliced ((false,eval (.Call (.Name "set" p2) [a] [] q2) X.env)::[])) _ _ s from Wo ?_
 have hA:PA X [a] (jew ta tNil):=jbq ha.h jb3 hs2
 refine O4 (jdw I hg2 hm2 jci (Op (thn (hA q2 pins s σ H (λvs H1=>jeo vs H1 Q) I h) λus s1 ⟨vs,H1,I1,r1,q1⟩=>?_) hs2 rfl))
 replace q1:jeo vs H1 Q:=q1
 unfold jeo at q1
 split at q1
 ·rename_i l
  obtain⟨ns,e,hn,q⟩:=q1
  obtain⟨u,rfl,ru⟩:=jdd r1
  cases ru
  obtain⟨its,rr,pl,hz⟩:=I1.list (SqL.of e)
  have il:its.toArray.size=ns.length:=by have:=rr.length;rw[Ad]at this;simp[this]
  refine call_set_list (I1.ok.hd hc) pl.isList (by simpa using jnv rr) (by rw[il];unfold scanBound;omega) λh' tk hS hk=>Yl ?_
  rw[il]at hS
  have fl:=firstMet_length_le (λi=>ns.getD i 0) ns.length
  obtain⟨o,es,ep,tb,ho,hex,hd,hel,hmem,hbb,hf,hnn⟩:=hS
  refine call_len_set ho hex hd hf (by omega) ?_
  have I2:Inv X pins σ H1 {s1 with heap:=h',toks:=tk+1+1}:=I1.kept (t':=tk+1+1) λb o e=>hk b o (At e) e
  rw[hnn]
  exact⟨.int _,H1,I2,⟨_,rfl⟩,q _ (jgg _ _) (jkv ns)⟩
 ·exact q1.elim⟩
end
def tupD(k:List Int):PyData:=.tuple (k.map PyData.int)
theorem jh8(a b:Int):PyData.eqv (.int a) (.int b)=decide (a=b):=by
 rw[PyData.eqv]
 by_cases h:a=b <;> simp[h]
theorem jit:∀(a b:List Int),PyData.eqvAll (a.map PyData.int) (b.map PyData.int)=decide (a=b)
 |[],[]=>by simp[PyData.eqvAll]
 |[],_::_=>by simp[PyData.eqvAll]
 |_::_,[]=>by simp[PyData.eqvAll]
 |x::a,y::b=>by
  rw[Ay,Ay,PyData.eqvAll,jh8,jit a b]
  by_cases h:x=y <;> by_cases h2:a=b <;> simp[h,h2]
theorem jml(a b:List Int):PyData.eqv (tupD a) (tupD b)=decide (a=b):=by
 unfold tupD;rw[PyData.eqv];exact jit a b
theorem jkj:∀l:List Int,PyData.canLayAll0 (l.map PyData.int)=true
 |[]=>rfl
 |_::l=>by rw[Ay,PyData.canLayAll0,jkj l];rfl
theorem joh(k:List Int):(tupD k).canLay0=true:=by unfold tupD;rw[PyData.canLay0];exact jkj k
theorem jmb:∀l:List (List Int),PyData.canLayAll0 (l.map tupD)=true
 |[]=>rfl
 |k::l=>by rw[Ay,PyData.canLayAll0,joh,jmb l];rfl
theorem jkr:∀l:List Int,PyData.depthAll (l.map PyData.int)<=1
 |[]=>by simp[PyData.depthAll]
 |x::l=>by
  have:=jkr l
  rw[Ay,PyData.depthAll]
  have:(PyData.int x).depth<=1:=by simp[PyData.depth]
  omega
theorem jmk:∀l:List (List Int),PyData.depthAll (l.map tupD)<=3
 |[]=>by simp[PyData.depthAll]
 |k::l=>by
  have:=jmk l
  rw[Ay,PyData.depthAll]
  have:(tupD k).depth<=3:=by unfold tupD;rw[PyData.depth];have:=jkr k;omega
  omega
theorem jiz{α:Type}[BEq α][LawfulBEq α]{l:List α}{x:α}(h:x∈l):l[l.idxOf x]?=some x/\∀m e,m<l.idxOf x->l[m]?=some e->e≠x:=by
 have hl:=Ib.mpr h
 refine⟨by rw[Aa hl,Oe hl],λm e hm he z=>?_⟩
 subst z
 have:=List.not_of_lt_findIdx (p:=(· == e)) (xs:=l) (i:=m) (by simpa[List.idxOf]using hm)
 obtain⟨ml,q⟩:=Ae.mp he
 rw[q]at this
 simp at this
theorem jnt{H:Hp}{l:Addr}{ns:List Int}{y:Int}{Q:VK}(e:H l=some (.lst (ns.map V.int)))(hy:y∈ns)(q:Q (.int (ns.idxOf y:Nat)) H):je6 (.ref l) [.int y] H Q:=by
 obtain⟨h1,h2⟩:=jiz hy
 refine⟨ns.map V.int,ns.map PyData.int,.int y,ns.idxOf y,e,Reps.ints _ ns,by simp[Rep],jkj ns,rfl,Im (jkr ns) (by decide),⟨.int y,by rw[Ag,h1];rfl,by rw[jh8];simp⟩,λm d hm hd=>?_,q⟩
 rw[Ag]at hd
 obtain⟨x,hx,rfl⟩:=Ie.mp hd
 rw[jh8]
 exact Ol (h2 m x hm hx)
theorem jln{H:Hp}{b:Addr}{k:List Int}(e:H b=some (.tup (k.map V.int))):Rep H (.ref b) (tupD k):=by
 unfold tupD
 simp only[Rep]
 exact⟨b,_,rfl,e,Reps.ints _ k⟩
theorem jjh{H:Hp}{kf:Addr->List Int}:∀{bs:List Addr},(∀b∈bs,H b=some (.tup ((kf b).map V.int)))->Reps H (bs.map V.ref) ((bs.map kf).map tupD)
 |[],_=>by simp[Reps]
 |b::bs,h=>by
  rw[Ay,Ay,Ay]
  simp only[Reps]
  exact⟨jln (h b (.head _)),jjh λc hc=>h c (.tail _ hc)⟩
theorem jnu{H:Hp}{l b:Addr}{bs:List Addr}{kf:Addr->List Int}{k:List Int}{Q:VK}(e:H l=some (.lst (bs.map V.ref)))(hb:∀b∈bs,H b=some (.tup ((kf b).map V.int)))(eb:H b=some (.tup (k.map V.int)))(hk:k∈bs.map kf)(q:Q (.int ((bs.map kf).idxOf k:Nat)) H):je6 (.ref l) [.ref b] H Q:=by
 obtain⟨h1,h2⟩:=jiz hk
 refine⟨bs.map V.ref,(bs.map kf).map tupD,tupD k,(bs.map kf).idxOf k,e,jjh hb,jln eb,jmb _,joh k,Im (jmk _) (by decide),⟨tupD k,by rw[Ag,h1];rfl,by rw[jml];simp⟩,λm d hm hd=>?_,q⟩
 rw[Ag]at hd
 obtain⟨x,hx,rfl⟩:=Ie.mp hd
 rw[jml]
 exact Ol (h2 m x hm hx)
theorem FunD.okC{P:Program}{w:World}{K:PySem.W.Frag}{mg:Str->Option Value}{base:Heap}{x qual:Str}{st:Stmt}{f td:Addr}{fd:FuncData}{N ps:List Str}{k:Nat}{sp:Sp}(F:FunD K x qual st f fd td)(S:FnScope N ps (jg st))(len:∀vs H Q E,sp vs H Q E->vs.length=ps.length)
  (hbody:∀(A:Around)(outer:List Env)(s:Shared)(H:Hp)(vs:List V)(Q:VK)(E:XK),Room k (A.deeper (envOfC qual (jg st) s.heap.objs.size f fd.code))->sp vs H Q E ->
   ∃t,PSs (cxOf CX0 P w K mg base N qual (jg st) f fd.code A outer s H E).nox (jx st) t/\t {nx:=λ_ H'=>Q .non H',rt:=Q} (start N vs) H):FnOk P w K mg base CX0 (k+1) f fd ps sp:=by
 obtain⟨oc,od,kV,doc,pm,an,cdv,ct,osl,rfl,lk,hcd⟩:=F.ex
 refine jjv lk hcd S len λA outer s H vs Q E hr hsp=>?_
 obtain⟨t,h,q⟩:=hbody A outer s H vs Q E hr hsp
 exact⟨t,h.nox,q⟩
section
variable{X:Cx}
def jqd:List V->Hp->VK->Prop:=λxs H Q=>∃(l:Addr)(bs:List Addr)(kf:Addr->List Int),xs=[.ref l]/\H l=some (.lst (bs.map V.ref))/\(∀b∈bs,H b=some (.tup ((kf b).map V.int))/\kf b≠[])/\bs.length<64/\∀(p:Addr)(bs':List Addr),H p=none->bs'.Perm bs->Q (.ref p) (upd H p (.lst (bs'.map V.ref)))
theorem call_sortedT:jc0 X (.builtin "sorted") jqd:=by
 intro pins s σ H xs us Q I r h
 obtain⟨l,bs,kf,rfl,e,hb,h64,q⟩:=h
 obtain⟨u,rfl,ru⟩:=jdd r
 cases ru
 obtain⟨its,rr,pl,hz⟩:=I.list (SqL.of e)
 have ei:=jfv rr
 subst ei
 have hsz:sizeLine=16777216:=O3
 refine Calls.call_function_entry kind_sorted plain_sorted entry_sorted (args_sorted1 _) ?_
 unfold Builtin.«sorted»
 refine Ab (m:=checkCount "sorted" 1 1 _) (Ah (Ab (collect_list pl.isList ?_ (by rw[Ad,hsz];omega))))
 refine Ab (wpAny_newList ?_ (by rw[Ad,hsz];omega))
 have k1:∀b o,s.heap.get? b=some o->((s.heap.push (seqObj "list" #[] 0)).update s.heap.objs.size (Obj.mapSeq (·++(bs.map Value.ref).toArray))).get? b=some o:=λb o e=>(Ow _ _ (Wc (At e))).trans (Ai _ e)
 have z1:s.heap.objs.size<=((s.heap.push (seqObj "list" #[] 0)).update s.heap.objs.size (Obj.mapSeq (·++(bs.map Value.ref).toArray))).objs.size:=by rw[Heap.size_update,size_push'];omega
 generalize(s.heap.push (seqObj "list" #[] 0)).update s.heap.objs.size (Obj.mapSeq (·++(bs.map Value.ref).toArray))=h1 at k1 z1⊢
 have hD:(h1.push (seqObj "list" (bs.map Value.ref).toArray 0)).get? h1.objs.size=some (seqObj "list" (bs.map Value.ref).toArray 0):=A1 _ rfl
 have k2:∀b o,s.heap.get? b=some o->(h1.push (seqObj "list" (bs.map Value.ref).toArray 0)).get? b=some o:=λb o e=>Ai _ (k1 b o e)
 refine Ab (Og (Ot slot_list_sort ⟨_,hD,rfl⟩ entry_list_sort (jjn (s:={s with heap:=h1.push (seqObj "list" (bs.map Value.ref).toArray 0)}) (kf:=kf) hD (λb hb'=>⟨jeb (jq7 I.hok (hb b hb').1) λo e=>k2 b o e,(hb b hb').2⟩) h64 λh2 bs' c hp e2 kk=>⟨_,rfl,?_⟩) (args_list_sort _)))
 have bl:bs'.length<64:=by rw[hp.length_eq];exact h64
 refine Ah ⟨_,rfl,.ref h1.objs.size,upd H h1.objs.size (.lst (bs'.map V.ref)),I.laid (t':=s.toks) (λb o e=>kk b o (Ax (A4 (At e) z1)) (k2 b o e)) z1 ⟨by rw[Ad];omega,bs'.map Value.ref,c,jil bs',e2⟩,rfl,q _ bs' (I.hok.fresh z1) hp⟩
end
end L2
namespace My
open PySem
def toS(l:List Nat):Str:=⟨l.toArray⟩
theorem jnd(l:List Nat)(c:Nat):toS l++(⟨#[c]⟩:Str)=toS (l++[c]):=by
 show(⟨l.toArray++#[c]⟩:Str)=⟨(l++[c]).toArray⟩
 simp
theorem je8(l:List Nat):(toS l).length=l.length:=by simp[toS,Str.length]
end My
namespace My
structure Mc where
 n:Nat
 m:Nat
 d:Nat->Nat->Nat
 y:Nat->Bool
structure Mc.ok(M:Mc):Prop where
 lt:∀r a,r<M.n->a<M.m->M.d r a<M.n
def Mc.led(M:Mc)(r:Nat)(w:List Nat):Nat:=w.foldl M.d r
def Mc.ws(M:Mc)(w:List Nat):Prop:=∀a∈w,a<M.m
def Mc.eq(M:Mc)(r s:Nat):Prop:=∀w,M.ws w->M.y (M.led r w)=M.y (M.led s w)
theorem Mc.led_lt{M:Mc}(h:M.ok):∀{w:List Nat}{r:Nat},r<M.n->M.ws w->M.led r w<M.n
 |[],r,hr,_=>hr
 |a::w,r,hr,hw=>Mc.led_lt h (w:=w) (h.lt r a hr (hw a (.head _))) λb hb=>hw b (.tail _ hb)
theorem Mc.eq_step{M:Mc}{r s a:Nat}(h:M.eq r s)(ha:a<M.m):M.eq (M.d r a) (M.d s a):=λw hw=>h (a::w) λb hb=>by
 rcases Ap.mp hb with rfl|hb
 ·exact ha
 ·exact hw b hb
theorem Mc.eq_y{M:Mc}{r s:Nat}(h:M.eq r s):M.y r=M.y s:=h [] (by simp[Mc.ws])
def jr9(M:Mc)(G:Nat->Nat)(due:List (Nat×Nat)):Prop :=
 ∀E:Nat->Nat->Prop,(∀r s,E r s->r<M.n/\s<M.n/\G r=G s)->(∀i a,(i,a)∈due->∀r s,E r s->(G (M.d r a)=i↔G (M.d s a)=i))->∀a,a<M.m->∀r s,E r s->G (M.d r a)=G (M.d s a)
structure Pt(M:Mc)(G:Nat->Nat)(p:Nat)(due:List (Nat×Nat)):Prop where
 lt:∀r,r<M.n->G r<p
 co:∀r s,r<M.n->s<M.n->M.eq r s->G r=G s
 ye:∀r s,r<M.n->s<M.n->G r=G s->M.y r=M.y s
 du:∀i a,(i,a)∈due->i<p/\a<M.m
 en:jr9 M G due
theorem Pt.step{M:Mc}(ok:M.ok){G G':Nat->Nat}{p p':Nat}{due due':List (Nat×Nat)}{i a:Nat}{par:Nat->Nat}(h:Pt M G p (due++[(i,a)]))(pp:p<=p')(lt':∀r,r<M.n->G' r<p')(pr:∀r,r<M.n->par (G' r)=G r)(po:∀k,k<p->par k=k)
  (sp:∀r s,r<M.n->s<M.n->G' r=G' s->(G (M.d r a)=i↔G (M.d s a)=i)) (sm:∀r s,r<M.n->s<M.n->G r=G s->(G (M.d r a)=i↔G (M.d s a)=i)->G' r=G' s)
  (d1:∀q∈due,q∈due') (d2:∀k b,p<=k->k<p'->b<M.m->(k,b)∈due') (d3:∀k b,(k,b)∈due'->k<p'/\b<M.m):Pt M G' p' due':=by
 have ha:a<M.m:=(h.du i a (by simp)).2
 refine⟨lt',λr s hr hs e=>?_,λr s hr hs e=>h.ye r s hr hs (by rw[<-pr r hr,<-pr s hs,e]),d3,?_⟩
 ·refine sm r s hr hs (h.co r s hr hs e) ?_
  rw[h.co _ _ (ok.lt r a hr ha) (ok.lt s a hs ha) (Mc.eq_step e ha)]
 ·intro E hE hS b hb r s ers
  have key:=h.en E (λr s e=>by
   obtain⟨h1,h2,h3⟩:=hE r s e
   exact⟨h1,h2,by rw[<-pr r h1,<-pr s h2,h3]⟩) (λj c hj r s e=>by
   obtain⟨h1,h2,h3⟩:=hE r s e
   rcases Aw.mp hj with hj'|hj'
   ·have hc:=(h.du j c hj).2
    have jp:=(h.du j c hj).1
    have l1:=ok.lt r c h1 hc
    have l2:=ok.lt s c h2 hc
    have old:=hS j c (d1 _ hj') r s e
    have new:∀k,p<=k->k<p'->(G' (M.d r c)=k↔G' (M.d s c)=k):=λk k1 k2=>hS k c (d2 k c k1 k2 hc) r s e
    have one:∀r s,r<M.n->s<M.n->M.d r c<M.n->M.d s c<M.n->(G' (M.d r c)=j↔G' (M.d s c)=j)->(∀k,p<=k->k<p'->(G' (M.d r c)=k↔G' (M.d s c)=k))->G (M.d r c)=j->G (M.d s c)=j:=λr s _ _ q1 q2 o n g=>by
     by_cases c1:G' (M.d r c)<p
     ·have:G' (M.d r c)=j:=by rw[<-po _ c1,pr _ q1,g]
      rw[<-pr _ q2,o.mp this,po j jp]
     ·have:=(n (G' (M.d r c)) (by omega) (lt' _ q1)).mp rfl
      rw[<-pr _ q2,this,pr _ q1,g]
    exact⟨one r s h1 h2 l1 l2 old new,one s r h2 h1 l2 l1 old.symm λk k1 k2=>(new k k1 k2).symm⟩
   ·simp at hj'
    obtain⟨rfl,rfl⟩:=hj'
    exact sp r s h1 h2 h3) b hb r s ers
  obtain⟨h1,h2,h3⟩:=hE r s ers
  have l1:=ok.lt r b h1 hb
  have l2:=ok.lt s b h2 hb
  by_cases c1:G' (M.d r b)<p
  ·by_cases c2:G' (M.d s b)<p
   ·rw[<-po _ c1,<-po _ c2,pr _ l1,pr _ l2,key]
   ·have:=(hS _ b (d2 (G' (M.d s b)) b (by omega) (lt' _ l2) hb) r s ers).mpr rfl
    exact this
  ·exact((hS _ b (d2 (G' (M.d r b)) b (by omega) (lt' _ l1) hb) r s ers).mp rfl).symm
theorem Pt.done{M:Mc}(ok:M.ok){G:Nat->Nat}{p:Nat}(h:Pt M G p []){r s:Nat}(hr:r<M.n)(hs:s<M.n):G r=G s↔M.eq r s:=by
 refine⟨λe w hw=>?_,h.co r s hr hs⟩
 have st:=h.en (λr s=>r<M.n/\s<M.n/\G r=G s) (λr s h=>h) (by simp)
 induction w generalizing r s with
 |nil=>exact h.ye r s hr hs e
 |cons a w ih =>
  have ha:=hw a (.head _)
  exact ih (ok.lt r a hr ha) (ok.lt s a hs ha) (st a ha r s ⟨hr,hs,e⟩) λb hb=>hw b (.tail _ hb)
theorem Pt.first{M:Mc}{G:Nat->Nat}{p:Nat}{due:List (Nat×Nat)}(lt:∀r,r<M.n->G r<p)(ye:∀r s,r<M.n->s<M.n->(G r=G s↔M.y r=M.y s))(all:∀i a,i<p->a<M.m->(i,a)∈due)(du:∀i a,(i,a)∈due->i<p/\a<M.m)(ok:M.ok):Pt M G p due:=by
 refine⟨lt,λr s hr hs e=>(ye r s hr hs).mpr (Mc.eq_y e),λr s hr hs e=>(ye r s hr hs).mp e,du,λE hE hS a ha r s e=>?_⟩
 obtain⟨h1,h2,_⟩:=hE r s e
 exact((hS _ a (all _ a (lt _ (ok.lt r a h1 ha)) ha) r s e).mp rfl).symm
end My
namespace My
structure CI(M:Mc)(G0:Nat->Nat)(p0 i a:Nat)(rest:List Nat)(G:Nat->Nat)(p:Nat):Prop where
 pp:p0<=p
 lt:∀r,r<M.n->G r<p
 par:∃par:Nat->Nat,(∀r,r<M.n->par (G r)=G0 r)/\∀k,k<p0->par k=k
 un:∀r,r<M.n->G0 r∈rest->G r=G0 r
 sp:∀r s,r<M.n->s<M.n->G0 r=G0 s->G0 r∉rest->(G r=G s↔(G0 (M.d r a)=i↔G0 (M.d s a)=i))
theorem CI.init{M:Mc}{G0:Nat->Nat}{p0 i a:Nat}{gk:List Nat}(lt:∀r,r<M.n->G0 r<p0)(no:∀r,r<M.n->G0 r∉gk->G0 (M.d r a)≠i):CI M G0 p0 i a gk G0 p0 :=
 ⟨Ak _,lt,⟨id,λ_ _=>rfl,λ_ _=>rfl⟩,λ_ _ _=>rfl,λr s hr hs e n=>⟨λ_=>⟨λh=>absurd h (no r hr n),λh=>absurd h (no s hs (e▸n))⟩,λ_=>e⟩⟩
theorem CI.same{M:Mc}{G0 G:Nat->Nat}{p0 i a g p:Nat}{rest:List Nat}(h:CI M G0 p0 i a (g::rest) G p)(all:∀r,r<M.n->G0 r=g->G0 (M.d r a)=i):CI M G0 p0 i a rest G p:=by
 refine⟨h.pp,h.lt,h.par,λr hr m=>h.un r hr (.tail _ m),λr s hr hs e n=>?_⟩
 by_cases c:G0 r=g
 ·have u1:=h.un r hr (c▸.head _)
  have u2:=h.un s hs (by rw[<-e,c];exact .head _)
  exact⟨λ_=>⟨λ_=>all s hs (by rw[<-e];exact c),λ_=>all r hr c⟩,λ_=>by rw[u1,u2,e]⟩
 ·exact h.sp r s hr hs e (λz=>(Ap.mp z).elim c n)
theorem CI.cut{M:Mc}{G0 G G':Nat->Nat}{p0 i a g p:Nat}{rest sh:List Nat}(h:CI M G0 p0 i a (g::rest) G p)(ng:g∉rest)(gp:g<p0)(sub:∀r∈sh,r<M.n/\G0 r=g)(how:(∀r,r<M.n->G0 r=g->(r∈sh↔G0 (M.d r a)=i))\/∀r,r<M.n->G0 r=g->(r∈sh↔¬G0 (M.d r a)=i))
  (hG:∀r,r<M.n->G' r=if r∈sh then p else G r):CI M G0 p0 i a rest G' (p+1):=by
 have pp:=h.pp
 refine⟨by omega,λr hr=>?_,?_,λr hr m=>?_,λr s hr hs e n=>?_⟩
 ·rw[hG r hr];have:=h.lt r hr;split <;> omega
 ·obtain⟨par,h1,h2⟩:=h.par
  refine⟨λk=>if k=p then g else par k,λr hr=>?_,λk hk=>by show(if k=p then g else par k)=k;rw[Am (by omega)];exact h2 k hk⟩
  show(if G' r=p then g else par (G' r))=G0 r
  have:=h.lt r hr
  rw[hG r hr]
  by_cases c:r∈sh
  ·rw[Ao c,Ao rfl];exact(sub r c).2.symm
  ·rw[Am c,Am (by omega)];exact h1 r hr
 ·have c:r∉sh:=λc=>ng ((sub r c).2▸m)
  rw[hG r hr,Am c];exact h.un r hr (.tail _ m)
 ·rw[hG r hr,hG s hs]
  have l1:=h.lt r hr
  have l2:=h.lt s hs
  by_cases c:G0 r=g
  ·have c':G0 s=g:=by rw[<-e];exact c
   have u1:=h.un r hr (c▸.head _)
   have u2:=h.un s hs (c'▸.head _)
   have key:((if r∈sh then p else G r)=if s∈sh then p else G s)↔(r∈sh↔s∈sh):=by
    by_cases m1:r∈sh <;> by_cases m2:s∈sh
    ·simp[m1,m2]
    ·rw[Ao m1,Am m2];exact⟨λz=>by omega,λz=>absurd (z.mp m1) m2⟩
    ·rw[Am m1,Ao m2];exact⟨λz=>by omega,λz=>absurd (z.mpr m2) m1⟩
    ·rw[Am m1,Am m2,u1,u2];exact⟨λ_=>⟨λz=>absurd z m1,λz=>absurd z m2⟩,λ_=>e⟩
   rw[key]
   rcases how with w|w
   ·rw[w r hr c,w s hs c']
   ·rw[w r hr c,w s hs c']
    exact⟨λz=>⟨λx=>Ig λy=>(z.mpr y) x,λx=>Ig λy=>(z.mp y) x⟩,λz=>⟨λx y=>x (z.mpr y),λx y=>x (z.mp y)⟩⟩
  ·have m1:r∉sh:=λm=>c (sub r m).2
   have m2:s∉sh:=λm=>c (by rw[e];exact(sub s m).2)
   rw[Am m1,Am m2]
   exact h.sp r s hr hs e (λz=>(Ap.mp z).elim c n)
theorem Pt.task{M:Mc}(ok:M.ok){G0 G:Nat->Nat}{p0 p i a:Nat}{due due':List (Nat×Nat)}(h:Pt M G0 p0 (due++[(i,a)]))(c:CI M G0 p0 i a [] G p)(d1:∀q∈due,q∈due')(d2:∀k b,p0<=k->k<p->b<M.m->(k,b)∈due')(d3:∀k b,(k,b)∈due'->k<p/\b<M.m):Pt M G p due':=by
 obtain⟨par,h1,h2⟩:=c.par
 refine h.step ok c.pp c.lt h1 h2 (λr s hr hs e=>?_) (λr s hr hs e q=>(c.sp r s hr hs e (by simp)).mpr q) d1 d2 d3
 have e0:G0 r=G0 s:=by rw[<-h1 r hr,<-h1 s hs,e]
 exact(c.sp r s hr hs e0 (by simp)).mp e
end My
namespace My
def RGr(f:List Nat):Prop:=∀i k:Nat,f[i]?=some k->∀j,j<k->∃i',i'<i/\f[i']?=some j
theorem RGr.one{f g:List Nat}(hf:RGr f)(hg:RGr g)(hl:f.length=g.length)(ke:∀i j:Nat,i<f.length->j<f.length->(f[i]?=f[j]?↔g[i]?=g[j]?)):f=g:=by
 have key:∀i,i<f.length->f[i]?=g[i]?:=λi=>by
  induction i using Nat.strongRecOn with
  |ind i ih =>
   intro hi
   have e1:f[i]?=some f[i]:=Aa hi
   have e2:g[i]?=some (g[i]'(by omega)):=Aa (by omega)
   by_cases c:∃j,j<i/\f[j]?=f[i]?
   ·obtain⟨j,ji,e⟩:=c
    have:=(ke j i (by omega) hi).mp e
    rw[<-e,<-this]
    exact ih j ji (by omega)
   ·have nf:∀j,j<i->f[j]?≠f[i]?:=λj hj e=>c ⟨j,hj,e⟩
    have ng:∀j,j<i->g[j]?≠g[i]?:=λj hj e=>nf j hj ((ke j i (by omega) hi).mpr e)
    generalize f[i]=a at e1
    generalize g[i]'(by omega)=b at e2
    by_cases h1:a<b
    ·obtain⟨j,ji,e⟩:=hg i b e2 a h1
     exact absurd (by rw[ih j ji (by omega),e,e1]) (nf j ji)
    ·by_cases h2:b<a
     ·obtain⟨j,ji,e⟩:=hf i a e1 b h2
      exact absurd (by rw[<-ih j ji (by omega),e,e2]) (ng j ji)
     ·rw[e1,e2,show a=b by omega]
 refine Wx λi=>?_
 by_cases c:i<f.length
 ·exact key i c
 ·rw[I0 (by omega),I0 (by omega)]
def dd1(l:List Nat)(x:Nat):List Nat:=if x∈l then l else l++[x]
def ddp(l:List Nat):List Nat:=l.foldl dd1 []
theorem jd7(l:List Nat)(x:Nat):ddp (l++[x])=dd1 (ddp l) x:=by unfold ddp;rw[Oz];rfl
theorem jom(x:Nat):∀(l a:List Nat),x∈l.foldl dd1 a↔x∈a\/x∈l
 |[],a=>by simp
 |y::l,a=>by
  rw[List.foldl_cons,jom x l,Ap]
  unfold dd1
  by_cases h:y∈a
  ·rw[Ao h]
   exact⟨λq=>q.elim .inl λz=>.inr (.inr z),λq=>q.elim .inl λz=>z.elim (λe=>.inl (e▸h)) .inr⟩
  ·rw[Am h,Aw,Aj]
   exact⟨λq=>q.elim (λz=>z.elim .inl λe=>.inr (.inl e)) λz=>.inr (.inr z),λq=>q.elim (λz=>.inl (.inl z)) λz=>z.elim (λe=>.inl (.inr e)) .inr⟩
theorem jdf(l:List Nat)(x:Nat):x∈ddp l↔x∈l:=by
 have:=jom x l []
 simpa[ddp]using this
theorem jon:∀(l a:List Nat),∃t,l.foldl dd1 a=a++t
 |[],a=>⟨[],by simp⟩
 |y::l,a=>by
  obtain⟨t,e⟩:=jon l (dd1 a y)
  rw[List.foldl_cons,e]
  unfold dd1
  split
  ·exact⟨t,rfl⟩
  ·exact⟨y::t,by simp⟩
theorem jmg(l m:List Nat):∃t,ddp (l++m)=ddp l++t:=by
 unfold ddp
 rw[Oz]
 exact jon m _
theorem jqt:∀(l a:List Nat),a.Nodup->(l.foldl dd1 a).Nodup
 |[],a,h=>h
 |y::l,a,h=>by
  rw[List.foldl_cons]
  refine jqt l _ ?_
  unfold dd1
  split
  ·exact h
  ·rename_i n
   rw[Om]
   exact⟨h,by simp,λu hu v hv e=>n ((e.trans (Aj.mp hv))▸hu)⟩
theorem je1(l:List Nat):(ddp l).Nodup:=jqt l [] .nil
theorem joo(f:List Nat):RGr (f.map λx=>(ddp f).idxOf x):=by
 intro i k hi j jk
 rw[Ag]at hi
 obtain⟨x,hx,e⟩:=Ie.mp hi
 have il:=(Ae.mp hx).1
 have tk:f.take (i+1)=f.take i++[x]:=by rw[Od,hx];rfl
 obtain⟨t,et⟩:=jmg (f.take (i+1)) (f.drop (i+1))
 rw[U5]at et
 have xm:x∈ddp (f.take (i+1)):=(jdf _ _).mpr (by rw[tk];simp)
 have ix:(ddp f).idxOf x=(ddp (f.take (i+1))).idxOf x:=by rw[et,Ux,Ao xm]
 have kl:k<(ddp (f.take (i+1))).length:=by rw[<-e,ix];exact Ib.mpr xm
 have jl:j<(ddp f).length:=by rw[et,Av];omega
 have ej:(ddp f)[j]?=(ddp (f.take (i+1)))[j]?:=by rw[et,A2 (by omega)]
 have yi:(ddp f)[j]∈ddp (f.take i):=by
  rw[Aa jl]at ej
  have hj:=ej.symm
  rw[tk,jd7]at hj
  unfold dd1 at hj
  split at hj
  ·exact Al hj
  ·rename_i n
   have kk:k=(ddp (f.take i)).length:=by
    rw[<-e,ix,tk,jd7]
    unfold dd1
    rw[Am n,Ux,Am n]
    simp
   rw[A2 (by omega)]at hj
   exact Al hj
 obtain⟨i',hi'⟩:=Iu ((jdf _ _).mp yi)
 have il':i'<i:=by have:=(Ae.mp hi').1;rw[Iz]at this;omega
 refine⟨i',il',?_⟩
 rw[Wd il']at hi'
 rw[Ag,hi']
 show some ((ddp f).idxOf (ddp f)[j])=some j
 rw[(je1 f).idxOf_getElem j jl]
end My
namespace My
theorem jpb{α:Type}{P:List α->Prop}(h0:P [])(h1:∀l a,P l->P (l++[a]))(l:List α):P l:=by
 have:∀n (l:List α),l.length=n->P l:=by
  intro n
  induction n with
  |zero=>intro l h;have:=Ul.mp h;subst this;exact h0
  |succ n ih =>
   intro l h
   rcases Us l with rfl|⟨w,b,rfl⟩
   ·simp at h
   ·rw[Ut]at h⊢
    exact h1 w b (ih w (by simpa using h))
 exact this _ l rfl
section
variable(L:Nat)
def cd:List Nat->Nat:=List.foldl (λc a=>c*L+a+1) 0
def Ov(w:List Nat):Prop:=∀a∈w,a<L
variable{L}
theorem jkk:cd L []=0:=rfl
theorem jc9(u:List Nat)(a:Nat):cd L (u++[a])=cd L u*L+a+1:=by simp[cd,Oz]
theorem Ov.nil:Ov L []:=λ_ h=>nomatch h
theorem Ov.app{u v:List Nat}(h:Ov L u)(h':Ov L v):Ov L (u++v):=λa ha=>(Aw.mp ha).elim (h a) (h' a)
theorem Ov.left{u v:List Nat}(h:Ov L (u++v)):Ov L u:=λa ha=>h a (Iw _ ha)
theorem Ov.right{u v:List Nat}(h:Ov L (u++v)):Ov L v:=λa ha=>h a (Io _ ha)
theorem Ov.one{a:Nat}(h:a<L):Ov L [a]:=λb hb=>by simp at hb;subst hb;exact h
theorem joi(hL:1<=L){u v:List Nat}(h:cd L u<cd L v):∀s,cd L (u++s)<cd L (v++s):=by
 intro s
 induction s generalizing u v with
 |nil=>simpa using h
 |cons a s ih =>
  have e1:u++a::s=(u++[a])++s:=by simp
  have e2:v++a::s=(v++[a])++s:=by simp
  rw[e1,e2]
  apply ih
  rw[jc9,jc9]
  have:=Y6 L (Nat.succ_le_of_lt h)
  rw[Y0]at this
  omega
theorem jg9{u v:List Nat}{a b:Nat}(ha:a<L)(h:cd L u<cd L v):cd L (u++[a])<cd L (v++[b]):=by
 rw[jc9,jc9]
 have:=Y6 L (Nat.succ_le_of_lt h)
 rw[Y0]at this
 omega
theorem jsb(hL:1<=L)(u:List Nat):∀s,cd L u<=cd L (u++s):=by
 intro s
 induction s generalizing u with
 |nil=>simp
 |cons a s ih =>
  have e1:u++a::s=(u++[a])++s:=by simp
  rw[e1]
  refine Im ?_ (ih (u++[a]))
  rw[jc9]
  have:=Nat.mul_le_mul_left (cd L u) hL
  omega
theorem jsa{u:List Nat}:∀{v:List Nat},Ov L u->Ov L v->cd L u=cd L v->u=v:=by
 refine jpb (P:=λu=>∀{v:List Nat},Ov L u->Ov L v->cd L u=cd L v->u=v) ?_ (λu a ih=>?_) u
 ·intro v _ hv h
  rcases Us v with rfl|⟨w,b,rfl⟩
  ·rfl
  ·rw[Ut,jc9,jkk]at h;omega
 ·intro v hu hv h
  rcases Us v with rfl|⟨w,b,rfl⟩
  ·rw[jc9,jkk]at h;omega
  ·rw[Ut]at h hv⊢
   have ha:a<L:=hu a (by simp)
   have hb:b<L:=hv b (by simp)
   rw[jc9,jc9]at h
   have e1:(cd L u*L+a) / L=(cd L w*L+b) / L:=by congr 1;omega
   rw[Nat.mul_comm,Nat.mul_add_div (by omega),Nat.mul_comm (cd L w),Nat.mul_add_div (by omega),Nat.div_eq_of_lt ha,Nat.div_eq_of_lt hb]at e1
   have e2:cd L u=cd L w:=by omega
   have e3:a=b:=by rw[e2]at h;omega
   rw[ih hu.left hv.left e2,e3]
variable(δ:Nat->Nat->Nat)(Y:Nat->Bool)
def run(p:Nat)(w:List Nat):Nat:=w.foldl δ p
theorem je7(p:Nat)(u v:List Nat):run δ p (u++v)=run δ (run δ p u) v:=by simp[run,Oz]
inductive Cl (S:Nat->Nat->Prop):Nat->Nat->Prop
 |rel {p q:Nat}:S p q->Cl S p q
 |refl (p:Nat):Cl S p p
 |symm {p q:Nat}:Cl S p q->Cl S q p
 |trans {p q r:Nat}:Cl S p q->Cl S q r->Cl S p r
theorem Cl.mono{S S':Nat->Nat->Prop}(h:∀p q,S p q->S' p q){p q:Nat}(c:Cl S p q):Cl S' p q:=by
 induction c with
 |rel x=>exact .rel (h _ _ x)
 |refl p=>exact .refl p
 |symm _ ih=>exact .symm ih
 |trans _ _ a b=>exact .trans a b
theorem Cl.agree{S:Nat->Nat->Prop}{s:List Nat}(h:∀p q,S p q->Y (run δ p s)=Y (run δ q s)){p q:Nat}(c:Cl S p q):Y (run δ p s)=Y (run δ q s):=by
 induction c with
 |rel x=>exact h _ _ x
 |refl p=>rfl
 |symm _ ih=>exact ih.symm
 |trans _ _ a b=>exact a.trans b
variable(one other:Nat)
def jg2(L:Nat)(Q:List (List Nat))(v:List Nat)(p q:Nat):Prop:=∃t∈Q,cd L t<cd L v/\p=run δ one t/\q=run δ other t
structure Bfs(L:Nat)(Q:List (List Nat))(k:Nat):Prop where
 q0:[]∈Q
 ov:∀u∈Q,Ov L u
 inc:∀(i j:Nat)(u v:List Nat),i<j->Q[i]?=some u->Q[j]?=some v->cd L u<cd L v
 eqv:∀u∈Q,Y (run δ one u)=Y (run δ other u)
 step:∀(i:Nat)(u:List Nat),i<k->Q[i]?=some u->(∀a,a<L->u++[a]∈Q\/Cl (jg2 δ one other L Q (u++[a])) (run δ one (u++[a])) (run δ other (u++[a])))\/Cl (jg2 δ one other L Q u) (run δ one u) (run δ other u)
variable{δ Y one other}
theorem Bfs.smaller(hL:1<=L){Q:List (List Nat)}{k:Nat}(B:Bfs δ Y one other L Q k){v s:List Nat}(hs:Ov L s)(c:Cl (jg2 δ one other L Q v) (run δ one v) (run δ other v))
  (ih:∀w',Ov L w'->cd L w'<cd L (v++s)->Y (run δ one w')=Y (run δ other w')):Y (run δ one (v++s))=Y (run δ other (v++s)):=by
 rw[je7,je7]
 refine Cl.agree δ Y (λp q ⟨t,ht,hlt,e1,e2⟩=>?_) c
 subst e1 e2
 rw[<-je7,<-je7]
 exact ih _ ((B.ov t ht).app hs) (joi hL hlt s)
theorem Bfs.reach(hL:1<=L){Q:List (List Nat)}{k:Nat}(B:Bfs δ Y one other L Q k){w:List Nat}(hw:Ov L w)(ih:∀w',Ov L w'->cd L w'<cd L w->Y (run δ one w')=Y (run δ other w'))
  (hd:Y (run δ one w)≠Y (run δ other w)):∀u s,w=u++s->(∀(i:Nat)(v:List Nat),(∃a r,u=v++a::r)->Q[i]?=some v->i<k)->u∈Q:=by
 refine jpb ?_ (λu a ihu=>?_)
 ·intro _ _ _;exact B.q0
 ·intro s e hk
  have e':w=u++(a::s):=by simpa using e
  have hu:=ihu (a::s) e' λi v ⟨b,r,hb⟩=>hk i v ⟨b,r++[a],by simp[hb]⟩
  obtain⟨i,hi⟩:=Iu hu
  have ov1:Ov L (a::s):=by rw[e']at hw;exact hw.right
  have ha:a<L:=ov1 a (by simp)
  rcases B.step i u (hk i u ⟨a,[],rfl⟩ hi) hi with h|h
  ·rcases h a ha with h|h
   ·exact h
   ·exfalso
    rw[e]at hd ih
    exact hd (B.smaller hL (v:=u++[a]) (s:=s) (λb hb=>ov1 b (by simp[hb])) h ih)
  ·exfalso
   rw[e']at hd ih
   exact hd (B.smaller hL (v:=u) (s:=a::s) ov1 h ih)
theorem Bfs.none(hL:1<=L){Q:List (List Nat)}(B:Bfs δ Y one other L Q Q.length):∀w,Ov L w->Y (run δ one w)=Y (run δ other w):=by
 have:∀n w,cd L w=n->Ov L w->Y (run δ one w)=Y (run δ other w):=by
  intro n
  induction n using Nat.strongRecOn with
  |ind n ih =>
   intro w hn hw
   refine W8 λhd=>hd ?_
   refine B.eqv w (B.reach hL hw (λw' h1 h2=>ih _ (by rw[<-hn];exact h2) w' rfl h1) hd w [] (by simp) λi v _ hv=>?_)
   exact(Ae.mp hv).1
 exact λw hw=>this _ w rfl hw
theorem Bfs.first(hL:1<=L){Q:List (List Nat)}{k b:Nat}{u:List Nat}(B:Bfs δ Y one other L Q k)(hu:Q[k]?=some u)(hb:b<L)(hl:∀a,a<b->Y (run δ one (u++[a]))=Y (run δ other (u++[a]))) :
  ∀w,Ov L w->cd L w<cd L (u++[b])->Y (run δ one w)=Y (run δ other w):=by
 have:∀n w,cd L w=n->Ov L w->cd L w<cd L (u++[b])->Y (run δ one w)=Y (run δ other w):=by
  intro n
  induction n using Nat.strongRecOn with
  |ind n ih =>
   intro w hn hw hlt
   refine W8 λhd=>hd ?_
   have ih':∀w',Ov L w'->cd L w'<cd L w->Y (run δ one w')=Y (run δ other w'):=λw' h1 h2=>ih _ (by rw[<-hn];exact h2) w' rfl h1 (We h2 hlt)
   rcases Us w with rfl|⟨v,a,rfl⟩
   ·exact B.eqv [] B.q0
   ·rw[Ut]at *
    have ha:a<L:=hw a (by simp)
    have uo:Ov L u:=B.ov u (Al hu)
    rcases Yp (cd L v) (cd L u)with h|h|h
    ·refine B.eqv _ (B.reach hL hw ih' hd _ [] (by simp) λi t ⟨c,r,e⟩ ht=>?_)
     refine W8 λhik=>?_
     have hik':k<=i:=by omega
     have h1:cd L u<=cd L t:=by
      rcases Nat.lt_or_ge k i with hki|hki
      ·exact Wb (B.inc k i u t hki hu ht)
      ·have:i=k:=by omega
       subst this;rw[hu]at ht;cases ht;exact Ak _
     have h2:cd L t<=cd L v:=by
      have e2:∃r',v=t++r':=by
       rcases Us r with rfl|⟨r2,d,rfl⟩
       ·exact⟨[],by have:=List.append_inj_left' (s₁:=v) (s₂:=t) (t₁:=[a]) (t₂:=[c]) e rfl;simpa using this⟩
       ·refine⟨c::r2,?_⟩
        rw[Ut]at e
        have e3:v++[a]=(t++c::r2)++[d]:=by simpa using e
        exact List.append_inj_left' e3 rfl
      obtain⟨r',e2⟩:=e2
      rw[e2]
      exact jsb hL t r'
     omega
    ·have e:=jsa hw.left uo h
     subst e
     rw[jc9,jc9]at hlt
     exact hl a (by omega)
    ·have:=jg9 (b:=a) hb h
     omega
 exact λw hw hlt=>this _ w rfl hw hlt
def Res(δ:Nat->Nat->Nat)(Y:Nat->Bool)(L one other:Nat):Option (List Nat)->Prop
 |Option.none=>∀w,Ov L w->Y (run δ one w)=Y (run δ other w)
 |some r=>Ov L r/\Y (run δ one r)≠Y (run δ other r)/\∀w,Ov L w->cd L w<cd L r->Y (run δ one w)=Y (run δ other w)
end
end My
namespace My
structure UF(n:Nat)(h:List Nat)(d:Nat->Nat):Prop where
 len:h.length=n
 lt:∀x,x<n->h.getD x 0<n
 dec:∀x,x<n->h.getD x 0≠x->d (h.getD x 0)<d x
def cnt(p:Nat->Bool):Nat->Nat
 |0=>0
 |n+1=>cnt p n+(if p n then 1 else 0)
theorem jfl{p q:Nat->Bool}:∀n,(∀x,x<n->p x=q x)->cnt p n=cnt q n
 |0,_=>rfl
 |n+1,h=>by rw[cnt,cnt,jfl n λx hx=>h x (by omega),h n (by omega)]
theorem jkn{p q:Nat->Bool}{l:Nat}:∀n,l<n->(∀x,x<n->x≠l->p x=q x)->p l=true->q l=false->cnt q n+1=cnt p n
 |0,h,_,_,_=>by omega
 |n+1,hl,h,hp,hq=>by
  rw[cnt,cnt]
  by_cases e:l=n
  ·subst e
   rw[hp,hq,jfl (p:=q) (q:=p) l λx hx=>(h x (by omega) (by omega)).symm]
   simp
  ·have:=jkn n (by omega) (λx hx hne=>h x (by omega) hne) hp hq
   rw[h n (by omega) (by omega)]
   omega
def jc5(n:Nat)(h:List Nat):Nat:=cnt (λx=>h.getD x 0 == x) n
theorem jdg(h:List Nat)(i j v:Nat)(hi:i<h.length):(h.set i v).getD j 0=if j=i then v else h.getD j 0:=by
 rw[Ac,Ac,Yo]
 by_cases e:i=j
 ·subst e;simp[hi]
 ·have:¬j=i:=λz=>e z.symm
  simp[e,this]
theorem UF.halve{n:Nat}{h:List Nat}{d:Nat->Nat}(u:UF n h d){x:Nat}(hx:x<n)(hr:h.getD x 0≠x):UF n (h.set x (h.getD (h.getD x 0) 0)) d/\jc5 n (h.set x (h.getD (h.getD x 0) 0))=jc5 n h/\d (h.getD (h.getD x 0) 0)<d x:=by
 have hxl:x<h.length:=by rw[u.len];exact hx
 have l1:=u.lt x hx
 have l2:=u.lt _ l1
 have d1:=u.dec x hx hr
 have d2:d (h.getD (h.getD x 0) 0)<d x:=by
  by_cases e:h.getD (h.getD x 0) 0=h.getD x 0
  ·rw[e];exact d1
  ·exact We (u.dec _ l1 e) d1
 have ne:h.getD (h.getD x 0) 0≠x:=λe=>by rw[e]at d2;exact Wm _ d2
 refine⟨⟨by rw[Ua];exact u.len,λy hy=>?_,λy hy hne=>?_⟩,?_,d2⟩
 ·rw[jdg _ _ _ _ hxl]
  split
  ·exact l2
  ·exact u.lt y hy
 ·rw[jdg _ _ _ _ hxl]at hne⊢
  split
  ·rename_i e;subst e;exact d2
  ·rename_i e;rw[Am e]at hne;exact u.dec y hy hne
 ·refine jfl n λy hy=>?_
  rw[jdg _ _ _ _ hxl]
  by_cases e:y=x
  ·subst e
   rw[Ao rfl]
   have h1:(h.getD (h.getD y 0) 0 == y)=false:=by simpa using ne
   have h2:(h.getD y 0 == y)=false:=by simpa using hr
   rw[h1,h2]
  ·rw[Am e]
def anc(h:List Nat):Nat->Nat->Nat
 |0,x=>x
 |k+1,x=>anc h k (h.getD x 0)
theorem jkd{h:List Nat}{r:Nat}(e:h.getD r 0=r):∀k,anc h k r=r
 |0=>rfl
 |k+1=>by rw[anc,e];exact jkd e k
open Classical in
theorem UF.join{n:Nat}{h:List Nat}{d:Nat->Nat}(u:UF n h d){l r:Nat}(hl:l<n)(hr:r<n)(rl:h.getD l 0=l)(rr:h.getD r 0=r)(ne:l≠r):(∃d',UF n (h.set l r) d')/\jc5 n (h.set l r)+1=jc5 n h:=by
 have hll:l<h.length:=by rw[u.len];exact hl
 refine⟨⟨λy=>d y+(if ∃k,anc h k y=l then d r+1 else 0),by rw[Ua];exact u.len,λy hy=>?_,λy hy hne=>?_⟩,?_⟩
 ·rw[jdg _ _ _ _ hll]
  split
  ·exact hr
  ·exact u.lt y hy
 ·rw[jdg _ _ _ _ hll]at hne⊢
  by_cases e:y=l
  ·subst e
   rw[Ao rfl]
   have n1:¬∃k,anc h k r=y:=fun⟨k,hk⟩=>by rw[jkd rr]at hk;exact ne hk.symm
   have p1:∃k,anc h k y=y:=⟨0,rfl⟩
   show d r+(if ∃k,anc h k r=y then d r+1 else 0)<d y+(if ∃k,anc h k y=y then d r+1 else 0)
   rw[Am n1,Ao p1]
   omega
  ·rw[Am e]at hne⊢
   have dd:=u.dec y hy hne
   have iff:(∃k,anc h k (h.getD y 0)=l)↔∃k,anc h k y=l:=by
    constructor
    ·rintro⟨k,hk⟩;exact⟨k+1,hk⟩
    ·rintro⟨k,hk⟩
     cases k with
     |zero=>exact absurd hk e
     |succ k=>exact⟨k,hk⟩
   show d (h.getD y 0)+(if ∃k,anc h k (h.getD y 0)=l then d r+1 else 0)<d y+(if ∃k,anc h k y=l then d r+1 else 0)
   by_cases q:∃k,anc h k y=l
   ·rw[Ao q,Ao (iff.mpr q)];omega
   ·rw[Am q,Am λz=>q (iff.mp z)];omega
 ·refine jkn (l:=l) n hl (λy hy hne=>?_) (by simpa using rl) ?_
  ·show(h.getD y 0 == y)=((h.set l r).getD y 0 == y)
   rw[jdg _ _ _ _ hll,Am hne]
  ·show((h.set l r).getD l 0 == l)=false
   rw[jdg _ _ _ _ hll,Ao rfl]
   simpa using ne.symm
theorem jlo(n:Nat)(h:List Nat):jc5 n h<=n:=by
 have:∀p m,cnt p m<=m:=by
  intro p m
  induction m with
  |zero=>exact Ak _
  |succ m ih=>rw[cnt];split <;> omega
 exact this _ n
def Snd(S:Nat->Nat->Prop)(n:Nat)(h:List Nat):Prop:=∀x,x<n->Cl S x (h.getD x 0)
theorem Snd.halve{S:Nat->Nat->Prop}{n:Nat}{h:List Nat}{d:Nat->Nat}(u:UF n h d)(s:Snd S n h){x:Nat}(hx:x<n):Snd S n (h.set x (h.getD (h.getD x 0) 0)):=λy hy=>by
 rw[jdg _ _ _ _ (by rw[u.len];exact hx)]
 split
 ·rename_i e;subst e;exact(s y hy).trans (s _ (u.lt y hy))
 ·exact s y hy
theorem Snd.join{S:Nat->Nat->Prop}{n:Nat}{h:List Nat}{d:Nat->Nat}(u:UF n h d)(s:Snd S n h){l r:Nat}(hl:l<n)(c:Cl S l r):Snd S n (h.set l r):=λy hy=>by
 rw[jdg _ _ _ _ (by rw[u.len];exact hl)]
 split
 ·rename_i e;subst e;exact c
 ·exact s y hy
theorem Snd.mono{S S':Nat->Nat->Prop}(hm:∀p q,S p q->S' p q){n:Nat}{h:List Nat}(s:Snd S n h):Snd S' n h:=λx hx=>(s x hx).mono hm
theorem jqm(n:Nat):UF n (List.range n) (λ_=>0):=⟨Az,λx hx=>by simp[hx],λx hx hne=>absurd (by simp[hx]) hne⟩
theorem jpl(S:Nat->Nat->Prop)(n:Nat):Snd S n (List.range n):=λx hx=>by
 have:(List.range n).getD x 0=x:=by simp[hx]
 rw[this];exact .refl x
end My
namespace My
open PySem L2
local macro_rules
 | `(tactic| simp!)=>`(tactic| simp only [tSeq,tIfS,jka,tOp,tVar,tC,tAsg,jdi,gSub,tRet,jj8,jj5,jj7,tAnd,tOr,tNot,jj2,tB,jj4,rI0,rI,jfr,ji8,jje,jjf,jld,jle,jlc,jcp,jjb,jja,jjc,ji9,jlb,jhp,jho,jjg,jd6,jfs,jgu,jm1,jk9,jk8,jgw,jm2,jlg,jlf,jfu,jms,ji5,jjq,jjj,jjk,Option.isSome_some,tBML,jj3,tCB,jew,tNil,tLst,tTup,tSl,jj9,jga,jlj,iAny,jjw,jhf,jhg,jkx,jjd,jh1,jf7,jj1,tAug,ipI,jm8,jf6,jei,jdv,tTru,jfi,jm4,jlk,jhq,jla,tBM0,tBM,jnf,jgi,Option.bind_some,Option.bind_none,Option.getD_some,L2.start,Ay,Uq,List.length_cons,List.length_nil,List.cons_append,List.nil_append,O9,List.cons.injEq,List.replicate,List.getElem?_cons_zero,List.getElem?_cons_succ,List.set_cons_zero,List.set_cons_succ,Nat.reduceSub,Nat.reduceAdd,Nat.reduceLeDiff,Yq,V.int.injEq,V.bl.injEq,V.str.injEq,V.ref.injEq,HO.lst.injEq,HO.tup.injEq,exists_eq_left',exists_eq_left,exists_and_left,true_and,Yf,jb,jik,je9,jf1,jqq,Uy,Yk,Uv,Ia,Ob,O0,reduceIte,reduceCtorEq,jhy,tLam,jf8,jeq,jh0,jhz,jj6,jf8,jeq,jkb,iDK,tBMD,tTru,jfi,jii,jex,jev,jg0,jft])
 | `(tactic| simp! [$ls,*])=>`(tactic| simp only [tSeq,tIfS,jka,tOp,tVar,tC,tAsg,jdi,gSub,tRet,jj8,jj5,jj7,tAnd,tOr,tNot,jj2,tB,jj4,rI0,rI,jfr,ji8,jje,jjf,jld,jle,jlc,jcp,jjb,jja,jjc,ji9,jlb,jhp,jho,jjg,jd6,jfs,jgu,jm1,jk9,jk8,jgw,jm2,jlg,jlf,jfu,jms,ji5,jjq,jjj,jjk,Option.isSome_some,tBML,jj3,tCB,jew,tNil,tLst,tTup,tSl,jj9,jga,jlj,iAny,jjw,jhf,jhg,jkx,jjd,jh1,jf7,jj1,tAug,ipI,jm8,jf6,jei,jdv,tTru,jfi,jm4,jlk,jhq,jla,tBM0,tBM,jnf,jgi,Option.bind_some,Option.bind_none,Option.getD_some,L2.start,Ay,Uq,List.length_cons,List.length_nil,List.cons_append,List.nil_append,O9,List.cons.injEq,List.replicate,List.getElem?_cons_zero,List.getElem?_cons_succ,List.set_cons_zero,List.set_cons_succ,Nat.reduceSub,Nat.reduceAdd,Nat.reduceLeDiff,Yq,V.int.injEq,V.bl.injEq,V.str.injEq,V.ref.injEq,HO.lst.injEq,HO.tup.injEq,exists_eq_left',exists_eq_left,exists_and_left,true_and,Yf,jb,jik,je9,jf1,jqq,Uy,Yk,Uv,Ia,Ob,O0,reduceIte,reduceCtorEq,jhy,tLam,jf8,jeq,jh0,jhz,jj6,jf8,jeq,jkb,iDK,tBMD,tTru,jfi,jii,jex,jev,jg0,jft,$ls,*])
def top(i:Nat):Stmt:=PySem.Challenge.pw_calmword_k07_whole_the_fewest_rooms.main.body.getD i (.Pass ⟨0,0,0,0⟩)
def BoxO(o:HO):Prop:=∃c s,o=.lst [.int c,.int s]/\1<=s/\s<=2147483629
def jhx:Sp:=λvs H Q _=>∃b w o,vs=[.ref b,.int w]/\H b=some o/\BoxO o/\0<w/\w<1073741824/\∀d o,0<=d->d<w->BoxO o->Q (.int d) (upd H b o)
def jq2(K:PySem.W.Frag):Sp:=λvs H Q _=>∃(a:Addr)(k:Int)(ns:List Int),vs=[.ref a,.int k]/\SqL K H a (ns.map V.int)/\0<=k/\k<=1000/\∀b o,H b=none->BoxO o->Q (.ref b) (upd H b o)
section
variable{P:Program}{w:World}{K:PySem.W.Frag}{mg:Str->Option Value}{base:Heap}
abbrev y9:Stmt:=top 24
theorem jar:FnScope ["_law_box_here","_law_wide","_law_digit","_law_one"] ["_law_box_here","_law_wide"] (jg y9):=⟨rfl,rfl,rfl,by decide +kernel,rfl,by decide +kernel,by decide +kernel⟩
theorem ok__law_take{f:Addr}{fd:FuncData}(F:Fun K "_law_take" "_law_take" y9 f fd):FnOk P w K mg base CX0 1 f fd ["_law_box_here","_law_wide"] jhx:=by
 refine F.ok jar (λvs H Q E h=>?_) (λcdv A outer s H vs Q E hr h=>?_)
 ·obtain⟨b,w,o,rfl,_⟩:=h
  rfl
 ·obtain⟨b,w,o,rfl,hb,⟨c,sd,rfl,s1,s2⟩,w0,w1,k⟩:=h
  refine⟨_,(QSs.h (je (yf (j5 jcg (jo ix_U (qpv 0) jh (λ_ _=>rfl)) jh (j9 _)) (je (jq (i:=2) jar.nd rfl (by ac_rfl) (jz z8 (jo ix_U (qpv 0) jh (λ_ _=>rfl)) (qpv 1)))
  (je (jao (jz jcc (jo ix_U (qpv 0) jh (λ_ _=>rfl)) (qpv 1)) (jav (qpv 0) jh jht))
  (jj (j3 (qpv 2))))) kg)
  (je (jq (i:=3) jar.nd rfl (by ac_rfl) (jz z8 (jz zt (jo ix_U (qpv 0) jh (λ_ _=>rfl)) jh) jh))
  (je (jao (jz yo (jz z8 (jz yo (jz zt (qpv 3) jh) jh) jh) jh) (jav (qpv 0) jh jht))
  (jj (j3 (jz z8 (jz jcc (jz yo (jz zt (qpv 3) jh) (jo ix_U (qpv 0) jh (λ_ _=>rfl))) jh) (qpv 1)))))))),?_⟩
  have m1:∀z m:Int,0<m->0<=z%m/\z%m<m:=λz m h=>⟨Y5 z (by omega),Yd z h⟩
  simp! [hb]
  refine ite2 (λhc=>?_) (λ_=>?_)
  ·refine⟨w0,⟨w0,w1⟩,0,rfl,?_⟩
   simp! [hb]
   exact k _ _ (m1 c w w0).1 (m1 c w w0).2 ⟨_,_,rfl,s1,s2⟩
  ·have q1:=m1 (sd*69623) 2147483647 (by decide)
   refine⟨.inl ⟨by omega,by omega⟩,by decide,.inl ⟨by omega,by omega⟩,by decide,1,rfl,?_⟩
   simp! [hb]
   have q2:=m1 (sd*69623%2147483647*48271+30103) 2147483629 (by decide)
   refine⟨.inl ⟨by omega,by omega⟩,⟨by decide,by decide⟩,w0,?_⟩
   exact k _ _ (m1 _ w w0).1 (m1 _ w w0).2 ⟨_,_,rfl,by omega,by omega⟩
structure TBox(mg:Str->Option Value):Prop where
 n_len:mg "len"=none
 n_int:mg "int"=none
abbrev zo:Stmt:=top 23
theorem z6:FnScope ["_law_script","_law_k","_law_cell","_law_seed"] ["_law_script","_law_k"] (jg zo):=⟨rfl,rfl,rfl,by decide +kernel,rfl,by decide +kernel,by decide +kernel⟩
theorem ok__law_box{f:Addr}{fd:FuncData}(F:Fun K "_law_box" "_law_box" zo f fd)(T:TBox mg):FnOk P w K mg base CX0 1 f fd ["_law_script","_law_k"] (jq2 K):=by
 refine F.ok z6 (λvs H Q E h=>?_) (λcdv A outer s H vs Q E hr h=>?_)
 ·obtain⟨a,k,ns,rfl,_⟩:=h
  rfl
 ·obtain⟨a,k,ns,rfl,hS,k0,k1,kk⟩:=h
  refine⟨_,(QSs.h (je (jq (i:=2) z6.nd rfl (by ac_rfl) (jz yo (jz zt jh (qpv 1)) jh))
  (je (yf (j5 jau (qpv 1) (jt zx (by rfl) T.n_len j6 (ja (qpv 0) jc)) (j9 _)) (jj (jq (i:=2) z6.nd rfl (by ac_rfl) (jo jbp (qpv 0) (qpv 1) (λ_ _=>rfl)))) (jj (yf (j5 jcg (jt zx (by rfl) T.n_len j6 (ja (qpv 0) jc)) jh (j9 _)) (jj (jq (i:=2) z6.nd rfl (by ac_rfl) (jz yo (qpv 2) (jz zt (jz z8 (jo jbp (qpv 0) (jz z8 (qpv 1) (jt zx (by rfl) T.n_len j6 (ja (qpv 0) jc))) (λ_ _=>rfl)) jh) jh)))) kg)))
  (je (jq (i:=3) z6.nd rfl (by ac_rfl) (jz yo (jz z8 (jz yo (jz zt (jz z8 (qpv 2) jh) jh) (jz zt jh (qpv 1))) jh) jh))
  (jj (j3 (kx (ja (jz zt (qpv 2) (jv ja2 (by rfl) T.n_int jb1 (ja (jab op_ge (qpv 2) (jz op_pow jh jh) (j9 _)) jc))) (ja (qpv 3) jc))))))))),?_⟩
  have m1:∀z m:Int,0<m->0<=z%m/\z%m<m:=λz m h=>⟨Y5 z (by omega),Yd z h⟩
  have tail:∀cell:Int,(0:Int)<2147483629/\CMul (cell%2147483629) 48271/\CMul 40692 k/\(0:Int)<2147483629/\CPow 10 18/\CMul cell (if(10:Int)^(18:Int).toNat<=cell then 1 else 0)/\2<=sizeLine /\
    ∀p,H p=none->Q (.ref p) (upd H p (.lst [.int (cell*(if(10:Int)^(18:Int).toNat<=cell then 1 else 0)),.int ((cell%2147483629*48271+40692*k)%2147483629+1)])):=by
   intro cell
   have q1:=m1 cell 2147483629 (by decide)
   have q2:=m1 (cell%2147483629*48271+40692*k) 2147483629 (by decide)
   refine⟨by decide,.inl ⟨by omega,by omega⟩,.inl ⟨by decide,by decide⟩,by decide,⟨by decide,by decide,by decide⟩,.inr ?_,by decide,λp hp=>kk p _ hp ⟨_,_,rfl,by omega,by omega⟩⟩
   split <;> constructor <;> decide
  simp!
  refine⟨.inl ⟨by decide,by decide⟩,ns.map V.int,.inl hS,?_⟩
  rw[Ad]
  refine ite2 (λh=>?_) (λh=>?_)
  ·obtain⟨z,hz⟩:∃z,ns[k.toNat]?=some z:=⟨ns[k.toNat]'(by omega),by simp⟩
   refine⟨a,_,k,.int z,rfl,rfl,hS,jke k0 (by rw[Ag,hz];rfl),?_⟩
   simp!
   exact tail z
  ·refine⟨ns.map V.int,.inl hS,?_⟩
   rw[Ad]
   refine ite2 (λh2=>?_) (λh2=>?_)
   ·refine⟨ns.map V.int,.inl hS,?_⟩
    rw[Ad]
    have q:=m1 k (ns.length:Int) (by omega)
    obtain⟨z,hz⟩:∃z,ns[(k%(ns.length:Int)).toNat]?=some z:=⟨ns[(k%(ns.length:Int)).toNat]'(by omega),by simp⟩
    refine⟨by omega,a,_,_,.int z,rfl,rfl,hS,jke q.1 (by rw[Ag,hz];rfl),?_⟩
    simp!
    have q3:=m1 z 2147483629 (by decide)
    refine⟨by decide,.inl ⟨by omega,by omega⟩,?_⟩
    exact tail _
   ·exact tail _
end
structure Letters(z:Str)(m:Nat):Prop where
 lo:1<=z.length
 hi:z.length<=m
 az:∀c∈z.cps.toList,97<=c/\c<=122
 nd:z.cps.toList.Nodup
def chV(c:Nat):V:=.str ⟨#[c]⟩
def jjo:Sp:=λvs H Q _=>∃(b:Addr)(m:Nat)(o:HO),vs=[.ref b,.int (m:Int)]/\H b=some o/\BoxO o/\1<=m/\m<=4/\∀z o' H',Letters z m->BoxO o'->H' b=some o'->Kp [b] H H'->Q (.str z) H'
theorem jhc{α:Type}:∀(l:List α)(i:Nat)(x:α),l[i]?=some x->(x::l.eraseIdx i).Perm l
 |[],i,x,h=>by simp at h
 |a::l,0,x,h=>by simp at h;subst h;exact Yj _
 |a::l,i+1,x,h=>by
  rw[List.eraseIdx_cons_succ]
  exact(List.Perm.swap _ _ _).trans ((jhc l i x (by simpa using h)).cons a)
theorem ji6{α β:Type}(f:α->β):∀(l:List α)(i:Nat),(l.map f).eraseIdx i=(l.eraseIdx i).map f
 |[],_=>rfl
 |_::_,0=>rfl
 |a::l,i+1=>by rw[Ay,List.eraseIdx_cons_succ,List.eraseIdx_cons_succ,Ay,ji6 f l i]
theorem jq8:sgn (Str.ofString "abcdefghijklmnopqrstuvwxyz")=((List.range 26).map (97+·)).map chV:=by decide +kernel
structure TLetters(mg:Str->Option Value)(ft:Addr):Prop where
 n_len:mg "len"=none
 n_list:mg "list"=none
 n_range:mg "range"=none
 m0z:mg "_law_take"=some (.ref ft)
section
variable{P:Program}{w:World}{K:PySem.W.Frag}{mg:Str->Option Value}{base:Heap}
abbrev yz:Stmt:=top 25
theorem zj:FnScope ["_law_box_here","_law_most","_law_pool","_law_found","_law_k"] ["_law_box_here","_law_most"] (jg yz):=⟨rfl,rfl,rfl,by decide +kernel,rfl,by decide +kernel,by decide +kernel⟩
theorem ok__law_letters{f ft:Addr}{fd fdt:FuncData}(F:Fun K "_law_letters" "_law_letters" yz f fd)(T:TLetters mg ft)(F0z:Fun K "_law_take" "_law_take" y9 ft fdt)(b0z:Binds K fdt ["_law_box_here","_law_wide"] [])
  (G0z:FnOk P w K mg base CX0 1 ft fdt ["_law_box_here","_law_wide"] jhx):FnOk P w K mg base CX0 2 f fd ["_law_box_here","_law_most"] jjo:=by
 refine F.ok zj (λvs H Q E h=>?_) (λcdv A outer s H vs Q E hr h=>?_)
 ·obtain⟨b,m,o,rfl,_⟩:=h
  rfl
 ·obtain⟨b,m,o,rfl,hb,ho,m1,m4,k⟩:=h
  refine⟨_,(QSs.h (je (jq (i:=2) zj.nd rfl (by ac_rfl) (jv (jaj rfl) (by rfl) T.n_list jan (ja jac jc)))
  (je (jq (i:=3) zj.nd rfl (by ac_rfl) jac)
  (je (yc A8 rfl (yg rfl T.n_range (ja (jz yo jh (ju G0z (hr.mono (by decide)) rfl T.m0z F0z.kp b0z .nil ka (ja (qpv 0) (ja (qpv 1) jc)))) jc)) (jr (i:=4) zj.nd rfl (by ac_rfl)) (jj (jq (i:=3) zj.nd rfl (by ac_rfl) (jz yo (qpv 3) (ko PySem.F.slot_list_pop PySem.F.type_list_pop mt_popU (qpv 2) (ja (ju G0z (hr.mono (by decide)) rfl T.m0z F0z.kp b0z .nil ka (ja (qpv 0) (ja (jt jw (by rfl) T.n_len j6 (ja (qpv 2) jc)) jc))) jc) jcq)))))
  (jj (j3 (qpv 3))))))),?_⟩
  simp!
  refine⟨by decide,λp hp=>?_⟩
  have npb:b≠p:=jf hb hp
  obtain⟨c0,s0,rfl,_,_⟩:=id ho
  refine⟨b,(m:Int),_,rfl,by rw[jd npb];exact hb,ho,by omega,by omega,λd o1 d0 d1 ho1=>?_⟩
  simp!
  obtain⟨n,rfl⟩:∃n:Nat,d=(n:Int):=⟨d.toNat,by omega⟩
  have en:(1+(n:Int)).toNat=n+1:=by omega
  refine⟨by omega,by omega,?_⟩
  rw[en]
  refine jcw (λi σ H'=>∃l R o' v,σ=[some (.ref b),some (.int (m:Int)),some (.ref p),some (.str (toS l)),v]/\H' b=some o'/\BoxO o'/\H' p=some (.lst (R.map chV))/\Kp [b] H H'/\l.length=i/\R.length+i=26 /\
   (l++R).Nodup/\∀c∈l++R,97<=c/\c<=122) ?_ ?_ ?_
  ·refine⟨[],(List.range 26).map (97+·),o1,none,rfl,jb,ho1,?_,?_,rfl,by simp,?_,?_⟩
   ·rw[jd npb.symm,jb,jq8]
   ·exact((Kp.refl [b] H).new hp).set (by rw[jd npb];exact hb) (.inl (by simp))
   ·decide
   ·decide
  ·rintro i σ H' hi ⟨l,R,o',v,rfl,hb',ho',hp',kp,hl,hR,nd,az⟩
   simp! [hp']
   obtain⟨c1,s1,rfl,_,_⟩:=id ho'
   refine⟨b,_,_,rfl,hb',ho',by rw[Ad];omega,by rw[Ad];omega,λd o2 d0 d1 ho2=>?_⟩
   rw[Ad]at d1
   have hp2:upd H' b o2 p=some (.lst (R.map chV)):=by rw[jd npb.symm];exact hp'
   simp! [hp2]
   obtain⟨c,hc⟩:∃c,R[d.toNat]?=some c:=⟨R[d.toNat]'(by omega),by simp⟩
   have hc':(R.map chV)[d.toNat]?=some (.str ⟨#[c]⟩):=by rw[Ag,hc];rfl
   refine⟨d0,_,hc',?_⟩
   simp!
   have pm:=jhc R d.toNat c hc
   have e1:((l++[c])++R.eraseIdx d.toNat).Perm (l++R):=by
    rw[Uo]
    exact pm.append_left l
   have hlen:(R.eraseIdx d.toNat).length+1=R.length:=by
    have:=pm.length_eq
    simpa using this
   refine⟨?_,l++[c],R.eraseIdx d.toNat,o2,_,⟨jnd l c,rfl⟩,by rw[jd npb,jb],ho2,ji6 chV R _,?_,by simp[hl],by omega,?_,?_⟩
   ·rw[je8]
    show l.length+1<=sizeLine
    have:sizeLine=16777216:=Ij
    omega
   ·exact(kp.set hb' (.inl (.head _))).set hp2 (.inr hp)
   ·exact e1.nodup_iff.mpr nd
   ·exact λx hx=>az x (e1.mem_iff.mp hx)
  ·rintro σ H' ⟨l,R,o',v,rfl,hb',ho',hp',kp,hl,hR,nd,az⟩
   simp! [hp']
   exact k (toS l) o' H' ⟨by rw[je8];omega,by rw[je8];omega,λc hc=>az c (Iw _ (by simpa[toS]using hc)),by simpa[toS]using(Om.mp nd).1⟩ ho' hb' kp
end
theorem _root_.L2.Kp.seq{S:List Addr}{K:PySem.W.Frag}{H H':Hp}{a:Addr}{xs:List V}(e:Kp S H H')(n:a∉S)(h:SqL K H a xs):SqL K H' a xs:=by
 rcases h with(h|⟨o,h⟩)|h
 ·exact .inl (.inl (e.old _ _ h n))
 ·exact .inl (.inr ⟨o,e.old _ _ h n⟩)
 ·exact .inr h
theorem exQ{X:Cx}{ss:List Stmt}{t:TS}{R:TS->Prop}(q:QSs X ss t)(h:R t):∃t,PSs X ss t/\R t:=⟨t,q.h,h⟩
def nV(n:Nat):V:=.int (n:Int)
def dk(r:Nat):L2.Key×V:=(.inl (r:Int),.bl true)
theorem joq{x r:Nat}(z:(dk x).1=.inl (r:Int)):x=r:=Int.ofNat.inj (Sum.inl.inj z)
theorem jl1(S:List Nat)(r:Nat):valV (S.map dk) (.inl (r:Int))=if r∈S then some (.bl true)else none:=by
 induction S with
 |nil=>rfl
 |cons x S ih =>
  rw[Ay]
  by_cases h:x=r
  ·subst h
   rw[jc4 (p:=dk x) (r:=S.map dk) (k:=.inl (x:Int)) rfl,Ao (.head _)];rfl
  ·rw[jc3 (λz=>h (joq z)),ih]
   by_cases h2:r∈S
   ·rw[Ao h2,Ao (.tail _ h2)]
   ·rw[Am h2,Am (λz=>(Ap.mp z).elim (λe=>h e.symm) h2)]
theorem jrg(S:List Nat)(r:Nat):jfc (S.map dk) (.inl (r:Int))=(S.filter λx=>decide (x≠r)).map dk:=by
 unfold jfc
 rw[List.filter_map]
 congr 1
 refine List.filter_congr λx _=>?_
 show decide ((dk x).1≠_)=_
 exact decide_eq_decide.mpr ⟨λh z=>h (by rw[z];rfl),λh z=>h (joq z)⟩
theorem jck:∀(S T:List Nat),(T++S).Nodup->(S.map dk).foldl (λd kv=>putK d kv.1 kv.2) (T.map dk)=(T++S).map dk
 |[],T,_=>by simp
 |x::S,T,nd=>by
  have nx:x∉T:=λh=>by
   rw[Om]at nd
   exact nd.2.2 x h x (.head _) rfl
  rw[Ay,List.foldl_cons,jk7 _ (show valV (T.map dk) (dk x).1=none by rw[show(dk x).1=.inl (x:Int)from rfl,jl1,Am nx])]
  have:=jck S (T++[x]) (by simpa using nd)
  rw[A3]at this
  rw[show T.map dk++[((dk x).1,(dk x).2)]=T.map dk++[x].map dk from rfl,this]
  simp
theorem jfq{S:List Nat}(nd:S.Nodup):jdp (S.map dk)=S.map dk:=by
 have:=jck S [] (by simpa using nd)
 simpa[jdp]using this
theorem jmv{d:Addr}{H H1:Hp}{o:HO}(k:Kp [d] H H1)(h:H d=some o)(nt:∀xs,o≠.tup xs):Kp [] H (upd H1 d o):=by
 refine⟨λa u e _=>?_,λa xs e=>?_,λa u e=>?_⟩
 ·by_cases c:a=d
  ·subst c;rw[jb];rw[h]at e;exact e
  ·rw[jd c];exact k.old a u e (by simpa using c)
 ·have c:a≠d:=λz=>by rw[z,h]at e;exact nt xs (Aq e)
  rw[jd c];exact k.tup a xs e
 ·by_cases c:a=d
  ·exact⟨o,by rw[c,jb]⟩
  ·obtain⟨o',e'⟩:=k.dom a u e
   exact⟨o',by rw[jd c];exact e'⟩
theorem jd2{S:List Addr}{H H1:Hp}(k:Kp S H H1){b:Addr}{kvs:List (Key×V)}{o:HO}(hb:H1 b=some (.dK kvs))(h:b∈S\/H b=none):Kp S H (upd H1 b o):=by
 have ne:∀c u,H c=some u->c∉S->c≠b:=λc u e n z=>by
  subst z
  rcases h with h|h
  ·exact n h
  ·rw[h]at e;cases e
 refine⟨λc u e n=>by rw[jd (ne c u e n)];exact k.old c u e n,λc ys e=>?_,λc u e=>?_⟩
 ·have e1:=k.tup c ys e
  have:c≠b:=λz=>by rw[z,hb]at e1;cases e1
  rw[jd this];exact e1
 ·obtain⟨o',e'⟩:=k.dom c u e
  by_cases q:c=b
  ·subst q;exact⟨o,jb⟩
  ·exact⟨o',by rw[jd q];exact e'⟩
def gsF(gs:List Nat)(L:List Nat)(p:Nat):List Nat:=L.foldl (λg r=>g.set r p) gs
theorem jh9(L:List Nat)(p:Nat):∀gs:List Nat,(gsF gs L p).length=gs.length:=by
 unfold gsF
 induction L with
 |nil=>intro gs;rfl
 |cons x L ih=>intro gs;rw[List.foldl_cons,ih];simp
theorem jhe(L:List Nat)(p r:Nat):∀gs:List Nat,r<gs.length->(gsF gs L p)[r]?=if r∈L then some p else gs[r]?:=by
 unfold gsF
 induction L with
 |nil=>intro gs _;simp
 |cons x L ih =>
  intro gs hr
  rw[List.foldl_cons,ih _ (by simpa using hr),Yo]
  by_cases h1:r∈L
  ·rw[Ao h1,Ao (.tail _ h1)]
  ·rw[Am h1]
   by_cases h2:x=r
   ·subst h2
    rw[Ao rfl,Ao hr,Ao (.head _)]
   ·rw[Am h2,Am (λz=>(Ap.mp z).elim (λe=>h2 e.symm) h1)]
theorem jp5(gs L:List Nat)(x p:Nat):gsF gs (L++[x]) p=(gsF gs L p).set x p:=by simp[gsF]
structure PS(H:Hp)(pp pg:Addr)(n:Nat)(ds:List Addr)(Ss:List (List Nat))(gs:List Nat):Prop where
 hp:H pp=some (.lst (ds.map V.ref))
 hg:H pg=some (.lst (gs.map nV))
 gl:gs.length=n
 dl:ds.length=Ss.length
 at_:∀(i:Nat) d S,ds[i]?=some d->Ss[i]?=some S->H d=some (.dK (S.map dk))
 nd:ds.Nodup
 ns:∀S∈Ss,S.Nodup
 mem:∀(i:Nat) S,Ss[i]?=some S->∀r,r∈S↔r<n/\gs[r]?=some i
 ne:pp≠pg
 n9:n<=1000
 gt:∀(r g:Nat),gs[r]?=some g->g<ds.length
theorem PS.kp{H H':Hp}{pp pg:Addr}{n:Nat}{ds:List Addr}{Ss:List (List Nat)}{gs:List Nat}(h:PS H pp pg n ds Ss gs)(k:Kp [] H H'):PS H' pp pg n ds Ss gs :=
 ⟨k.old _ _ h.hp (by simp),k.old _ _ h.hg (by simp),h.gl,h.dl,λi d S e1 e2=>k.old _ _ (h.at_ i d S e1 e2) Af,h.nd,h.ns,h.mem,h.ne,h.n9,h.gt⟩
theorem PS.get{H:Hp}{pp pg:Addr}{n:Nat}{ds:List Addr}{Ss:List (List Nat)}{gs:List Nat}(h:PS H pp pg n ds Ss gs){i:Nat}{S:List Nat}(e:Ss[i]?=some S):∃d,ds[i]?=some d/\H d=some (.dK (S.map dk)):=by
 have hi:=(Ae.mp e).1
 have e1:ds[i]?=some (ds[i]'(by rw[h.dl];exact hi)):=Aa _
 exact⟨_,e1,h.at_ i _ S e1 e⟩
theorem jcy:∀{l zs:List Nat},l.Nodup->(∀x∈l,x∈zs)->l.length<=zs.length
 |[],_,_,_=>Oa _
 |x::l,zs,nd,h=>by
  obtain⟨hx,nd'⟩:=Of.mp nd
  have hm:=h x (.head _)
  have:=jcy (l:=l) (zs:=zs.erase x) nd' λy hy=>(U8 (λe:y=x=>hx (e▸hy))).mpr (h y (.tail _ hy))
  rw[Wi hm]at this
  have hp:0<zs.length:=U1 hm
  rw[List.length_cons]
  omega
theorem jdc{S:List Nat}{n:Nat}(nd:S.Nodup)(h:∀r∈S,r<n):S.length<=n:=by
 have q:=jcy (zs:=List.range n) nd λx hx=>Ar.mpr (h x hx)
 simpa using q
def prT(y x:V)(H:Hp):Prop:=∃t,x=.ref t/\H t=some (.tup [y,.bl true])
theorem jgs(y:V):Firm (prT y):=λS x H1 H2 k ⟨t,e,h⟩=>⟨t,e,k.tup _ _ h⟩
theorem jbf{H:Hp}:∀{L:List Nat}{xs:List V},Paired (λy x=>prT y x H) (L.map nV) xs->PairsK H xs (L.map dk)
 |[],xs,h=>by cases h;exact .nil
 |r::L,xs,h=>by
  rw[Ay]at h
  cases h with
  |cons a t =>
   obtain⟨q,e,g⟩:=a
   exact .cons ⟨q,e,g⟩ (jbf t)
def notL(L:List Nat):V->Bool
 |.int i=>!decide (i.toNat∈L)
 |_=>false
theorem jqb(L S:List Nat):((S.map dk).map (λkv=>kV kv.1)).filter (notL L)=(S.filter λq=>!decide (q∈L)).map nV:=by
 rw[A0,show(λkv:L2.Key×V=>kV kv.1)∘dk=nV from rfl,List.filter_map]
 congr 1
def jq3:Sp:=λvs H Q _=>∃(pp pg ps:Addr)(n:Nat)(ds:List Addr)(Ss:List (List Nat))(gs:List Nat)(i:Nat)(S L:List Nat),vs=[.ref pp,.ref pg,.int (i:Int),.ref ps]/\PS H pp pg n ds Ss gs/\Ss[i]?=some S/\H ps=some (.lst (L.map nV))/\L.Nodup/\(∀r∈L,r∈S)/\ps≠pp/\ps≠pg/\Ss.length<=1000 /\
 ((L=[]\/L.length=S.length)->∀H',Kp [] H H'->Q (.bl false) H') /\
 (¬(L=[]\/L.length=S.length)->∀(sh:List Nat)(d':Addr)(H':Hp),sh.Nodup->sh≠[]->H d'=none->(∀r∈sh,r∈S)->((∀r,r∈sh↔r∈L)\/∀r,r∈sh↔r∈S/\r∉L)->PS H' pp pg n (ds++[d']) (Ss.set i (S.filter λr=>!decide (r∈sh))++[sh]) (gsF gs sh ds.length)->Kp (pp::pg::ds) H H'->Q (.bl true) H')
structure TCut(mg:Str->Option Value):Prop where
 n_len:mg "len"=none
 n_dict:mg "dict"=none
section
variable{P:Program}{w:World}{K:PySem.W.Frag}{mg:Str->Option Value}{base:Heap}
abbrev jaa:Stmt:=top 13
theorem ja6:FnScope ["parts","groups","number","share","part","inside","room"] ["parts","groups","number","share"] (jg jaa):=⟨rfl,rfl,rfl,by decide +kernel,rfl,by decide +kernel,by decide +kernel⟩
theorem ok_cut{f:Addr}{fd:FuncData}(F:Fun K "cut" "cut" jaa f fd)(T:TCut mg):FnOk P w K mg base CX0 1 f fd ["parts","groups","number","share"] jq3:=by
 refine F.ok ja6 (λvs H Q E h=>?_) (λcdv A outer s H vs Q E hr h=>?_)
 ·obtain⟨pp,pg,ps,n,ds,Ss,gs,i,S,L,rfl,_⟩:=h
  rfl
 ·obtain⟨pp,pg,ps,n,ds,Ss,gs,i,S,L,rfl,ph,hS,hL,ndL,subL,nsp,nsg,l9,kF,kT⟩:=h
  have hu:=hr.units
  have hsz:sizeLine=16777216:=Ij
  have hu1:(A.deeper (PyProof.Rows.envOfC (Str.ofString "cut") (jg jaa) s.heap.objs.size f cdv)).units+1<cLine:=by omega
  obtain⟨d,hd,hdd⟩:=ph.get hS
  have ndS:=ph.ns S (Al hS)
  have Sn:S.length<=n:=jdc ndS λr hr=>((ph.mem i S hS r).mp hr).1
  have n9:=ph.n9
  have Ll:L.length<=S.length:=jcy ndL subL
  refine exQ (je (jq (i:=4) ja6.nd rfl (by ac_rfl) (jo ix_U (qpv 0) (qpv 2) (λ_ _=>rfl)))
  (yh (yf (QW.pt (jbm (j5 (zc hu) (jt jw (by rfl) T.n_len j6 (ja (qpv 3) jc)) jh (j9 _)) (jbb (j5 (zc hu) (jt jw (by rfl) T.n_len j6 (ja (qpv 3) jc)) (jt jbu (by rfl) T.n_len j6 (ja (qpv 4) jc)) (j9 _))))) (jj (j3 zr)) kg)
  (yh (yf (j5 jcg (jz zt jh (jt jw (by rfl) T.n_len j6 (ja (qpv 3) jc))) (jt jbu (by rfl) T.n_len j6 (ja (qpv 4) jc)) (j9 _)) (je (jq (i:=5) ja6.nd rfl (by ac_rfl) (jv (jax rfl hu) (by rfl) T.n_dict jbo (ja (yp rfl (jco (sc:=jg jaa) (N:=["parts","groups","number","share","part","inside","room"]) (Nc:=["room"]) (js:=[none]) (by decide +kernel)) (kh (K:=K) (qpv 3) rfl) (λ_ _ _ _=>(jr (i:=0) (show List.Nodup [("room":Str)]from by decide +kernel) rfl (by ac_rfl))) (λ_ _ _ _=>(yq (ja (qpv 0) (ja zr jc))))) jc)))
  (jj (jca (qps_setcIf (i:=3) ja6.nd rfl (by ac_rfl) rfl (jco (sc:=jg jaa) (N:=["parts","groups","number","share","part","inside","room"]) (Nc:=["room","inside"]) (js:=[none,some 5]) (by decide +kernel)) (jb7 (qpv 4)) (λ_ _ _ _=>(jr (i:=0) (show List.Nodup [("room":Str),("inside":Str)]from by decide +kernel) rfl (by ac_rfl))) (λ_ _ _ _=>(ja9 (jal hu1 (qpv 0) (qpv 1)) (by with_unfolding_all rfl))) (λ_ _ _ _=>(qpv 0)))))) kg)
  (je (yc A8 rfl (kh (K:=K) (qpv 3) rfl) (jr (i:=6) ja6.nd rfl (by ac_rfl)) (je (kj (qpe_bmD PySem.F.slot_dict_pop PySem.F.type_dict_pop mt_popD (qpv 4) (ja (qpv 6) jc) jcq))
  (jj (jao (jt jw (by rfl) T.n_len j6 (ja (qpv 0) jc)) (jav (qpv 1) (qpv 6) jht)))))
  (je (kj (ko A5 A6 ki (qpv 0) (ja (jv (jax rfl hu) (by rfl) T.n_dict jbo (ja (yp rfl (jco (sc:=jg jaa) (N:=["parts","groups","number","share","part","inside","room"]) (Nc:=["room"]) (js:=[none]) (by decide +kernel)) (kh (K:=K) (qpv 3) rfl) (λ_ _ _ _=>(jr (i:=0) (show List.Nodup [("room":Str)]from by decide +kernel) rfl (by ac_rfl))) (λ_ _ _ _=>(yq (ja (qpv 0) (ja zr jc))))) jc)) jc) jcq))
  (jj (j3 zr))))))) ?_
  simp! [ph.hp]
  refine⟨.ref d,jcm (by rw[Ag,hd];rfl),?_⟩
  refine⟨λσ' H'=>σ'=[some (.ref pp),some (.ref pg),some (.int (i:Int)),some (.ref ps),some (.ref d),none,none]/\H=H'/\¬(L=[]\/L.length=S.length),?_,?_⟩
  ·simp! [hL]
   rw[Ad]
   refine ite2 (λh=>kF (.inl (Ul.mp (by omega))) H (Kp.refl _ _)) (λh=>⟨d,S.map dk,rfl,.inl hdd,?_⟩)
   rw[Ad]
   dsimp only
   rw[jgu]
   refine⟨_,rfl,ite2 (λh2=>kF (.inr (by have:=of_decide_eq_true h2;omega)) H (Kp.refl _ _)) (λh2=>⟨rfl,λz=>z.elim (λe=>h (by rw[e];rfl)) (λe=>h2 (by rw[e];simp))⟩)⟩
  rintro _ _ ⟨rfl,rfl,nn⟩
  refine⟨λσ' H'=>∃(ps':Addr)(sh:List Nat)(v5:Option V),σ'=[some (.ref pp),some (.ref pg),some (.int (i:Int)),some (.ref ps'),some (.ref d),v5,none]/\H' ps'=some (.lst (sh.map nV))/\ps'≠pp/\ps'≠pg/\sh.Nodup/\sh≠[]/\(∀r∈sh,r∈S)/\((∀r,r∈sh↔r∈L)\/∀r,r∈sh↔r∈S/\r∉L)/\Kp [] H H',?_,?_⟩
  ·simp! [hL]
   refine⟨.inl ⟨by decide,by decide⟩,d,S.map dk,rfl,.inl hdd,_,rfl,?_⟩
   rw[Ad,Ad]
   refine ite2 (λh=>?_) (λh=>⟨ps,L,none,⟨rfl,rfl⟩,hL,nsp,nsg,ndL,λz=>nn (.inl z),subL,.inl (λ_=>On),Kp.refl _ _⟩)
   simp only[hL]
   intro D hD
   refine jd5 prT jgs hL hD (by rw[Ad];omega) (λj y H1 Q' hy k1 q=>?_) λv xs H3 k3 hD3 pr=>?_
   ·simp!
    exact⟨by omega,λt ht=>q _ _ ((Kp.refl [] H1).new ht) ⟨t,rfl,jb⟩⟩
   dsimp only
   refine rDictK.of hD3 (jbf pr) λpi hpi=>?_
   rw[jfq ndL]
   have k4:Kp [] H (upd H3 pi (.dK (L.map dk))):=k3.new hpi
   have ndp:d≠pi:=jf (k3.old _ _ hdd Af) hpi
   have e4:upd H3 pi (.dK (L.map dk)) pi=some (.dK (L.map dk)):=jb
   generalize upd H3 pi (.dK (L.map dk))=H4 at k4 e4⊢
   have d4:=k4.old _ _ hdd Af
   simp!
   refine⟨d,λo u z=>?_,d,S.map dk,rfl,.inl ⟨d4,λo D2 hD2=>?_⟩⟩
   ·have z':H d=some (.frz o u):=z
    rw[hdd]at z';cases z'
   have e4z:upd H4 d (.frz o (.dK (S.map dk))) pi=some (.dK (L.map dk)):=by rw[jd ndp.symm];exact e4
   have Di:pi≠D2:=jf e4z hD2
   have dD:d≠D2:=jf jb hD2
   have D24:H4 D2=none:=by rwa[jd dD.symm]at hD2
   have D20:H D2=none:=k4.free D24
   refine joj (notL L) id jb hD2 (by rw[Ad];omega) (λx hx l Q' q=>?_) (λx hx _ l Q' q=>?_) λvv=>?_
   ·obtain⟨kv,hkv,rfl⟩:=An.mp hx
    obtain⟨y,hy,rfl⟩:=An.mp hkv
    simp!
    refine⟨_,DGet.k (k:=.inl (y:Int)) (kvs:=L.map dk) (by rw[jd Di];exact e4z),?_⟩
    rw[jl1]
    have:notL L (kV (dk y).1)=!(if y∈L then some (V.bl true)else none).isSome:=by
     show(!decide (y∈L))=_
     by_cases h:y∈L <;> simp[h]
    rw[<-this]
    exact q
   ·simp!
    exact q
   rw[List.map_id,jqb]
   dsimp only
   have kz:Kp [d] H (upd (upd H4 d (.frz o (.dK (S.map dk)))) D2 (.lst ((S.filter λq=>!decide (q∈L)).map nV))):=(jd2 (k4.mono (by simp)) d4 (.inl (by simp))).new hD2
   refine⟨o,.dK (S.map dk),by rw[jd dD,jb],S.filter λq=>!decide (q∈L),by rw[jd dD.symm,jb],?_,?_,ndS.filter _,?_,λr hr=>(Iy.mp hr).1,.inr λr=>by simp[Iy],jmv kz hdd (λxs z=>nomatch z)⟩
   ·exact λz=>by rw[z,ph.hp]at D20;cases D20
   ·exact λz=>by rw[z,ph.hg]at D20;cases D20
   ·intro z
    have:S.length<=L.length:=jcy ndS λr hr=>by
     have:=Yt.mp z r hr
     simpa using this
    exact nn (.inr (by omega))
  rintro _ H2 ⟨ps',sh,v5,rfl,hsh,np1,np2,nds,nes,subs,how,k2⟩
  simp! [hsh]
  have ph2:=ph.kp k2
  have hd2:=k2.old _ _ hdd Af
  have d1:d≠pp:=λz=>by rw[z,ph.hp]at hdd;cases hdd
  have d2:d≠pg:=λz=>by rw[z,ph.hg]at hdd;cases hdd
  have d3:d≠ps':=λz=>by rw[z,hsh]at hd2;cases hd2
  refine jdm (xs:=sh.map nV) (λj σ H'=>∃v6:Option V,σ=[some (.ref pp),some (.ref pg),some (.int (i:Int)),some (.ref ps'),some (.ref d),v5,v6]/\H' d=some (.dK ((S.filter λr=>!decide (r∈sh.take j)).map dk))/\H' pg=some (.lst ((gsF gs (sh.take j) ds.length).map nV))/\H' ps'=some (.lst (sh.map nV))/\Kp [pg,d] H2 H') ?_ ?_ ?_ ?_
  ·refine⟨none,rfl,?_,ph2.hg,hsh,Kp.refl _ _⟩
   rw[hd2,show(S.filter λr=>!decide (r∈sh.take 0))=S from List.filter_eq_self.mpr λr _=>by simp]
  ·rintro j σ H' _ ⟨v6,rfl,_,_,h,_⟩
   exact h
  ·rintro j x σ H3 hx ⟨v6,rfl,h1,h2,h3,k3⟩
   rw[Ag]at hx
   obtain⟨r,hr,rfl⟩:=Ie.mp hx
   have rs:=Al hr
   have rS:=subs r rs
   obtain⟨rn,rg⟩:=(ph.mem i S hS r).mp rS
   have nt:r∉sh.take j:=λz=>by
    obtain⟨m,hm⟩:=Iu z
    have hmj:m<j:=by have:=(Ae.mp hm).1;rw[Iz]at this;omega
    rw[List.getElem?_take,Ao hmj]at hm
    have hml:=(Ae.mp hm).1
    have:=(List.getElem?_inj hml nds).mp (hm.trans hr.symm)
    omega
   have tk:sh.take (j+1)=sh.take j++[r]:=by rw[Od,hr];rfl
   have hp3:H3 pp=some (.lst (ds.map V.ref)):=k3.old _ _ ph2.hp (by simp[ph.ne,d1.symm])
   simp!
   refine⟨⟨d,_,rfl,h1⟩,d,_,.inl (r:Int),.bl true,rfl,rfl,h1,?_,?_⟩
   ·rw[jl1,Ao (Iy.mpr ⟨rS,by simpa using nt⟩)]
   rw[jrg,List.filter_filter]
   have ef:S.filter (λx=>decide (x≠r) && !decide (x∈sh.take j))=S.filter λx=>!decide (x∈sh.take (j+1)):=List.filter_congr λx _=>by
    rw[tk]
    by_cases c1:x=r
    ·simp[c1]
    ·simp[c1]
   rw[ef]
   have k4:Kp [pg,d] H2 (upd H3 d (.dK ((S.filter λx=>!decide (x∈sh.take (j+1))).map dk))):=jd2 k3 h1 (.inl (by simp))
   refine⟨_,by rw[jd d1.symm,hp3];rfl,?_⟩
   unfold nV
   rw[jfu,jd d2.symm,h2]
   refine⟨_,rfl,r,?_,?_,?_,?_,?_⟩
   ·unfold ixN
    rw[Ad,jh9,ph.gl,Ao (by omega),Ao (by omega)];simp
   ·rw[jd d2,jb]
   ·rw[jb,tk,jp5,List.map_set,Ad];rfl
   ·rw[jd np2,jd d3.symm];exact h3
   ·exact k4.set (by rw[jd d2.symm];exact h2) (.inl (by simp))
  ·rintro σ H3 ⟨v6,rfl,h1,h2,h3,k3⟩
   rw[Ad,Ir]at h1 h2
   have hp3:H3 pp=some (.lst (ds.map V.ref)):=k3.old _ _ ph2.hp (by simp[ph.ne,d1.symm])
   have shl:sh.length<=S.length:=jcy nds subs
   have dsl:=ph.dl
   simp! [h3]
   refine⟨by rw[hp3];rfl,λD hD=>?_⟩
   refine jd5 prT jgs h3 hD (by rw[Ad];omega) (λj y H1 Q' hy k1 q=>?_) λv xs H4 k4 hD4 pr=>?_
   ·simp!
    exact⟨by omega,λt ht=>q _ _ ((Kp.refl [] H1).new ht) ⟨t,rfl,jb⟩⟩
   dsimp only
   refine rDictK.of hD4 (jbf pr) λd' hd'=>?_
   rw[jfq nds]
   have hp4:=k4.old _ _ hp3 Af
   have npd':pp≠d':=jf hp4 hd'
   have g4:=k4.old _ _ h2 Af
   have ngd':pg≠d':=jf g4 hd'
   have dd4:=k4.old _ _ h1 Af
   have ndd':d≠d':=jf dd4 hd'
   have k5:Kp (pp::pg::ds) H (upd (upd H4 d' (.dK (sh.map dk))) pp (.lst (ds.map V.ref++[V.ref d']))):=by
    have a1:Kp (pp::pg::ds) H H3:=(k2.mono (by simp)).trans (k3.mono (λx hx=>by
     simp only[Ap,Af,O2]at hx
     rcases hx with rfl|rfl
     ·simp
     ·exact .tail _ (.tail _ (Al hd))))
    exact((a1.trans (k4.mono (by simp))).new hd').set (by rw[jd npd'];exact hp4) (.inl (by simp))
   refine⟨_,by rw[jd npd',hp4];rfl,by rw[Ad];omega,kT nn sh d' _ nds nes (k2.free (k3.free (k4.free hd'))) subs how ?_ k5⟩
   have hi:i<ds.length:=(Ae.mp hd).1
   have old:∀(j:Nat)(dd:Addr)(U:List Nat),ds[j]?=some dd->Ss[j]?=some U->j≠i->upd (upd H4 d' (.dK (sh.map dk))) pp (.lst (ds.map V.ref++[V.ref d'])) dd=some (.dK (U.map dk)):=λj dd U e1 e2 nj=>by
    have hdU:=ph.at_ j dd U e1 e2
    have c1:dd≠pp:=λz=>by rw[z,ph.hp]at hdU;cases hdU
    have c2:dd≠pg:=λz=>by rw[z,ph.hg]at hdU;cases hdU
    have c3:dd≠d:=λz=>by
     rw[z]at e1
     exact nj ((List.getElem?_inj (Ae.mp e1).1 ph.nd).mp (e1.trans hd.symm))
    have q4:H4 dd=some (.dK (U.map dk)):=k4.old _ _ (k3.old _ _ (k2.old _ _ hdU Af) (by simp[c2,c3])) (by simp)
    rw[jd c1,jd (jf q4 hd')];exact q4
   have fr:∀x∈ds,x≠d':=λx hx z=>by
    obtain⟨j,hj⟩:=Iu hx
    have hjl:=(Ae.mp hj).1
    have e2:Ss[j]?=some (Ss[j]'(by omega)):=Aa _
    have hU:=ph.at_ j x _ hj e2
    have:=k4.dom x _ (k3.dom x _ (k2.old _ _ hU Af)|>.choose_spec)
    obtain⟨o',e'⟩:=this
    rw[z,hd']at e';cases e'
   refine⟨by rw[jb,A3];rfl,by rw[jd ph.ne.symm,jd ngd'];exact g4,by rw[jh9];exact ph.gl,by simp[dsl],λj dd U e1 e2=>?_,?_,λU hU=>?_,λj U e2 r=>?_,ph.ne,ph.n9,λr g e=>?_⟩
   ·rcases Yp j ds.length with l|l|l
    ·rw[A2 l]at e1
     rw[A2 (by rw[Ua];omega)]at e2
     by_cases c:j=i
     ·subst c
      rw[hd]at e1
      cases e1
      rw[Ws (by omega)]at e2
      cases e2
      rw[jd d1,jd ndd'];exact dd4
     ·rw[Wz (λz=>c z.symm)]at e2
      exact old j dd U e1 e2 c
    ·subst l
     rw[A9 (Ak _)]at e1
     rw[A9 (by rw[Ua];omega),Ua,show ds.length-Ss.length=0 by omega]at e2
     simp at e1 e2
     subst e1 e2
     rw[jd npd'.symm,jb]
    ·rw[I0 (by simp;omega)]at e1
     cases e1
   ·rw[Om]
    exact⟨ph.nd,by simp,λa ha b hb e=>fr a ha (e.trans (Aj.mp hb))⟩
   ·rcases Aw.mp hU with h|h
    ·rcases W9 h with h|rfl
     ·exact ph.ns U h
     ·exact ndS.filter _
    ·cases Aj.mp h;exact nds
   ·have key:r<n->(gsF gs sh ds.length)[r]?=if r∈sh then some ds.length else gs[r]?:=λhr=>jhe sh ds.length r gs (by rw[ph.gl];exact hr)
    rcases Yp j ds.length with l|l|l
    ·rw[A2 (by rw[Ua];omega)]at e2
     by_cases c:j=i
     ·subst c
      rw[Ws (by omega)]at e2
      cases e2
      rw[Iy]
      refine⟨fun⟨h1',h2'⟩=>?_,fun⟨h1',h2'⟩=>?_⟩
      ·obtain⟨q1,q2⟩:=(ph.mem j S hS r).mp h1'
       refine⟨q1,?_⟩
       rw[key q1,Am (by simpa using h2')];exact q2
      ·rw[key h1']at h2'
       by_cases m:r∈sh
       ·rw[Ao m]at h2';simp at h2';omega
       ·rw[Am m]at h2'
        exact⟨(ph.mem j S hS r).mpr ⟨h1',h2'⟩,by simpa using m⟩
     ·rw[Wz (λz=>c z.symm)]at e2
      have mm:=ph.mem j U e2 r
      refine⟨λh=>?_,fun⟨h1',h2'⟩=>?_⟩
      ·obtain⟨q1,q2⟩:=mm.mp h
       refine⟨q1,?_⟩
       have m:r∉sh:=λm=>by
        have:=((ph.mem i S hS r).mp (subs r m)).2
        rw[q2]at this;simp at this;exact c this
       rw[key q1,Am m];exact q2
      ·rw[key h1']at h2'
       by_cases m:r∈sh
       ·rw[Ao m]at h2';simp at h2';omega
       ·rw[Am m]at h2';exact mm.mpr ⟨h1',h2'⟩
    ·subst l
     rw[A9 (by rw[Ua];omega),Ua,show ds.length-Ss.length=0 by omega]at e2
     simp at e2
     subst e2
     refine⟨λh=>?_,fun⟨h1',h2'⟩=>?_⟩
     ·have q1:=((ph.mem i S hS r).mp (subs r h)).1
      exact⟨q1,by rw[key q1,Ao h]⟩
     ·rw[key h1']at h2'
      by_cases m:r∈sh
      ·exact m
      ·rw[Am m]at h2'
       have:=ph.gt r _ h2'
       omega
    ·rw[I0 (by simp;omega)]at e2
     cases e2
   ·have hr:r<gs.length:=by
     have:=(Ae.mp e).1
     rwa[jh9]at this
    rw[jhe sh ds.length r gs hr]at e
    rw[Av,List.length_cons,List.length_nil]
    by_cases m:r∈sh
    ·rw[Ao m]at e;simp at e;omega
    ·rw[Am m]at e
     have:=ph.gt r g e
     omega
end
def lk(la:Nat->Addr)(g:Nat):L2.Key×V:=(.inl (g:Int),.ref (la g))
theorem jh4(la:Nat->Addr)(gk:List Nat)(g:Nat):valV (gk.map (lk la)) (.inl (g:Int))=if g∈gk then some (.ref (la g))else none:=by
 induction gk with
 |nil=>rfl
 |cons x S ih =>
  rw[Ay]
  by_cases h:x=g
  ·subst h
   rw[jc4 (p:=lk la x) (r:=S.map (lk la)) (k:=.inl (x:Int)) rfl,Ao (.head _)];rfl
  ·rw[jc3 (λz=>h (Int.ofNat.inj (Sum.inl.inj z))),ih]
   by_cases h2:g∈S
   ·rw[Ao h2,Ao (.tail _ h2)]
   ·rw[Am h2,Am (λz=>(Ap.mp z).elim (λe=>h e.symm) h2)]
structure LD(H0 H:Hp)(pl:Addr)(gk:List Nat)(la:Nat->Addr)(T:List Nat)(G:Nat->Nat):Prop where
 hl:H pl=some (.dK (gk.map (lk la)))
 nd:gk.Nodup
 inj:∀g∈gk,∀g'∈gk,la g=la g'->g=g'
 fr:∀g∈gk,H0 (la g)=none
 at_:∀g∈gk,H (la g)=some (.lst ((T.filter λq=>decide (G q=g)).map nV))
 all:∀q∈T,G q∈gk
 ne:∀g∈gk,∃q∈T,G q=g
theorem jkw{Sr:Nat->List Nat}{n:Nat}(le:∀r,(Sr r).length<=n):∀S:List Nat,(S.flatMap Sr).length<=S.length*n
 |[]=>by simp
 |x::S=>by
  have:=jkw le S
  have:=le x
  rw[List.flatMap_cons,Av,List.length_cons,Aaa]
  omega
theorem jiu(T:List Nat)(G:Nat->Nat)(q g:Nat):(T++[q]).filter (λx=>decide (G x=g))=T.filter (λx=>decide (G x=g))++if G q=g then[q]else[]:=by
 rw[Aac]
 congr 1
 by_cases h:G q=g <;> simp[h]
theorem jov{T:List Nat}{G:Nat->Nat}{g:Nat}(h:∀x∈T,G x≠g):T.filter (λx=>decide (G x=g))=[]:=Yt.mpr λx hx=>by simpa using h x hx
structure Src(H:Hp)(ps:Addr)(sl:List Addr)(Sr:Nat->List Nat)(n:Nat):Prop where
 hs:H ps=some (.lst (sl.map V.ref))
 ln:sl.length=n
 at_:∀(r:Nat) a,sl[r]?=some a->H a=some (.lst ((Sr r).map nV))
 lt:∀r q,q∈Sr r->q<n
 le:∀r,(Sr r).length<=n
def spLI:Sp:=λvs H Q _=>∃(d ps pg:Addr)(n:Nat)(S:List Nat)(sl:List Addr)(Sr:Nat->List Nat)(gs:List Nat),vs=[.ref d,.ref ps,.ref pg]/\H d=some (.dK (S.map dk))/\Src H ps sl Sr n/\H pg=some (.lst (gs.map nV))/\gs.length=n/\n<=1000/\S.length<=1000/\(∀r∈S,r<n) /\
 ∀pl gk la H',H pl=none->LD H H' pl gk la (S.flatMap Sr) (λq=>gs.getD q 0)->Kp [] H H'->Q (.ref pl) H'
section
variable{P:Program}{w:World}{K:PySem.W.Frag}{mg:Str->Option Value}{base:Heap}
abbrev yu:Stmt:=top 12
theorem zu:FnScope ["part","sources","groups","leading","room","source"] ["part","sources","groups"] (jg yu):=⟨rfl,rfl,rfl,by decide +kernel,rfl,by decide +kernel,by decide +kernel⟩
theorem ok_leading_into{f:Addr}{fd:FuncData}(F:Fun K "leading_into" "leading_into" yu f fd):FnOk P w K mg base CX0 1 f fd ["part","sources","groups"] spLI:=by
 refine F.ok zu (λvs H Q E h=>?_) (λcdv A outer s H vs Q E hr h=>?_)
 ·obtain⟨d,ps,pg,n,S,sl,Sr,gs,rfl,_⟩:=h
  rfl
 ·obtain⟨d,ps,pg,n,S,sl,Sr,gs,rfl,hd,src,hg,gl,n9,s9,sn,k⟩:=h
  have hu:=hr.units
  have hsz:sizeLine=16777216:=Ij
  have hu1:(A.deeper (PyProof.Rows.envOfC (Str.ofString "leading_into") (jg yu) s.heap.objs.size f cdv)).units+1<cLine:=by omega
  refine exQ (je (jq (i:=3) zu.nd rfl (by ac_rfl) jbx)
  (je (jca (yc A8 rfl (jb7 (qpv 0)) (jr (i:=4) zu.nd rfl (by ac_rfl)) (jj (yc A8 rfl (kh (K:=K) (jo ix_U (qpv 1) (qpv 4) (λ_ _=>rfl)) rfl) (jr (i:=5) zu.nd rfl (by ac_rfl)) (jj (kj (ko A5 A6 ki (qpe_dset (qpv 3) (jo ix_U (qpv 2) (qpv 5) (λ_ _=>rfl)) (kx jc) ⟨rfl,rfl,rfl,rfl⟩) (ja (qpv 5) jc) (jo8 (je5 _) (jib (je5 _) (je5 _)) jqa))))))))
  (jj (j3 (qpv 3))))) ?_
  simp!
  intro pl hpl
  have ndl:d≠pl:=jf hd hpl
  refine⟨d,λo u z=>?_,d,S.map dk,rfl,.inl ⟨by rw[jd ndl];exact hd,λo=>?_⟩⟩
  ·have z':H d=some (.frz o u):=z
   rw[hd]at z';cases z'
  refine jia (λi σ H'=>∃(v4 v5:Option V)(gk:List Nat)(la:Nat->Addr),σ=[some (.ref d),some (.ref ps),some (.ref pg),some (.ref pl),v4,v5]/\H' d=some (.frz o (.dK (S.map dk)))/\LD H H' pl gk la ((S.take i).flatMap Sr) (λq=>gs.getD q 0)/\Kp [d] H H') ?_ ?_ ?_ ?_
  ·refine⟨none,none,[],λ_=>0,rfl,jb,⟨by rw[jd ndl.symm,jb];rfl,Y9,by simp,by simp,by simp,by simp,by simp⟩,jd2 (((Kp.refl [d] H).new hpl)) (by rw[jd ndl];exact hd) (.inl (by simp))⟩
  ·rintro i σ H' _ ⟨_,_,_,_,rfl,h,_⟩
   exact h
  ·rintro i kv σ H1 hkv ⟨v4,v5,gk,la,rfl,h1,ld,kp⟩
   rw[Ag]at hkv
   obtain⟨r,hr',rfl⟩:=Ie.mp hkv
   have rS:=Al hr'
   have rn:=sn r rS
   have ea:sl[r]?=some (sl[r]'(by rw[src.ln];exact rn)):=Aa _
   generalize sl[r]'(by rw[src.ln];exact rn)=a at ea
   have ha:=src.at_ r a ea
   have nad:a≠d:=λz=>by rw[z,hd]at ha;cases ha
   have npd:ps≠d:=λz=>by have:=src.hs;rw[z,hd]at this;cases this
   have ngd:pg≠d:=λz=>by rw[z,hd]at hg;cases hg
   have ps1:=kp.old _ _ src.hs (by simpa using npd)
   have ha1:=kp.old _ _ ha (by simpa using nad)
   simp!
   rw[show kV (dk r).1=V.int (r:Int)from rfl,jcp,ps1]
   refine⟨_,rfl,.ref a,jcm (by rw[Ag,ea];rfl),?_⟩
   simp only[ha1]
   have tk:(S.take (i+1)).flatMap Sr=(S.take i).flatMap Sr++Sr r:=by rw[Od,hr'];simp
   have srl:=src.le r
   refine jdm (xs:=(Sr r).map nV) (λj σ H'=>∃(v5:Option V)(gk:List Nat)(la:Nat->Addr),σ=[some (.ref d),some (.ref ps),some (.ref pg),some (.ref pl),some (.int (r:Int)),v5]/\H' d=some (.frz o (.dK (S.map dk)))/\LD H H' pl gk la ((S.take i).flatMap Sr++(Sr r).take j) (λq=>gs.getD q 0)/\H' a=some (.lst ((Sr r).map nV))/\Kp [d] H H') ?_ ?_ ?_ ?_
   ·exact⟨v5,gk,la,rfl,h1,by simpa using ld,ha1,kp⟩
   ·rintro j σ H' _ ⟨_,_,_,rfl,_,_,h,_⟩
    exact h
   ·rintro j x σ H2 hx ⟨v5,gk,la,rfl,h2,ld2,ha2,kp2⟩
    rw[Ag]at hx
    obtain⟨q,hq,rfl⟩:=Ie.mp hx
    have qn:=src.lt r q (Al hq)
    have hg2:=kp2.old _ _ hg (by simpa using ngd)
    have tj:(Sr r).take (j+1)=(Sr r).take j++[q]:=by rw[Od,hq];rfl
    have hT:((S.take i).flatMap Sr++(Sr r).take j).length<=1001000:=by
     have q1:=jkw src.le (S.take i)
     have q2:(S.take i).length<=1000:=by rw[Iz];omega
     have q3:=Nat.mul_le_mul q2 n9
     have q4:((Sr r).take j).length<=n:=by rw[Iz];omega
     rw[Av]
     omega
    have gkT:gk.length<=((S.take i).flatMap Sr++(Sr r).take j).length:=by
     have:=jcy (zs:=((S.take i).flatMap Sr++(Sr r).take j).map λq=>gs.getD q 0) ld2.nd λg hg'=>by
      obtain⟨x,hx,e⟩:=ld2.ne g hg'
      exact An.mpr ⟨x,hx,e⟩
     rwa[Ad]at this
    rw[tj,<-Uo]
    generalize(S.take i).flatMap Sr++(Sr r).take j=U at ld2 hT gkT⊢
    have gq:gs[q]?=some (gs.getD q 0):=by rw[Ac,Aa (by omega)];rfl
    generalize hgd:gs.getD q 0=g at gq
    simp!
    refine⟨.inl ⟨_,.inl ld2.hl⟩,?_⟩
    unfold nV
    rw[jcp,hg2]
    refine⟨_,rfl,nV g,jcm (by rw[Ag,gq];rfl),by omega,λp hp=>⟨gk.map (lk la),by rw[jd (jf ld2.hl hp)];exact ld2.hl,.inl (g:Int),rfl,by rw[Ad];omega,λv hv=>?_,λhv=>?_⟩⟩
    ·rw[jh4]at hv
     by_cases m:g∈gk
     ·rw[Ao m]at hv
      cases hv
      have hl2:=ld2.at_ g m
      have np:la g≠p:=jf hl2 hp
      have nfl:=ld2.fr g m
      have nd':la g≠d:=λz=>by rw[z,hd]at nfl;cases nfl
      have na':la g≠a:=λz=>by rw[z,ha]at nfl;cases nfl
      have npl:la g≠pl:=λz=>by have:=ld2.hl;rw[<-z,hl2]at this;cases this
      have el:upd H2 p (.lst []) (la g)=some (.lst ((U.filter λx=>decide (gs.getD x 0=g)).map nV)):=by rw[jd np];exact hl2
      refine⟨by show(jcx _).isSome=true;rw[el];rfl,?_⟩
      rw[jd6,el]
      refine⟨_,rfl,?_,?_,gk,la,⟨?_,ld2.nd,ld2.inj,ld2.fr,λg' hg'=>?_,λx hx=>?_,λg' hg'=>?_⟩,?_,?_⟩
      ·rw[Ad]
       have:=Ud (λx=>decide (gs.getD x 0=g)) U
       omega
      ·rw[jd nd'.symm,jd (jf h2 hp)];exact h2
      ·rw[jd npl.symm,jd (jf ld2.hl hp)];exact ld2.hl
      ·rw[jiu,hgd]
       by_cases c:g'=g
       ·subst c
        rw[jb,Ao rfl,A3];rfl
       ·rw[Am (λz=>c z.symm),O9,jd (λz=>c (ld2.inj g' hg' g m z)),jd (jf (ld2.at_ g' hg') hp)]
        exact ld2.at_ g' hg'
      ·rcases Aw.mp hx with h|h
       ·exact ld2.all x h
       ·cases Aj.mp h;rw[hgd];exact m
      ·obtain⟨x,hx,e⟩:=ld2.ne g' hg'
       exact⟨x,Iw _ hx,e⟩
      ·rw[jd na'.symm,jd (jf ha2 hp)];exact ha2
      ·exact(kp2.new hp).set el (.inr nfl)
     ·rw[Am m]at hv;cases hv
    ·rw[jh4]at hv
     have m:g∉gk:=λm=>by rw[Ao m]at hv;cases hv
     have np:pl≠p:=jf ld2.hl hp
     have hp0:H p=none:=kp2.free hp
     have nov:∀x∈U,gs.getD x 0≠g:=λx hx z=>m (z▸ld2.all x hx)
     have laq:∀x∈gk,(if x=g then p else la x)=la x:=λx hx=>Am (λz:x=g=>m (z▸hx))
     have ek:putK (gk.map (lk la)) (.inl (g:Int)) (V.ref p)=(gk++[g]).map (lk λx=>if x=g then p else la x):=by
      rw[jk7 _ (by rw[jh4,Am m]),A3]
      congr 1
      ·exact Ih λx hx=>by show(_,V.ref (la x))=(_,V.ref (if x=g then p else la x));rw[laq x hx]
      ·unfold lk;simp
     rw[ek,jd np.symm,jb]
     have k3:Kp [d] H (upd (upd H2 p (.lst [])) pl (.dK ((gk++[g]).map (lk λx=>if x=g then p else la x)))):=jd2 (kp2.new hp) (by rw[jd np];exact ld2.hl) (.inr hpl)
     refine⟨rfl,[],rfl,by rw[List.length_nil];omega,?_,gk++[g],λx=>if x=g then p else la x,⟨by rw[jd np,jb],?_,λx hx y hy e=>?_,λx hx=>?_,λg' hg'=>?_,λx hx=>?_,λg' hg'=>?_⟩,?_,k3.set (by rw[jd np.symm,jb]) (.inr hp0)⟩
     ·rw[jd (jf h2 hp),jd ndl,jd (jf h2 hp)];exact h2
     ·rw[Om]
      exact⟨ld2.nd,by simp,λx hx y hy e=>m ((e.trans (Aj.mp hy))▸hx)⟩
     ·have one:∀z∈gk++[g],z∈gk\/z=g:=λz hz=>by simpa using hz
      have fp:∀z∈gk,la z≠p:=λz hz=>jf (ld2.at_ z hz) hp
      rcases one x hx with h|rfl <;> rcases one y hy with h'|rfl
      ·simp only[laq x h,laq y h']at e;exact ld2.inj x h y h' e
      ·simp only[laq x h,O0]at e;exact absurd e (fp x h)
      ·simp only[laq y h',O0]at e;exact absurd e.symm (fp y h')
      ·rfl
     ·rcases Aw.mp hx with h|h
      ·simp only[laq x h];exact ld2.fr x h
      ·cases Aj.mp h;simp only[O0];exact hp0
     ·rw[jiu,hgd]
      rcases Aw.mp hg' with h|h
      ·have hl2:=ld2.at_ g' h
       have npl:la g'≠pl:=λz=>by have:=ld2.hl;rw[<-z,hl2]at this;cases this
       simp only[laq g' h]
       rw[jd (jf hl2 hp),jd npl,jd (jf hl2 hp),Am (λz:g=g'=>m (by rw[z];exact h)),O9]
       exact hl2
      ·cases Aj.mp h
       simp only[O0]
       rw[jb,jov nov];rfl
     ·rcases Aw.mp hx with h|h
      ·exact Iw _ (ld2.all x h)
      ·cases Aj.mp h;rw[hgd];simp
     ·rcases Aw.mp hg' with h|h
      ·obtain⟨x,hx,e⟩:=ld2.ne g' h
       exact⟨x,Iw _ hx,e⟩
      ·cases Aj.mp h
       exact⟨q,by simp,hgd⟩
     ·have nal:a≠pl:=λz=>by rw[z]at ha;rw[hpl]at ha;cases ha
      rw[jd (jf ha2 hp),jd nal,jd (jf ha2 hp)];exact ha2
   ·rintro σ H2 ⟨v5,gk,la,rfl,h2,ld2,ha2,kp2⟩
    rw[Ad,Ir,<-tk]at ld2
    exact⟨_,_,rfl,h2,gk,la,ld2,kp2⟩
  ·rintro σ H1 ⟨v4,v5,gk,la,rfl,h1,ld,kp⟩
   rw[Ad,Ir]at ld
   simp!
   refine⟨o,.dK (S.map dk),h1,?_⟩
   have kb:=jmv kp hd (λxs z=>nomatch z)
   have nf:∀g∈gk,la g≠d:=λg hg' z=>by have:=ld.fr g hg';rw[z,hd]at this;cases this
   exact k pl gk la _ hpl ⟨by rw[jd ndl.symm];exact ld.hl,ld.nd,ld.inj,ld.fr,λg hg'=>by rw[jd (nf g hg')];exact ld.at_ g hg',ld.all,ld.ne⟩ kb
end
def RowsM(H:Hp)(us:List V)(mv:List (List Nat)):Prop:=Paired (λv row=>∃a,v=.ref a/\H a=some (.tup (row.map nV))) us mv
theorem RowsM.kp{S:List Addr}{H H':Hp}{us:List V}{mv:List (List Nat)}(k:Kp S H H')(h:RowsM H us mv):RowsM H' us mv:=Paired.mapP h λ_ _ ⟨a,e,h⟩=>⟨a,e,k.tup _ _ h⟩
theorem RowsM.get{H:Hp}{us:List V}{mv:List (List Nat)}(h:RowsM H us mv){i:Nat}{row:List Nat}(hi:mv[i]?=some row):∃a,us[i]?=some (.ref a)/\H a=some (.tup (row.map nV)):=by
 induction h generalizing i with
 |nil=>simp at hi
 |cons h _ ih =>
  cases i with
  |zero=>obtain⟨a,e,g⟩:=h;simp at hi;subst hi;exact⟨a,by simp[e],g⟩
  |succ i=>obtain⟨a,e,g⟩:=ih (by simpa using hi);exact⟨a,by simpa using e,g⟩
def dM(mv:List (List Nat))(r a:Nat):Nat:=(mv.getD r []).getD a 0
structure MvOk(mv:List (List Nat))(m:Nat):Prop where
 ln:∀row∈mv,row.length=m
 lt:∀row∈mv,∀x∈row,x<mv.length
theorem MvOk.at_{mv:List (List Nat)}{m r a:Nat}(h:MvOk mv m)(hr:r<mv.length)(ha:a<m):(mv.getD r [])[a]?=some (dM mv r a)/\dM mv r a<mv.length:=by
 have hm:mv.getD r []∈mv:=by rw[Ac,Aa hr];exact Ic _
 have hl:a<(mv.getD r []).length:=by rw[h.ln _ hm];exact ha
 have e:(mv.getD r [])[a]?=some (dM mv r a):=by unfold dM;rw[Ac (l:=mv.getD r []),Aa hl];rfl
 exact⟨e,h.lt _ hm _ (Al e)⟩
def srcF(mv:List (List Nat))(a i r:Nat):List Nat:=(List.range i).filter λq=>decide (dM mv q a=r)
def spLF:Sp:=λvs H Q _=>∃(pm:Addr)(us:List V)(mv:List (List Nat))(m a:Nat),vs=[.ref pm,.int (a:Int)]/\H pm=some (.tup us)/\RowsM H us mv/\MvOk mv m/\a<m/\mv.length<=1000 /\
 ∀ps sl H',H ps=none->(∀x∈sl,H x=none)->Src H' ps sl (srcF mv a mv.length) mv.length->Kp [] H H'->Q (.ref ps) H'
structure TLF(mg:Str->Option Value):Prop where
 n_enumerate:mg "enumerate"=none
section
variable{P:Program}{w:World}{K:PySem.W.Frag}{mg:Str->Option Value}{base:Heap}
abbrev zi:Stmt:=top 11
theorem jaf:FnScope ["moves","sign","sources","room","row"] ["moves","sign"] (jg zi):=⟨rfl,rfl,rfl,by decide +kernel,rfl,by decide +kernel,by decide +kernel⟩
theorem ok_led_from{f:Addr}{fd:FuncData}(F:Fun K "led_from" "led_from" zi f fd)(T:TLF mg):FnOk P w K mg base CX0 1 f fd ["moves","sign"] spLF:=by
 refine F.ok jaf (λvs H Q E h=>?_) (λcdv A outer s H vs Q E hr h=>?_)
 ·obtain⟨pm,us,mv,m,a,rfl,_⟩:=h
  rfl
 ·obtain⟨pm,us,mv,m,a,rfl,hm,rw',ok,am,n9,k⟩:=h
  have hu:=hr.units
  have hsz:sizeLine=16777216:=Ij
  have ul:us.length=mv.length:=Il rw'
  refine exQ (je (jad (i:=2) jaf.nd rfl (by ac_rfl) rfl (jco (sc:=jg zi) (N:=["moves","sign","sources","room","row"]) (Nc:=["room"]) (js:=[none]) (by decide +kernel)) (kh (K:=K) (qpv 0) rfl) (λ_ _ _ _=>(jr (i:=0) (show List.Nodup [("room":Str)]from by decide +kernel) rfl (by ac_rfl))) (λ_ _ _ _=>(kx jc)))
  (je (yc A8 rfl (qpi_enumT (K:=K) rfl rfl T.n_enumerate (ja (qpv 0) jc)) (ja8 (n:=2) rfl (zg (jr (i:=3) jaf.nd rfl (by ac_rfl)) (zg (jr (i:=4) jaf.nd rfl (by ac_rfl)) ja0)) (K:=K) rfl) (jj (kj (ko A5 A6 ki (jo ix_U (qpv 2) (jo ix_U (qpv 4) (qpv 1) (λ_ _=>rfl)) (λ_ _=>rfl)) (ja (qpv 3) jc) (jib (je5 _) (jib (je5 _) (je5 _)))))))
  (jj (j3 (qpv 2))))) ?_
  simp! [hm]
  intro D hD
  refine jfg (xs:=us) (λi σ H'=>∃(v:Option V)(sl:List Addr),σ=[v]/\H' D=some (.lst (sl.map V.ref))/\sl.length=i/\sl.Nodup/\(∀x∈sl,H' x=some (.lst [])/\H x=none)/\Kp [] H H') ?_ ?_ ?_ ?_
  ·exact⟨none,[],rfl,jb,rfl,Y9,by simp,(Kp.refl [] H).new hD⟩
  ·rintro i σ H' _ ⟨_,_,rfl,_,_,_,_,kp⟩
   exact kp.tup _ _ hm
  ·rintro i x σ H1 hx ⟨v,sl,rfl,h1,hl,nd,al,kp⟩
   have hil:=(Ae.mp hx).1
   simp! [jdy]
   have nxD:∀x∈sl,x≠D:=λx hx z=>by
    have:=(al x hx).1
    rw[z,h1]at this
    cases sl with
    |nil=>cases hx
    |cons y l=>simp at this
   refine⟨by omega,λp hp=>⟨_,by rw[jd (jf h1 hp),h1];rfl,by rw[Ad];omega,sl++[p],by simp,by simp[hl],?_,λx hx=>?_,(kp.new hp).set (by rw[jd (jf h1 hp)];exact h1) (.inr hD)⟩⟩
   ·rw[Om]
    exact⟨nd,by simp,λx hx y hy e=>jf (al x hx).1 hp (e.trans (Aj.mp hy))⟩
   ·rcases Aw.mp hx with h|h
    ·obtain⟨q1,q2⟩:=al x h
     exact⟨by rw[jd (nxD x h),jd (jf q1 hp)];exact q1,q2⟩
    ·cases Aj.mp h
     exact⟨by rw[jd (jf h1 hp).symm,jb],kp.free hp⟩
  ·rintro σ H1 ⟨v,sl,rfl,h1,hl,nd,al,kp⟩
   simp!
   refine⟨⟨us,SqT.of (kp.tup _ _ hm)⟩,?_⟩
   have slD:∀(r:Nat)(x:Addr),sl[r]?=some x->x≠D/\H x=none:=λr x e=>by
    obtain⟨q1,q2⟩:=al x (Al e)
    refine⟨λz=>?_,q2⟩
    rw[z,h1]at q1
    cases sl with
    |nil=>simp at e
    |cons y l=>simp at q1
   refine jrw (xs:=us) (λi σ H'=>∃(v3 v4:Option V),σ=[some (.ref pm),some (.int (a:Int)),some (.ref D),v3,v4]/\H' D=some (.lst (sl.map V.ref))/\(∀(r:Nat)(x:Addr),sl[r]?=some x->H' x=some (.lst ((srcF mv a i r).map nV)))/\Kp [] H H') ⟨none,none,rfl,h1,λr x e=>by rw[(al x (Al e)).1];simp[srcF],kp⟩ ?_ ?_ ?_
   ·rintro i σ H' _ ⟨_,_,rfl,_,_,kp'⟩
    exact kp'.tup _ _ hm
   ·rintro i x σ H2 tt hx ⟨v3,v4,rfl,hD2,al2,kp2⟩ htt
    have hil:i<mv.length:=by rw[<-ul];exact(Ae.mp hx).1
    obtain⟨e1,tl⟩:=ok.at_ hil am
    obtain⟨c,hc,hcr⟩:=(rw'.kp kp2).get (show mv[i]?=some (mv.getD i [])by rw[Ac,Aa hil];rfl)
    rw[hx]at hc
    cases hc
    refine⟨tt,[.int (i:Int),.ref c],rfl,SqT.of jb,rfl,⟨_,_,rfl,⟨_,_,rfl,rfl,?_⟩⟩⟩
    have kT:Kp [] H2 (upd H2 tt (.tup [.int (i:Int),.ref c])):=(Kp.refl [] H2).new htt
    generalize upd H2 tt (.tup [.int (i:Int),.ref c])=H3 at kT⊢
    have hD3:=kT.old _ _ hD2 Af
    have hc3:=kT.tup _ _ hcr
    have kp3:=kp2.trans kT
    simp! [hD3,hc3]
    have ex:sl[dM mv i a]?=some (sl[dM mv i a]'(by omega)):=Aa _
    generalize sl[dM mv i a]'(by omega)=x at ex
    have hx3:=kT.old _ _ (al2 _ x ex) Af
    refine⟨nV (dM mv i a),jcm (by rw[Ag,e1];rfl),?_⟩
    unfold nV
    rw[jcp,hD3]
    refine⟨_,rfl,.ref x,jcm (by rw[Ag,ex];rfl),by show(jcx _).isSome=true;rw[hx3];rfl,?_⟩
    rw[jd6,hx3]
    obtain⟨nxD,hx0⟩:=slD _ x ex
    refine⟨_,rfl,?_,_,_,⟨rfl,rfl⟩,by rw[jd nxD.symm];exact hD3,λr y ey=>?_,kp3.set hx3 (.inr hx0)⟩
    ·rw[Ad]
     have:=Ud (λq=>decide (dM mv q a=dM mv i a)) (List.range i)
     unfold srcF
     rw[Az]at this
     omega
    ·have sn:srcF mv a (i+1) r=srcF mv a i r++if dM mv i a=r then[i]else[]:=by
      unfold srcF
      rw[Ub,Aac]
      congr 1
      by_cases h:dM mv i a=r <;> simp[h]
     rw[sn]
     by_cases c:dM mv i a=r
     ·subst c
      rw[ex]at ey
      cases ey
      rw[jb,Ao rfl,A3];rfl
     ·have ny:y≠x:=λz=>by
       rw[z]at ey
       exact c ((List.getElem?_inj (Ae.mp ex).1 nd).mp (ex.trans ey.symm))
      rw[jd ny,Am c,O9]
      exact kT.old _ _ (al2 r y ey) Af
   ·rintro σ H2 ⟨v3,v4,rfl,hD2,al2,kp2⟩
    simp!
    rw[ul]at al2
    refine k D sl H2 hD (λx hx=>(al x hx).2) ⟨hD2,by omega,al2,λr q hq=>?_,λr=>?_⟩ kp2
    ·have:=(Iy.mp hq).1
     exact Ar.mp this
    ·have:=Ud (λq=>decide (dM mv q a=r)) (List.range mv.length)
     unfold srcF
     rwa[Az]at this
end
def Ky(X:List Addr)(Hs H:Hp):Prop:=∀x u,Hs x=some u->x∉X->(∀kvs,u≠.dK kvs)->H x=some u
theorem Ky.refl(X:List Addr)(H:Hp):Ky X H H:=λ_ _ e _ _=>e
theorem Ky.kp{X S:List Addr}{Hs H H':Hp}(h:Ky X Hs H)(k:Kp S H H')(hS:∀x∈S,x∈X\/Hs x=none\/∃kvs,H x=some (.dK kvs)):Ky X Hs H':=λx u e n1 n3=>k.old x u (h x u e n1 n3) λm=>by
 rcases hS x m with z|z|⟨kvs,z⟩
 ·exact n1 z
 ·rw[z]at e;cases e
 ·rw[h x u e n1 n3]at z;exact n3 kvs (Aq z)
structure SrA(H:Hp)(X:List Addr)(psr:Addr)(mv:List (List Nat))(m:Nat)(as:List Addr):Prop where
 nx:psr∉X
 hs:H psr=some (.lst (as.map V.ref))
 ln:as.length=m
 at_:∀(a:Nat) x,as[a]?=some x->x∉X/\∃sl,(∀y∈sl,y∉X)/\Src H x sl (srcF mv a mv.length) mv.length
theorem SrA.ky{Hs H:Hp}{X:List Addr}{psr:Addr}{mv:List (List Nat)}{m:Nat}{as:List Addr}(h:SrA Hs X psr mv m as)(k:Ky X Hs H):SrA H X psr mv m as:=by
 refine⟨h.nx,k _ _ h.hs h.nx (λ_ z=>nomatch z),h.ln,λa x e=>?_⟩
 obtain⟨h1,sl,h2,s⟩:=h.at_ a x e
 exact⟨h1,sl,h2,k _ _ s.hs h1 (λ_ z=>nomatch z),s.ln,λr y ey=>k _ _ (s.at_ r y ey) (h2 y (Al ey)) (λ_ z=>nomatch z),s.lt,s.le⟩
def DuP(H:Hp)(xs:List V)(due:List (Nat×Nat)):Prop:=Paired (λv (q:Nat×Nat)=>∃t,v=.ref t/\H t=some (.tup [nV q.1,nV q.2])) xs due
theorem DuP.kp{S:List Addr}{H H':Hp}{xs:List V}{due:List (Nat×Nat)}(k:Kp S H H')(h:DuP H xs due):DuP H' xs due:=Paired.mapP h λ_ _ ⟨t,e,g⟩=>⟨t,e,k.tup _ _ g⟩
theorem DuP.app{H:Hp}{xs zs:List V}{d1 d2:List (Nat×Nat)}(a:DuP H xs d1)(b:DuP H zs d2):DuP H (xs++zs) (d1++d2):=by
 induction a with
 |nil=>exact b
 |cons h _ ih=>exact .cons h ih
theorem DuP.last{H:Hp}{xs:List V}{due:List (Nat×Nat)}{q:Nat×Nat}(h:DuP H xs (due++[q])):∃ys t,xs=ys++[.ref t]/\DuP H ys due/\H t=some (.tup [nV q.1,nV q.2]):=by
 induction due generalizing xs with
 |nil =>
  cases h with
  |cons a b =>
   cases b
   obtain⟨t,rfl,g⟩:=a
   exact⟨[],t,rfl,.nil,g⟩
 |cons d due ih =>
  cases h with
  |cons a b =>
   obtain⟨ys,t,e,hy,g⟩:=ih b
   exact⟨_::ys,t,by rw[e];rfl,.cons a hy,g⟩
theorem gG{gs:List Nat}{n r g:Nat}(hl:gs.length=n)(hr:r<n):gs[r]?=some g↔gs.getD r 0=g:=by
 rw[Ac,Aa (by omega)];simp
theorem PS.memG{H:Hp}{pp pg:Addr}{n:Nat}{ds:List Addr}{Ss:List (List Nat)}{gs:List Nat}(h:PS H pp pg n ds Ss gs){g:Nat}{S:List Nat}(e:Ss[g]?=some S)(r:Nat):r∈S↔r<n/\gs.getD r 0=g:=by
 rw[h.mem g S e r]
 exact⟨fun⟨a,b⟩=>⟨a,(gG h.gl a).mp b⟩,fun⟨a,b⟩=>⟨a,(gG h.gl a).mpr b⟩⟩
theorem PS.setL{H H':Hp}{pp pg x:Addr}{n:Nat}{ds:List Addr}{Ss:List (List Nat)}{gs:List Nat}{xs:List V}(h:PS H pp pg n ds Ss gs)(k:Kp [x] H H')(hx:H x=some (.lst xs))(n1:x≠pp)(n2:x≠pg):PS H' pp pg n ds Ss gs :=
 ⟨k.old _ _ h.hp (by simpa using n1.symm),k.old _ _ h.hg (by simpa using n2.symm),h.gl,h.dl,λi d S e1 e2=>k.old _ _ (h.at_ i d S e1 e2) (by
  have:=h.at_ i d S e1 e2
  simp only[Aj]
  intro z
  rw[z,hx]at this
  cases this),h.nd,h.ns,h.mem,h.ne,h.n9,h.gt⟩
structure GW(H0 Hs:Hp)(n:Nat)(pg pp pd:Addr)(H:Hp)(ds:List Addr)(Ss:List (List Nat))(gs:List Nat)(due:List (Nat×Nat)):Prop where
 ps:PS H pp pg n ds Ss gs
 ky:Ky [pp,pg] Hs H
 du:∃xs,H pd=some (.lst xs)/\DuP H xs due
 kp:Kp [] H0 H
 f1:H0 pp=none
 f2:H0 pg=none
 f3:H0 pd=none
 f4:Hs pd=none
 fd:∀d∈ds,H0 d=none
 n1:pd≠pp
 n2:pd≠pg
 ns:∀S∈Ss,S≠[]
theorem PS.isd{H:Hp}{pp pg:Addr}{n:Nat}{ds:List Addr}{Ss:List (List Nat)}{gs:List Nat}(h:PS H pp pg n ds Ss gs){d:Addr}(hd:d∈ds):∃kvs,H d=some (.dK kvs):=by
 obtain⟨j,hj⟩:=Iu hd
 have hjl:=(Ae.mp hj).1
 exact⟨_,h.at_ j d _ hj (Aa (by have:=h.dl;omega))⟩
section
variable{H0 Hs H H':Hp}{n:Nat}{pg pp pd:Addr}{ds:List Addr}{Ss:List (List Nat)}{gs:List Nat}{due due':List (Nat×Nat)}
theorem GW.kp0(h:GW H0 Hs n pg pp pd H ds Ss gs due)(k:Kp [] H H'):GW H0 Hs n pg pp pd H' ds Ss gs due:=by
 obtain⟨xs,e,d⟩:=h.du
 exact⟨h.ps.kp k,h.ky.kp k (by simp),⟨xs,k.old _ _ e Af,d.kp k⟩,h.kp.trans k,h.f1,h.f2,h.f3,h.f4,h.fd,h.n1,h.n2,h.ns⟩
theorem GW.setd(h:GW H0 Hs n pg pp pd H ds Ss gs due){xs':List V}(d:DuP H xs' due'):GW H0 Hs n pg pp pd (upd H pd (.lst xs')) ds Ss gs due':=by
 obtain⟨xs,e,_⟩:=h.du
 have k:Kp [pd] H (upd H pd (.lst xs')):=(Kp.refl [pd] H).set e (.inl (.head _))
 exact⟨h.ps.setL k e h.n1 h.n2,h.ky.kp k (λx hx=>by simp at hx;subst hx;exact .inr (.inl h.f4)),⟨xs',jb,d.kp k⟩,h.kp.set e (.inr h.f3),h.f1,h.f2,h.f3,h.f4,h.fd,h.n1,h.n2,h.ns⟩
theorem GW.cut(h:GW H0 Hs n pg pp pd H ds Ss gs due){d':Addr}{i:Nat}{S sh gs':List Nat}(p':PS H' pp pg n (ds++[d']) (Ss.set i S++[sh]) gs')(k:Kp (pp::pg::ds) H H')(hd:H d'=none)(s1:S≠[])(s2:sh≠[]):GW H0 Hs n pg pp pd H' (ds++[d']) (Ss.set i S++[sh]) gs' due:=by
 obtain⟨xs,e,d⟩:=h.du
 have npd:pd∉pp::pg::ds:=λm=>by
  rcases Ap.mp m with z|m
  ·exact h.n1 z
  rcases Ap.mp m with z|m
  ·exact h.n2 z
  obtain⟨kvs,z⟩:=h.ps.isd m
  rw[e]at z;cases z
 refine⟨p',h.ky.kp k λx hx=>?_,⟨xs,k.old _ _ e npd,d.kp k⟩,h.kp.trans' k λx hx=>.inr ?_,h.f1,h.f2,h.f3,h.f4,λx hx=>?_,h.n1,h.n2,λU hU=>?_⟩
 ·rcases Ap.mp hx with rfl|hx
  ·exact .inl (by simp)
  rcases Ap.mp hx with rfl|hx
  ·exact .inl (by simp)
  exact .inr (.inr (h.ps.isd hx))
 ·rcases Ap.mp hx with rfl|hx
  ·exact h.f1
  rcases Ap.mp hx with rfl|hx
  ·exact h.f2
  exact h.fd x hx
 ·rcases Aw.mp hx with hx|hx
  ·exact h.fd x hx
  ·cases Aj.mp hx;exact h.kp.free hd
 ·rcases Aw.mp hU with hU|hU
  ·rcases W9 hU with hU|rfl
   ·exact h.ns U hU
   ·exact s1
  ·cases Aj.mp hU;exact s2
theorem GW.le(h:GW H0 Hs n pg pp pd H ds Ss gs due):ds.length<=n:=by
 have:=jcy (l:=List.range ds.length) (zs:=(List.range n).map λr=>gs.getD r 0) Iq λk hk=>by
  have hk:=Ar.mp hk
  have e:Ss[k]?=some (Ss[k]'(by have:=h.ps.dl;omega)):=Aa _
  obtain⟨r,hr⟩:=List.exists_mem_of_ne_nil _ (h.ns _ (Al e))
  obtain⟨h1,h2⟩:=(h.ps.memG e r).mp hr
  exact An.mpr ⟨r,Ar.mpr h1,h2⟩
 simpa using this
end
theorem mem_T{mv:List (List Nat)}{a q n:Nat}{S:List Nat}:q∈S.flatMap (srcF mv a n)↔q<n/\dM mv q a∈S:=by
 unfold srcF
 simp only[List.mem_flatMap,Iy,Ar,Uv]
 exact⟨fun⟨x,h1,h2,h3⟩=>⟨h2,h3▸h1⟩,fun⟨h1,h2⟩=>⟨_,h2,h1,rfl⟩⟩
theorem nd_T{mv:List (List Nat)}{a n:Nat}:∀{S:List Nat},S.Nodup->(S.flatMap (srcF mv a n)).Nodup
 |[],_=>Y9
 |x::S,nd=>by
  obtain⟨nx,nd⟩:=Of.mp nd
  rw[List.flatMap_cons,Om]
  refine⟨(Iq).filter _,nd_T nd,λy hy z hz e=>?_⟩
  subst e
  have h1:=(mem_T.mp hz).2
  have h2:=(Iy.mp hy).2
  simp at h2
  rw[h2]at h1
  exact nx h1
theorem jmo{L S:List Nat}(nd:L.Nodup)(sub:∀r∈L,r∈S)(e:L.length=S.length){r:Nat}(hr:r∈S):r∈L:=Ig λn=>by
 have:=jcy (l:=r::L) (zs:=S) (Of.mpr ⟨n,nd⟩) λx hx=>by
  rcases Ap.mp hx with rfl|hx
  ·exact hr
  ·exact sub x hx
 rw[List.length_cons]at this
 omega
theorem CI.part{M:Mc}{G0 G:Nat->Nat}{p0 i a g p:Nat}{rest:List Nat}(h:CI M G0 p0 i a (g::rest) G p)(gp:g<p0){r:Nat}(hr:r<M.n):G r=g↔G0 r=g:=by
 obtain⟨par,h1,h2⟩:=h.par
 refine⟨λe=>?_,λe=>?_⟩
 ·rw[<-h1 r hr,e,h2 g gp]
 ·rw[h.un r hr (e▸.head _),e]
theorem jm5{L S sh:List Nat}(ndL:L.Nodup)(sub:∀r∈L,r∈S)(nn:¬(L=[]\/L.length=S.length))(ndS:S.Nodup)(how:(∀r,r∈sh↔r∈L)\/∀r,r∈sh↔r∈S/\r∉L):S.filter (λr=>!decide (r∈sh))≠[]:=λz=>by
 have all:∀r∈S,r∈sh:=λr hr=>by
  have:=Yt.mp z r hr
  simpa using this
 rcases how with w|w
 ·exact nn (.inr (Nat.le_antisymm (jcy ndL sub) (jcy ndS λr hr=>(w r).mp (all r hr))))
 ·cases hL:L with
  |nil=>exact nn (.inl hL)
  |cons x L' =>
   have hx:x∈L:=by rw[hL];exact .head _
   exact((w x).mp (all x (sub x hx))).2 hx
def mcOf(mv:List (List Nat))(m:Nat)(ys:List Bool):Mc:=⟨mv.length,m,dM mv,λr=>ys.getD r false⟩
theorem jds{mv:List (List Nat)}{m:Nat}{ys:List Bool}(h:MvOk mv m):(mcOf mv m ys).ok:=⟨λ_ _ hr ha=>(h.at_ hr ha).2⟩
def allB(k m:Nat):List (Nat×Nat):=(List.range m).map λb=>(k,b)
theorem mem_allB{k m k' b:Nat}:(k',b)∈allB k m↔k'=k/\b<m:=by
 unfold allB
 simp only[An,Ar,Prod.mk.injEq]
 exact⟨fun⟨x,h1,h2,h3⟩=>⟨h2.symm,h3▸h1⟩,fun⟨h1,h2⟩=>⟨b,h2,h1.symm,rfl⟩⟩
def tkT(k:Nat)(y x:V)(H:Hp):Prop:=∃t,x=.ref t/\H t=some (.tup [nV k,y])
theorem jlx(k:Nat)(y:V):Firm (tkT k y):=λS x H1 H2 kp ⟨t,e,h⟩=>⟨t,e,kp.tup _ _ h⟩
theorem jnp{H:Hp}{k:Nat}:∀{L:List Nat}{xs:List V},Paired (λy x=>tkT k y x H) (L.map nV) xs->DuP H xs (L.map λb=>(k,b))
 |[],xs,h=>by cases h;exact .nil
 |r::L,xs,h=>by
  rw[Ay]at h
  cases h with
  |cons a t =>
   obtain⟨q,e,g⟩:=a
   exact .cons ⟨q,e,g⟩ (jnp t)
theorem jcd{H:Hp}:∀{L:List Nat}{xs:List V},Paired (fun(i:Nat) x=>prT (.int (0+(i:Int))) x H) L xs->PairsK H xs (L.map dk)
 |[],xs,h=>by cases h;exact .nil
 |r::L,xs,h=>by
  cases h with
  |cons a t =>
   obtain⟨q,e,g⟩:=a
   rw[O6]at g
   exact .cons ⟨q,e,g⟩ (jcd t)
theorem PS.one{H:Hp}{pp pg d:Addr}{n:Nat}(hp:H pp=some (.lst [.ref d]))(hg:H pg=some (.lst ((List.replicate n 0).map nV)))(hd:H d=some (.dK ((List.range n).map dk)))(ne:pp≠pg)(n9:n<=1000):PS H pp pg n [d] [List.range n] (List.replicate n 0):=by
 refine⟨hp,hg,by simp,rfl,λi x S e1 e2=>?_,by simp,λS hS=>?_,λi S e r=>?_,ne,n9,λr g e=>?_⟩
 ·cases i with
  |zero=>simp at e1 e2;subst e1 e2;exact hd
  |succ i=>simp at e1
 ·simp at hS;subst hS;exact Iq
 ·cases i with
  |zero=>simp at e;subst e;simp[U0]
  |succ i=>simp at e
 ·rw[U0]at e
  split at e
  ·cases e;simp
  ·cases e
def J1(H:Hp)(mv:List (List Nat))(m:Nat)(ys:List Bool)(H':Hp)(psg pg pp:Addr)(ds:List Addr)(Ss:List (List Nat))(gs:List Nat):Prop :=
 PS H' pp pg mv.length ds Ss gs/\H' psg=some (.lst ((List.range m).map nV))/\psg∉[pp,pg]/\Kp [] H H'/\H pp=none/\H pg=none/\(∀d∈ds,H d=none)/\(∀S∈Ss,S≠[]) /\
  ∀r s,r<mv.length->s<mv.length->(gs.getD r 0=gs.getD s 0↔ys.getD r false=ys.getD s false)
def spGR:Sp:=λvs H Q _=>∃(pm py:Addr)(us:List V)(mv:List (List Nat))(m:Nat)(ys:List Bool),vs=[.ref pm,.ref py]/\H pm=some (.tup us)/\RowsM H us mv/\MvOk mv m/\H py=some (.lst (ys.map V.bl))/\ys.length=mv.length/\1<=mv.length/\mv.length<=1000/\m<=1000 /\
 ∀(pg:Addr)(gs:List Nat)(H':Hp),H pg=none->H' pg=some (.lst (gs.map nV))->gs.length=mv.length->(∀r s,r<mv.length->s<mv.length->(gs.getD r 0=gs.getD s 0↔(mcOf mv m ys).eq r s))->(∀r,r<mv.length->gs.getD r 0<mv.length)->Kp [] H H'->Q (.ref pg) H'
structure TGR(mg:Str->Option Value)(fc fl fi:Addr):Prop where
 n_len:mg "len"=none
 n_list:mg "list"=none
 n_range:mg "range"=none
 n_dict:mg "dict"=none
 m_cut:mg "cut"=some (.ref fc)
 m19z:mg "led_from"=some (.ref fl)
 m17z:mg "leading_into"=some (.ref fi)
section
variable{P:Program}{w:World}{K:PySem.W.Frag}{mg:Str->Option Value}{base:Heap}
abbrev j4:Stmt:=top 10
theorem kn:FnScope ["moves","yes","signs","groups","parts","sources","due","part","task","leading"] ["moves","yes"] (jg j4):=⟨rfl,rfl,rfl,by decide +kernel,rfl,by decide +kernel,by decide +kernel⟩
theorem ok_groups_of_rooms{f fc fl fi:Addr}{fd fdc fdl fdi:FuncData}(F:Fun K "groups_of_rooms" "groups_of_rooms" j4 f fd)(T:TGR mg fc fl fi)(F_cut:Fun K "cut" "cut" jaa fc fdc)(b_cut:Binds K fdc ["parts","groups","number","share"] [])
  (G_cut:FnOk P w K mg base CX0 1 fc fdc ["parts","groups","number","share"] jq3) (F19z:Fun K "led_from" "led_from" zi fl fdl) (b19z:Binds K fdl ["moves","sign"] [])
  (G19z:FnOk P w K mg base CX0 1 fl fdl ["moves","sign"] spLF) (F17z:Fun K "leading_into" "leading_into" yu fi fdi) (b17z:Binds K fdi ["part","sources","groups"] [])
  (G17z:FnOk P w K mg base CX0 1 fi fdi ["part","sources","groups"] spLI):FnOk P w K mg base CX0 2 f fd ["moves","yes"] spGR:=by
 refine F.ok kn (λvs H Q E h=>?_) (λcdv A outer s H vs Q E hr h=>?_)
 ·obtain⟨pm,py,us,mv,m,ys,rfl,_⟩:=h
  rfl
 ·obtain⟨pm,py,us,mv,m,ys,rfl,hm,rw',ok,hy,yl,n1,n9,m9,k⟩:=h
  have hu:=hr.units
  have hsz:sizeLine=16777216:=Ij
  have hu1:(A.deeper (PyProof.Rows.envOfC (Str.ofString "groups_of_rooms") (jg j4) s.heap.objs.size f cdv)).units+1<cLine:=by omega
  have ul:us.length=mv.length:=Il rw'
  refine exQ (je (jq (i:=2) kn.nd rfl (by ac_rfl) (jv (jbh rfl) (by rfl) T.n_list jan (ja (jv jbc (by rfl) T.n_range jb2 (ja (jt jw (by rfl) T.n_len j6 (ja (jo ix_U (qpv 0) jh (λ_ _=>rfl)) jc)) jc)) jc)))
  (je (jad (i:=3) kn.nd rfl (by ac_rfl) rfl (jco (sc:=jg j4) (N:=["moves","yes","signs","groups","parts","sources","due","part","task","leading"]) (Nc:=["room"]) (js:=[none]) (by decide +kernel)) (kh (K:=K) (qpv 0) rfl) (λ_ _ _ _=>(jr (i:=0) (show List.Nodup [("room":Str)]from by decide +kernel) rfl (by ac_rfl))) (λ_ _ _ _=>jh))
  (je (jq (i:=4) kn.nd rfl (by ac_rfl) (kx (ja (jv (jax rfl hu) (by rfl) T.n_dict jbo (ja (yp rfl (jco (sc:=jg j4) (N:=["moves","yes","signs","groups","parts","sources","due","part","task","leading"]) (Nc:=["room"]) (js:=[none]) (by decide +kernel)) (yg rfl T.n_range (ja (jt jw (by rfl) T.n_len j6 (ja (qpv 0) jc)) jc)) (λ_ _ _ _=>(jr (i:=0) (show List.Nodup [("room":Str)]from by decide +kernel) rfl (by ac_rfl))) (λ_ _ _ _=>(yq (ja (qpv 0) (ja zr jc))))) jc)) jc)))
  (yh (kj (ju G_cut (hr.mono (by decide)) rfl T.m_cut F_cut.kp b_cut .nil ka (ja (qpv 4) (ja (qpv 3) (ja jh (ja (jbk rfl (jco (sc:=jg j4) (N:=["moves","yes","signs","groups","parts","sources","due","part","task","leading"]) (Nc:=["room","yes"]) (js:=[none,some 1]) (by decide +kernel)) (yg rfl T.n_range (ja (jt jw (by rfl) T.n_len j6 (ja (qpv 1) jc)) jc)) (λ_ _ _ _=>(jr (i:=0) (show List.Nodup [("room":Str),("yes":Str)]from by decide +kernel) rfl (by ac_rfl))) (λ_ _ _ _=>(jap (jo ix_U (qpv 1) (qpv 0) (λ_ _=>rfl)))) (λ_ _ _ _=>(qpv 0))) jc))))))
  (yh (jad (i:=5) kn.nd rfl (by ac_rfl) rfl (jco (sc:=jg j4) (N:=["moves","yes","signs","groups","parts","sources","due","part","task","leading"]) (Nc:=["sign","moves"]) (js:=[none,some 0]) (by decide +kernel)) (kh (K:=K) (qpv 2) rfl) (λ_ _ _ _=>(jr (i:=0) (show List.Nodup [("sign":Str),("moves":Str)]from by decide +kernel) rfl (by ac_rfl))) (λ_ _ _ _=>(ju G19z (hr.mono (by decide)) rfl T.m19z F19z.kp b19z .nil ka (ja (qpv 1) (ja (qpv 0) jc)))))
  (je (jq (i:=6) kn.nd rfl (by ac_rfl) (kx jc))
  (yh (yc A8 rfl (yg rfl T.n_range (ja (jt jw (by rfl) T.n_len j6 (ja (qpv 4) jc)) jc)) (jr (i:=7) kn.nd rfl (by ac_rfl)) (jj (kj (ko PySem.F.slot_list_extend PySem.F.type_list_extend jbi (qpv 6) (ja (yp rfl (jco (sc:=jg j4) (N:=["moves","yes","signs","groups","parts","sources","due","part","task","leading"]) (Nc:=["sign","part"]) (js:=[none,some 7]) (by decide +kernel)) (kh (K:=K) (qpv 2) rfl) (λ_ _ _ _=>(jr (i:=0) (show List.Nodup [("sign":Str),("part":Str)]from by decide +kernel) rfl (by ac_rfl))) (λ_ _ _ _=>(yq (ja (qpv 1) (ja (qpv 0) jc))))) jc) jcq))))
  (je (zy A8 (qpt_tru (qpv 6)) (je (jq (i:=8) kn.nd rfl (by ac_rfl) (qpe_bmL0 PySem.F.slot_list_pop PySem.F.type_list_pop mt_pop0U (qpv 6) jcq))
  (je (jq (i:=9) kn.nd rfl (by ac_rfl) (ju G17z (hr.mono (by decide)) rfl T.m17z F17z.kp b17z .nil ka (ja (jo ix_U (qpv 4) (jo ix_U (qpv 8) jh (λ_ _=>rfl)) (λ_ _=>rfl)) (ja (jo ix_U (qpv 5) (jo ix_U (qpv 8) jh (λ_ _=>rfl)) (λ_ _=>rfl)) (ja (qpv 3) jc)))))
  (jj (yc A8 rfl (jb7 (qpv 9)) (jr (i:=7) kn.nd rfl (by ac_rfl)) (jj (yf (jap (ju G_cut (hr.mono (by decide)) rfl T.m_cut F_cut.kp b_cut .nil ka (ja (qpv 4) (ja (qpv 3) (ja (qpv 7) (ja (jaz hu1 (qpv 9) (qpv 7) (λ_ _=>rfl)) jc)))))) (jj (kj (ko PySem.F.slot_list_extend PySem.F.type_list_extend jbi (qpv 6) (ja (yp rfl (jco (sc:=jg j4) (N:=["moves","yes","signs","groups","parts","sources","due","part","task","leading"]) (Nc:=["sign","parts"]) (js:=[none,some 4]) (by decide +kernel)) (kh (K:=K) (qpv 2) rfl) (λ_ _ _ _=>(jr (i:=0) (show List.Nodup [("sign":Str),("parts":Str)]from by decide +kernel) rfl (by ac_rfl))) (λ_ _ _ _=>(yq (ja (jz op_sub (jt jw (by rfl) T.n_len j6 (ja (qpv 1) jc)) jh) (ja (qpv 0) jc))))) jc) jcq))) kg)))))))
  (jj (j3 (qpv 3))))))))))) ?_
  obtain⟨c0,hc0,hr0⟩:=rw'.get (show mv[0]?=some (mv.getD 0 [])by rw[Ac,Aa (by omega)];rfl)
  have l0:(mv.getD 0 []).length=m:=ok.ln _ (by rw[Ac,Aa (by omega)];exact Ic _)
  simp! [hm]
  refine⟨.ref c0,jcm (j:=0) hc0,?_⟩
  simp! [hr0]
  rw[Ad,l0]
  refine⟨by omega,by omega,λpr hpr=>⟨0,m,jb,by decide,by decide,by omega,by omega,by omega,λpsg hsg=>?_⟩⟩
  have k1:Kp [] H (upd (upd H pr (.rng 0 m)) psg (.lst ((List.range ((m:Int)-0).toNat).map λi=>V.int (0+(i:Nat))))):=((Kp.refl [] H).new hpr).new hsg
  have e1:upd (upd H pr (.rng 0 m)) psg (.lst ((List.range ((m:Int)-0).toNat).map λi=>V.int (0+(i:Nat)))) psg=some (.lst ((List.range m).map nV)):=by
   rw[jb,show((m:Int)-0).toNat=m by omega]
   congr 2
   exact Ih λi _=>by rw[O6];rfl
  generalize upd (upd H pr (.rng 0 m)) psg (.lst ((List.range ((m:Int)-0).toNat).map λi=>V.int (0+(i:Nat))))=H1 at k1 e1⊢
  have hm1:=k1.tup _ _ hm
  simp only[hm1]
  intro pg hpg
  refine jdz (λ_=>nV 0) hm1 hpg (by omega) (λx hx l Q' q=>q) λvv=>?_
  have k2:Kp [] H (upd H1 pg (.lst (us.map λ_=>nV 0))):=k1.new hpg
  have e2:upd H1 pg (.lst (us.map λ_=>nV 0)) pg=some (.lst ((List.replicate mv.length 0).map nV)):=by
   rw[jb,<-ul,List.map_replicate,List.map_const']
  have g2:upd H1 pg (.lst (us.map λ_=>nV 0)) psg=some (.lst ((List.range m).map nV)):=by rw[jd (jf e1 hpg)];exact e1
  have nsg:=jf e1 hpg
  have hg0:H pg=none:=k1.free hpg
  generalize upd H1 pg (.lst (us.map λ_=>nV 0))=H2 at k2 e2 g2⊢
  refine⟨us,by rw[k2.tup _ _ hm];rfl,by omega,by omega,λD1 hD1=>?_⟩
  rw[show((us.length:Int)).toNat=mv.length by omega]
  refine jl3 (λi=>prT (.int (0+(i:Int)))) (λi=>jgs _) hD1 (by omega) (λi H' Q' hi k' q=>?_) λv1 xs H3 k3 hx3 pr3=>?_
  ·simp!
   exact⟨by omega,λt ht=>q _ _ ((Kp.refl [] H').new ht) ⟨t,rfl,jb⟩⟩
  dsimp only
  refine rDictK.of hx3 (jcd pr3) λd0 hd0=>⟨by omega,λpp hpp=>?_⟩
  rw[jfq Iq]at hpp⊢
  have k4:Kp [] H (upd (upd H3 d0 (.dK ((List.range mv.length).map dk))) pp (.lst [.ref d0])):=((k2.trans k3).new hd0).new hpp
  have k34:Kp [] H2 (upd (upd H3 d0 (.dK ((List.range mv.length).map dk))) pp (.lst [.ref d0])):=(k3.new hd0).new hpp
  have nd0:d0≠pp:=jf jb hpp
  have g4:=k34.old _ _ g2 Af
  have e4:=k34.old _ _ e2 Af
  have ngp:pg≠pp:=jf ((k3.new hd0).old _ _ e2 Af) hpp
  have nsp:psg≠pp:=jf ((k3.new hd0).old _ _ g2 Af) hpp
  have hp0:H pp=none:=((k2.trans k3).new hd0).free hpp
  have hd00:H d0=none:=(k2.trans k3).free hd0
  have ps4:PS (upd (upd H3 d0 (.dK ((List.range mv.length).map dk))) pp (.lst [.ref d0])) pp pg mv.length [d0] [List.range mv.length] (List.replicate mv.length 0):=PS.one jb e4 (by rw[jd nd0,jb]) ngp.symm n9
  generalize upd (upd H3 d0 (.dK ((List.range mv.length).map dk))) pp (.lst [.ref d0])=H4 at k4 k34 g4 e4 ps4⊢
  refine⟨λσ' H'=>∃(psg pg pp:Addr)(ds:List Addr)(Ss:List (List Nat))(gs:List Nat),σ'=[some (.ref pm),some (.ref py),some (.ref psg),some (.ref pg),some (.ref pp),none,none,none,none,none]/\J1 H mv m ys H' psg pg pp ds Ss gs,?_,?_⟩
  ·have hy4:=k4.old _ _ hy Af
   simp! [hy4]
   rw[Ad,yl]
   refine⟨by omega,by omega,λD2 hD2=>?_⟩
   have nyD:py≠D2:=jf hy4 hD2
   refine jfm (λi=>ys.getD i false) (λi=>V.int (0+(i:Nat))) (by omega) (λi hi l Q' q=>?_) (λi hi _ l Q' q=>by simp!;exact q) λvv=>?_
   ·simp!
    rw[jd nyD,hy4]
    exact⟨_,rfl,.bl (ys.getD i false),by rw[O6];exact jcm (by rw[Ag,Ac,Aa (by omega)];rfl),_,rfl,q⟩
   dsimp only
   rw[show((mv.length:Int)).toNat=mv.length by omega]
   have hm5:(((List.range mv.length).filter λi=>ys.getD i false).map λi=>V.int (0+(i:Nat)))=((List.range mv.length).filter λi=>ys.getD i false).map nV:=Ih λi _=>by rw[O6];rfl
   rw[hm5]
   have k5:Kp [] H4 (upd H4 D2 (.lst (((List.range mv.length).filter λi=>ys.getD i false).map nV))):=(Kp.refl [] H4).new hD2
   have e5:upd H4 D2 (.lst (((List.range mv.length).filter λi=>ys.getD i false).map nV)) D2=some (.lst (((List.range mv.length).filter λi=>ys.getD i false).map nV)):=jb
   have nD1:D2≠pp:=(jf ps4.hp hD2).symm
   have nD2:D2≠pg:=(jf ps4.hg hD2).symm
   generalize upd H4 D2 (.lst (((List.range mv.length).filter λi=>ys.getD i false).map nV))=H5 at k5 e5⊢
   have memL:∀r,r∈(List.range mv.length).filter (λi=>ys.getD i false)↔r<mv.length/\ys.getD r false=true:=λr=>by simp[Iy]
   have ndL:((List.range mv.length).filter λi=>ys.getD i false).Nodup:=Iq.filter _
   have subL:∀r∈(List.range mv.length).filter (λi=>ys.getD i false),r∈List.range mv.length:=λr hr=>(Iy.mp hr).1
   generalize(List.range mv.length).filter (λi=>ys.getD i false)=L at e5 memL ndL subL
   have ps5:=ps4.kp k5
   have r0:∀r,r<mv.length->(List.replicate mv.length 0).getD r 0=0:=λr hr=>by simp[Ac,U0,hr]
   refine⟨pp,pg,D2,mv.length,[d0],[List.range mv.length],List.replicate mv.length 0,0,List.range mv.length,L,rfl,ps5,rfl,e5,ndL,subL,nD1,nD2,by simp,λc H6 k6=>?_,λnn sh d' H6 nds nes hd' subs how p6 k6=>?_⟩
   ·refine⟨psg,pg,pp,⟨rfl,rfl,rfl⟩,_,_,_,ps5.kp k6,k6.old _ _ (k5.old _ _ g4 Af) (by simp),by simp[nsp,nsg],(k4.trans k5).trans k6,hp0,hg0,by simpa using hd00,λS hS=>?_,λr s hr hs=>?_⟩
    ·simp at hS;subst hS;intro z
     have:=Um List.length z
     rw[Az,List.length_nil]at this;omega
    ·rw[r0 r hr,r0 s hs]
     refine⟨λ_=>?_,λ_=>rfl⟩
     rcases c with c|c
     ·have no:∀r,r<mv.length->ys.getD r false=false:=λr hr=>by
       have:=memL r
       rw[c]at this
       simpa[hr]using this
      rw[no r hr,no s hs]
     ·have al:∀r,r<mv.length->ys.getD r false=true:=λr hr=>((memL r).mp (jmo ndL subL c (Ar.mpr hr))).2
      rw[al r hr,al s hs]
   ·have gat:∀r,r<mv.length->(gsF (List.replicate mv.length 0) sh [d0].length).getD r 0=if r∈sh then 1 else 0:=λr hr=>by
     rw[Ac,jhe sh _ r _ (by simpa using hr)]
     by_cases c:r∈sh
     ·rw[Ao c,Ao c];rfl
     ·rw[Am c,Am c,<-Ac,r0 r hr]
    have k45:=k4.trans k5
    have dk5:H5 d0=some (.dK ((List.range mv.length).map dk)):=ps5.at_ 0 d0 _ rfl rfl
    refine⟨psg,pg,pp,⟨rfl,rfl,rfl⟩,_,_,_,p6,k6.old _ _ (k5.old _ _ g4 Af) ?_,by simp[nsp,nsg],k45.trans' k6 (λx hx=>.inr ?_),hp0,hg0,λx hx=>?_,λS hS=>?_,λr s hr hs=>?_⟩
    ·simp only[Ap,Af,O2,not_or]
     refine⟨nsp,nsg,λz=>?_⟩
     have:=k5.old _ _ g4 Af
     rw[z,dk5]at this;cases this
    ·simp only[Ap,Af,O2]at hx
     rcases hx with rfl|rfl|rfl
     ·exact hp0
     ·exact hg0
     ·exact hd00
    ·simp only[List.cons_append,List.nil_append,Ap,Af,O2]at hx
     rcases hx with rfl|rfl
     ·exact hd00
     ·exact k45.free hd'
    ·rcases Aw.mp hS with hS|hS
     ·rcases W9 hS with hS|rfl
      ·simp at hS;subst hS;intro z
       have:=Um List.length z
       rw[Az,List.length_nil]at this;omega
      ·exact jm5 ndL subL nn Iq how
     ·cases Aj.mp hS;exact nes
    ·rw[gat r hr,gat s hs]
     rcases how with w|w
     ·have e1:∀r,r<mv.length->(r∈sh↔ys.getD r false=true):=λr hr=>by rw[w,memL];simp[hr]
      simp only[e1 r hr,e1 s hs]
      cases ys.getD r false <;> cases ys.getD s false <;> simp
     ·have e1:∀r,r<mv.length->(r∈sh↔ys.getD r false=false):=λr hr=>by rw[w,memL];simp[hr]
      simp only[e1 r hr,e1 s hs]
      cases ys.getD r false <;> cases ys.getD s false <;> simp
  rintro _ H5 ⟨psg,pg,pp,ds,Ss,gs,rfl,j1⟩
  obtain⟨ps5,g5,nsg,k5,hp0,hg0,fd,ns,ye⟩:=j1
  obtain⟨V8,hV8⟩:∃V8:L2.St->Hp->Prop,∀σ' H',V8 σ' H'↔(∃(psr:Addr)(as:List Addr),σ'=[some (.ref pm),some (.ref py),some (.ref psg),some (.ref pg),some (.ref pp),some (.ref psr),none,none,none,none]/\SrA H' [pp,pg] psr mv m as/\Kp [] H5 H'):=⟨_,λ_ _=>On⟩
  refine⟨V8,?_,?_⟩
  ·simp! [g5]
   intro D hD
   refine jdm (xs:=(List.range m).map nV) (λi σ H'=>∃(v:Option V)(as:List Addr),σ=[v,some (.ref pm)]/\H' D=some (.lst (as.map V.ref))/\as.length=i/\(∀(a:Nat) x,as[a]?=some x->H5 x=none/\x≠D/\∃sl,(∀y∈sl,H5 y=none/\y≠D)/\Src H' x sl (srcF mv a mv.length) mv.length)/\Kp [] H5 H') ?_ ?_ ?_ ?_
   ·exact⟨none,[],rfl,jb,rfl,by simp,(Kp.refl [] H5).new hD⟩
   ·rintro i σ H' _ ⟨_,_,rfl,_,_,_,kp⟩
    exact kp.old _ _ g5 Af
   ·rintro i x σ H6 hx ⟨v,as,rfl,hD6,al,at6,kp⟩
    rw[Ag]at hx
    obtain⟨r,hr',rfl⟩:=Ie.mp hx
    have hi:i<m:=by have:=(Ae.mp hr').1;simpa using this
    rw[Oo hi]at hr'
    cases hr'
    have k56:=k5.trans kp
    simp! [jdy]
    refine⟨pm,us,mv,m,i,rfl,k56.tup _ _ hm,rw'.kp k56,ok,hi,n9,λps sl H7 hps hsl src k7=>?_⟩
    have hD7:=k7.old _ _ hD6 Af
    have hD56:H5 D=none:=hD
    have nps:ps≠D:=λz=>by rw[z,hD6]at hps;cases hps
    have k8:Kp [D] H6 (upd H7 D (.lst (as.map V.ref++[.ref ps]))):=((k7.mono (by simp)).set hD7 (.inl (.head _)))
    have k78:Kp [D] H7 (upd H7 D (.lst (as.map V.ref++[.ref ps]))):=((Kp.refl [D] H7).set hD7 (.inl (.head _)))
    refine⟨_,by rw[hD7];rfl,by rw[Ad];omega,as++[ps],by rw[A3];rfl,by simp[al],λa x e=>?_,(kp.trans k7).set hD7 (.inr hD)⟩
    have srcD:∀{Hx Hy:Hp}{x:Addr}{sl:List Addr}{Sr:Nat->List Nat}{n:Nat},Kp [D] Hx Hy->x≠D->(∀y∈sl,y≠D)->Src Hx x sl Sr n->Src Hy x sl Sr n:=λk nx ny s=>⟨k.old _ _ s.hs (by simpa using nx),s.ln,λr y ey=>k.old _ _ (s.at_ r y ey) (by simpa using ny y (Al ey)),s.lt,s.le⟩
    rcases Yp a as.length with l|l|l
    ·rw[A2 l]at e
     obtain⟨q1,q2,sl',q3,q4⟩:=at6 a x e
     exact⟨q1,q2,sl',q3,srcD k8 q2 (λy hy=>(q3 y hy).2) q4⟩
    ·subst l
     rw[A9 (Ak _)]at e
     simp at e
     subst e
     rw[al]
     have nsl:∀y∈sl,y≠D:=λy hy z=>by have:=hsl y hy;rw[z,hD6]at this;cases this
     exact⟨kp.free hps,nps,sl,λy hy=>⟨kp.free (hsl y hy),nsl y hy⟩,srcD k78 nps nsl src⟩
    ·rw[I0 (by simp;omega)]at e
     cases e
   ·rintro σ H6 ⟨v,as,rfl,hD6,al,at6,kp⟩
    simp!
    have no:∀x,H5 x=none->x∉[pp,pg]:=λx hx m=>by
     simp only[Ap,Af,O2]at m
     rcases m with rfl|rfl
     ·rw[ps5.hp]at hx;cases hx
     ·rw[ps5.hg]at hx;cases hx
    refine(hV8 _ _).mpr ⟨_,as,rfl,⟨no D hD,hD6,by rw[al];simp,λa x e=>?_⟩,kp⟩
    obtain⟨q1,q2,sl',q3,q4⟩:=at6 a x e
    exact⟨no x q1,sl',λy hy=>no y (q3 y hy).1,q4⟩
  intro σ' H6 hw
  obtain⟨psr,as,rfl,sr,k6⟩:=(hV8 _ _).mp hw
  clear hw
  have ps6:=ps5.kp k6
  have g6:=k6.old _ _ g5 Af
  have k06:=k5.trans k6
  simp!
  refine⟨by omega,λpd hpd=>?_⟩
  have gw0:GW H H6 mv.length pg pp pd (upd H6 pd (.lst [])) ds Ss gs []:=⟨ps6.kp ((Kp.refl [] H6).new hpd),(Ky.refl _ H6).kp ((Kp.refl [] H6).new hpd) (by simp),⟨[],jb,.nil⟩,k06.new hpd,hp0,hg0,k06.free hpd,hpd,fd,(jf ps6.hp hpd).symm,(jf ps6.hg hpd).symm,ns⟩
  generalize upd H6 pd (.lst [])=H7 at gw0⊢
  have dn:ds.length<=mv.length:=gw0.le
  have sgk:∀{H':Hp}{ds:List Addr}{Ss:List (List Nat)}{gs:List Nat}{due:List (Nat×Nat)},GW H H6 mv.length pg pp pd H' ds Ss gs due->H' psg=some (.lst ((List.range m).map nV)):=λg=>g.ky _ _ g6 nsg (λ_ z=>nomatch z)
  have mul:∀{p:Nat},p<=mv.length->p*m<=1000000:=λhp=>Im (Nat.mul_le_mul (Im hp n9) m9) (by decide)
  obtain⟨V7,hV7⟩:∃V7:L2.St->Hp->Prop,∀σ' H',V7 σ' H'↔(∃(v7:Option V)(due:List (Nat×Nat)),σ'=[some (.ref pm),some (.ref py),some (.ref psg),some (.ref pg),some (.ref pp),some (.ref psr),some (.ref pd),v7,none,none]/\GW H H6 mv.length pg pp pd H' ds Ss gs due/\(∀k b,(k,b)∈due↔k<ds.length/\b<m)/\due.length=ds.length*m):=⟨_,λ_ _=>On⟩
  refine⟨V7,?_,?_⟩
  ·simp! [gw0.ps.hp]
   rw[Ad]
   refine⟨by omega,by omega,?_⟩
   rw[show((ds.length:Int)).toNat=ds.length by omega]
   obtain⟨V6,hV6⟩:∃V6:Nat->L2.St->Hp->Prop,∀i σ H',V6 i σ H'↔(∃(v7:Option V)(due:List (Nat×Nat)),σ=[some (.ref pm),some (.ref py),some (.ref psg),some (.ref pg),some (.ref pp),some (.ref psr),some (.ref pd),v7,none,none]/\GW H H6 mv.length pg pp pd H' ds Ss gs due/\(∀k b,(k,b)∈due↔k<i/\b<m)/\due.length=i*m):=⟨_,λ_ _ _=>On⟩
   refine jcw V6 ((hV6 _ _ _).mpr ⟨none,[],rfl,gw0,by simp,by simp⟩) ?_ ?_
   ·intro i σ H8 hi hw
    obtain⟨v7,due,rfl,gw,md,dl⟩:=(hV6 _ _ _).mp hw
    clear hw
    have g8:=sgk gw
    obtain⟨xs,hxs,dp⟩:=gw.du
    have xl:xs.length=due.length:=Il dp
    have ml:=mul (p:=i) (by omega)
    simp! [g8]
    refine⟨by show(jcx _).isSome=true;rw[hxs];rfl,λD hD=>?_⟩
    refine jd5 (tkT i) (jlx i) g8 hD (by simp;omega) (λj y H1 Q' hy k1 q=>?_) λv zs H9 k9 hD9 pr=>?_
    ·simp!
     rw[O6]
     exact⟨by omega,λt ht=>q _ _ ((Kp.refl [] H1).new ht) ⟨t,rfl,jb⟩⟩
    have dz:DuP H9 zs (allB i m):=jnp pr
    have zl:zs.length=m:=by rw[Il dz];simp[allB]
    have gw9:=gw.kp0 k9
    have hx9:=k9.old _ _ hxs Af
    dsimp only
    rw[hx9,hD9]
    refine⟨_,rfl,_,rfl,by omega,(hV6 _ _ _).mpr ⟨_,due++allB i m,rfl,gw9.setd ((dp.kp k9).app dz),λk' b=>?_,?_⟩⟩
    ·rw[Aw,md,mem_allB]
     omega
    ·rw[Av,dl,Aaa];simp[allB]
   ·intro σ H8 hw
    obtain⟨v7,due,rfl,gw,md,dl⟩:=(hV6 _ _ _).mp hw
    clear hw
    exact(hV7 _ _).mpr ⟨v7,due,rfl,gw,md,dl⟩
  intro σ' H8 hw
  obtain⟨v7,due,rfl,gw,md,dl⟩:=(hV7 _ _).mp hw
  clear hw
  simp!
  have mok:=jds (ys:=ys) ok
  obtain⟨W,hW⟩:∃W:Nat->L2.St->Hp->Prop,W=λμ σ' H'=>∃(v7 v8 v9:Option V)(ds:List Addr)(Ss:List (List Nat))(gs:List Nat)(due:List (Nat×Nat)),σ'=[some (.ref pm),some (.ref py),some (.ref psg),some (.ref pg),some (.ref pp),some (.ref psr),some (.ref pd),v7,v8,v9]/\GW H H6 mv.length pg pp pd H' ds Ss gs due/\Pt (mcOf mv m ys) (λr=>gs.getD r 0) ds.length due/\due.length<=ds.length*m/\μ=(mv.length-ds.length)*(m+1)+due.length:=⟨_,rfl⟩
  refine⟨W,?_,?_⟩
  ·rw[hW]
   refine⟨_,v7,none,none,ds,Ss,gs,due,rfl,gw,Pt.first (λr hr=>gw.ps.gt r _ ((gG gw.ps.gl hr).mpr rfl)) ye (λi a hi ha=>(md i a).mpr ⟨hi,ha⟩) (λi a h=>(md i a).mp h) mok,by omega,rfl⟩
  clear hV7 V7 gw md dl ye ns fd dn gw0 ps6 ps5 due ds Ss gs
  intro μ σ H9 hw
  rw[hW]at hw
  obtain⟨v7,v8,v9,ds,Ss,gs,due,rfl,gw,pt,dl,rfl⟩:=hw
  obtain⟨xs,hxs,dp⟩:=gw.du
  have dn:=gw.le
  simp! [hxs]
  rcases Us due with rfl|⟨due0,q,rfl⟩
  ·cases dp
   rw[Am (by simp)]
   exact k pg gs H9 hg0 gw.ps.hg gw.ps.gl (λr s hr hs=>pt.done mok hr hs) (λr hr=>A4 (gw.ps.gt r _ ((gG gw.ps.gl hr).mpr rfl)) dn) gw.kp
  rw[Ut]at dp pt dl⊢
  obtain⟨i,a⟩:=q
  obtain⟨us',t,rfl,dp0,ht⟩:=dp.last
  obtain⟨hip,ham⟩:=pt.du i a (by simp)
  rw[Ao (by simp)]
  refine⟨_,λ_ _ h=>h,.ref t,by simp,?_⟩
  rw[List.dropLast_concat]
  have gw1:=gw.setd dp0
  have ht1:upd H9 pd (.lst us') t=some (.tup [nV i,nV a]):=(((Kp.refl [pd] H9).set hxs (.inl (.head _))).tup _ _ ht)
  generalize upd H9 pd (.lst us')=H10 at gw1 ht1⊢
  have ham:a<m:=ham
  have sr1:=sr.ky gw1.ky
  have ei:Ss[i]?=some (Ss[i]'(by have:=gw1.ps.dl;omega)):=Aa _
  generalize Ss[i]'(by have:=gw1.ps.dl;omega)=S at ei
  obtain⟨d,hd,hdd⟩:=gw1.ps.get ei
  have ea:as[a]?=some (as[a]'(by have:=sr1.ln;omega)):=Aa _
  generalize as[a]'(by have:=sr1.ln;omega)=x at ea
  obtain⟨_,sl,_,src⟩:=sr1.at_ a x ea
  rw[jcp,ht1]
  refine⟨_,rfl,nV i,je9 _ _,?_⟩
  show rIxU (.ref pp) (.int (i:Int)) H10 _
  rw[jcp,gw1.ps.hp]
  refine⟨_,rfl,.ref d,jcm (by rw[Ag,hd];rfl),?_⟩
  rw[jcp,ht1]
  refine⟨_,rfl,nV a,jf1 _ _ _,?_⟩
  show rIxU (.ref psr) (.int (a:Int)) H10 _
  rw[jcp,sr1.hs]
  refine⟨_,rfl,.ref x,jcm (by rw[Ag,ea];rfl),?_⟩
  have mS:=gw1.ps.memG ei
  have ndS:=gw1.ps.ns S (Al ei)
  have Sn:S.length<=mv.length:=jdc ndS λr hr=>((mS r).mp hr).1
  refine⟨d,x,pg,mv.length,S,sl,srcF mv a mv.length,gs,rfl,hdd,src,gw1.ps.hg,gw1.ps.gl,n9,by omega,λr hr=>((mS r).mp hr).1,λpl gk la H11 hpl ld k11=>⟨pl,gk.map (lk la),rfl,.inl ⟨ld.hl,λo=>?_⟩⟩⟩
  have k12:Kp [] H10 (upd H11 pl (.frz o (.dK (gk.map (lk la))))):=jd2 k11 ld.hl (.inr hpl)
  have fz:upd H11 pl (.frz o (.dK (gk.map (lk la)))) pl=some (.frz o (.dK (gk.map (lk la)))):=jb
  have lat:∀g∈gk,upd H11 pl (.frz o (.dK (gk.map (lk la)))) (la g)=some (.lst (((S.flatMap (srcF mv a mv.length)).filter λq=>decide (gs.getD q 0=g)).map nV)):=λg hg=>by
   have e:=ld.at_ g hg
   rw[jd (λz=>by rw[z,ld.hl]at e;cases e)];exact e
  have gw2:=gw1.kp0 k12
  obtain⟨ys',hys,dpy⟩:=gw1.du
  have no:∀z,H10 z=none->z∉[pp,pg,pd]:=λz hz mz=>by
   simp only[Ap,Af,O2]at mz
   rcases mz with rfl|rfl|rfl
   ·rw[gw1.ps.hp]at hz;cases hz
   ·rw[gw1.ps.hg]at hz;cases hz
   ·rw[hys]at hz;cases hz
  have npl:=no pl hpl
  have nla:∀g∈gk,la g∉[pp,pg,pd]:=λg hg=>no _ (ld.fr g hg)
  have ndg:=ld.nd
  have all:=ld.all
  have nem:=ld.ne
  clear ld k11 hys dpy
  generalize upd H11 pl (.frz o (.dK (gk.map (lk la))))=H07 at k12 fz lat gw2⊢
  have lt0:∀r,r<mv.length->gs.getD r 0<ds.length:=λr hr=>gw1.ps.gt r _ ((gG gw1.ps.gl hr).mpr rfl)
  have memT:∀q,q∈S.flatMap (srcF mv a mv.length)↔q<mv.length/\gs.getD (dM mv q a) 0=i:=λq=>by
   rw[mem_T]
   exact⟨fun⟨h1,h2⟩=>⟨h1,((mS _).mp h2).2⟩,fun⟨h1,h2⟩=>⟨h1,(mS _).mpr ⟨(ok.at_ h1 ham).2,h2⟩⟩⟩
  have ndT:=nd_T (mv:=mv) (a:=a) (n:=mv.length) ndS
  have dl0:due0.length+1<=ds.length*m:=by simpa using dl
  have pm1:=mul dn
  obtain⟨V9,hV9⟩:∃V9:Nat->L2.St->Hp->Prop,∀j σ H',V9 j σ H'↔(∃(v7:Option V)(ds':List Addr)(Ss':List (List Nat))(gs':List Nat)(due':List (Nat×Nat)),σ=[some (.ref pm),some (.ref py),some (.ref psg),some (.ref pg),some (.ref pp),some (.ref psr),some (.ref pd),v7,some (.ref t),some (.ref pl)]/\GW H H6 mv.length pg pp pd H' ds' Ss' gs' due'/\Ky [pp,pg,pd] H07 H'/\CI (mcOf mv m ys) (λr=>gs.getD r 0) ds.length i a (gk.drop j) (λr=>gs'.getD r 0) ds'.length /\
   (∀q∈due0,q∈due')/\(∀k b,ds.length<=k->k<ds'.length->b<m->(k,b)∈due')/\(∀k b,(k,b)∈due'->k<ds'.length/\b<m)/\due'.length<=due0.length+(ds'.length-ds.length)*m):=⟨_,λ_ _ _=>On⟩
  refine jia V9 ?_ ?_ ?_ ?_
  ·refine(hV9 _ _ _).mpr ⟨v7,ds,Ss,gs,due0,rfl,gw2,Ky.refl _ _,CI.init lt0 λr hr n e=>n (all r ((memT r).mpr ⟨hr,e⟩)),λq h=>h,λk b h1 h2=>by omega,λk b h=>pt.du k b (by simp[h]),by omega⟩
  ·intro j σ H' _ hw
   obtain⟨_,_,_,_,_,rfl,_,ky,_⟩:=(hV9 _ _ _).mp hw
   exact ky _ _ fz npl (λ_ z=>nomatch z)
  ·intro j kv σ H13 hkv hw
   obtain⟨w7,ds',Ss',gs',due',rfl,gw3,ky,ci,d1,d2,d3,dl3⟩:=(hV9 _ _ _).mp hw
   clear hw
   rw[Ag]at hkv
   obtain⟨g,hg',rfl⟩:=Ie.mp hkv
   have hj:=(Ae.mp hg').1
   have hgm:=Al hg'
   have dr:gk.drop j=g::gk.drop (j+1):=by
    rw[List.drop_eq_getElem_cons hj,(Ae.mp hg').2]
   rw[dr]at ci
   have ng:g∉gk.drop (j+1):=by
    have:=ndg.sublist (List.drop_sublist j gk)
    rw[dr]at this
    exact(Of.mp this).1
   obtain⟨q0,hq0,eq0⟩:=nem g hgm
   have gp:g<ds.length:=by rw[<-eq0];exact lt0 q0 ((memT q0).mp hq0).1
   have pp':=ci.pp
   have pn:=gw3.le
   have sl3:=gw3.ps.dl
   have eg:Ss'[g]?=some (Ss'[g]'(by omega)):=Aa _
   generalize Ss'[g]'(by omega)=S' at eg
   have mS':∀r,r∈S'↔r<mv.length/\gs.getD r 0=g:=λr=>by
    rw[gw3.ps.memG eg r]
    exact⟨fun⟨h1,h2⟩=>⟨h1,(ci.part gp h1).mp h2⟩,fun⟨h1,h2⟩=>⟨h1,(ci.part gp h1).mpr h2⟩⟩
   have ndS':=gw3.ps.ns S' (Al eg)
   have hL:=ky _ _ (lat g hgm) (nla g hgm) (λ_ z=>nomatch z)
   have memL:∀r,r∈(S.flatMap (srcF mv a mv.length)).filter (λq=>decide (gs.getD q 0=g))↔r<mv.length/\gs.getD (dM mv r a) 0=i/\gs.getD r 0=g:=λr=>by
    rw[Iy,memT]
    simp[and_assoc]
   have ndL:((S.flatMap (srcF mv a mv.length)).filter λq=>decide (gs.getD q 0=g)).Nodup:=ndT.filter _
   have Lne:(S.flatMap (srcF mv a mv.length)).filter (λq=>decide (gs.getD q 0=g))≠[]:=List.ne_nil_of_mem (Iy.mpr ⟨hq0,by simpa using eq0⟩)
   generalize(S.flatMap (srcF mv a mv.length)).filter (λq=>decide (gs.getD q 0=g))=L at hL memL ndL Lne
   have subL:∀r∈L,r∈S':=λr hr=>(mS' r).mpr ⟨((memL r).mp hr).1,((memL r).mp hr).2.2⟩
   have fz3:=ky _ _ fz npl (λ_ z=>nomatch z)
   have nlg:=nla g hgm
   simp only[Ap,Af,O2,not_or]at nlg
   rw[show kV (lk la g).1=V.int (g:Int)from rfl]
   simp!
   refine⟨.ref (la g),.inl ⟨gk.map (lk la),.inl (g:Int),.inr ⟨o,fz3⟩,rfl,by rw[jh4,Ao hgm]⟩,?_⟩
   refine⟨pp,pg,la g,mv.length,ds',Ss',gs',g,S',L,rfl,gw3.ps,eg,hL,ndL,subL,nlg.1,nlg.2.1,by omega,λc H14 k14=>⟨false,rfl,?_⟩,λnn sh d' H14 nds nes hd' subs how p6 k14=>⟨true,rfl,?_⟩⟩
   ·rw[Am (by simp)]
    refine(hV9 _ _ _).mpr ⟨_,ds',Ss',gs',due',rfl,gw3.kp0 k14,ky.kp k14 (by simp),ci.same λr hr e=>?_,d1,d2,d3,dl3⟩
    rcases c with c|c
    ·exact absurd c Lne
    ·exact((memL r).mp (jmo ndL subL c ((mS' r).mpr ⟨hr,e⟩))).2.1
   ·rw[Ao rfl]
    have s1:=jm5 ndL subL nn ndS' how
    have gw4:=gw3.cut p6 k14 hd' s1 nes
    have pn4:=gw4.le
    have l4:(ds'++[d']).length=ds'.length+1:=by simp
    rw[l4]at pn4
    have ci4:CI (mcOf mv m ys) (λr=>gs.getD r 0) ds.length i a (gk.drop (j+1)) (λr=>(gsF gs' sh ds'.length).getD r 0) (ds'++[d']).length:=by
     rw[l4]
     refine ci.cut ng gp (sh:=sh) (λr hr=>(mS' r).mp (subs r hr)) ?_ λr hr=>?_
     ·rcases how with w|w
      ·exact .inl λr hr e=>by rw[w,memL];exact⟨λh=>h.2.1,λh=>⟨hr,h,e⟩⟩
      ·exact .inr λr hr e=>by
        rw[w,memL,mS']
        exact⟨λh z=>h.2 ⟨hr,z,e⟩,λh=>⟨⟨hr,e⟩,λz=>h z.2.1⟩⟩
     ·show(gsF gs' sh ds'.length).getD r 0=if r∈sh then ds'.length else gs'.getD r 0
      rw[Ac,jhe sh _ r _ (by rw[gw3.ps.gl];exact hr)]
      by_cases c:r∈sh
      ·rw[Ao c,Ao c];rfl
      ·rw[Am c,Am c,Ac]
    have ky4:Ky [pp,pg,pd] H07 H14:=ky.kp k14 λz hz=>by
     rcases Ap.mp hz with rfl|hz
     ·exact .inl (by simp)
     rcases Ap.mp hz with rfl|hz
     ·exact .inl (by simp)
     exact .inr (.inr (gw3.ps.isd hz))
    have g4:=sgk gw4
    obtain⟨xs,hxs,dp4⟩:=gw4.du
    have xl:xs.length=due'.length:=Il dp4
    have ml:=mul (p:=ds'.length-ds.length) (by omega)
    simp only[g4]
    refine⟨by rw[hxs];rfl,λD hD=>?_⟩
    refine jd5 (tkT ds'.length) (jlx _) g4 hD (by simp;omega) (λj' y H1 Q' hy k1 q=>?_) λv zs H15 k15 hD15 pr=>?_
    ·have hp1:=k1.old _ _ gw4.ps.hp (by simp)
     simp! [hp1]
     rw[Ad,l4,show((ds'.length+1:Nat):Int)-1=(ds'.length:Int)by omega]
     exact⟨by omega,λt ht=>q _ _ ((Kp.refl [] H1).new ht) ⟨t,rfl,jb⟩⟩
    have dz:DuP H15 zs (allB ds'.length m):=jnp pr
    have zl:zs.length=m:=by rw[Il dz];simp[allB]
    have al:(allB ds'.length m).length=m:=by simp[allB]
    have gw5:=gw4.kp0 k15
    have hx15:=k15.old _ _ hxs Af
    dsimp only
    rw[hx15,hD15]
    refine⟨_,rfl,_,rfl,by omega,(hV9 _ _ _).mpr ⟨_,_,_,_,due'++allB ds'.length m,rfl,gw5.setd ((dp4.kp k15).app dz),(ky4.kp k15 (by simp)).kp ((Kp.refl [pd] H15).set hx15 (.inl (.head _))) (λz hz=>.inl (by simp at hz;simp[hz])),ci4,λq hq=>Iw _ (d1 q hq),λk' b h1 h2 h3=>?_,λk' b h=>?_,?_⟩⟩
    ·rw[l4]at h2
     rw[Aw,mem_allB]
     by_cases c:k'=ds'.length
     ·exact .inr ⟨c,h3⟩
     ·exact .inl (d2 k' b h1 (by omega) h3)
    ·rw[l4]
     rcases Aw.mp h with h|h
     ·have:=d3 k' b h;omega
     ·have:=mem_allB.mp h;omega
    ·rw[l4,Av,al,show ds'.length+1-ds.length=(ds'.length-ds.length)+1 by omega,Aaa]
     omega
  ·intro σ H13 hw
   obtain⟨w7,ds',Ss',gs',due',rfl,gw3,ky,ci,d1,d2,d3,dl3⟩:=(hV9 _ _ _).mp hw
   clear hw
   rw[Ad,List.drop_length]at ci
   have pt':=pt.task mok ci d1 d2 d3
   have pn:=gw3.le
   have pp':=ci.pp
   have e1:(mv.length-ds.length)*(m+1)=(mv.length-ds'.length)*(m+1)+(ds'.length-ds.length)*m+(ds'.length-ds.length):=by
    rw[show mv.length-ds.length=(mv.length-ds'.length)+(ds'.length-ds.length)by omega,Aaa,Nat.mul_succ (ds'.length-ds.length) m];omega
   have e2:ds'.length*m=ds.length*m+(ds'.length-ds.length)*m:=by
    rw[<-Aaa];congr 1;omega
   refine⟨(mv.length-ds'.length)*(m+1)+due'.length,?_,?_⟩
   ·rw[Av,List.length_cons,List.length_nil]
    omega
   ·rw[hW]
    exact⟨w7,some (.ref t),some (.ref pl),ds',Ss',gs',due',rfl,gw3,pt',by omega,rfl⟩
end
structure MG(G:Nat->Nat)(j:Nat)(fr:List Nat):Prop where
 lt:∀r∈fr,r<j
 inc:fr.Pairwise (λa b=>a<b)
 nd:(fr.map G).Nodup
 all:∀r,r<j->G r∈fr.map G
 fst:∀f∈fr,∀r,r<f->G r≠G f
theorem MG.nil(G:Nat->Nat):MG G 0 []:=⟨by simp,.nil,by simp,λr h=>by omega,by simp⟩
theorem MG.old{G:Nat->Nat}{j:Nat}{fr:List Nat}(h:MG G j fr)(m:G j∈fr.map G):MG G (j+1) fr :=
 ⟨λr hr=>Uw (h.lt r hr),h.inc,h.nd,λr hr=>by
  rcases Nat.lt_or_ge r j with c|c
  ·exact h.all r c
  ·rw[show r=j by omega];exact m,h.fst⟩
theorem MG.new{G:Nat->Nat}{j:Nat}{fr:List Nat}(h:MG G j fr)(m:G j∉fr.map G):MG G (j+1) (fr++[j]):=by
 refine⟨λr hr=>?_,?_,?_,λr hr=>?_,λf hf r hr e=>?_⟩
 ·rcases Aw.mp hr with c|c
  ·exact Uw (h.lt r c)
  ·cases Aj.mp c;omega
 ·rw[Y4]
  exact⟨h.inc,by simp,λa ha b hb=>by cases Aj.mp hb;exact h.lt a ha⟩
 ·rw[A3,Om]
  exact⟨h.nd,by simp,λa ha b hb e=>m (by simp at hb;rw[<-hb,<-e];exact ha)⟩
 ·rw[A3,Aw]
  rcases Nat.lt_or_ge r j with c|c
  ·exact .inl (h.all r c)
  ·exact .inr (by simp[show r=j by omega])
 ·rcases Aw.mp hf with c|c
  ·exact h.fst f c r hr e
  ·cases Aj.mp c
   exact m (e▸h.all r hr)
structure Nmb(G:Nat->Nat)(fr:List Nat)(kvs:List (L2.Key×V)):Prop where
 num:∀x:Nat,valV kvs (.inl (x:Int))=if x∈fr.map G then some (nV ((fr.map G).idxOf x))else none
 kl:kvs.length<=fr.length
theorem Nmb.new{G:Nat->Nat}{fr:List Nat}{kvs:List (L2.Key×V)}(h:Nmb G fr kvs){j:Nat}(m:G j∉fr.map G):Nmb G (fr++[j]) (putK kvs (.inl (G j:Int)) (nV fr.length)):=by
 refine⟨λx=>?_,?_⟩
 ·rw[jg1,h.num,A3]
  by_cases c:x=G j
  ·subst c
   rw[Ao rfl,Ao (by simp),Ux,Am m]
   simp
  ·rw[Am (by simpa using λz:(x:Int)=G j=>c (by omega))]
   by_cases hx:x∈fr.map G
   ·rw[Ao hx,Ao (Iw _ hx),Ux,Ao hx]
   ·rw[Am hx,Am (λz=>(Aw.mp z).elim hx (by simpa using c))]
 ·have:=jde kvs (.inl (G j:Int)) (nV fr.length)
  have:=h.kl
  rw[Av,List.length_cons,List.length_nil]
  omega
def phi(G:Nat->Nat)(fr:List Nat)(r:Nat):Nat:=(fr.map G).idxOf (G r)
def phV(G:Nat->Nat)(fr:List Nat):V->V
 |.int i=>nV (phi G fr i.toNat)
 |v=>v
def mgR(mv:List (List Nat))(G:Nat->Nat)(fr:List Nat):List (List Nat):=fr.map λf=>(mv.getD f []).map (phi G fr)
def mgY(ys:List Bool)(fr:List Nat):List Bool:=fr.map λf=>ys.getD f false
def ysV(ys:List Bool):V->V
 |.int i=>.bl (ys.getD i.toNat false)
 |v=>v
def spMg:Sp:=λvs H Q _=>∃(pm py pg:Addr)(us:List V)(mv:List (List Nat))(m:Nat)(ys:List Bool)(gs:List Nat),vs=[.ref pm,.ref py,.ref pg]/\H pm=some (.tup us)/\RowsM H us mv/\MvOk mv m/\H py=some (.lst (ys.map V.bl))/\ys.length=mv.length/\H pg=some (.lst (gs.map nV))/\gs.length=mv.length/\1<=mv.length/\mv.length<=1000/\m<=1000 /\
 ∀(q a1 a2:Addr)(us':List V)(fr:List Nat)(H':Hp),MG (λr=>gs.getD r 0) mv.length fr->H' q=some (.tup [.ref a1,.ref a2])->H' a1=some (.tup us')->RowsM H' us' (mgR mv (λr=>gs.getD r 0) fr)->H' a2=some (.tup ((mgY ys fr).map V.bl))->Kp [] H H'->Q (.ref q) H'
structure TMg(mg:Str->Option Value):Prop where
 n_len:mg "len"=none
 n_tuple:mg "tuple"=none
 n_enumerate:mg "enumerate"=none
section
variable{P:Program}{w:World}{K:PySem.W.Frag}{mg:Str->Option Value}{base:Heap}
abbrev zn:Stmt:=top 9
theorem z5:FnScope ["moves","yes","groups","numbers","first_rooms","room","group","rows"] ["moves","yes","groups"] (jg zn):=⟨rfl,rfl,rfl,by decide +kernel,rfl,by decide +kernel,by decide +kernel⟩
theorem ok_merged{f:Addr}{fd:FuncData}(F:Fun K "merged" "merged" zn f fd)(T:TMg mg):FnOk P w K mg base CX0 1 f fd ["moves","yes","groups"] spMg:=by
 refine F.ok z5 (λvs H Q E h=>?_) (λcdv A outer s H vs Q E hr h=>?_)
 ·obtain⟨pm,py,pg,us,mv,m,ys,gs,rfl,_⟩:=h
  rfl
 ·obtain⟨pm,py,pg,us,mv,m,ys,gs,rfl,hm,rw',ok,hy,yl,hg,gl,n1,n9,m9,k⟩:=h
  have hu:=hr.units
  have hsz:sizeLine=16777216:=Ij
  have hu1:(A.deeper (PyProof.Rows.envOfC (Str.ofString "merged") (jg zn) s.heap.objs.size f cdv)).units+1<cLine:=by omega
  have ul:us.length=mv.length:=Il rw'
  have gat:∀r,r<mv.length->gs[r]?=some (gs.getD r 0):=λr hr=>(gG gl hr).mpr rfl
  generalize hG:(λr=>gs.getD r 0)=G at k
  have gat:∀r,r<mv.length->gs[r]?=some (G r):=λr hr=>by rw[<-hG];exact gat r hr
  refine exQ (je (jq (i:=3) z5.nd rfl (by ac_rfl) jbx)
  (je (jq (i:=4) z5.nd rfl (by ac_rfl) (kx jc))
  (je (yc A8 rfl (qpi_enumF rfl T.n_enumerate (ja (qpv 2) jc)) (ja8 (n:=2) rfl (zg (jr (i:=5) z5.nd rfl (by ac_rfl)) (zg (jr (i:=6) z5.nd rfl (by ac_rfl)) ja0)) (K:=K) rfl) (jj (yf (ja9 (jal hu1 (qpv 6) (qpv 3)) (by with_unfolding_all rfl)) (je (jbg hu1 (qpv 3) (qpv 6) (jt jw (by rfl) T.n_len j6 (ja (qpv 4) jc)) rfl)
  (jj (kj (ko A5 A6 ki (qpv 4) (ja (qpv 5) jc) jcq)))) kg)))
  (je (jq (i:=7) z5.nd rfl (by ac_rfl) (kx jc))
  (je (yc A8 rfl (kh (K:=K) (qpv 4) rfl) (jr (i:=5) z5.nd rfl (by ac_rfl)) (jj (kj (ko A5 A6 ki (qpv 7) (ja (jv kc (by rfl) T.n_tuple yj (ja (yp rfl (jco (sc:=jg zn) (N:=["moves","yes","groups","numbers","first_rooms","room","group","rows"]) (Nc:=["target","numbers","groups"]) (js:=[none,some 3,some 2]) (by decide +kernel)) (kh (K:=K) (jo ix_U (qpv 0) (qpv 5) (λ_ _=>rfl)) rfl) (λ_ _ _ _=>(jr (i:=0) (show List.Nodup [("target":Str),("numbers":Str),("groups":Str)]from by decide +kernel) rfl (by ac_rfl))) (λ_ _ _ _=>(jaz hu1 (qpv 1) (jo ix_U (qpv 2) (qpv 0) (λ_ _=>rfl)) (λ_ _=>rfl)))) jc)) jc) jcq))))
  (jj (j3 (yq (ja (jv kc (by rfl) T.n_tuple yj (ja (qpv 7) jc)) (ja (jv kc (by rfl) T.n_tuple yj (ja (yp rfl (jco (sc:=jg zn) (N:=["moves","yes","groups","numbers","first_rooms","room","group","rows"]) (Nc:=["room","yes"]) (js:=[none,some 1]) (by decide +kernel)) (kh (K:=K) (qpv 4) rfl) (λ_ _ _ _=>(jr (i:=0) (show List.Nodup [("room":Str),("yes":Str)]from by decide +kernel) rfl (by ac_rfl))) (λ_ _ _ _=>(jo ix_U (qpv 1) (qpv 0) (λ_ _=>rfl)))) jc)) jc)))))))))) ?_
  simp!
  intro pn hpn
  refine⟨by omega,λpf hpf=>?_⟩
  have nnf:pn≠pf:=jf jb hpf
  have k0:Kp [] H (upd (upd H pn (.dK [])) pf (.lst [])):=((Kp.refl [] H).new hpn).new hpf
  have hpf0:H pf=none:=((Kp.refl [] H).new hpn).free hpf
  have g0:=k0.old _ _ hg Af
  refine⟨_,g0,?_⟩
  refine jrv (xs:=gs.map nV) (λi σ H'=>∃(v5 v6:Option V)(fr:List Nat)(kvs:List (L2.Key×V)),σ=[some (.ref pm),some (.ref py),some (.ref pg),some (.ref pn),some (.ref pf),v5,v6,none]/\H' pn=some (.dK kvs)/\H' pf=some (.lst (fr.map nV))/\MG G i fr/\Nmb G fr kvs/\Kp [] H H') ?_ ?_ ?_ ?_
  ·exact⟨none,none,[],[],rfl,by rw[jd nnf,jb],jb,MG.nil G,⟨λx=>by simp[valV],Ak _⟩,k0⟩
  ·rintro i σ H' _ ⟨_,_,_,_,rfl,_,_,_,_,kp⟩
   exact kp.old _ _ hg Af
  ·rintro i x σ H1 tt hx ⟨v5,v6,fr,kvs,rfl,e1,e2,I,N,kp⟩ htt
   rw[Ag]at hx
   obtain⟨y,hy',rfl⟩:=Ie.mp hx
   have hi:i<mv.length:=by have:=(Ae.mp hy').1;omega
   rw[gat i hi]at hy'
   cases hy'
   refine⟨tt,[.int (i:Int),nV (G i)],rfl,SqT.of jb,rfl,⟨_,_,rfl,⟨_,_,rfl,rfl,?_⟩⟩⟩
   have kT:Kp [] H1 (upd H1 tt (.tup [.int (i:Int),nV (G i)])):=(Kp.refl [] H1).new htt
   generalize upd H1 tt (.tup [.int (i:Int),nV (G i)])=H2 at kT⊢
   have e1:=kT.old _ _ e1 Af
   have e2:=kT.old _ _ e2 Af
   have kp:=kp.trans kT
   have frl:fr.length<=i:=by
    have:=jcy (l:=fr) (zs:=List.range i) (I.inc.imp λh=>by omega) λr hr=>Ar.mpr (I.lt r hr)
    simpa using this
   have kl:=N.kl
   simp!
   refine⟨_,DGet.k (k:=.inl (G i:Int)) e1,?_⟩
   rw[N.num (G i)]
   by_cases c:G i∈fr.map G
   ·rw[Ao c]
    simp only[Option.isSome_some,Uy,Ia,Ob]
    exact⟨_,_,⟨rfl,rfl⟩,fr,kvs,e1,e2,I.old c,N,kp⟩
   ·rw[Am c]
    simp only[Option.isSome_none,Yk,O0,e2]
    refine⟨_,rfl,upd H2 pn (.dK (putK kvs (.inl (G i:Int)) (nV fr.length))),by rw[Ad];exact DPut.k (k:=.inl (G i:Int)) (v:=nV fr.length) e1 (by omega),?_⟩
    rw[jd nnf.symm,e2]
    refine⟨rfl,_,rfl,by rw[Ad];omega,_,_,⟨rfl,rfl⟩,fr++[i],_,by rw[jd nnf,jb],by rw[A3];rfl,I.new c,N.new c,?_⟩
    exact(jd2 kp e1 (.inr hpn)).set (by rw[jd nnf.symm];exact e2) (.inr hpf0)
  ·rintro σ H1 ⟨v5,v6,fr,kvs,rfl,e1,e2,I,N,kp⟩
   rw[Ad,gl]at I
   simp!
   refine⟨by omega,λpr hpr=>?_⟩
   have frl:fr.length<=mv.length:=by
    have:=jcy (l:=fr) (zs:=List.range mv.length) (I.inc.imp λh=>by omega) λr hr=>Ar.mpr (I.lt r hr)
    simpa using this
   have kR:Kp [] H1 (upd H1 pr (.lst [])):=(Kp.refl [] H1).new hpr
   have eR:upd H1 pr (.lst []) pr=some (.lst []):=jb
   have hpr0:H pr=none:=kp.free hpr
   have nrn:pn≠pr:=jf e1 hpr
   have nrf:pf≠pr:=jf e2 hpr
   generalize upd H1 pr (.lst [])=H2 at kR eR⊢
   have e1:=kR.old _ _ e1 Af
   have e2:=kR.old _ _ e2 Af
   have kp:=kp.trans kR
   simp only[e2]
   refine jdm (xs:=fr.map nV) (λj σ H'=>∃(v5:Option V)(rs:List V),σ=[some (.ref pm),some (.ref py),some (.ref pg),some (.ref pn),some (.ref pf),v5,v6,some (.ref pr)]/\H' pr=some (.lst rs)/\RowsM H' rs ((fr.take j).map λf=>(mv.getD f []).map (phi G fr))/\H' pn=some (.dK kvs)/\H' pf=some (.lst (fr.map nV))/\Kp [] H H') ?_ ?_ ?_ ?_
   ·exact⟨v5,[],rfl,eR,.nil,e1,e2,kp⟩
   ·rintro j σ H' _ ⟨_,_,rfl,_,_,_,h,_⟩
    exact h
   ·rintro j x σ H3 hx ⟨v5,rs,rfl,r3,R3,n3,f3,kp3⟩
    rw[Ag]at hx
    obtain⟨fj,hf,rfl⟩:=Ie.mp hx
    have fl:=I.lt fj (Al hf)
    obtain⟨c,hc,hcr⟩:=(rw'.kp kp3).get (show mv[fj]?=some (mv.getD fj [])by rw[Ac,Aa fl];rfl)
    have rm:mv.getD fj []∈mv:=by rw[Ac,Aa fl];exact Ic _
    have rl:=ok.ln _ rm
    have rlt:=ok.lt _ rm
    have hm3:=kp3.tup _ _ hm
    have rsl:rs.length=j:=by
     rw[Il R3,Ad,Iz]
     have:=(Ae.mp hf).1
     omega
    have jl:=(Ae.mp hf).1
    simp! [r3]
    unfold nV
    rw[jcp,hm3]
    refine⟨_,rfl,.ref c,jcm hc,?_⟩
    simp only[hcr]
    intro D hD
    have nDn:pn≠D:=jf n3 hD
    have g3:=kp3.old _ _ hg Af
    have nDg:pg≠D:=jf g3 hD
    refine jdz (phV G fr) hcr hD (by rw[Ad];omega) (λx hx l Q' q=>?_) λvv=>?_
    ·obtain⟨t,ht,rfl⟩:=An.mp hx
     have tl:=rlt t ht
     simp!
     rw[show nV t=V.int (t:Int)from rfl,jcp,jd nDg,g3]
     refine⟨_,rfl,nV (G t),jcm (by rw[Ag,gat t tl];rfl),nV (phi G fr t),.inl ⟨kvs,.inl (G t:Int),.inl (by rw[jd nDn];exact n3),rfl,?_⟩,q⟩
     rw[N.num (G t),Ao (I.all t tl)];rfl
    dsimp only
    refine jcr jb λl hl=>?_
    have k4:Kp [] H3 (upd (upd H3 D (.lst (((mv.getD fj []).map nV).map (phV G fr)))) l (.tup (((mv.getD fj []).map nV).map (phV G fr)))):=((Kp.refl [] H3).new hD).new hl
    have l4:upd (upd H3 D (.lst (((mv.getD fj []).map nV).map (phV G fr)))) l (.tup (((mv.getD fj []).map nV).map (phV G fr))) l=some (.tup (((mv.getD fj []).map (phi G fr)).map nV)):=by
     rw[jb,A0,A0]
     rfl
    generalize upd (upd H3 D (.lst (((mv.getD fj []).map nV).map (phV G fr)))) l (.tup (((mv.getD fj []).map nV).map (phV G fr)))=H4 at k4 l4⊢
    have r4:=k4.old _ _ r3 Af
    have k5:Kp [pr] H4 (upd H4 pr (.lst (rs++[.ref l]))):=(Kp.refl [pr] H4).set r4 (.inl (.head _))
    refine⟨rs,by rw[r4];rfl,by omega,?_,by rw[jd nrn];exact k4.old _ _ n3 Af,by rw[jd nrf];exact k4.old _ _ f3 Af,(kp3.trans k4).set r4 (.inr hpr0)⟩
    rw[Od,hf,A3]
    exact Wt ((R3.kp k4).kp k5) ⟨l,rfl,k5.tup _ _ l4⟩
   ·rintro σ H3 ⟨v5,rs,rfl,r3,R3,n3,f3,kp3⟩
    rw[Ad,Ir]at R3
    simp!
    refine jcr r3 λa1 ha1=>?_
    have k4:Kp [] H3 (upd H3 a1 (.tup rs)):=(Kp.refl [] H3).new ha1
    have e4:upd H3 a1 (.tup rs) a1=some (.tup rs):=jb
    generalize upd H3 a1 (.tup rs)=H4 at k4 e4⊢
    have f4:=k4.old _ _ f3 Af
    simp only[f4]
    intro D hD
    have y4:=(kp3.trans k4).old _ _ hy Af
    have nDy:py≠D:=jf y4 hD
    refine jec (ysV ys) f4 hD (by rw[Ad];omega) (λx hx l Q' q=>?_) λvv=>?_
    ·obtain⟨t,ht,rfl⟩:=An.mp hx
     have tl:=I.lt t ht
     simp!
     rw[show nV t=V.int (t:Int)from rfl,jcp,jd nDy,y4]
     exact⟨_,rfl,.bl (ys.getD t false),jcm (by rw[Ag,Ac,Aa (by omega)];rfl),q⟩
    dsimp only
    refine jcr jb λa2 ha2=>⟨by omega,λq hq=>?_⟩
    have k5:Kp [] H4 (upd (upd H4 D (.lst ((fr.map nV).map (ysV ys)))) a2 (.tup ((fr.map nV).map (ysV ys)))):=((Kp.refl [] H4).new hD).new ha2
    have e5:upd (upd H4 D (.lst ((fr.map nV).map (ysV ys)))) a2 (.tup ((fr.map nV).map (ysV ys))) a2=some (.tup ((mgY ys fr).map V.bl)):=by
     rw[jb,A0]
     unfold mgY
     rw[A0]
     rfl
    generalize upd (upd H4 D (.lst ((fr.map nV).map (ysV ys)))) a2 (.tup ((fr.map nV).map (ysV ys)))=H5 at k5 e5 hq⊢
    have k6:Kp [] H5 (upd H5 q (.tup [.ref a1,.ref a2])):=(Kp.refl [] H5).new hq
    exact k q a1 a2 rs fr _ I jb (k6.tup _ _ (k5.tup _ _ e4)) (((R3.kp k4).kp k5).kp k6) (k6.tup _ _ e5) (((kp3.trans k4).trans k5).trans k6)
end
def cu1(g:Nat->Nat->Nat)(r:Nat)(rs:List Nat)(a:Nat):List Nat:=if g r a∈rs then rs else rs++[g r a]
def cuR(g:Nat->Nat->Nat)(r a:Nat)(rs:List Nat):List Nat:=(List.range a).foldl (cu1 g r) rs
inductive Bf (g:Nat->Nat->Nat) (m first:Nat):Nat->List Nat->Prop
 |z:Bf g m first 0 [first]
 |s {j:Nat}{rs:List Nat}{r:Nat}:Bf g m first j rs->rs[j]?=some r->Bf g m first (j+1) (cuR g r m rs)
theorem jdb(g:Nat->Nat->Nat)(r a:Nat)(rs:List Nat):cuR g r (a+1) rs=cu1 g r (cuR g r a rs) a:=by
 unfold cuR
 rw[Ub,Oz];rfl
theorem jf2(g:Nat->Nat->Nat)(r:Nat)(rs:List Nat)(a:Nat):∃t,cu1 g r rs a=rs++t:=by
 unfold cu1
 split
 ·exact⟨[],by simp⟩
 ·exact⟨_,rfl⟩
theorem je0(g:Nat->Nat->Nat)(r:Nat)(rs:List Nat):∀a,∃t,cuR g r a rs=rs++t
 |0=>⟨[],by simp[cuR]⟩
 |a+1=>by
  obtain⟨t,e⟩:=je0 g r rs a
  obtain⟨t2,e2⟩:=jf2 g r (cuR g r a rs) a
  exact⟨t++t2,by rw[jdb,e2,e,Uo]⟩
theorem jrd(g:Nat->Nat->Nat)(r:Nat)(rs:List Nat)(a:Nat):g r a∈cu1 g r rs a:=by
 unfold cu1
 split
 ·assumption
 ·simp
theorem jeg(g:Nat->Nat->Nat)(r:Nat)(rs:List Nat):∀a b,b<a->g r b∈cuR g r a rs
 |0,b,h=>by omega
 |a+1,b,h=>by
  rw[jdb]
  by_cases c:b=a
  ·subst c;exact jrd g r _ b
  ·obtain⟨t,e⟩:=jf2 g r (cuR g r a rs) a
   rw[e]
   exact Iw _ (jeg g r rs a b (by omega))
theorem ixa{x:Nat}{rs t:List Nat}(h:x∈rs):(rs++t).idxOf x=rs.idxOf x:=by rw[Ux,Ao h]
structure BI(g:Nat->Nat->Nat)(m n first j:Nat)(rs:List Nat):Prop where
 nd:rs.Nodup
 lt:∀r∈rs,r<n
 z:rs[0]?=some first
 cl:∀r∈rs.take j,∀a,a<m->g r a∈rs
 jl:j<=rs.length
 rc:∀r∈rs,∃w:List Nat,(∀a∈w,a<m)/\w.foldl g first=r
theorem jsc{g:Nat->Nat->Nat}{r a:Nat}{rs:List Nat}(h:rs.Nodup):(cu1 g r rs a).Nodup:=by
 unfold cu1
 split
 ·exact h
 ·rename_i c
  rw[Om]
  exact⟨h,by simp,λx hx y hy e=>c ((e.trans (Aj.mp hy))▸hx)⟩
theorem jez{g:Nat->Nat->Nat}{r:Nat}{rs:List Nat}(h:rs.Nodup):∀a,(cuR g r a rs).Nodup
 |0=>h
 |a+1=>by rw[jdb];exact jsc (jez h a)
theorem jd0{g:Nat->Nat->Nat}{r:Nat}{rs:List Nat}:∀a x,x∈cuR g r a rs->x∈rs\/∃b,b<a/\x=g r b
 |0,x,h=>.inl h
 |a+1,x,h=>by
  rw[jdb]at h
  have:x∈cuR g r a rs\/x=g r a:=by
   unfold cu1 at h
   split at h
   ·exact .inl h
   ·rcases Aw.mp h with h|h
    ·exact .inl h
    ·exact .inr (Aj.mp h)
  rcases this with h|h
  ·rcases jd0 a x h with h|⟨b,h1,h2⟩
   ·exact .inl h
   ·exact .inr ⟨b,by omega,h2⟩
  ·exact .inr ⟨a,by omega,h⟩
theorem Bf.inv{g:Nat->Nat->Nat}{m n first:Nat}(f0:first<n)(gl:∀r a,r<n->a<m->g r a<n){j:Nat}{rs:List Nat}(h:Bf g m first j rs):BI g m n first j rs:=by
 induction h with
 |z=>exact⟨by simp,by simpa using f0,rfl,by simp,by simp,λr hr=>⟨[],by simp,by simp at hr;exact hr.symm⟩⟩
 |@s j rs r _ hr ih =>
  obtain⟨t,e⟩:=je0 g r rs m
  have rm:=Al hr
  have jl:=(Ae.mp hr).1
  refine⟨jez ih.nd m,λx hx=>?_,?_,λx hx a ha=>?_,?_,λx hx=>?_⟩
  ·rcases jd0 m x hx with h|⟨b,h1,h2⟩
   ·exact ih.lt x h
   ·rw[h2];exact gl r b (ih.lt r rm) h1
  ·rw[e,A2 (by omega)];exact ih.z
  ·rw[e,Ue (by omega),Od,hr]at hx
   rcases Aw.mp hx with h|h
   ·rw[e];exact Iw _ (ih.cl x h a ha)
   ·simp at h;subst h
    exact jeg g x rs m a ha
  ·rw[e,Av];omega
  ·rcases jd0 m x hx with h|⟨b,h1,h2⟩
   ·exact ih.rc x h
   ·obtain⟨w,hw,ew⟩:=ih.rc r rm
    refine⟨w++[b],λa ha=>?_,by rw[Oz,ew,h2];rfl⟩
    rcases Aw.mp ha with h|h
    ·exact hw a h
    ·cases Aj.mp h;exact h1
structure NmI(rs:List Nat)(kvs:List (L2.Key×V)):Prop where
 num:∀x:Nat,valV kvs (.inl (x:Int))=if x∈rs then some (nV (rs.idxOf x))else none
 kl:kvs.length<=rs.length
theorem NmI.new{rs:List Nat}{kvs:List (L2.Key×V)}(h:NmI rs kvs){y:Nat}(m:y∉rs):NmI (rs++[y]) (putK kvs (.inl (y:Int)) (nV rs.length)):=by
 refine⟨λx=>?_,?_⟩
 ·rw[jg1,h.num]
  by_cases c:x=y
  ·subst c
   rw[Ao rfl,Ao (by simp),Ux,Am m]
   simp
  ·rw[Am (by simpa using λz:(x:Int)=y=>c (by omega))]
   by_cases hx:x∈rs
   ·rw[Ao hx,Ao (Iw _ hx),ixa hx]
   ·rw[Am hx,Am (λz=>(Aw.mp z).elim hx (by simpa using c))]
 ·have:=jde kvs (.inl (y:Int)) (nV rs.length)
  have:=h.kl
  rw[Av,List.length_cons,List.length_nil]
  omega
def cuM(g:Nat->Nat->Nat)(m:Nat)(rs:List Nat):List (List Nat):=rs.map λr=>(List.range m).map λa=>rs.idxOf (g r a)
def spS(g:Nat->Nat->Nat)(n m:Nat)(R:Hp->Prop):Sp:=λvs H Q _=>∃r a:Nat,vs=[.int (r:Int),.int (a:Int)]/\r<n/\a<m/\R H/\∀H',Kp [] H H'->Q (.int (g r a:Nat)) H'
structure Lg(P:Program)(w:World)(K:PySem.W.Frag)(mg:Str->Option Value)(base:Heap)(fp:Addr)(o:Obj)(fd:FuncData)(psp:List Str)(g:Nat->Nat->Nat)(n m:Nat)(R:Hp->Prop):Prop where
 dat:o.data=.func fd
 fn:FnOk P w K mg base CX0 3 fp fd psp (spS g n m R)
 bi:Binds K fd psp []
 at_:∀H,R H->H fp=some (FZ o)
 kr:∀H H',Kp [] H H'->R H->R H'
def spCU(P:Program)(w:World)(K:PySem.W.Frag)(mg:Str->Option Value)(base:Heap):Sp:=λvs H Q _=>∃(fp:Addr)(o:Obj)(fd:FuncData)(psp:List Str)(g:Nat->Nat->Nat)(n m first:Nat)(R:Hp->Prop),Lg P w K mg base fp o fd psp g n m R/\R H/\vs=[.int (first:Int),.int (m:Int),.ref fp,.non,.int 0]/\first<n/\n<=1000/\m<=1000/\(∀r a,r<n->a<m->g r a<n) /\
 ∀(q a1 a2:Addr)(us':List V)(rs:List Nat)(H':Hp),Bf g m first rs.length rs->H' q=some (.tup [.ref a1,.ref a2])->H' a1=some (.lst (rs.map nV))->H' a2=some (.tup us')->RowsM H' us' (cuM g m rs)->Kp [] H H'->Q (.ref q) H'
structure TCU(mg:Str->Option Value):Prop where
 n_len:mg "len"=none
 n_tuple:mg "tuple"=none
 n_range:mg "range"=none
section
variable{P:Program}{w:World}{K:PySem.W.Frag}{mg:Str->Option Value}{base:Heap}
abbrev za:Stmt:=top 5
theorem yb:FnScope ["first","signs","step","most","at","numbers","rooms","moves","room","row","sign","target"] ["first","signs","step","most","at"] (jg za):=⟨rfl,rfl,rfl,by decide +kernel,rfl,by decide +kernel,by decide +kernel⟩
theorem ok_come_up{f td:Addr}{fd:FuncData}(F:FunD K "come_up" "come_up" za f fd td)(T:TCU mg):FnOk P w K mg base CX0 4 f fd ["first","signs","step","most","at"] (spCU P w K mg base):=by
 refine F.ok yb (λvs H Q E h=>?_) (λcdv A outer s H vs Q E hr h=>?_)
 ·obtain⟨fp,o,fd,psp,g,n,m,first,R,_,_,rfl,_⟩:=h
  rfl
 ·obtain⟨fp,o,fd',psp,g,n,m,first,R,L,hR,rfl,f0,n9,m9,gl,k⟩:=h
  have hu:=hr.units
  have hsz:sizeLine=16777216:=Ij
  have hu1:(A.deeper (PyProof.Rows.envOfC (Str.ofString "come_up") (jg za) s.heap.objs.size f cdv)).units+1<cLine:=by omega
  refine exQ (je (jq (i:=5) yb.nd rfl (by ac_rfl) (qpe_disp (qpps_cons (qpv 0) jh qpps_nil)))
  (je (jq (i:=6) yb.nd rfl (by ac_rfl) (kx (ja (qpv 0) jc)))
  (je (jq (i:=7) yb.nd rfl (by ac_rfl) (kx jc))
  (je (zy A8 (j5 jau (jt jw (by rfl) T.n_len j6 (ja (qpv 7) jc)) (jt jw (by rfl) T.n_len j6 (ja (qpv 6) jc)) (j9 _)) (je (jq (i:=8) yb.nd rfl (by ac_rfl) (jo ix_U (qpv 6) (jt jw (by rfl) T.n_len j6 (ja (qpv 7) jc)) (λ_ _=>rfl)))
  (je (jq (i:=9) yb.nd rfl (by ac_rfl) (kx jc))
  (je (yc A8 rfl (yg rfl T.n_range (ja (qpv 1) jc)) (jr (i:=10) yb.nd rfl (by ac_rfl)) (je (jq (i:=11) yb.nd rfl (by ac_rfl) (jbw (P:=P) (w:=w) (K:=K) (mg:=mg) (base:=base) (k:=3) rfl rfl rfl rfl rfl 2 (hr.mono (by decide)) (ja (qpv 8) (ja (qpv 10) jc))))
  (yh (yf (ja9 (jal hu1 (qpv 11) (qpv 5)) (by with_unfolding_all rfl)) (yh (yf (j5 (zc hu) (jt jw (by rfl) T.n_len j6 (ja (qpv 6) jc)) (qpv 3) (j9 _)) (jj ja5) kg)
  (je (jbg hu1 (qpv 5) (qpv 11) (jt jw (by rfl) T.n_len j6 (ja (qpv 6) jc)) rfl)
  (jj (kj (ko A5 A6 ki (qpv 6) (ja (qpv 11) jc) jcq))))) kg)
  (jj (kj (ko A5 A6 ki (qpv 9) (ja (jaz hu1 (qpv 5) (qpv 11) (λ_ _=>rfl)) jc) jcq))))))
  (jj (kj (ko A5 A6 ki (qpv 7) (ja (jv kc (by rfl) T.n_tuple yj (ja (qpv 9) jc)) jc) jcq)))))))
  (jj (j3 (yq (ja (qpv 6) (ja (jv kc (by rfl) T.n_tuple yj (ja (qpv 7) jc)) jc))))))))) ?_
  simp!
  intro pn hpn
  refine⟨[(.inl (first:Int),.int 0)],rfl,by simp,by omega,λpr hpr=>⟨by omega,λpv hpv=>?_⟩⟩
  have nnr:pn≠pr:=jf jb hpr
  have nnv:pn≠pv:=jf (by rw[jd nnr,jb]) hpv
  have nrv:pr≠pv:=jf jb hpv
  have k0:=(((Kp.refl [] H).new (o:=.dK (jen [] [(.inl (first:Int),.int 0)])) hpn).new (o:=.lst [.int (first:Int)]) hpr).new (o:=.lst []) hpv
  have hpr0:H pr=none:=((Kp.refl [] H).new hpn).free hpr
  have hpv0:H pv=none:=(((Kp.refl [] H).new hpn).new hpr).free hpv
  obtain⟨W,hW⟩:∃W:Nat->L2.St->Hp->Prop,W=λμ σ H'=>∃(rs:List Nat)(kvs:List (L2.Key×V))(us:List V)(j:Nat)(v8 v9 v10 v11:Option V),σ=[some (.int (first:Int)),some (.int (m:Int)),some (.ref fp),some .non,some (.int 0),some (.ref pn),some (.ref pr),some (.ref pv),v8,v9,v10,v11]/\Bf g m first j rs/\NmI rs kvs/\H' pn=some (.dK kvs)/\H' pr=some (.lst (rs.map nV))/\H' pv=some (.lst us)/\us.length=j/\RowsM H' us ((rs.take j).map λr=>(List.range m).map λa=>rs.idxOf (g r a))/\Kp [] H H'/\μ=n-j:=⟨_,rfl⟩
  refine⟨W,?_,?_⟩
  ·have n0:NmI [first] (jen [] [(.inl (first:Int),.int 0)]):=NmI.new (rs:=[]) (kvs:=[]) ⟨λx=>by simp[valV],Ak _⟩ (y:=first) (by simp)
   rw[hW]
   exact⟨_,[first],_,[],0,none,none,none,none,rfl,.z,n0,by rw[jd nnv,jd nnr,jb],by rw[jd nrv,jb];rfl,jb,rfl,.nil,k0,rfl⟩
  intro μ σ H1 hw
  rw[hW]at hw
  obtain⟨rs,kvs,us,j,v8,v9,v10,v11,rfl,bf,N,e1,e2,e3,ul,R1,kp,rfl⟩:=hw
  have bi:=bf.inv f0 gl
  have rl:rs.length<=n:=jdc bi.nd bi.lt
  have jl:=bi.jl
  simp! [e2,e3]
  rw[Ad,ul]
  by_cases c:j<rs.length
  ·rw[Ao (by simpa using c)]
   have er:rs[j]?=some (rs[j]):=Aa c
   generalize rs[j]=r at er
   have rn:=bi.lt r (Al er)
   refine⟨_,λ_ _ h=>h,nV r,jcm (by rw[Ag,er];rfl),by omega,λpw hpw=>⟨by omega,by omega,?_⟩⟩
   rw[show((m:Int)).toNat=m by omega]
   have nnw:pn≠pw:=jf e1 hpw
   have nrw:pr≠pw:=jf e2 hpw
   have nvw:pv≠pw:=jf e3 hpw
   have hpw0:H pw=none:=kp.free hpw
   have kw:Kp [] H1 (upd H1 pw (.lst [])):=(Kp.refl [] H1).new hpw
   obtain⟨W1,hW1⟩:∃W1:Nat->L2.St->Hp->Prop,∀a σ H',W1 a σ H'↔(∃(kvs:List (L2.Key×V))(v10 v11:Option V),σ=[some (.int (first:Int)),some (.int (m:Int)),some (.ref fp),some .non,some (.int 0),some (.ref pn),some (.ref pr),some (.ref pv),some (nV r),some (.ref pw),v10,v11]/\NmI (cuR g r a rs) kvs/\H' pn=some (.dK kvs)/\H' pr=some (.lst ((cuR g r a rs).map nV))/\H' pv=some (.lst us)/\H' pw=some (.lst ((List.range a).map λb=>nV ((cuR g r a rs).idxOf (g r b))))/\RowsM H' us ((rs.take j).map λr=>(List.range m).map λa=>rs.idxOf (g r a))/\Kp [] H H'):=⟨_,λ_ _ _=>On⟩
   refine jcw W1 ?_ ?_ ?_
   ·exact(hW1 _ _ _).mpr ⟨kvs,v10,v11,rfl,N,kw.old _ _ e1 Af,kw.old _ _ e2 Af,kw.old _ _ e3 Af,jb,R1.kp kw,kp.trans kw⟩
   ·intro a σ H2 ha hw
    obtain⟨kvs,v10,v11,rfl,N,e1,e2,e3,e4,R1,kp⟩:=(hW1 _ _ _).mp hw
    clear hw
    have cl:(cuR g r a rs).length<=n:=jdc (jez bi.nd a) λx hx=>by
     rcases jd0 a x hx with h|⟨b,h1,h2⟩
     ·exact bi.lt x h
     ·rw[h2];exact gl r b rn (by omega)
    simp!
    rw[O6]
    refine⟨o,fd',L.dat,psp,spS g n m R,L.fn,L.bi,L.at_ _ (L.kr _ _ kp hR),r,a,rfl,rn,ha,L.kr _ _ kp hR,λH3 k3=>?_⟩
    have e1:=k3.old _ _ e1 Af
    have e2:=k3.old _ _ e2 Af
    have e3:=k3.old _ _ e3 Af
    have e4:=k3.old _ _ e4 Af
    have R1:=R1.kp k3
    have kp:=kp.trans k3
    have kl:=N.kl
    clear k3
    obtain⟨W2,hW2⟩:∃W2:L2.St->Hp->Prop,∀σ' H',W2 σ' H'↔(∃(kvs:List (L2.Key×V)),σ'=[some (.int (first:Int)),some (.int (m:Int)),some (.ref fp),some .non,some (.int 0),some (.ref pn),some (.ref pr),some (.ref pv),some (nV r),some (.ref pw),some (.int (a:Int)),some (.int (g r a:Nat))]/\NmI (cuR g r (a+1) rs) kvs/\H' pn=some (.dK kvs)/\H' pr=some (.lst ((cuR g r (a+1) rs).map nV))/\H' pv=some (.lst us)/\H' pw=some (.lst ((List.range a).map λb=>nV ((cuR g r a rs).idxOf (g r b))))/\RowsM H' us ((rs.take j).map λr=>(List.range m).map λa=>rs.idxOf (g r a))/\Kp [] H H'):=⟨_,λ_ _=>On⟩
    refine⟨W2,?_,?_⟩
    ·simp!
     refine⟨_,DGet.k (k:=.inl (g r a:Int)) e1,?_⟩
     rw[N.num (g r a)]
     have ec:=jdb g r a rs
     unfold cu1 at ec
     by_cases c:g r a∈cuR g r a rs
     ·rw[Ao c]at ec
      rw[Ao c]
      simp only[Option.isSome_some,Uy,Ia,Ob]
      exact(hW2 _ _).mpr ⟨kvs,rfl,by rw[ec];exact N,e1,by rw[ec];exact e2,e3,e4,R1,kp⟩
     ·rw[Am c]at ec
      rw[Am c]
      simp only[Option.isSome_none,Yk,O0]
      refine⟨λσ' H'=>σ'=[some (.int (first:Int)),some (.int (m:Int)),some (.ref fp),some .non,some (.int 0),some (.ref pn),some (.ref pr),some (.ref pv),some (nV r),some (.ref pw),some (.int (a:Int)),some (.int (g r a:Nat))]/\H3=H',?_,?_⟩
      ·simp! [e2]
       refine⟨rfl,_,rfl,?_⟩
       rw[Am (by simp)]
      rintro _ _ ⟨rfl,rfl⟩
      simp! [e2]
      have e2p:upd H3 pn (.dK (putK kvs (.inl (g r a:Int)) (nV (cuR g r a rs).length))) pr=some (.lst ((cuR g r a rs).map nV)):=by rw[jd nnr.symm];exact e2
      have kq:Kp [pn] H3 (upd H3 pn (.dK (putK kvs (.inl (g r a:Int)) (nV (cuR g r a rs).length)))):=jd2 (Kp.refl [pn] H3) e1 (.inl (by simp))
      have kq2:Kp [pr] (upd H3 pn (.dK (putK kvs (.inl (g r a:Int)) (nV (cuR g r a rs).length)))) (upd (upd H3 pn (.dK (putK kvs (.inl (g r a:Int)) (nV (cuR g r a rs).length)))) pr (.lst ((cuR g r a rs).map nV++[.int (g r a:Nat)]))):=(Kp.refl [pr] _).set e2p (.inl (.head _))
      refine⟨upd H3 pn (.dK (putK kvs (.inl (g r a:Int)) (nV (cuR g r a rs).length))),by rw[Ad];exact DPut.k (k:=.inl (g r a:Int)) (v:=nV (cuR g r a rs).length) e1 (by omega),by rw[e2p];rfl,_,by rw[e2p];rfl,by rw[Ad];omega,(hW2 _ _).mpr ⟨_,rfl,by rw[ec];exact N.new c,by rw[jd nnr,jb],by rw[jb,ec,A3];rfl,?_,?_,(R1.kp kq).kp kq2,(jd2 kp e1 (.inr hpn)).set e2p (.inr hpr0)⟩⟩
      ·rw[jd nrv.symm,jd nnv.symm];exact e3
      ·rw[jd nrw.symm,jd nnw.symm];exact e4
    intro σ' H4 hw
    obtain⟨kvs,rfl,N,e1,e2,e3,e4,R1,kp⟩:=(hW2 _ _).mp hw
    clear hw
    simp! [e4]
    have kw4:∀x,Kp [pw] H4 (upd H4 pw (.lst ((List.range a).map (λb=>nV ((cuR g r a rs).idxOf (g r b)))++[x]))):=λx=>(Kp.refl [pw] H4).set e4 (.inl (.head _))
    refine⟨nV ((cuR g r (a+1) rs).idxOf (g r a)),.inl ⟨kvs,.inl (g r a:Int),.inl e1,rfl,?_⟩,by rw[Ad,Az];omega,(hW1 _ _ _).mpr ⟨kvs,_,_,rfl,N,by rw[jd nnw];exact e1,by rw[jd nrw];exact e2,by rw[jd nvw];exact e3,?_,R1.kp (kw4 _),kp.set e4 (.inr hpw0)⟩⟩
    ·rw[N.num,Ao (jeg g r rs (a+1) a (by omega))]
    ·rw[jb,Ub,A3]
     refine Um (λl=>some (HO.lst (l++[nV ((cuR g r (a+1) rs).idxOf (g r a))]))) (Ih λb hb=>?_)
     obtain⟨t,et⟩:=jf2 g r (cuR g r a rs) a
     rw[jdb,et,ixa (jeg g r rs a b (Ar.mp hb))]
   ·intro σ H2 hw
    obtain⟨kvs,v10,v11,rfl,N,e1,e2,e3,e4,R2,kp⟩:=(hW1 _ _ _).mp hw
    clear hw
    simp!
    refine⟨by rw[e3];rfl,?_⟩
    refine jcr e4 λl hl=>?_
    have kl:Kp [] H2 (upd H2 l (.tup ((List.range m).map λb=>nV ((cuR g r m rs).idxOf (g r b))))):=(Kp.refl [] H2).new hl
    have el:upd H2 l (.tup ((List.range m).map λb=>nV ((cuR g r m rs).idxOf (g r b)))) l=some (.tup (((List.range m).map λb=>(cuR g r m rs).idxOf (g r b)).map nV)):=by rw[jb,A0];rfl
    generalize upd H2 l (.tup ((List.range m).map λb=>nV ((cuR g r m rs).idxOf (g r b))))=H3 at kl el⊢
    have e33:=kl.old _ _ e3 Af
    have kv:Kp [pv] H3 (upd H3 pv (.lst (us++[.ref l]))):=(Kp.refl [pv] H3).set e33 (.inl (.head _))
    refine⟨us,by rw[e33];rfl,by omega,n-(j+1),by omega,?_⟩
    rw[hW]
    refine⟨cuR g r m rs,kvs,us++[.ref l],j+1,_,_,_,_,rfl,.s bf er,N,by rw[jd nnv];exact kl.old _ _ e1 Af,by rw[jd nrv];exact kl.old _ _ e2 Af,jb,by simp[ul],?_,(kp.trans kl).set e33 (.inr hpv0),rfl⟩
    obtain⟨t,et⟩:=je0 g r rs m
    have e5:(cuR g r m rs).take (j+1)=rs.take j++[r]:=by rw[et,Ue (by omega),Od,er];rfl
    rw[e5,A3]
    have e6:(rs.take j).map (λr'=>(List.range m).map λa=>(cuR g r m rs).idxOf (g r' a))=(rs.take j).map λr'=>(List.range m).map λa=>rs.idxOf (g r' a):=Ih λx hx=>Ih λa ha=>by
     rw[et,ixa (bi.cl x hx a (Ar.mp ha))]
    rw[e6]
    exact Wt ((R2.kp kl).kp kv) ⟨l,rfl,kv.tup _ _ el⟩
  ·have ej:j=rs.length:=by omega
   subst ej
   rw[Am (by simpa using c)]
   refine jcr e3 λa2 ha2=>⟨by omega,λq hq=>?_⟩
   rw[Ir]at R1
   have k2:Kp [] H1 (upd H1 a2 (.tup us)):=(Kp.refl [] H1).new ha2
   have k3:Kp [] (upd H1 a2 (.tup us)) (upd (upd H1 a2 (.tup us)) q (.tup [.ref pr,.ref a2])):=(Kp.refl [] _).new hq
   exact k q pr a2 us rs _ bf jb (k3.old _ _ (k2.old _ _ e2 Af) (by simp)) (k3.tup _ _ jb) ((R1.kp k2).kp k3) ((kp.trans k2).trans k3)
end
abbrev LQ:Str:="least_from"++".<locals>."++"<lambda>"
structure TLm(P:Program)(w:World)(K:PySem.W.Frag)(mg:Str->Option Value)(base:Heap)(fcu fmg fgr c Pt:Addr)(pm:Value):Prop where
 n_len:mg "len"=none
 m3z:mg "come_up"=some (.ref fcu)
 m21z:mg "merged"=some (.ref fmg)
 m15z:mg "groups_of_rooms"=some (.ref fgr)
 pm:(mg "__name__").getD .none=pm
 hd:PySem.W.CodeHd base c Pt
 bl:base.BuiltinsAt mg Pt
structure LS(mv:List (List Nat))(m:Nat)(ys:List Bool)(first:Nat)(mv':List (List Nat))(ys':List Bool)(rs:List Nat)(G:Nat->Nat)(fr:List Nat):Prop where
 bf:Bf (dM mv) m first rs.length rs
 gr:∀r s,r<rs.length->s<rs.length->(G r=G s↔(mcOf (cuM (dM mv) m rs) m (rs.map λr=>ys.getD r false)).eq r s)
 mg:MG G rs.length fr
 em:mv'=mgR (cuM (dM mv) m rs) G fr
 ey:ys'=mgY (rs.map λr=>ys.getD r false) fr
theorem jsp{Pt:Addr}{H H':Hp}{p:Addr}{xs:List V}(k:Kp [Pt] H H')(tb:TabOk H Pt LQ)(h:jda (H p)=some xs):∃o,H' p=some o/\jda (some o)=some xs:=by
 cases e:H p with
 |none=>rw[e]at h;cases h
 |some o =>
  refine⟨o,k.old _ _ e λm=>?_,by rw[<-e];exact h⟩
  obtain⟨tps,hPt,_⟩:=id tb
  rw[Aj.mp m,hPt]at h
  cases h
def spLm(Pt:Addr):Sp:=λvs H Q _=>∃(pm py:Addr)(us:List V)(mv:List (List Nat))(m first:Nat)(ys:List Bool),vs=[.ref pm,.ref py,.int (first:Int)]/\H pm=some (.tup us)/\RowsM H us mv/\MvOk mv m/\jda (H py)=some (ys.map V.bl)/\ys.length=mv.length/\first<mv.length/\mv.length<=1000/\m<=1000/\TabOk H Pt LQ /\
 ∀(q a1 a2:Addr)(us':List V)(mv':List (List Nat))(ys':List Bool)(rs:List Nat)(G:Nat->Nat)(fr:List Nat)(H':Hp),LS mv m ys first mv' ys' rs G fr->H' q=some (.tup [.ref a1,.ref a2])->H' a1=some (.tup us')->RowsM H' us' mv'->H' a2=some (.tup (ys'.map V.bl))->Kp [Pt] H H'->TabOk H' Pt LQ->Q (.ref q) H'
section
variable{P:Program}{w:World}{K:PySem.W.Frag}{mg:Str->Option Value}{base:Heap}
abbrev yx:Stmt:=top 8
theorem jai:FnScope ["moves","yes","first","came","answers"] ["moves","yes","first"] (jg yx):=⟨rfl,rfl,rfl,by decide +kernel,rfl,by decide +kernel,by decide +kernel⟩
def lamE:Expr:=match jx yx with
 |.Assign _ (.Call _ [_,_,l] _ _) _::_=>l
 |_=>.Name "" ⟨0,0,0,0⟩
def lamA:Arguments:=match lamE with
 |.Lambda a _ _ _=>a
 |_=>jy (.Pass ⟨0,0,0,0⟩)
def lamB:Expr:=match lamE with
 |.Lambda _ b _ _=>b
 |_=>.Name "" ⟨0,0,0,0⟩
def lamS:Scope:=match lamE with
 |.Lambda _ _ c _=>c
 |_=>jg (.Pass ⟨0,0,0,0⟩)
theorem js3:LamScope ["room","sign"] ["moves"] lamS:=⟨rfl,rfl,rfl,by decide +kernel,by decide +kernel,by decide +kernel,by decide +kernel,λx h=>by
 have hn:lamS.names=[(Str.ofString "room",.local),(Str.ofString "sign",.local),(Str.ofString "moves",.free)]:=rfl
 rw[hn]at h
 by_cases h1:x=Str.ofString "moves"
 ·rw[h1];exact .head _
 have b1:(x == Str.ofString "moves")=false:=by simpa using h1
 simp only[List.lookup_cons,List.lookup_nil,b1]at h
 repeat (split at h <;> try (cases h))⟩
theorem us2{C:List Value->Prop}(h:∀v0 v1:Value,C [v0,v1])(us:List Value)(e:us.length=2):C us:=by
 cases us with
 |nil=>exact absurd e.symm (Iv _)
 |cons v0 us =>
  cases us with
  |nil=>exact absurd (Ip (e.symm)) (Iv _)
  |cons v1 us =>
   cases us with
   |nil=>exact h v0 v1
   |cons _ _=>exact absurd (Ip (Ip (e))) (Iv _)
theorem jey{g:Nat->Nat->Nat}{m n first:Nat}{rs:List Nat}(b:BI g m n first rs.length rs):MvOk (cuM g m rs) m:=by
 refine⟨λrow hrow=>?_,λrow hrow x hx=>?_⟩
 ·obtain⟨r,_,rfl⟩:=An.mp hrow
  simp
 ·obtain⟨r,hr,rfl⟩:=An.mp hrow
  obtain⟨a,ha,rfl⟩:=An.mp hx
  have:=Ib.mpr (b.cl r (by rw[Ir];exact hr) a (Ar.mp ha))
  simpa[cuM]using this
theorem ok_least_from{f fcu fmg fgr c Pt td:Addr}{fd fdc fdm fdg:FuncData}{pm:Value}{dfs:List Value}(F:Fun K "least_from" "least_from" yx f fd)(T:TLm P w K mg base fcu fmg fgr c Pt pm)(hcd:fd.code=.ref c)
  (F3z:FunD K "come_up" "come_up" za fcu fdc td) (b3z:Binds K fdc ["first","signs","step","most","at"] dfs) (h_come_up:Vals [.non,.int 0] dfs) (G3z:FnOk P w K mg base CX0 4 fcu fdc ["first","signs","step","most","at"] (spCU P w K mg base))
  (F21z:Fun K "merged" "merged" zn fmg fdm) (b21z:Binds K fdm ["moves","yes","groups"] []) (G21z:FnOk P w K mg base CX0 1 fmg fdm ["moves","yes","groups"] spMg)
  (F15z:Fun K "groups_of_rooms" "groups_of_rooms" j4 fgr fdg) (b15z:Binds K fdg ["moves","yes"] []) (G15z:FnOk P w K mg base CX0 2 fgr fdg ["moves","yes"] spGR):FnOk P w K mg base CX0 5 f fd ["moves","yes","first"] (spLm Pt):=by
 refine F.okC jai (λvs H Q E h=>?_) (λA outer s H vs Q E hr h=>?_)
 ·obtain⟨a,py,us,mv,m,first,ys,rfl,_⟩:=h
  rfl
 ·obtain⟨a,py,us,mv,m,first,ys,rfl,ha,rw',ok,hy,yl,f0,n9,m9,tb,k⟩:=h
  have hu:=hr.units
  have hsz:sizeLine=16777216:=Ij
  have ul:us.length=mv.length:=Il rw'
  refine exQ (je (jq (i:=3) jai.nd rfl (by ac_rfl) (jbj [(0,s.heap.objs.size+1)] (by intro j hj;simp only[Ap,Af,O2]at hj;rcases hj with rfl <;> exact⟨_,rfl,rfl,rfl,rfl⟩) G3z (hr.mono (by decide)) rfl T.m3z F3z.kp b3z h_come_up (ja (qpv 2) (ja (jt jw (by rfl) T.n_len j6 (ja (jo ix_U (qpv 0) jh (λ_ _=>rfl)) jc)) (ja (jbl (Pt:=Pt) rfl T.pm hcd T.hd T.bl) jc)))))
  (je (jad (i:=4) jai.nd rfl (by ac_rfl) rfl (jco (sc:=jg yx) (N:=["moves","yes","first","came","answers"]) (Nc:=["room","yes"]) (js:=[none,some 1]) (by decide +kernel)) (kh (K:=K) (jo ix_U (qpv 3) jh (λ_ _=>rfl)) rfl) (λ_ _ _ _=>(jr (i:=0) (show List.Nodup [("room":Str),("yes":Str)]from by decide +kernel) rfl (by ac_rfl))) (λ_ _ _ _=>(jo ix_U (qpv 1) (qpv 0) (λ_ _=>rfl))))
  (jj (j3 (ju G21z (hr.mono (by decide)) rfl T.m21z F21z.kp b21z .nil ka (ja (jo ix_U (qpv 3) jh (λ_ _=>rfl)) (ja (qpv 4) (ja (ju G15z (hr.mono (by decide)) rfl T.m15z F15z.kp b15z .nil ka (ja (jo ix_U (qpv 3) jh (λ_ _=>rfl)) (ja (qpv 4) jc))) jc)))))))) ?_
  obtain⟨c0,hc0,hr0⟩:=rw'.get (show mv[0]?=some (mv.getD 0 [])by rw[Ac,Aa (by omega)];rfl)
  have l0:(mv.getD 0 []).length=m:=ok.ln _ (by rw[Ac,Aa (by omega)];exact Ic _)
  simp! [ha]
  refine⟨.ref c0,jcm (j:=0) hc0,?_⟩
  simp! [hr0]
  rw[Ad,l0]
  refine⟨tb,λfl c' ct H1 hfl k1 e1 cz tb1=>?_⟩
  refine⟨λj hj=>by cases Aj.mp hj;exact⟨_,rfl⟩,λcs hcs=>?_⟩
  obtain⟨o,rfl,hn,u,ho,ru⟩:∃o,cs=[(s.heap.objs.size+1,o)]/\H1 (s.heap.objs.size+1)=none/\∃u,o.data=.cell (some u)/\RelV (.ref a) u:=by
   cases hcs with
   |cons h t =>
    cases t
    rename_i p
    obtain⟨c1,o1⟩:=p
    obtain⟨e1,e2,v,u,e3,e4,e5⟩:=h
    cases(Aq (Aq e3))
    cases(show c1=s.heap.objs.size+1 from e1)
    exact⟨o1,rfl,e2,u,e4,e5⟩
  generalize s.heap.objs.size+1=n1 at e1 hn
  have lk:∀b,b≠n1->([(n1,o)]:List (Addr×Obj)).lookup b=none:=λb h=>by
   rw[List.lookup_cons]
   have:(b == n1)=false:=by simpa using h
   rw[this];rfl
  have sh:∀b v,H1 b=some v->jc6 H1 [(n1,o)] b=some v:=λb v e=>by rw[jc1 (lk b (jf e hn))];exact e
  have kS:Kp [] H1 (jc6 H1 [(n1,o)]):=⟨λb v e _=>sh b v e,λb xs e=>sh b _ e,λb v e=>⟨v,sh b v e⟩⟩
  have e1':H1 fl=some (FZ (PySem.W.kla_obj "<lambda>" LQ lamA lamB lamS [("moves",n1)] pm c' ct)):=e1
  have cap:Caps (jc6 H1 [(n1,o)]) [("moves",n1)] ["moves"] [.ref a]:=by
   have en:jc6 H1 [(n1,o)] n1=some (FZ o):=jd1 (by simp[List.lookup])
   refine⟨rfl,λi x v q1 q2=>?_,λx hx=>?_,λp hp=>?_,λx y c q1 q2=>?_⟩
   ·cases i with
    |zero=>cases q1;cases q2;exact⟨n1,o,u,rfl,en,ho,ru⟩
    |succ i=>simp at q1
   ·cases Aj.mp hx;exact⟨n1,rfl⟩
   ·cases Aj.mp hp;exact⟨o,some u,en,ho⟩
   ·rw[List.lookup_cons]at q1 q2
    split at q1
    ·split at q2
     ·rename_i z1 _ z2;rw[eq_of_beq z1,eq_of_beq z2]
     ·cases q2
    ·cases q1
  let R:Hp->Prop:=λH=>H fl=some (FZ (PySem.W.kla_obj "<lambda>" LQ lamA lamB lamS [("moves",n1)] pm c' ct))/\CodeZ H c' LQ/\Caps H [("moves",n1)] ["moves"] [.ref a]/\H a=some (.tup us)/\RowsM H us mv
  have L:Lg P w K mg base fl (PySem.W.kla_obj "<lambda>" LQ lamA lamB lamS [("moves",n1)] pm c' ct) (PySem.W.kla_fn "<lambda>" LQ lamA lamB lamS [("moves",n1)] pm (.ref c') ct) ["room","sign"] (dM mv) mv.length m R:=by
   refine⟨rfl,jox (fs:=["moves"]) js3 (λvs H Q E h=>?_) (λvs H Q E h=>?_),.all (us2 λ_ _=>rfl),λH h=>h.1,λH H' k h=>⟨k.old _ _ h.1 (by simp),h.2.1.kp k (by simp),h.2.2.1.kp k (by simp),k.tup _ _ h.2.2.2.1,h.2.2.2.2.kp k⟩⟩
   ·obtain⟨r,a,rfl,_⟩:=h
    rfl
   ·obtain⟨r,b,rfl,hr',hb,hR,q⟩:=h
    refine⟨hR.1,hR.2.1,[.ref a],hR.2.2.1,λA outer s hr=>⟨_,QE.h (jo ix_U (jo ix_U (qpv 2) (qpv 0) (λ_ _=>rfl)) (qpv 1) (λ_ _=>rfl)),?_⟩⟩
    have ne:∀b v,H b=some v->(∀o,v≠FZ o)->b∉[n1]:=λb v e n m=>by
     obtain⟨o2,u2,e2,_⟩:=hR.2.2.1.fz _ (.head _)
     rw[Aj.mp m]at e
     rw[show H n1=some (FZ o2)from e2]at e
     exact n o2 (Aq e).symm
    have tk:∀b xs,H b=some (.tup xs)->hideC H ([n1]) b=some (.tup xs):=λb xs e=>by rw[jcs (ne b _ e (λ_ z=>by cases z))];exact e
    obtain⟨x,hx,hxr⟩:=hR.2.2.2.2.get (show mv[r]?=some (mv.getD r [])by rw[Ac,Aa hr'];rfl)
    have hx2:=tk _ _ hxr
    simp!
    rw[tk _ _ hR.2.2.2.1]
    refine⟨_,rfl,.ref x,jcm hx,?_⟩
    rw[jcp,hx2]
    exact⟨_,rfl,nV (dM mv r b),jcm (by rw[Ag,(ok.at_ hr' hb).1];rfl),λ_=>q _ (Kp.refl [] (hideC H [n1])).backC⟩
  have hR:R (jc6 H1 [(n1,o)]):=⟨sh _ _ e1',cz.kp kS (by simp),cap,sh _ _ (k1.tup _ _ ha),(rw'.kp k1).kp kS⟩
  refine⟨fl,_,_,_,dM mv,mv.length,m,first,R,L,hR,rfl,f0,n9,m9,λr a hr ha=>(ok.at_ hr ha).2,λq0 b1 b2 us1 rs H2 bf eq0 eb1 eb2 R2 k2=>?_⟩
  have k3:Kp [] H1 (hideC H2 [n1]):=by
   have kk:=kS.trans k2
   have ne:∀b v,H1 b=some v->b∉[n1]:=λb v e m=>by rw[Aj.mp m,hn]at e;cases e
   exact⟨λb v e m=>by rw[jcs (ne b _ e)];exact kk.old b v e m,λb xs e=>by rw[jcs (ne b _ e)];exact kk.tup b xs e,λb v e=>by rw[jcs (ne b _ e)];exact kk.dom b v e⟩
  have en2:H2 n1=some (FZ o):=k2.old _ _ (jd1 (by simp[List.lookup])) (by simp)
  have hd2:∀b v,H2 b=some v->(∀o,v≠FZ o)->hideC H2 [n1] b=some v:=λb v e n=>by
   rw[jcs (λm=>by
    rw[Aj.mp m,en2]at e
    exact n o (Aq e).symm)]
   exact e
  have q3:=hd2 _ _ eq0 (λ_ z=>by cases z)
  have b13:=hd2 _ _ eb1 (λ_ z=>by cases z)
  have b23:=hd2 _ _ eb2 (λ_ z=>by cases z)
  have R3:RowsM (hideC H2 [n1]) us1 (cuM (dM mv) m rs):=Paired.mapP R2 λ_ _ ⟨b,z1,z2⟩=>⟨b,z1,hd2 _ _ z2 (λ_ z=>by cases z)⟩
  have kp3:Kp [Pt] H (hideC H2 [n1]):=k1.trans (k3.mono (by simp))
  have tb3:TabOk (hideC H2 [n1]) Pt LQ:=tb1.kp k3 (by simp) (by simp)
  dsimp only
  rw[show(List.map Prod.fst [(n1,o)])=[n1]from rfl]
  generalize hideC H2 [n1]=H3 at q3 b13 b23 R3 kp3 tb3⊢
  have bi:=bf.inv f0 (λr a hr ha=>(ok.at_ hr ha).2)
  have rl:rs.length<=mv.length:=jdc bi.nd bi.lt
  have r1:1<=rs.length:=(Ae.mp bi.z).1
  have ml:(cuM (dM mv) m rs).length=rs.length:=by simp[cuM]
  obtain⟨o3,y3,y3s⟩:=jsp kp3 tb hy
  rw[jcp,q3]
  refine⟨_,rfl,.ref b1,je9 _ _,?_⟩
  simp only[b13]
  intro D hD
  refine jec (ysV ys) b13 hD (by rw[Ad];omega) (λx hx l Q' q=>?_) λvv=>?_
  ·obtain⟨t,ht,rfl⟩:=An.mp hx
   have tl:=bi.lt t ht
   simp!
   rw[show nV t=V.int (t:Int)from rfl,jcp,jd (jf y3 hD),y3,y3s]
   exact⟨_,rfl,.bl (ys.getD t false),jcm (by rw[Ag,Ac,Aa (by omega)];rfl),q⟩
  dsimp only
  have k4:Kp [] H3 (upd H3 D (.lst ((rs.map nV).map (ysV ys)))):=(Kp.refl [] H3).new hD
  have e4:upd H3 D (.lst ((rs.map nV).map (ysV ys))) D=some (.lst ((rs.map λr=>ys.getD r false).map V.bl)):=by
   rw[jb,A0,A0];rfl
  generalize upd H3 D (.lst ((rs.map nV).map (ysV ys)))=H4 at k4 e4⊢
  have q4:=k4.tup _ _ q3
  have b24:=k4.tup _ _ b23
  have R4:=R3.kp k4
  have cok:=jey bi
  rw[jcp,q4]
  refine⟨_,rfl,.ref b2,jf1 _ _ _,?_⟩
  rw[jcp,q4]
  refine⟨_,rfl,.ref b2,jf1 _ _ _,?_⟩
  refine⟨b2,D,us1,cuM (dM mv) m rs,m,rs.map λr=>ys.getD r false,rfl,b24,R4,cok,e4,by rw[ml,Ad],by omega,by omega,m9,λpg gs H5 hpg epg gl gr _ k5=>?_⟩
  rw[ml]at gr
  refine⟨b2,D,pg,us1,cuM (dM mv) m rs,m,rs.map λr=>ys.getD r false,gs,rfl,k5.tup _ _ b24,R4.kp k5,cok,k5.old _ _ e4 Af,by rw[ml,Ad],epg,gl,by omega,by omega,m9,λq a1 a2 us' fr H6 mg6 eq6 ea1 R6 ea2 k6=>?_⟩
  have k36:=(k4.trans k5).trans k6
  rw[ml]at mg6
  exact k q a1 a2 us' _ _ rs _ fr H6 ⟨bf,gr,mg6,rfl,rfl⟩ eq6 ea1 R6 ea2 (kp3.trans (k36.mono (by simp))) (tb3.kp k36 (by simp) (by simp))
end
def spLe(Pt:Addr):Sp:=λvs H Q _=>∃(p pm py:Addr)(z:Str)(us:List V)(mv:List (List Nat))(m:Nat)(ys:List Bool),vs=[.ref p]/\H p=some (.tup [.str z,.ref pm,.ref py])/\H pm=some (.tup us)/\RowsM H us mv/\MvOk mv m/\jda (H py)=some (ys.map V.bl)/\ys.length=mv.length/\1<=mv.length/\mv.length<=1000/\m<=1000/\TabOk H Pt LQ /\
 ∀(q a1 a2:Addr)(us':List V)(mv':List (List Nat))(ys':List Bool)(rs:List Nat)(G:Nat->Nat)(fr:List Nat)(H':Hp),LS mv m ys 0 mv' ys' rs G fr->H' q=some (.tup [.str z,.ref a1,.ref a2])->H' a1=some (.tup us')->RowsM H' us' mv'->H' a2=some (.tup (ys'.map V.bl))->Kp [Pt] H H'->TabOk H' Pt LQ->Q (.ref q) H'
structure TLe(mg:Str->Option Value)(fl:Addr):Prop where
 m18z:mg "least_from"=some (.ref fl)
section
variable{P:Program}{w:World}{K:PySem.W.Frag}{mg:Str->Option Value}{base:Heap}
abbrev jae:Stmt:=top 7
theorem jcb:FnScope ["machine","lean"] ["machine"] (jg jae):=⟨rfl,rfl,rfl,by decide +kernel,rfl,by decide +kernel,by decide +kernel⟩
theorem ok_least{f fl Pt:Addr}{fd fdl:FuncData}(F:Fun K "least" "least" jae f fd)(T:TLe mg fl)(F18z:Fun K "least_from" "least_from" yx fl fdl)(b18z:Binds K fdl ["moves","yes","first"] [])
  (G18z:FnOk P w K mg base CX0 5 fl fdl ["moves","yes","first"] (spLm Pt)):FnOk P w K mg base CX0 6 f fd ["machine"] (spLe Pt):=by
 refine F.ok jcb (λvs H Q E h=>?_) (λcdv A outer s H vs Q E hr h=>?_)
 ·obtain⟨p,pm,py,z,us,mv,m,ys,rfl,_⟩:=h
  rfl
 ·obtain⟨p,pm,py,z,us,mv,m,ys,rfl,hp,hm,rw',ok,hy,yl,n1,n9,m9,tb,k⟩:=h
  have hu:=hr.units
  have hsz:sizeLine=16777216:=Ij
  refine exQ (je (jq (i:=1) jcb.nd rfl (by ac_rfl) (ju G18z (hr.mono (by decide)) rfl T.m18z F18z.kp b18z .nil ka (ja (jo ix_U (qpv 0) jh (λ_ _=>rfl)) (ja (jo ix_U (qpv 0) jh (λ_ _=>rfl)) (ja jh jc)))))
  (jj (j3 (yq (ja (jo ix_U (qpv 0) jh (λ_ _=>rfl)) (ja (jo ix_U (qpv 1) jh (λ_ _=>rfl)) (ja (jo ix_U (qpv 1) jh (λ_ _=>rfl)) jc))))))) ?_
  simp! [hp]
  refine⟨pm,py,us,mv,m,0,ys,rfl,hm,rw',ok,hy,yl,by omega,n9,m9,tb,λq a1 a2 us' mv' ys' rs G fr H1 ls eq ea1 R1 ea2 k1 tb1=>?_⟩
  have hp1:=k1.tup _ _ hp
  dsimp only
  rw[hp1]
  refine⟨_,rfl,.str z,je9 _ _,?_⟩
  rw[jcp,eq]
  refine⟨_,rfl,.ref a1,je9 _ _,?_⟩
  rw[jcp,eq]
  refine⟨_,rfl,.ref a2,jf1 _ _ _,by omega,λp' hp'=>?_⟩
  have k2:Kp [] H1 (upd H1 p' (.tup [.str z,.ref a1,.ref a2])):=(Kp.refl [] H1).new hp'
  exact k p' a1 a2 us' mv' ys' rs G fr _ ls jb (k2.tup _ _ ea1) (R1.kp k2) (k2.tup _ _ ea2) (k1.trans (k2.mono (by simp))) (tb1.kp k2 (by simp) (by simp))
end
def Mc.rc(M:Mc)(r:Nat):Prop:=∃w,M.ws w/\M.led 0 w=r
structure LeanM(M M':Mc)(h:Nat->Nat):Prop where
 ok:M'.ok
 n1:1<=M'.n
 le:M'.n<=M.n
 mm:M'.m=M.m
 z:h 0=0
 lt:∀r,M.rc r->h r<M'.n
 st:∀r a,M.rc r->a<M.m->h (M.d r a)=M'.d (h r) a
 ye:∀r,M.rc r->M'.y (h r)=M.y r
 inj:∀r s,M.rc r->M.rc s->(h r=h s↔M.eq r s)
 sur:∀k,k<M'.n->∃r,M.rc r/\h r=k
theorem Mc.rc_lt{M:Mc}(ok:M.ok)(n1:1<=M.n){r:Nat}(h:M.rc r):r<M.n:=by
 obtain⟨w,hw,rfl⟩:=h
 exact Mc.led_lt ok (by omega) hw
theorem Mc.rc_step{M:Mc}{r a:Nat}(h:M.rc r)(ha:a<M.m):M.rc (M.d r a):=by
 obtain⟨w,hw,rfl⟩:=h
 refine⟨w++[a],λb hb=>?_,by unfold Mc.led;rw[Oz];rfl⟩
 rcases Aw.mp hb with h|h
 ·exact hw b h
 ·cases Aj.mp h;exact ha
theorem jdl{α β:Type}{f:α->β}{l:List α}{i:Nat}{x:α}{d:β}(h:l[i]?=some x):(l.map f).getD i d=f x:=by
 rw[Ac,Ag,h];rfl
theorem jnl{g:Nat->Nat->Nat}{m:Nat}{rs:List Nat}{i r a:Nat}(h:rs[i]?=some r)(ha:a<m):dM (cuM g m rs) i a=rs.idxOf (g r a):=by
 unfold dM cuM
 rw[jdl h,jdl (Oo ha)]
theorem js4{mv:List (List Nat)}{G:Nat->Nat}{fr:List Nat}{m k f a:Nat}(ok:MvOk mv m)(h:fr[k]?=some f)(hf:f<mv.length)(ha:a<m):dM (mgR mv G fr) k a=phi G fr (dM mv f a):=by
 unfold dM mgR
 rw[jdl h]
 exact jdl (ok.at_ hf ha).1
theorem MG.z{G:Nat->Nat}{j:Nat}{fr:List Nat}(h:MG G j fr)(hj:0<j):phi G fr 0=0:=by
 have m:=h.all 0 hj
 obtain⟨f,hf,e⟩:=An.mp m
 have f0:f=0:=Ig λc=>h.fst f hf 0 (by omega) e.symm
 subst f0
 obtain⟨i,hi⟩:=Iu hf
 have i0:i=0:=Ig λc=>by
  have hl:=(Ae.mp hi).1
  have h2:=(Ae.mp hi).2
  have:=(Uc.mp h.inc) 0 i (by omega) hl (by omega)
  omega
 subst i0
 unfold phi
 cases fr with
 |nil=>simp at hi
 |cons x r=>simp at hi;subst hi;simp
theorem MG.at_{G:Nat->Nat}{j:Nat}{fr:List Nat}(h:MG G j fr){r:Nat}(hr:r<j):∃f,fr[phi G fr r]?=some f/\G f=G r/\f<j/\phi G fr r<fr.length:=by
 have m:=h.all r hr
 have l:=Ib.mpr m
 have e:=Oe l
 rw[Ad]at l
 rw[Uf]at e
 exact⟨_,Aa l,e,h.lt _ (Ic _),l⟩
theorem MG.phi_eq{G:Nat->Nat}{j:Nat}{fr:List Nat}(h:MG G j fr){r s:Nat}(hr:r<j)(hs:s<j):phi G fr r=phi G fr s↔G r=G s:=by
 refine⟨λe=>?_,λe=>by unfold phi;rw[e]⟩
 obtain⟨f,h1,h2,_⟩:=h.at_ hr
 obtain⟨f',h3,h4,_⟩:=h.at_ hs
 rw[e,h3]at h1
 cases h1
 rw[<-h2,h4]
theorem MG.phi_at{G:Nat->Nat}{j:Nat}{fr:List Nat}(h:MG G j fr){k f:Nat}(e:fr[k]?=some f):phi G fr f=k:=by
 have kl:=(Ae.mp e).1
 have l:k<(fr.map G).length:=by rw[Ad];exact kl
 have e2:(fr.map G)[k]=G f:=by rw[Uf,(Ae.mp e).2]
 unfold phi
 rw[<-e2]
 exact h.nd.idxOf_getElem k l
theorem LS.lean{mv mv':List (List Nat)}{m:Nat}{ys ys':List Bool}{rs fr:List Nat}{G:Nat->Nat}(S:LS mv m ys 0 mv' ys' rs G fr)(ok:MvOk mv m)(n1:1<=mv.length):LeanM (mcOf mv m ys) (mcOf mv' m ys') (λr=>phi G fr (rs.idxOf r))/\MvOk mv' m/\ys'.length=mv'.length:=by
 have bi:=S.bf.inv (n:=mv.length) (by omega) (λr a hr ha=>(ok.at_ hr ha).2)
 have rl:rs.length<=mv.length:=jdc bi.nd bi.lt
 have r1:1<=rs.length:=(Ae.mp bi.z).1
 have cok:=jey bi
 have ml:(cuM (dM mv) m rs).length=rs.length:=by simp[cuM]
 have M1:=jds (ys:=rs.map λr=>ys.getD r false) cok
 have rcm:∀r,(mcOf mv m ys).rc r↔r∈rs:=λr=>by
  refine⟨fun⟨w,hw,e⟩=>?_,λh=>?_⟩
  ·subst e
   have:∀(w:List Nat)(r:Nat),(mcOf mv m ys).ws w->r∈rs->(mcOf mv m ys).led r w∈rs:=λw=>by
    induction w with
    |nil=>intro r _ h;exact h
    |cons a w ih =>
     intro r hw h
     exact ih _ (λb hb=>hw b (.tail _ hb)) (bi.cl r (by rw[Ir];exact h) a (hw a (.head _)))
   exact this w 0 hw (Al bi.z)
  ·obtain⟨w,hw,e⟩:=bi.rc r h
   exact⟨w,hw,e⟩
 have ixl:∀r,r∈rs->rs.idxOf r<rs.length:=λr h=>Ib.mpr h
 have ixe:∀r,r∈rs->rs[rs.idxOf r]?=some r:=λr h=>by rw[Aa (ixl r h),Oe]
 have d1:∀r a,r∈rs->a<m->dM (cuM (dM mv) m rs) (rs.idxOf r) a=rs.idxOf (dM mv r a):=λr a h ha=>jnl (ixe r h) ha
 have clo:∀r a,r∈rs->a<m->dM mv r a∈rs:=λr a h ha=>bi.cl r (by rw[Ir];exact h) a ha
 have led1:∀(w:List Nat)(r:Nat),(∀a∈w,a<m)->r∈rs->(mcOf (cuM (dM mv) m rs) m (rs.map λr=>ys.getD r false)).led (rs.idxOf r) w=rs.idxOf ((mcOf mv m ys).led r w)/\(mcOf mv m ys).led r w∈rs:=λw=>by
  induction w with
  |nil=>intro r _ h;exact⟨rfl,h⟩
  |cons a w ih =>
   intro r hw h
   have ha:=hw a (.head _)
   have:=ih (dM mv r a) (λb hb=>hw b (.tail _ hb)) (clo r a h ha)
   refine⟨?_,this.2⟩
   show(mcOf (cuM (dM mv) m rs) m (rs.map λr=>ys.getD r false)).led (dM (cuM (dM mv) m rs) (rs.idxOf r) a) w=_
   rw[d1 r a h ha]
   exact this.1
 have y1:∀r,r∈rs->(rs.map λr=>ys.getD r false).getD (rs.idxOf r) false=ys.getD r false:=λr h=>jdl (ixe r h)
 have eq1:∀r s,r∈rs->s∈rs->((mcOf (cuM (dM mv) m rs) m (rs.map λr=>ys.getD r false)).eq (rs.idxOf r) (rs.idxOf s)↔(mcOf mv m ys).eq r s):=λr s hr hs=>by
  have one:∀w,(∀a∈w,a<m)->∀r,r∈rs->(mcOf (cuM (dM mv) m rs) m (rs.map λr=>ys.getD r false)).y ((mcOf (cuM (dM mv) m rs) m (rs.map λr=>ys.getD r false)).led (rs.idxOf r) w)=(mcOf mv m ys).y ((mcOf mv m ys).led r w):=λw hw r hr=>by
   obtain⟨e1,e2⟩:=led1 w r hw hr
   rw[e1]
   exact y1 _ e2
  refine⟨λh w hw=>?_,λh w hw=>?_⟩
  ·rw[<-one w hw r hr,<-one w hw s hs];exact h w hw
  ·rw[one w hw r hr,one w hw s hs];exact h w hw
 have ml':mv'.length=fr.length:=by rw[S.em];simp[mgR]
 have yl':ys'.length=fr.length:=by rw[S.ey];simp[mgY]
 have fl:∀{k f:Nat},fr[k]?=some f->f<(cuM (dM mv) m rs).length:=λe=>by rw[ml];exact S.mg.lt _ (Al e)
 have mok':MvOk mv' m:=by
  rw[S.em]
  refine⟨λrow hrow=>?_,λrow hrow x hx=>?_⟩
  ·obtain⟨f,hf,rfl⟩:=An.mp hrow
   rw[Ad]
   have:f<(cuM (dM mv) m rs).length:=by rw[ml];exact S.mg.lt f hf
   exact cok.ln _ (by rw[Ac,Aa this];exact Ic _)
  ·obtain⟨f,hf,rfl⟩:=An.mp hrow
   obtain⟨t,ht,rfl⟩:=An.mp hx
   have:f<(cuM (dM mv) m rs).length:=by rw[ml];exact S.mg.lt f hf
   have tl:=cok.lt _ (by rw[Ac,Aa this];exact Ic _) t ht
   rw[ml]at tl
   obtain⟨_,_,_,_,l⟩:=S.mg.at_ tl
   simpa[mgR]using l
 refine⟨⟨jds mok',?_,?_,rfl,?_,λr h=>?_,λr a h ha=>?_,λr h=>?_,λr s hr hs=>?_,λk hk=>?_⟩,mok',by rw[ml',yl']⟩
 ·show 1<=mv'.length
  obtain⟨_,_,_,_,l⟩:=S.mg.at_ (show 0<rs.length by omega)
  omega
 ·show mv'.length<=mv.length
  have:=jcy (l:=fr) (zs:=List.range rs.length) (S.mg.inc.imp λh=>by omega) λr hr=>Ar.mpr (S.mg.lt r hr)
  rw[Az]at this
  omega
 ·have:rs.idxOf 0=0:=by
   have z:=bi.z
   cases hrs:rs with
   |nil=>rw[hrs]at z;cases z
   |cons x l=>rw[hrs]at z;simp at z;subst z;simp
  show phi G fr (rs.idxOf 0)=0
  rw[this]
  exact S.mg.z (by omega)
 ·have hr:=(rcm r).mp h
  obtain⟨_,_,_,_,l⟩:=S.mg.at_ (ixl r hr)
  show _<mv'.length
  omega
 ·have hr:=(rcm r).mp h
  obtain⟨f,e,ge,fr',l⟩:=S.mg.at_ (ixl r hr)
  have ha:a<m:=ha
  show phi G fr (rs.idxOf (dM mv r a))=dM mv' (phi G fr (rs.idxOf r)) a
  rw[S.em,js4 cok e (fl e) ha,<-d1 r a hr ha]
  have q1:=(cok.at_ (show rs.idxOf r<(cuM (dM mv) m rs).length by rw[ml];exact ixl r hr) ha).2
  have q2:=(cok.at_ (fl e) ha).2
  rw[ml]at q1 q2
  refine(S.mg.phi_eq q1 q2).mpr ((S.gr _ _ q1 q2).mpr ?_)
  exact Mc.eq_step ((S.gr _ _ (ixl r hr) fr').mp ge.symm) ha
 ·have hr:=(rcm r).mp h
  obtain⟨f,e,ge,fr',l⟩:=S.mg.at_ (ixl r hr)
  show ys'.getD (phi G fr (rs.idxOf r)) false=ys.getD r false
  rw[S.ey]
  unfold mgY
  rw[jdl e,<-y1 r hr]
  exact Mc.eq_y ((S.gr _ _ fr' (ixl r hr)).mp ge)
 ·have hr:=(rcm r).mp hr
  have hs:=(rcm s).mp hs
  show phi G fr (rs.idxOf r)=phi G fr (rs.idxOf s)↔_
  rw[S.mg.phi_eq (ixl r hr) (ixl s hs),S.gr _ _ (ixl r hr) (ixl s hs),eq1 r s hr hs]
 ·have hk:k<fr.length:=by have:k<mv'.length:=hk;omega
  have e:fr[k]?=some fr[k]:=Aa hk
  have f2:=S.mg.lt _ (Al e)
  have e2:rs[fr[k]]?=some (rs[fr[k]]):=Aa f2
  have m2:=Al e2
  refine⟨rs[fr[k]],(rcm _).mpr m2,?_⟩
  show phi G fr (rs.idxOf rs[fr[k]])=k
  rw[bi.nd.idxOf_getElem _ f2]
  exact S.mg.phi_at e
structure MH(H:Hp)(p:Addr)(z:Str)(pm py:Addr)(us:List V)(mv:List (List Nat))(m:Nat)(ys:List Bool):Prop where
 hp:H p=some (.tup [.str z,.ref pm,.ref py])
 hm:H pm=some (.tup us)
 rw:RowsM H us mv
 ok:MvOk mv m
 hy:H py=some (.tup (ys.map V.bl))
 yl:ys.length=mv.length
 n1:1<=mv.length
 n9:mv.length<=1000
 m9:m<=1000
theorem MH.kp{S:List Addr}{H H':Hp}{p:Addr}{z:Str}{pm py:Addr}{us:List V}{mv:List (List Nat)}{m:Nat}{ys:List Bool}(k:Kp S H H')(h:MH H p z pm py us mv m ys):MH H' p z pm py us mv m ys :=
 ⟨k.tup _ _ h.hp,k.tup _ _ h.hm,h.rw.kp k,h.ok,k.tup _ _ h.hy,h.yl,h.n1,h.n9,h.m9⟩
theorem Bf.det{g:Nat->Nat->Nat}{m f j:Nat}{rs rs':List Nat}(h:Bf g m f j rs)(h':Bf g m f j rs'):rs=rs':=by
 induction h generalizing rs' with
 |z=>cases h';rfl
 |s h hr ih =>
  cases h' with
  |s h' hr' =>
   cases ih h'
   rw[hr]at hr'
   cases hr'
   rfl
theorem Bf.back{g:Nat->Nat->Nat}{m f:Nat}:∀{j':Nat}{rs':List Nat},Bf g m f j' rs'->∀j,j<=j'->∃rs,Bf g m f j rs/\(j<j'->∃r,rs[j]?=some r)
 |0,rs',h,j,hj=>by
  have:j=0:=by omega
  subst this
  exact⟨rs',h,λz=>by omega⟩
 |j'+1,_,.s h hr,j,hj=>by
  by_cases c:j=j'+1
  ·subst c;exact⟨_,.s h hr,λz=>by omega⟩
  ·by_cases d:j=j'
   ·subst d;exact⟨_,h,λ_=>⟨_,hr⟩⟩
   ·obtain⟨rs,h1,h2⟩:=Bf.back h j (by omega)
    exact⟨rs,h1,λ_=>h2 (by omega)⟩
theorem Bf.full_one{g:Nat->Nat->Nat}{m f:Nat}{rs rs':List Nat}(h:Bf g m f rs.length rs)(h':Bf g m f rs'.length rs'):rs=rs':=by
 have key:∀{rs rs':List Nat},Bf g m f rs.length rs->Bf g m f rs'.length rs'->rs.length<=rs'.length->rs=rs':=fun{rs rs'} h h' l=>by
  by_cases c:rs.length<rs'.length
  ·obtain⟨r0,h1,h2⟩:=Bf.back h' rs.length l
   have e:=Bf.det h h1
   subst e
   obtain⟨r,hr⟩:=h2 c
   have:=(Ae.mp hr).1
   omega
  ·have e:rs.length=rs'.length:=by omega
   rw[<-e]at h'
   exact Bf.det h h'
 by_cases c:rs.length<=rs'.length
 ·exact key h h' c
 ·exact(key h' h (by omega)).symm
theorem Bf.image{g g':Nat->Nat->Nat}{m n' f:Nat}{h:Nat->Nat}{P:Nat->Prop}(pf:P f)(st:∀r,P r->∀a,a<m->P (g r a)/\h (g r a)=g' (h r) a)(f0:h f<n')(gl:∀r a,r<n'->a<m->g' r a<n'){j:Nat}{rs:List Nat}(B:Bf g m f j rs) :
  Bf g' m (h f) (ddp ((rs.take j).map h)).length (ddp (rs.map h))/\(∀r∈rs,P r)/\j<=rs.length:=by
 induction B with
 |z=>exact⟨by simpa[ddp,dd1]using(Bf.z:Bf g' m (h f) 0 [h f]),by simpa using pf,by simp⟩
 |@s j rs r B hr ih =>
  obtain⟨b,pr,jl⟩:=ih
  have rm:=Al hr
  have jl':=(Ae.mp hr).1
  have hP:=pr r rm
  have one:∀a,a<=m->ddp ((cuR g r a rs).map h)=cuR g' (h r) a (ddp (rs.map h))/\∀x∈cuR g r a rs,P x:=λa=>by
   induction a with
   |zero=>intro _;exact⟨rfl,pr⟩
   |succ a ih =>
    intro ha
    obtain⟨e,p⟩:=ih (by omega)
    obtain⟨p1,e1⟩:=st r hP a (by omega)
    rw[jdb,jdb,<-e]
    unfold cu1
    rw[<-e1]
    by_cases c:g r a∈cuR g r a rs
    ·rw[Ao c,Ao ((jdf _ _).mpr (An.mpr ⟨_,c,rfl⟩))]
     exact⟨rfl,p⟩
    ·rw[Am c,A3,List.map_singleton,jd7]
     refine⟨rfl,λx hx=>?_⟩
     rcases Aw.mp hx with q|q
     ·exact p x q
     ·cases Aj.mp q;exact p1
  obtain⟨e,p⟩:=one m (Ak _)
  obtain⟨t,et⟩:=je0 g r rs m
  have tk:(cuR g r m rs).take (j+1)=rs.take j++[r]:=by rw[et,Ue (by omega),Od,hr];rfl
  refine⟨?_,p,by rw[et,Av];omega⟩
  rw[tk,A3,List.map_singleton,jd7,e]
  obtain⟨t2,e2⟩:=jmg ((rs.take (j+1)).map h) ((rs.drop (j+1)).map h)
  rw[<-A3,U5,Od,hr]at e2
  have e2:ddp (rs.map h)=ddp ((rs.take j).map h++[h r])++t2:=by
   rw[e2]
   congr 2
   simp
  rw[jd7]at e2
  unfold dd1 at e2⊢
  by_cases c:h r∈ddp ((rs.take j).map h)
  ·rw[Ao c]at e2⊢
   have bi:=b.inv f0 gl
   have tk2:(ddp (rs.map h)).take (ddp ((rs.take j).map h)).length=ddp ((rs.take j).map h):=by rw[e2,Ue (Ak _),Ir]
   have same:∀a,a<=m->cuR g' (h r) a (ddp (rs.map h))=ddp (rs.map h):=λa=>by
    induction a with
    |zero=>intro _;rfl
    |succ a ih =>
     intro ha
     rw[jdb,ih (by omega)]
     unfold cu1
     exact Ao (bi.cl (h r) (by rw[tk2];exact c) a (by omega))
   rw[same m (Ak _)]
   exact b
  ·rw[Am c]at e2⊢
   rw[Av,List.length_singleton]
   refine .s b ?_
   rw[e2,A2 (by rw[Av,List.length_singleton];omega),A9 (Ak _)]
   simp
theorem jll{mv:List (List Nat)}{m:Nat}{ys:List Bool}{rs:List Nat}(ok:MvOk mv m)(n1:1<=mv.length)(bf:Bf (dM mv) m 0 rs.length rs)(r:Nat):(mcOf mv m ys).rc r↔r∈rs:=by
 have bi:=bf.inv (n:=mv.length) (by omega) (λr a hr ha=>(ok.at_ hr ha).2)
 refine⟨fun⟨w,hw,e⟩=>?_,λh=>?_⟩
 ·subst e
  have:∀(w:List Nat)(r:Nat),(mcOf mv m ys).ws w->r∈rs->(mcOf mv m ys).led r w∈rs:=λw=>by
   induction w with
   |nil=>intro r _ h;exact h
   |cons a w ih =>
    intro r hw h
    exact ih _ (λb hb=>hw b (.tail _ hb)) (bi.cl r (by rw[Ir];exact h) a (hw a (.head _)))
  exact this w 0 hw (Al bi.z)
 ·obtain⟨w,hw,e⟩:=bi.rc r h
  exact⟨w,hw,e⟩
theorem LeanM.one{M M1 M2:Mc}{h1 h2:Nat->Nat}(L1:LeanM M M1 h1)(L2':LeanM M M2 h2){rs:List Nat}(rc:∀r,M.rc r↔r∈rs)(g1:RGr (rs.map h1))(g2:RGr (rs.map h2)) :
  M1.n=M2.n/\(∀r,M.rc r->h1 r=h2 r):=by
 have e:rs.map h1=rs.map h2:=by
  refine RGr.one g1 g2 (by simp) λi j hi hj=>?_
  rw[Ad]at hi hj
  rw[Ag,Ag,Ag,Ag,Aa hi,Aa hj]
  have q1:=(rc _).mpr (Ic hi)
  have q2:=(rc _).mpr (Ic hj)
  show some (h1 rs[i])=some (h1 rs[j])↔some (h2 rs[i])=some (h2 rs[j])
  rw[Yq,Yq,L1.inj _ _ q1 q2,L2'.inj _ _ q1 q2]
 have he:∀r,M.rc r->h1 r=h2 r:=λr hr=>by
  obtain⟨i,hi⟩:=Iu ((rc r).mp hr)
  have q:(rs.map h1)[i]?=(rs.map h2)[i]?:=by rw[e]
  rw[Ag,Ag,hi]at q
  exact Aq q
 refine⟨?_,he⟩
 have le:∀{A B:Mc}{f g:Nat->Nat},LeanM M A f->LeanM M B g->(∀r,M.rc r->f r=g r)->A.n<=B.n:=fun{A B f g} la lb hfg=>by
  by_cases c:A.n=0
  ·omega
  ·obtain⟨r,hr,er⟩:=la.sur (A.n-1) (by omega)
   have:=lb.lt r hr
   rw[<-hfg r hr,er]at this
   omega
 have a:=le L1 L2' he
 have b:=le L2' L1 λr hr=>(he r hr).symm
 omega
theorem LeanM.same{M:Mc}{mv1 mv2:List (List Nat)}{m:Nat}{ys1 ys2:List Bool}{h1 h2:Nat->Nat}(L1:LeanM M (mcOf mv1 m ys1) h1)(L2':LeanM M (mcOf mv2 m ys2) h2)(o1:MvOk mv1 m)(o2:MvOk mv2 m)(l1:ys1.length=mv1.length)(l2:ys2.length=mv2.length){rs:List Nat}(rc:∀r,M.rc r↔r∈rs)(g1:RGr (rs.map h1))(g2:RGr (rs.map h2)):mv1=mv2/\ys1=ys2:=by
 obtain⟨en,eh⟩:=LeanM.one L1 L2' rc g1 g2
 have en:mv1.length=mv2.length:=en
 have mm:m=M.m:=L1.mm
 have dd:∀k a,k<mv1.length->a<m->dM mv1 k a=dM mv2 k a:=λk a hk ha=>by
  obtain⟨r,hr,e⟩:=L1.sur k hk
  have q1:=L1.st r a hr (by omega)
  have q2:=L2'.st r a hr (by omega)
  rw[eh _ (Mc.rc_step hr (by omega)),q2,<-eh r hr,e]at q1
  exact q1.symm
 have yy:∀k,k<mv1.length->ys1.getD k false=ys2.getD k false:=λk hk=>by
  obtain⟨r,hr,e⟩:=L1.sur k hk
  have q1:=L1.ye r hr
  have q2:=L2'.ye r hr
  rw[e]at q1
  rw[<-eh r hr,e]at q2
  exact q1.trans q2.symm
 constructor
 ·refine O5 en λk a b=>?_
  have x1:=o1.ln _ (Ic a)
  have x2:=o2.ln _ (Ic b)
  refine O5 (by omega) λj c d=>?_
  have q:=dd k j a (by omega)
  unfold dM at q
  simp only[Ac,Aa a,Aa b,Option.getD_some,Aa c,Aa d]at q
  exact q
 ·refine O5 (by omega) λk a b=>?_
  have q:=yy k (by omega)
  simp only[Ac,Aa a,Aa b,Option.getD_some]at q
  exact q
theorem LS.rg{mv mv':List (List Nat)}{m first:Nat}{ys ys':List Bool}{rs fr:List Nat}{G:Nat->Nat}(S:LS mv m ys first mv' ys' rs G fr)(nd:rs.Nodup):RGr (rs.map λr=>phi G fr (rs.idxOf r)):=by
 have e:rs.map (λr=>phi G fr (rs.idxOf r))=(List.range rs.length).map (phi G fr):=by
  refine O5 (by simp) λi a b=>?_
  rw[Uf,Uf,Ug,nd.idxOf_getElem i (by simpa using a)]
 rw[e]
 intro i k hi j jk
 rw[Ag]at hi
 obtain⟨r,hr,rfl⟩:=Ie.mp hi
 obtain⟨rl,e'⟩:=Ae.mp hr
 rw[Ug]at e'
 rw[Az]at rl
 subst e'
 obtain⟨f,f1,f2,f3,f4⟩:=S.mg.at_ rl
 have jl:j<fr.length:=by omega
 have ej:fr[j]?=some fr[j]:=Aa jl
 have lt:fr[j]<f:=by
  obtain⟨q1,q2⟩:=Ae.mp f1
  rw[<-q2]
  exact(Uc.mp S.mg.inc) j _ jl q1 jk
 have fi:f<=i:=by
  by_cases c:f<=i
  ·exact c
  ·exact absurd f2.symm (S.mg.fst f (Al f1) i (by omega))
 refine⟨fr[j],by omega,?_⟩
 rw[Ag,Oo (by omega)]
 exact Um some (S.mg.phi_at ej)
theorem LeanM.anew{M:Mc}{mv:List (List Nat)}{m:Nat}{ys:List Bool}{h:Nat->Nat}(L:LeanM M (mcOf mv m ys) h)(ok:MvOk mv m)(yl:ys.length=mv.length){rs:List Nat}(bf:Bf (dM mv) m 0 rs.length rs){rM:List Nat}(rcM:∀r,M.rc r↔r∈rM)(bM:Bf M.d m 0 rM.length rM) :
  LeanM M (mcOf (cuM (dM mv) m rs) m (rs.map λr=>ys.getD r false)) (λr=>rs.idxOf (h r))/\RGr (rM.map λr=>rs.idxOf (h r))/\rs.length=mv.length:=by
 have n1:1<=mv.length:=L.n1
 have mm:m=M.m:=L.mm
 have bi:=bf.inv (n:=mv.length) (by omega) (λr a hr ha=>(ok.at_ hr ha).2)
 have z:M.rc 0:=⟨[],by simp[Mc.ws],rfl⟩
 have im:=Bf.image (g:=M.d) (g':=dM mv) (h:=h) (P:=M.rc) (n':=mv.length) z (λr hr a ha=>⟨Mc.rc_step hr (by omega),L.st r a hr (by omega)⟩) (by rw[L.z];omega) (λr a hr ha=>(ok.at_ hr ha).2) bM
 rw[L.z,Ir]at im
 have er:rs=ddp (rM.map h):=Bf.full_one bf im.1
 have inr:∀r,M.rc r->h r∈rs:=λr hr=>by rw[er,jdf];exact An.mpr ⟨r,(rcM r).mp hr,rfl⟩
 have all:∀k,k<mv.length->k∈rs:=λk hk=>by
  obtain⟨r,hr,e⟩:=L.sur k hk
  rw[<-e];exact inr r hr
 have rl:rs.length=mv.length:=by
  have h1:rs.length<=mv.length:=jdc bi.nd bi.lt
  have h2:=L2.nodup_len (List.range mv.length) rs Iq λx hx=>all x (Ar.mp hx)
  rw[Az]at h2
  omega
 have ixl:∀r,r∈rs->rs.idxOf r<rs.length:=λr h=>Ib.mpr h
 have ixe:∀r,r∈rs->rs[rs.idxOf r]?=some r:=λr h=>by rw[Aa (ixl r h),Oe]
 have cl:(cuM (dM mv) m rs).length=rs.length:=by simp[cuM]
 refine⟨⟨jds (jey bi),by show 1<=(cuM (dM mv) m rs).length;omega,by show(cuM (dM mv) m rs).length<=M.n;have:=L.le;rw[cl,rl];exact this,mm,?_,λr hr=>?_,λr a hr ha=>?_,λr hr=>?_,λr s hr hs=>?_,λk hk=>?_⟩,?_,rl⟩
 ·show rs.idxOf (h 0)=0
  rw[L.z]
  have:=bi.z
  cases rs with
  |nil=>simp at this
  |cons x r=>simp at this;subst this;simp
 ·show rs.idxOf (h r)<(cuM (dM mv) m rs).length
  rw[cl];exact ixl _ (inr r hr)
 ·show rs.idxOf (h (M.d r a))=dM (cuM (dM mv) m rs) (rs.idxOf (h r)) a
  rw[jnl (ixe _ (inr r hr)) (by omega)]
  exact Um rs.idxOf (L.st r a hr ha)
 ·show(rs.map λr=>ys.getD r false).getD (rs.idxOf (h r)) false=_
  rw[jdl (ixe _ (inr r hr))]
  exact L.ye r hr
 ·rw[<-L.inj r s hr hs]
  refine⟨λe=>?_,λe=>by show rs.idxOf (h r)=rs.idxOf (h s);rw[e]⟩
  have a:=ixe _ (inr r hr)
  have e:rs.idxOf (h r)=rs.idxOf (h s):=e
  rw[e,ixe _ (inr s hs)]at a
  exact(Aq a).symm
 ·have hk:k<rs.length:=by rw[<-cl];exact hk
  have km:=bi.lt _ (Ic hk)
  obtain⟨r,hr,e⟩:=L.sur _ km
  exact⟨r,hr,by show rs.idxOf (h r)=k;rw[e];exact bi.nd.idxOf_getElem k hk⟩
 ·have:=joo (rM.map h)
  rw[<-er,A0]at this
  exact this
theorem jrh(L:List Nat):(L.map nV).all jdq=true:=List.all_eq_true.mpr λx hx=>by
 obtain⟨t,_,rfl⟩:=An.mp hx
 rfl
theorem jsf(L:List Nat)(t:Nat):inV (nV t) (L.map nV)=decide (t∈L):=by
 unfold inV
 induction L with
 |nil=>rfl
 |cons x L ih =>
  rw[Ay,List.any_cons,ih]
  have:eqV (nV x) (nV t)=decide (x=t):=by
   show decide (_=_)=_
   exact decide_eq_decide.mpr ⟨λz=>Int.ofNat.inj z,λz=>by rw[z]⟩
  rw[this]
  by_cases h:x=t
  ·subst h;simp
  ·have h':¬t=x:=λz=>h z.symm
   simp[h,h']
def spNb:Sp:=λvs H Q _=>∃(pm py:Addr)(z:Str)(us:List V)(mv:List (List Nat))(m:Nat)(ys:List Bool),vs=[.str z,.ref pm,.ref py]/\H pm=some (.tup us)/\RowsM H us mv/\MvOk mv m/\H py=some (.tup (ys.map V.bl))/\ys.length=mv.length/\1<=mv.length/\mv.length<=1000/\m<=1000 /\
 ∀(q a1 a2:Addr)(us':List V)(rs:List Nat)(H':Hp),Bf (dM mv) m 0 rs.length rs->H' q=some (.tup [.str z,.ref a1,.ref a2])->H' a1=some (.tup us')->RowsM H' us' (cuM (dM mv) m rs)->H' a2=some (.tup ((rs.map λr=>ys.getD r false).map V.bl))->Kp [] H H'->Q (.ref q) H'
def ixV(rs:List Nat):V->V
 |.int t=>.int (rs.idxOf t.toNat:Nat)
 |v=>v
def yV(ys:List Bool):V->V
 |.int t=>.bl (ys.getD t.toNat false)
 |v=>v
def rowP(mv:List (List Nat))(m:Nat)(rs:List Nat)(y v:V)(H:Hp):Prop:=∃a,v=.ref a/\∃r,y=nV r/\H a=some (.tup (((List.range m).map λa=>rs.idxOf (dM mv r a)).map nV))
theorem jpc(mv:List (List Nat))(m:Nat)(rs:List Nat)(y:V):Firm (rowP mv m rs y):=λS x H1 H2 k ⟨a,e,r,e2,h⟩=>⟨a,e,r,e2,k.tup _ _ h⟩
theorem jq1{mv:List (List Nat)}{m:Nat}{rs0:List Nat}{H:Hp}:∀{rs:List Nat}{xs:List V},Paired (λy x=>rowP mv m rs0 y x H) (rs.map nV) xs->RowsM H xs (rs.map λr=>(List.range m).map λa=>rs0.idxOf (dM mv r a))
 |[],_,.nil=>.nil
 |r::rs,_,.cons ⟨a,e,r',e2,h⟩ t=>by
  have:r=r':=by
   unfold nV at e2
   have:=V.int.inj e2
   omega
  subst this
  exact .cons ⟨a,e,h⟩ (jq1 t)
theorem jrm(rs:List Nat)(t:Nat):(rs.map λx:Nat=>(x:Int)).idxOf (t:Int)=rs.idxOf t:=by
 induction rs with
 |nil=>rfl
 |cons x rs ih =>
  rw[Ay,Y7,Y7,ih]
  have:((x:Int) == (t:Int))=(x == t):=by
   by_cases c:x=t
   ·subst c;simp
   ·rw[Ox.mpr c,Ox.mpr (by omega)]
  rw[this]
theorem jic(rs:List Nat):rs.map nV=(rs.map λx:Nat=>(x:Int)).map V.int:=by rw[A0];rfl
theorem jfd{H:Hp}{l:Addr}{rs:List Nat}{t:Nat}{Q:VK}(e:H l=some (.lst (rs.map nV)))(ht:t∈rs)(q:Q (.int (rs.idxOf t:Nat)) H):je6 (.ref l) [.int (t:Int)] H Q:=by
 rw[jic]at e
 refine jnt e (An.mpr ⟨t,ht,rfl⟩) ?_
 rw[jrm];exact q
structure TNb(mg:Str->Option Value):Prop where
 n_len:mg "len"=none
 n_tuple:mg "tuple"=none
section
variable{P:Program}{w:World}{K:PySem.W.Frag}{mg:Str->Option Value}{base:Heap}
abbrev yd:Stmt:=top 28
theorem y6:FnScope ["_law_letters_here","_law_moves","_law_yes","_law_order","_law_at","_law_goal","_law_rows"] ["_law_letters_here","_law_moves","_law_yes"] (jg yd):=⟨rfl,rfl,rfl,by decide +kernel,rfl,by decide +kernel,by decide +kernel⟩
theorem ok__law_numbered{f:Addr}{fd:FuncData}(F:Fun K "_law_numbered" "_law_numbered" yd f fd)(T:TNb mg):FnOk P w K mg base CX0 1 f fd ["_law_letters_here","_law_moves","_law_yes"] spNb:=by
 refine F.ok y6 (λvs H Q E h=>?_) (λcdv A outer s H vs Q E hr h=>?_)
 ·obtain⟨pm,py,z,us,mv,m,ys,rfl,_⟩:=h
  rfl
 ·obtain⟨pm,py,z,us,mv,m,ys,rfl,hm,rw',ok,hy,yl,n1,n9,m9,k⟩:=h
  have hu:=hr.units
  have hsz:sizeLine=16777216:=Ij
  have ul:us.length=mv.length:=Il rw'
  have gl:∀r a,r<mv.length->a<m->dM mv r a<mv.length:=λr a hr ha=>(ok.at_ hr ha).2
  refine exQ (je (jq (i:=3) y6.nd rfl (by ac_rfl) (kx (ja jh jc)))
  (je (jq (i:=4) y6.nd rfl (by ac_rfl) jh)
  (je (zy A8 (j5 jau (qpv 4) (jt jw (by rfl) T.n_len j6 (ja (qpv 3) jc)) (j9 _)) (je (yc A8 rfl (kh (K:=K) (jo ix_U (qpv 1) (jo ix_U (qpv 3) (qpv 4) (λ_ _=>rfl)) (λ_ _=>rfl)) rfl) (jr (i:=5) y6.nd rfl (by ac_rfl)) (jj (yf (j5 (op_notinU (K:=K) rfl) (qpv 5) (qpv 3) (by with_unfolding_all rfl)) (jj (kj (ko A5 A6 ki (qpv 3) (ja (qpv 5) jc) jcq))) kg)))
  (jj (jq (i:=4) y6.nd rfl (by ac_rfl) (jz yo (qpv 4) jh)))))
  (je (jq (i:=6) y6.nd rfl (by ac_rfl) (jv kc (by rfl) T.n_tuple yj (ja (yp rfl (jco (sc:=jg yd) (N:=["_law_letters_here","_law_moves","_law_yes","_law_order","_law_at","_law_goal","_law_rows"]) (Nc:=["_law_room","_law_order","_law_moves"]) (js:=[none,some 3,some 1]) (by decide +kernel)) (kh (K:=K) (qpv 3) rfl) (λ_ _ _ _=>(jr (i:=0) (show List.Nodup [("_law_room":Str),("_law_order":Str),("_law_moves":Str)]from by decide +kernel) rfl (by ac_rfl))) (λ_ _ _ _=>(jv kc (by rfl) T.n_tuple yj (ja (yp rfl (jco (sc:=jqf {kind:=.function,names:=[(".0",.local),("_law_room",.local),("tuple",.globalImplicit),("_law_moves",.free),("_law_order",.free)],isGenerator:=false,isCoroutine:=false} (jg yd)) (N:=["_law_room","_law_order","_law_moves"]) (Nc:=["_law_goal","_law_order"]) (js:=[none,some 1]) (by decide +kernel)) (kh (K:=K) (jo ix_U (qpv 2) (qpv 0) (λ_ _=>rfl)) rfl) (λ_ _ _ _=>(jr (i:=0) (show List.Nodup [("_law_goal":Str),("_law_order":Str)]from by decide +kernel) rfl (by ac_rfl))) (λ_ _ _ _=>(ko Wk Wl (jas hu) (qpv 1) (ja (qpv 0) jc) jcq))) jc)))) jc)))
  (jj (j3 (yq (ja (qpv 0) (ja (qpv 6) (ja (jv kc (by rfl) T.n_tuple yj (ja (yp rfl (jco (sc:=jg yd) (N:=["_law_letters_here","_law_moves","_law_yes","_law_order","_law_at","_law_goal","_law_rows"]) (Nc:=["_law_room","_law_yes"]) (js:=[none,some 2]) (by decide +kernel)) (kh (K:=K) (qpv 3) rfl) (λ_ _ _ _=>(jr (i:=0) (show List.Nodup [("_law_room":Str),("_law_yes":Str)]from by decide +kernel) rfl (by ac_rfl))) (λ_ _ _ _=>(jo ix_U (qpv 1) (qpv 0) (λ_ _=>rfl)))) jc)) jc)))))))))) ?_
  simp!
  refine⟨by omega,λpr hpr=>?_⟩
  refine⟨λμ σ H'=>∃(j:Nat)(rs:List Nat)(v5:Option V),σ=[some (.str z),some (.ref pm),some (.ref py),some (.ref pr),some (.int (j:Int)),v5,none]/\Bf (dM mv) m 0 j rs/\H' pr=some (.lst (rs.map nV))/\Kp [] H H'/\μ=mv.length-j,⟨_,0,[0],none,rfl,.z,jb,(Kp.refl [] H).new hpr,rfl⟩,?_⟩
  rintro μ σ H1 ⟨j,rs,v5,rfl,bf,e1,kp,rfl⟩
  have bi:=bf.inv (n:=mv.length) (by omega) gl
  have rl:rs.length<=mv.length:=jdc bi.nd bi.lt
  have jl:=bi.jl
  have hm1:=kp.tup _ _ hm
  have rw1:=rw'.kp kp
  simp! [e1]
  rw[Ad]
  by_cases c:j<rs.length
  ·rw[Ao (by simpa using c)]
   have er:rs[j]?=some (rs[j]):=Aa c
   generalize rs[j]=r at er
   have rn:=bi.lt r (Al er)
   obtain⟨cr,hcx,hcr⟩:=rw1.get (show mv[r]?=some (mv.getD r [])by rw[Ac,Aa rn];rfl)
   have rowl:(mv.getD r []).length=m:=ok.ln _ (by rw[Ac,Aa rn];exact Ic _)
   refine⟨_,λ_ _ h=>h,?_⟩
   refine⟨nV r,jcm (by rw[Ag,er];rfl),?_⟩
   unfold nV
   rw[jcp,hm1]
   refine⟨_,rfl,.ref cr,jcm hcx,?_⟩
   simp only[hcr]
   refine jfg (xs:=(mv.getD r []).map nV) (λa σ H'=>∃(v5:Option V),σ=[some (.str z),some (.ref pm),some (.ref py),some (.ref pr),some (.int (j:Int)),v5,none]/\H' pr=some (.lst ((cuR (dM mv) r a rs).map nV))/\H' cr=some (.tup ((mv.getD r []).map nV))/\Kp [] H H') ⟨v5,rfl,e1,hcr,kp⟩ ?_ ?_ ?_
   ·rintro a σ H' _ ⟨_,rfl,_,h,_⟩
    exact h
   ·rintro a x σ H2 hx ⟨v5,rfl,e2,r2,kp2⟩
    rw[Ag]at hx
    obtain⟨t,ht,rfl⟩:=Ie.mp hx
    have ha:a<m:=by have:=(Ae.mp ht).1;omega
    have td:t=dM mv r a:=by have:=(ok.at_ rn ha).1;rw[ht]at this;exact Aq this
    simp! [e2]
    refine rInU.lst e2 rfl (jrh _) ?_
    rw[jsf,jdb]
    unfold cu1
    rw[<-td]
    have cl:(cuR (dM mv) r a rs).length<=mv.length:=jdc (jez bi.nd a) λx hx=>by
     rcases jd0 a x hx with h|⟨b,h1,h2⟩
     ·exact bi.lt x h
     ·rw[h2];exact gl r b rn (by omega)
    by_cases h:t∈cuR (dM mv) r a rs
    ·refine⟨_,rfl,?_⟩
     rw[Ao h,Am (by simp[h])]
     exact⟨e2,r2,kp2⟩
    ·refine⟨_,rfl,?_⟩
     rw[Am h,Ao (by simp[h]),e2]
     refine⟨rfl,_,rfl,by rw[Ad];omega,by rw[A3];rfl,?_,kp2.set e2 (.inr hpr)⟩
     rw[jd (λz=>by rw[z,e2]at r2;cases r2)];exact r2
   ·rintro σ H2 ⟨v5,rfl,e2,r2,kp2⟩
    rw[Ad,rowl]at e2
    simp!
    exact⟨mv.length-(j+1),by omega,j+1,cuR (dM mv) r m rs,_,⟨rfl,rfl⟩,.s bf er,e2,kp2,rfl⟩
  ·have ej:j=rs.length:=by omega
   subst ej
   rw[Am (by simpa using c)]
   intro D hD
   have hD0:H D=none:=kp.free hD
   refine jd5 (rowP mv m rs) (jpc mv m rs) e1 hD (by rw[Ad];omega) (λi y H2 Q' hy k2 q=>?_) λvv xs H2 k2 e2 pr2=>?_
   ·rw[Ag]at hy
    obtain⟨r,hr',rfl⟩:=Ie.mp hy
    have rn:=bi.lt r (Al hr')
    have hm2:=(kp.trans k2).tup _ _ hm
    have e12:=k2.old _ _ e1 Af
    obtain⟨cr,hcx,hcr⟩:=((rw'.kp kp).kp k2).get (show mv[r]?=some (mv.getD r [])by rw[Ac,Aa rn];rfl)
    have rowe:mv.getD r []=(List.range m).map (dM mv r):=by
     have rowl:(mv.getD r []).length=m:=ok.ln _ (by rw[Ac,Aa rn];exact Ic _)
     refine O5 (by simpa using rowl) λa q1 q2=>?_
     rw[Uf,Ug]
     have:=(ok.at_ rn (show a<m by omega)).1
     rw[Aa q1]at this
     exact Aq this
    simp! [nV,hm2]
    refine⟨.ref cr,jcm hcx,?_⟩
    simp only[hcr]
    intro D2 hD2
    refine jdz (ixV rs) hcr hD2 (by rw[rowe];simp;omega) (λx hx l Q'' q'=>?_) λvv=>?_
    ·obtain⟨t,ht,rfl⟩:=An.mp hx
     have tm:t∈rs:=by
      rw[rowe]at ht
      obtain⟨a,ha,rfl⟩:=An.mp ht
      exact bi.cl r (by rw[Ir];exact Al hr') a (Ar.mp ha)
     have e3:=((Kp.refl [] H2).new (o:=.lst l) hD2).old _ _ e12 Af
     simp! [nV,e3]
     exact jfd e3 tm q'
    dsimp only
    refine jcr jb λq2 hq2=>?_
    refine q (.ref q2) _ (((Kp.refl [] H2).new hD2).new hq2) ⟨q2,rfl,r,rfl,?_⟩
    rw[jb,rowe,A0,A0,A0]
    rfl
   have R2:=jq1 pr2
   dsimp only
   refine jcr e2 λq1 hq1=>?_
   have k3:Kp [] H1 (upd H2 q1 (.tup xs)):=k2.new hq1
   have eq1:upd H2 q1 (.tup xs) q1=some (.tup xs):=jb
   have R3:=R2.kp ((Kp.refl [] H2).new (o:=.tup xs) hq1)
   generalize upd H2 q1 (.tup xs)=H3 at k3 eq1 R3⊢
   have e13:=k3.old _ _ e1 Af
   have hy3:=(kp.trans k3).tup _ _ hy
   rw[e13]
   intro D3 hD3
   refine jec (yV ys) e13 hD3 (by rw[Ad];omega) (λx hx l Q' q=>?_) λvv=>?_
   ·obtain⟨t,ht,rfl⟩:=An.mp hx
    have tn:=bi.lt t ht
    have y4:=((Kp.refl [] H3).new (o:=.lst l) hD3).tup _ _ hy3
    simp! [nV,y4]
    exact⟨.bl (ys.getD t false),jcm (by rw[Ag,Ac,Aa (by omega)];rfl),q⟩
   dsimp only
   refine jcr jb λq2 hq2=>⟨by omega,λq3 hq3=>?_⟩
   have kA:Kp [] H3 (upd (upd (upd H3 D3 (.lst ((rs.map nV).map (yV ys)))) q2 (.tup ((rs.map nV).map (yV ys)))) q3 (.tup [.str z,.ref q1,.ref q2])):=(((Kp.refl [] H3).new hD3).new hq2).new hq3
   refine k q3 q1 q2 xs rs _ bf jb (kA.tup _ _ eq1) (R3.kp kA) ?_ ((kp.trans k3).trans kA)
   rw[jd (jf jb hq3),jb,A0,A0]
   rfl
end
def Mc.eqN(M:Mc)(i r s:Nat):Prop:=∀w,M.ws w->w.length<=i->M.y (M.led r w)=M.y (M.led s w)
theorem Mc.eqN_succ(M:Mc)(i r s:Nat):M.eqN (i+1) r s↔M.eqN i r s/\∀a,a<M.m->M.eqN i (M.d r a) (M.d s a):=by
 refine⟨λh=>⟨λw hw hl=>h w hw (by omega),λa ha w hw hl=>h (a::w) (λb hb=>(Ap.mp hb).elim (λe=>e▸ha) (hw b)) (by rw[List.length_cons];omega)⟩,fun⟨h1,h2⟩ w hw hl=>?_⟩
 cases w with
 |nil=>exact h1 [] hw (by simp)
 |cons a w=>exact h2 a (hw a (.head _)) w (λb hb=>hw b (.tail _ hb)) (by rw[List.length_cons]at hl;omega)
theorem Mc.eqN_eq{M:Mc}(ok:M.ok){i:Nat}(st:∀r s,r<M.n->s<M.n->M.eqN i r s->M.eqN (i+1) r s){r s:Nat}(hr:r<M.n)(hs:s<M.n):M.eqN i r s↔M.eq r s:=by
 refine⟨λh=>?_,λh w hw _=>h w hw⟩
 have key:∀(w:List Nat)(r s:Nat),r<M.n->s<M.n->M.ws w->M.eqN i r s->M.y (M.led r w)=M.y (M.led s w):=λw=>by
  induction w with
  |nil=>intro r s _ _ hw h;exact h [] hw (by simp)
  |cons a w ih =>
   intro r s hr hs hw h
   have ha:=hw a (.head _)
   exact ih _ _ (ok.lt r a hr ha) (ok.lt s a hs ha) (λb hb=>hw b (.tail _ hb)) (((M.eqN_succ i r s).mp (st r s hr hs h)).2 a ha)
 exact λw hw=>key w r s hr hs hw h
theorem jkq:∀{V L:List Nat},V.Nodup->(∀x∈V,x∈L)->L.length<=V.length->L.Nodup
 |[],L,_,_,hl=>by
  have:L=[]:=Ul.mp (Nat.le_zero.mp hl)
  subst this
  exact .nil
 |x::V,L,nd,sub,hl=>by
  obtain⟨nx,nd'⟩:=Of.mp nd
  have xm:=sub x (.head _)
  have el:=Wi xm
  rw[List.length_cons]at hl
  have i:=jkq (V:=V) (L:=L.erase x) nd' (λy hy=>(U8 (λe:y=x=>nx (e▸hy))).mpr (sub y (.tail _ hy))) (by omega)
  have xn:x∉L.erase x:=λq=>by
   have:=L2.nodup_len (x::V) (L.erase x) nd λy hy=>by
    by_cases c:y=x
    ·subst c;exact q
    ·exact(U8 c).mpr (sub y hy)
   rw[List.length_cons]at this
   have:=U1 xm
   omega
  exact(List.perm_cons_erase xm).nodup_iff.mpr (Of.mpr ⟨xn,i⟩)
theorem jra{f g:List Nat}(hl:f.length=g.length)(rf:∀i j:Nat,i<g.length->j<g.length->g[i]?=g[j]?->f[i]?=f[j]?):(ddp f).length<=(ddp g).length/\((ddp g).length<=(ddp f).length->∀i j:Nat,i<g.length->j<g.length->f[i]?=f[j]?->g[i]?=g[j]?):=by
 let φ:Nat->Nat:=λv=>f.getD (g.idxOf v) 0
 have at_:∀i,i<g.length->φ (g.getD i 0)=f.getD i 0:=λi hi=>by
  have gi:g[i]?=some (g.getD i 0):=by rw[Ac,Aa hi];rfl
  have m:=Al gi
  have il:=Ib.mpr m
  have e:g[g.idxOf (g.getD i 0)]?=some (g.getD i 0):=by rw[Aa il,Oe]
  have:=rf _ i il hi (e.trans gi.symm)
  show f.getD (g.idxOf (g.getD i 0)) 0=f.getD i 0
  rw[Ac,this,<-Ac]
 have cov:∀u∈ddp f,u∈(ddp g).map φ:=λu hu=>by
  obtain⟨i,hi⟩:=Iu ((jdf _ _).mp hu)
  have il:=(Ae.mp hi).1
  refine An.mpr ⟨g.getD i 0,(jdf _ _).mpr (by rw[Ac,Aa (by omega)];exact Ic _),?_⟩
  rw[at_ i (by omega),Ac,hi];rfl
 have le:=L2.nodup_len _ _ (je1 f) cov
 rw[Ad]at le
 refine⟨le,λh i j hi hj e=>?_⟩
 have nd:=jkq (je1 f) cov (by rw[Ad];exact h)
 have gi:g[i]?=some (g.getD i 0):=by rw[Ac,Aa hi];rfl
 have gj:g[j]?=some (g.getD j 0):=by rw[Ac,Aa hj];rfl
 have ep:φ (g.getD i 0)=φ (g.getD j 0):=by rw[at_ i hi,at_ j hj,Ac,Ac,e]
 rw[gi,gj]
 obtain⟨a,ha⟩:=Iu ((jdf g _).mpr (Al gi))
 obtain⟨b,hb⟩:=Iu ((jdf g _).mpr (Al gj))
 have al:=(Ae.mp ha).1
 have bl:=(Ae.mp hb).1
 have ea:((ddp g).map φ)[a]?=some (φ (g.getD i 0)):=by rw[Ag,ha];rfl
 have eb:((ddp g).map φ)[b]?=some (φ (g.getD i 0)):=by rw[Ag,hb,ep];rfl
 have ab:a=b:=by
  by_cases c:a=b
  ·exact c
  ·obtain⟨a1,a2⟩:=Ae.mp ea
   obtain⟨b1,b2⟩:=Ae.mp eb
   have pw:=Uc.mp nd
   by_cases d:a<b
   ·exact absurd (a2.trans b2.symm) (pw a b a1 b1 d)
   ·exact absurd (b2.trans a2.symm) (pw b a b1 a1 (by omega))
 rw[ab,hb]at ha
 exact ha.symm
structure CLI(M:Mc)(i:Nat)(cl:List Nat):Prop where
 ln:cl.length=M.n
 eq:∀r s,r<M.n->s<M.n->(cl.getD r 0=cl.getD s 0↔M.eqN i r s)
def keyL(M:Mc)(cl:List Nat)(r:Nat):List Nat:=cl.getD r 0::(List.range M.m).map λa=>cl.getD (M.d r a) 0
theorem jrr{M:Mc}(ok:M.ok){i:Nat}{cl:List Nat}(C:CLI M i cl){r s:Nat}(hr:r<M.n)(hs:s<M.n):keyL M cl r=keyL M cl s↔M.eqN (i+1) r s:=by
 rw[M.eqN_succ]
 unfold keyL
 rw[List.cons.injEq,C.eq r s hr hs]
 refine and_congr_right λ_=>⟨λh a ha=>?_,λh=>Ih λa ha=>?_⟩
 ·have q:((List.range M.m).map λa=>cl.getD (M.d r a) 0)[a]?=((List.range M.m).map λa=>cl.getD (M.d s a) 0)[a]?:=by rw[h]
  rw[Ag,Ag,Oo ha]at q
  exact(C.eq _ _ (ok.lt r a hr ha) (ok.lt s a hs ha)).mp (Aq q)
 ·have ha:=Ar.mp ha
  exact(C.eq _ _ (ok.lt r a hr ha) (ok.lt s a hs ha)).mpr (h a ha)
theorem CLI.next{M:Mc}(ok:M.ok){i:Nat}{cl:List Nat}(C:CLI M i cl){ks:List (List Nat)}(nd:ks.Nodup)(mem:∀k,k∈ks↔k∈(List.range M.n).map (keyL M cl)) :
  CLI M (i+1) ((List.range M.n).map λr=>ks.idxOf (keyL M cl r))/\(ddp ((List.range M.n).map λr=>ks.idxOf (keyL M cl r))).length=ks.length/\∀x,x∈(List.range M.n).map (λr=>ks.idxOf (keyL M cl r))↔x<ks.length:=by
 have kin:∀r,r<M.n->keyL M cl r∈ks:=λr hr=>(mem _).mpr (An.mpr ⟨r,Ar.mpr hr,rfl⟩)
 have g:∀r,r<M.n->((List.range M.n).map λr=>ks.idxOf (keyL M cl r)).getD r 0=ks.idxOf (keyL M cl r):=λr hr=>by
  rw[Ac,Ag,Oo hr];rfl
 have inj:∀{a b:List Nat},a∈ks->b∈ks->ks.idxOf a=ks.idxOf b->a=b:=fun{a b} ha hb e=>by
  have q1:ks[ks.idxOf a]?=some a:=by rw[Aa (Ib.mpr ha),Oe]
  have q2:ks[ks.idxOf b]?=some b:=by rw[Aa (Ib.mpr hb),Oe]
  rw[e,q2]at q1
  exact(Aq q1).symm
 have all:∀x,x∈(List.range M.n).map (λr=>ks.idxOf (keyL M cl r))↔x<ks.length:=λx=>by
  constructor
  ·intro h
   obtain⟨r,hr,rfl⟩:=An.mp h
   exact Ib.mpr (kin r (Ar.mp hr))
  ·intro h
   obtain⟨r,hr,e⟩:=An.mp ((mem _).mp (Ic h))
   exact An.mpr ⟨r,hr,by rw[e];exact nd.idxOf_getElem x h⟩
 refine⟨⟨by simp,λr s hr hs=>?_⟩,?_,all⟩
 ·rw[g r hr,g s hs,<-jrr ok C hr hs]
  exact⟨λe=>inj (kin r hr) (kin s hs) e,λe=>by rw[e]⟩
 ·have p:(ddp ((List.range M.n).map λr=>ks.idxOf (keyL M cl r))).Perm (List.range ks.length):=(U6 (je1 _) Iq).mpr λx=>by rw[jdf,all,Ar]
  rw[p.length_eq,Az]
theorem CLI.mono{M:Mc}{i:Nat}{cl cl':List Nat}(C:CLI M i cl)(C':CLI M (i+1) cl'):(ddp cl).length<=(ddp cl').length/\((ddp cl').length<=(ddp cl).length->∀r s,r<M.n->s<M.n->M.eqN i r s->M.eqN (i+1) r s):=by
 have ge:∀{c:List Nat}{j:Nat},CLI M j c->∀r s,r<M.n->s<M.n->(c[r]?=c[s]?↔M.eqN j r s):=fun{c j} D r s hr hs=>by
  have dl:=D.ln
  rw[<-D.eq r s hr hs,Ac,Ac,Aa (by omega),Aa (by omega)]
  simp
 have hl:cl.length=cl'.length:=by rw[C.ln,C'.ln]
 obtain⟨h1,h2⟩:=jra (f:=cl) (g:=cl') hl λi' j' hi hj e=>by
  rw[C'.ln]at hi hj
  exact(ge C i' j' hi hj).mpr (((M.eqN_succ _ _ _).mp ((ge C' i' j' hi hj).mp e)).1)
 refine⟨h1,λh r s hr hs e=>?_⟩
 have:=h2 h r s (by rw[C'.ln];exact hr) (by rw[C'.ln];exact hs) ((ge C r s hr hs).mpr e)
 exact(ge C' r s hr hs).mp this
section
variable{mv:List (List Nat)}{m:Nat}{ys:List Bool}{rs:List Nat}
theorem jqx(ok:MvOk mv m)(n1:1<=mv.length)(bf:Bf (dM mv) m 0 rs.length rs){r a:Nat}(hr:r∈rs)(ha:a<m):dM (cuM (dM mv) m rs) (rs.idxOf r) a=rs.idxOf (dM mv r a)/\dM mv r a∈rs:=by
 have bi:=bf.inv (n:=mv.length) (by omega) (λr a hr ha=>(ok.at_ hr ha).2)
 have ixe:rs[rs.idxOf r]?=some r:=by rw[Aa (Ib.mpr hr),Oe]
 exact⟨jnl ixe ha,bi.cl r (by rw[Ir];exact hr) a ha⟩
theorem jm0(ok:MvOk mv m)(n1:1<=mv.length)(bf:Bf (dM mv) m 0 rs.length rs)(ys':List Bool):∀(w:List Nat)(r:Nat),(∀a∈w,a<m)->r∈rs->(mcOf (cuM (dM mv) m rs) m ys').led (rs.idxOf r) w=rs.idxOf ((mcOf mv m ys).led r w)/\(mcOf mv m ys).led r w∈rs
 |[],r,_,h=>⟨rfl,h⟩
 |a::w,r,hw,h=>by
  obtain⟨e,q⟩:=jqx ok n1 bf h (hw a (.head _))
  have:=jm0 ok n1 bf ys' w (dM mv r a) (λb hb=>hw b (.tail _ hb)) q
  refine⟨?_,this.2⟩
  show(mcOf (cuM (dM mv) m rs) m ys').led (dM (cuM (dM mv) m rs) (rs.idxOf r) a) w=_
  rw[e];exact this.1
theorem jqy(h:r∈rs):(rs.map λr=>ys.getD r false).getD (rs.idxOf r) false=ys.getD r false :=
 jdl (by rw[Aa (Ib.mpr h),Oe])
theorem jst(ok:MvOk mv m)(n1:1<=mv.length)(bf:Bf (dM mv) m 0 rs.length rs){r s:Nat}(hr:r∈rs)(hs:s∈rs):(mcOf (cuM (dM mv) m rs) m (rs.map λr=>ys.getD r false)).eq (rs.idxOf r) (rs.idxOf s)↔(mcOf mv m ys).eq r s:=by
 have one:∀w,(∀a∈w,a<m)->∀r,r∈rs->(mcOf (cuM (dM mv) m rs) m (rs.map λr=>ys.getD r false)).y ((mcOf (cuM (dM mv) m rs) m (rs.map λr=>ys.getD r false)).led (rs.idxOf r) w)=(mcOf mv m ys).y ((mcOf mv m ys).led r w):=λw hw r hr=>by
  obtain⟨e1,e2⟩:=jm0 (ys:=ys) ok n1 bf (rs.map λr=>ys.getD r false) w r hw hr
  rw[e1]
  exact jqy e2
 refine⟨λh w hw=>?_,λh w hw=>?_⟩
 ·rw[<-one w hw r hr,<-one w hw s hs];exact h w hw
 ·rw[one w hw r hr,one w hw s hs];exact h w hw
def mvN(mvC:List (List Nat))(m:Nat)(cl order:List Nat):List (List Nat):=order.map λone=>(List.range m).map λa=>order.idxOf (cl.getD (dM mvC (cl.idxOf one) a) 0)
def ysN(ysC:List Bool)(cl order:List Nat):List Bool:=order.map λone=>ysC.getD (cl.idxOf one) false
structure Ord(cl order:List Nat)(many:Nat):Prop where
 nd:order.Nodup
 mem:∀x,x∈order↔x<many
 z:order[0]?=some (cl.getD 0 0)
theorem jkz(ok:MvOk mv m)(n1:1<=mv.length)(bf:Bf (dM mv) m 0 rs.length rs){cl order:List Nat}{many:Nat}(ln:cl.length=rs.length)
  (ce:∀r s,r<rs.length->s<rs.length->(cl.getD r 0=cl.getD s 0↔(mcOf (cuM (dM mv) m rs) m (rs.map λr=>ys.getD r false)).eq r s)) (dn:∀x,x∈cl↔x<many) (O:Ord cl order many) :
  LeanM (mcOf mv m ys) (mcOf (mvN (cuM (dM mv) m rs) m cl order) m (ysN (rs.map λr=>ys.getD r false) cl order)) (λr=>order.idxOf (cl.getD (rs.idxOf r) 0))/\MvOk (mvN (cuM (dM mv) m rs) m cl order) m/\(ysN (rs.map λr=>ys.getD r false) cl order).length=(mvN (cuM (dM mv) m rs) m cl order).length/\(mvN (cuM (dM mv) m rs) m cl order).length=many:=by
 have bi:=bf.inv (n:=mv.length) (by omega) (λr a hr ha=>(ok.at_ hr ha).2)
 have r1:1<=rs.length:=(Ae.mp bi.z).1
 have rl:rs.length<=mv.length:=jdc bi.nd bi.lt
 have cok:=jey bi
 have cL:(cuM (dM mv) m rs).length=rs.length:=by simp[cuM]
 have ol:order.length=many:=by
  have p:order.Perm (List.range many):=(U6 O.nd Iq).mpr λx=>by rw[O.mem,Ar]
  rw[p.length_eq,Az]
 have clm:∀r,r<rs.length->cl.getD r 0∈order:=λr hr=>(O.mem _).mpr ((dn _).mp (by rw[Ac,Aa (by omega)];exact Ic _))
 have fi:∀x,x<many->cl.idxOf x<rs.length/\cl.getD (cl.idxOf x) 0=x:=λx hx=>by
  have xm:=(dn x).mpr hx
  have il:=Ib.mpr xm
  exact⟨by omega,by rw[Ac,Aa il,Oe];rfl⟩
 have ixl:∀{x},x∈order->order.idxOf x<order.length:=λh=>Ib.mpr h
 have ixe:∀{x},x∈order->order[order.idxOf x]?=some x:=λh=>by rw[Aa (ixl h),Oe]
 have nl:(mvN (cuM (dM mv) m rs) m cl order).length=order.length:=by simp[mvN]
 have dlt:∀r a,r<rs.length->a<m->dM (cuM (dM mv) m rs) r a<rs.length:=λr a hr ha=>by
  have:=(cok.at_ (show r<(cuM (dM mv) m rs).length by omega) ha).2
  omega
 have dN:∀{x a:Nat},x∈order->a<m->dM (mvN (cuM (dM mv) m rs) m cl order) (order.idxOf x) a=order.idxOf (cl.getD (dM (cuM (dM mv) m rs) (cl.idxOf x) a) 0):=fun{x a} hx ha=>by
  show((mvN (cuM (dM mv) m rs) m cl order).getD (order.idxOf x) []).getD a 0=_
  unfold mvN
  rw[jdl (ixe hx),jdl (Oo ha)]
 have mok:MvOk (mvN (cuM (dM mv) m rs) m cl order) m:=by
  refine⟨λrow hrow=>?_,λrow hrow x hx=>?_⟩
  ·obtain⟨one,_,rfl⟩:=An.mp hrow;simp
  ·obtain⟨one,ho,rfl⟩:=An.mp hrow
   obtain⟨a,ha,rfl⟩:=An.mp hx
   rw[nl]
   exact ixl (clm _ (dlt _ a (fi one ((O.mem one).mp ho)).1 (Ar.mp ha)))
 have ixr:∀r,r∈rs->rs.idxOf r<rs.length:=λr h=>Ib.mpr h
 have rc:=jll (ys:=ys) ok n1 bf
 have st1:∀{k k' a:Nat},k<rs.length->k'<rs.length->a<m->cl.getD k 0=cl.getD k' 0->cl.getD (dM (cuM (dM mv) m rs) k a) 0=cl.getD (dM (cuM (dM mv) m rs) k' a) 0:=fun{k k' a} hk hk' ha e=>by
  have q:=(ce k k' hk hk').mp e
  exact(ce _ _ (dlt k a hk ha) (dlt k' a hk' ha)).mpr (Mc.eq_step q ha)
 refine⟨⟨jds mok,?_,?_,rfl,?_,λr hr=>?_,λr a hr ha=>?_,λr hr=>?_,λr s hr hs=>?_,λk hk=>?_⟩,mok,by simp[ysN,mvN],by rw[nl,ol]⟩
 ·show 1<=(mvN (cuM (dM mv) m rs) m cl order).length
  rw[nl]
  exact(Ae.mp O.z).1
 ·show(mvN (cuM (dM mv) m rs) m cl order).length<=mv.length
  rw[nl,ol]
  have:=L2.nodup_len (List.range many) cl Iq λx hx=>(dn x).mpr (Ar.mp hx)
  rw[Az]at this
  omega
 ·show order.idxOf (cl.getD (rs.idxOf 0) 0)=0
  have e0:rs.idxOf 0=0:=by
   have:=bi.z
   cases rs with
   |nil=>simp at this
   |cons x r=>simp at this;subst this;simp
  rw[e0]
  have oz:=O.z
  cases order with
  |nil=>simp at oz
  |cons x r=>simp at oz;subst oz;simp
 ·show order.idxOf _<(mvN (cuM (dM mv) m rs) m cl order).length
  rw[nl];exact ixl (clm _ (ixr r ((rc r).mp hr)))
 ·have rm:=(rc r).mp hr
  obtain⟨e,q⟩:=jqx ok n1 bf rm ha
  show order.idxOf (cl.getD (rs.idxOf (dM mv r a)) 0)=dM (mvN (cuM (dM mv) m rs) m cl order) (order.idxOf (cl.getD (rs.idxOf r) 0)) a
  have cm:=clm _ (ixr r rm)
  rw[dN cm ha,<-e]
  have f:=fi _ ((O.mem _).mp cm)
  rw[st1 (ixr r rm) f.1 ha f.2.symm]
 ·have rm:=(rc r).mp hr
  have cm:=clm _ (ixr r rm)
  show(ysN (rs.map λr=>ys.getD r false) cl order).getD (order.idxOf (cl.getD (rs.idxOf r) 0)) false=ys.getD r false
  unfold ysN
  rw[jdl (ixe cm),<-jqy (ys:=ys) rm]
  have f:=fi _ ((O.mem _).mp cm)
  exact(Mc.eq_y ((ce _ _ (ixr r rm) f.1).mp f.2.symm)).symm
 ·have rm:=(rc r).mp hr
  have sm:=(rc s).mp hs
  show order.idxOf (cl.getD (rs.idxOf r) 0)=order.idxOf (cl.getD (rs.idxOf s) 0)↔_
  rw[<-jst (ys:=ys) ok n1 bf rm sm,<-ce _ _ (ixr r rm) (ixr s sm)]
  refine⟨λe=>?_,λe=>by rw[e]⟩
  have a:=ixe (clm _ (ixr r rm))
  rw[e,ixe (clm _ (ixr s sm))]at a
  exact(Aq a).symm
 ·have hk:k<order.length:=by rw[<-nl];exact hk
  have f:=fi order[k] ((O.mem _).mp (Ic hk))
  refine⟨rs[cl.idxOf order[k]]'(f.1),(rc _).mpr (Ic f.1),?_⟩
  show order.idxOf (cl.getD (rs.idxOf (rs[cl.idxOf order[k]]'(f.1))) 0)=k
  rw[bi.nd.idxOf_getElem _ f.1,f.2]
  exact O.nd.idxOf_getElem k hk
end
theorem Mc.led_app'(M:Mc)(r:Nat)(w u:List Nat):M.led r (w++u)=M.led (M.led r w) u:=by unfold Mc.led;rw[Oz]
theorem jh5{M:Mc}{w u:List Nat}(h:M.ws w)(h2:M.ws u):M.ws (w++u):=λa ha=>(Aw.mp ha).elim (h a) (h2 a)
theorem LeanM.led{M M':Mc}{h:Nat->Nat}(L:LeanM M M' h):∀{w:List Nat}{r:Nat},M.rc r->M.ws w->M'.led (h r) w=h (M.led r w)/\M.rc (M.led r w)
 |[],r,hr,_=>⟨rfl,hr⟩
 |a::w,r,hr,hw=>by
  have ha:=hw a (.head _)
  have:=LeanM.led L (w:=w) (Mc.rc_step hr ha) λb hb=>hw b (.tail _ hb)
  show M'.led (M'.d (h r) a) w=h (M.led (M.d r a) w)/\_
  rw[<-L.st r a hr ha]
  exact this
theorem LeanM.ws{M M':Mc}{h:Nat->Nat}(L:LeanM M M' h){w:List Nat}:M'.ws w↔M.ws w:=by unfold Mc.ws;rw[L.mm]
theorem jis{f:List Nat}(h:RGr f):∀i,i<=f.length->∃k,ddp (f.take i)=List.range k/\∀x,x∈f.take i↔x<k
 |0,_=>⟨0,by simp[ddp],by simp⟩
 |i+1,hi=>by
  obtain⟨k,e,m⟩:=jis h i (by omega)
  have ex:f[i]?=some f[i]:=Aa (by omega)
  generalize f[i]=x at ex
  have tk:f.take (i+1)=f.take i++[x]:=by rw[Od,ex];rfl
  rw[tk,jd7,e]
  unfold dd1
  by_cases c:x<k
  ·rw[Ao (Ar.mpr c)]
   refine⟨k,rfl,λy=>?_⟩
   rw[Aw,m,Aj]
   exact⟨λq=>q.elim id λz=>z▸c,.inl⟩
  ·rw[Am (λz=>c (Ar.mp z))]
   have xk:x=k:=by
    by_cases d:k<x
    ·obtain⟨i',i1,i2⟩:=h i x ex k d
     have:k∈f.take i:=by
      rw[<-Wd i1]at i2
      exact Al i2
     have:=(m k).mp this
     omega
    ·omega
   subst xk
   refine⟨x+1,by rw[Ub],λy=>?_⟩
   rw[Aw,m,Aj]
   omega
theorem jno{f:List Nat}{n:Nat}(h:RGr f)(mem:∀x,x∈f↔x<n):ddp f=List.range n:=by
 obtain⟨k,e,m⟩:=jis h f.length (Ak _)
 rw[Ir]at e m
 have:k=n:=by
  by_cases c:k<n
  ·have:=(m k).mp ((mem k).mpr c);omega
  ·by_cases d:n<k
   ·have:=(mem n).mp ((m n).mpr d);omega
   ·omega
 rw[e,this]
theorem LeanM.can{M:Mc}{mv:List (List Nat)}{m:Nat}{ys:List Bool}{h:Nat->Nat}(L:LeanM M (mcOf mv m ys) h)(ok:MvOk mv m){rM:List Nat}(rcM:∀r,M.rc r↔r∈rM)(bM:Bf M.d m 0 rM.length rM) :
  (RGr (rM.map h)->Bf (dM mv) m 0 mv.length (List.range mv.length))/\(Bf (dM mv) m 0 mv.length (List.range mv.length)->RGr (rM.map h)):=by
 have mm:m=M.m:=L.mm
 have n1:1<=mv.length:=L.n1
 have z:M.rc 0:=⟨[],by simp[Mc.ws],rfl⟩
 have im:=(Bf.image (g:=M.d) (g':=dM mv) (h:=h) (P:=M.rc) (n':=mv.length) z (λr hr a ha=>⟨Mc.rc_step hr (by omega),L.st r a hr (by omega)⟩) (by rw[L.z];omega) (λr a hr ha=>(ok.at_ hr ha).2) bM).1
 rw[L.z,Ir]at im
 have mem:∀x,x∈rM.map h↔x<mv.length:=λx=>by
  constructor
  ·intro q
   obtain⟨r,hr,rfl⟩:=An.mp q
   exact L.lt r ((rcM r).mpr hr)
  ·intro q
   obtain⟨r,hr,e⟩:=L.sur x q
   exact An.mpr ⟨r,(rcM r).mp hr,e⟩
 refine⟨λrg=>?_,λb=>?_⟩
 ·have e:=jno rg mem
  rw[e,Az]at im
  exact im
 ·have b':Bf (dM mv) m 0 (List.range mv.length).length (List.range mv.length):=by rw[Az];exact b
  have e:=Bf.full_one im b'
  have rg:=joo (rM.map h)
  rw[e,A0]at rg
  have:rM.map ((λx=>(List.range mv.length).idxOf x)∘h)=rM.map h:=Ih λr hr=>by
   have hl:=L.lt r ((rcM r).mpr hr)
   show(List.range mv.length).idxOf (h r)=h r
   have hl:h r<(List.range mv.length).length:=by rw[Az];exact hl
   have:=(Iq (n:=mv.length)).idxOf_getElem (h r) hl
   rw[Ug]at this
   exact this
  rw[this]at rg
  exact rg
theorem LeanM.refl{M N:Mc}{h:Nat->Nat}(L:LeanM M N h):LeanM N N id/\∀k,N.rc k↔k<N.n:=by
 have z:M.rc 0:=⟨[],by simp[Mc.ws],rfl⟩
 have rcN:∀k,N.rc k↔k<N.n:=λk=>by
  constructor
  ·rintro⟨w,hw,rfl⟩
   exact Mc.led_lt L.ok L.n1 hw
  ·intro hk
   obtain⟨r,⟨w,hw,e⟩,ek⟩:=L.sur k hk
   refine⟨w,L.ws.mpr hw,?_⟩
   have:=(L.led z hw).1
   rw[L.z,e,ek]at this
   exact this
 refine⟨⟨L.ok,L.n1,Ak _,rfl,rfl,λr hr=>(rcN r).mp hr,λr a _ _=>rfl,λr _=>rfl,λr s hr hs=>?_,λk hk=>⟨k,(rcN k).mpr hk,rfl⟩⟩,rcN⟩
 obtain⟨r0,hr0,e1⟩:=L.sur r ((rcN r).mp hr)
 obtain⟨s0,hs0,e2⟩:=L.sur s ((rcN s).mp hs)
 show r=s↔_
 rw[<-e1,<-e2,L.inj r0 s0 hr0 hs0]
 have one:∀r,M.rc r->∀w,M.ws w->N.y (N.led (h r) w)=M.y (M.led r w):=λr hr w hw=>by
  obtain⟨q1,q2⟩:=L.led hr hw
  rw[q1,L.ye _ q2]
 refine⟨λq w hw=>?_,λq w hw=>?_⟩
 ·rw[one r0 hr0 w (L.ws.mp hw),one s0 hs0 w (L.ws.mp hw)];exact q w (L.ws.mp hw)
 ·rw[<-one r0 hr0 w hw,<-one s0 hs0 w hw];exact q w (L.ws.mpr hw)
def Lang(M1 M2:Mc):Prop:=M1.m=M2.m/\∀w,M1.ws w->M1.y (M1.led 0 w)=M2.y (M2.led 0 w)
theorem Lang.symm{M1 M2:Mc}(h:Lang M1 M2):Lang M2 M1:=⟨h.1.symm,λw hw=>(h.2 w (by unfold Mc.ws at hw⊢;rw[h.1];exact hw)).symm⟩
theorem Lang.trans{M1 M2 M3:Mc}(h:Lang M1 M2)(h':Lang M2 M3):Lang M1 M3:=⟨h.1.trans h'.1,λw hw=>(h.2 w hw).trans (h'.2 w (by unfold Mc.ws at hw⊢;rw[<-h.1];exact hw))⟩
theorem LeanM.tells{M N:Mc}{h:Nat->Nat}(L:LeanM M N h):Lang M N:=by
 have z:M.rc 0:=⟨[],by simp[Mc.ws],rfl⟩
 refine⟨L.mm.symm,λw hw=>?_⟩
 obtain⟨q1,q2⟩:=L.led z hw
 rw[L.z]at q1
 rw[q1,L.ye _ q2]
theorem LeanM.lang{M1 M2 N:Mc}{h1:Nat->Nat}(L:LeanM M1 N h1)(ok2:M2.ok)(n2:1<=M2.n)(la:Lang M1 M2):∃h2,LeanM M2 N h2:=by
 obtain⟨mm,la⟩:=la
 have z:M1.rc 0:=⟨[],by simp[Mc.ws],rfl⟩
 have ws:∀w,M2.ws w↔M1.ws w:=λw=>by unfold Mc.ws;rw[mm]
 have rc1:∀w,M1.ws w->M1.rc (M1.led 0 w):=λw hw=>⟨w,hw,rfl⟩
 have ex:∀r,∃k:Nat,M2.rc r->∃w,M2.ws w/\M2.led 0 w=r/\h1 (M1.led 0 w)=k:=λr=>by
  by_cases c:M2.rc r
  ·obtain⟨w,hw,e⟩:=c
   exact⟨h1 (M1.led 0 w),λ_=>⟨w,hw,e,rfl⟩⟩
  ·exact⟨0,λq=>absurd q c⟩
 let h2:Nat->Nat:=λr=>Classical.choose (ex r)
 have h2s:∀r,M2.rc r->∃w,M2.ws w/\M2.led 0 w=r/\h1 (M1.led 0 w)=h2 r:=λr=>Classical.choose_spec (ex r)
 have key:∀w,M2.ws w->h2 (M2.led 0 w)=h1 (M1.led 0 w):=λw hw=>by
  obtain⟨w',hw',e,e2⟩:=h2s _ ⟨w,hw,rfl⟩
  rw[<-e2]
  refine(L.inj _ _ (rc1 w' ((ws _).mp hw')) (rc1 w ((ws _).mp hw))).mpr λu hu=>?_
  rw[<-Mc.led_app',<-Mc.led_app',la _ (jh5 ((ws _).mp hw') hu),la _ (jh5 ((ws _).mp hw) hu),Mc.led_app',Mc.led_app',e]
 have yk:∀w,M2.ws w->N.y (h1 (M1.led 0 w))=M2.y (M2.led 0 w):=λw hw=>by rw[L.ye _ (rc1 w ((ws _).mp hw)),la w ((ws _).mp hw)]
 refine⟨h2,L.ok,L.n1,?_,by rw[L.mm,mm],?_,λr hr=>?_,λr a hr ha=>?_,λr hr=>?_,λr s hr hs=>?_,λk hk=>?_⟩
 ·have sur:∀k,k<N.n->∃r,M2.rc r/\h2 r=k:=λk hk=>by
   obtain⟨r,⟨w,hw,e⟩,ek⟩:=L.sur k hk
   exact⟨M2.led 0 w,⟨w,(ws _).mpr hw,rfl⟩,by rw[key w ((ws _).mpr hw),e,ek]⟩
  have:=L2.nodup_len (List.range N.n) ((List.range M2.n).map h2) Iq λk hk=>by
   obtain⟨r,hr,e⟩:=sur k (Ar.mp hk)
   exact An.mpr ⟨r,Ar.mpr (Mc.rc_lt ok2 n2 hr),e⟩
  rw[Ad,Az,Az]at this
  exact this
 ·have:=key [] (by simp[Mc.ws])
  exact this.trans L.z
 ·obtain⟨w,hw,rfl⟩:=hr
  rw[key w hw]
  exact L.lt _ (rc1 w ((ws _).mp hw))
 ·obtain⟨w,hw,rfl⟩:=hr
  have hw2:M2.ws (w++[a]):=jh5 hw (λb hb=>by cases Aj.mp hb;exact ha)
  have e:M2.d (M2.led 0 w) a=M2.led 0 (w++[a]):=by rw[Mc.led_app'];rfl
  have e':M1.d (M1.led 0 w) a=M1.led 0 (w++[a]):=by rw[Mc.led_app'];rfl
  rw[e,key _ hw2,<-e',key w hw]
  exact L.st _ a (rc1 w ((ws _).mp hw)) (by rw[mm];exact ha)
 ·obtain⟨w,hw,rfl⟩:=hr
  rw[key w hw];exact yk w hw
 ·obtain⟨w,hw,rfl⟩:=hr
  obtain⟨v,hv,rfl⟩:=hs
  rw[key w hw,key v hv,L.inj _ _ (rc1 w ((ws _).mp hw)) (rc1 v ((ws _).mp hv))]
  have one:∀w,M2.ws w->∀u,M2.ws u->M1.y (M1.led (M1.led 0 w) u)=M2.y (M2.led (M2.led 0 w) u):=λw hw u hu=>by
   rw[<-Mc.led_app',<-Mc.led_app']
   exact la _ ((ws _).mp (jh5 hw hu))
  refine⟨λq u hu=>?_,λq u hu=>?_⟩
  ·rw[<-one w hw u hu,<-one v hv u hu];exact q u ((ws _).mp hu)
  ·rw[one w hw u ((ws _).mpr hu),one v hv u ((ws _).mpr hu)];exact q u ((ws _).mpr hu)
 ·obtain⟨r,⟨w,hw,e⟩,ek⟩:=L.sur k hk
  exact⟨M2.led 0 w,⟨w,(ws _).mpr hw,rfl⟩,by rw[key w ((ws _).mpr hw),e,ek]⟩
structure Lst(M:Mc)(mv:List (List Nat))(m:Nat)(ys:List Bool):Prop where
 h:∃h,LeanM M (mcOf mv m ys) h
 b:Bf (dM mv) m 0 mv.length (List.range mv.length)
 ok:MvOk mv m
 yl:ys.length=mv.length
theorem Lst.one{M1 M2:Mc}{mv1 mv2:List (List Nat)}{m:Nat}{ys1 ys2:List Bool}(a:Lst M1 mv1 m ys1)(b:Lst M2 mv2 m ys2)(la:Lang M1 M2):mv1=mv2/\ys1=ys2:=by
 obtain⟨h1,L1⟩:=a.h
 obtain⟨h2,L2'⟩:=b.h
 obtain⟨R1,rc⟩:=L1.refl
 obtain⟨h3,L3⟩:=L2'.lang L1.ok L1.n1 (la.symm.trans L1.tells)
 have rcr:∀r,(mcOf mv1 m ys1).rc r↔r∈List.range mv1.length:=λr=>by rw[Ar];exact rc r
 have bb:Bf (mcOf mv1 m ys1).d m 0 (List.range mv1.length).length (List.range mv1.length):=by rw[Az];exact a.b
 exact LeanM.same R1 L3 a.ok b.ok a.yl b.yl rcr ((R1.can a.ok rcr bb).2 a.b) ((L3.can b.ok rcr bb).2 b.b)
theorem jpd{mv:List (List Nat)}{m r:Nat}(ok:MvOk mv m)(h1:r<mv.length):mv.getD r []=(List.range m).map (dM mv r):=by
 have rm:mv.getD r []∈mv:=by rw[Ac,Aa h1];exact Ic _
 refine O5 (by simpa using ok.ln _ rm) λa q1 q2=>?_
 rw[Uf,Ug]
 have:=(ok.at_ h1 (show a<m by simpa using q2)).1
 rw[Aa q1]at this
 exact Aq this
theorem jrt{mv:List (List Nat)}{m:Nat}{ys:List Bool}{rs:List Nat}(ok:MvOk mv m)(n1:1<=mv.length)(bf:Bf (dM mv) m 0 rs.length rs){cl order:List Nat}{many:Nat}(ln:cl.length=rs.length)
  (ce:∀r s,r<rs.length->s<rs.length->(cl.getD r 0=cl.getD s 0↔(mcOf (cuM (dM mv) m rs) m (rs.map λr=>ys.getD r false)).eq r s)) (dn:∀x,x∈cl↔x<many) (O:Ord cl order many) {rs3:List Nat}
  (b3:Bf (dM (mvN (cuM (dM mv) m rs) m cl order)) m 0 rs3.length rs3) :
  Lst (mcOf mv m ys) (cuM (dM (mvN (cuM (dM mv) m rs) m cl order)) m rs3) m (rs3.map λr=>(ysN (rs.map λr=>ys.getD r false) cl order).getD r false):=by
 obtain⟨L,okN,ylN,nN⟩:=jkz ok n1 bf ln ce dn O
 have rc:=jll (ys:=ys) ok n1 bf
 obtain⟨L3,rg,rl⟩:=L.anew okN ylN b3 rc bf
 have biN:=b3.inv (n:=(mvN (cuM (dM mv) m rs) m cl order).length) L.n1 (λr a hr ha=>(okN.at_ hr ha).2)
 have cok:=jey biN
 exact⟨⟨_,L3⟩,(L3.can cok rc bf).1 rg,cok,by simp[cuM]⟩
def jq5:Sp:=λvs H Q _=>∃(p pm py:Addr)(z:Str)(us:List V)(mv:List (List Nat))(m:Nat)(ys:List Bool),vs=[.ref p]/\MH H p z pm py us mv m ys/\mv.length<64/\1<=m /\
 ∀(q a1 a2:Addr)(us':List V)(mv':List (List Nat))(ys':List Bool)(H':Hp),Lst (mcOf mv m ys) mv' m ys'->H' q=some (.tup [.str z,.ref a1,.ref a2])->H' a1=some (.tup us')->RowsM H' us' mv'->H' a2=some (.tup (ys'.map V.bl))->Kp [] H H'->Q (.ref q) H'
structure TLst(mg:Str->Option Value)(fn:Addr):Prop where
 n_range:mg "range"=none
 n_tuple:mg "tuple"=none
 n_len:mg "len"=none
 n_sorted:mg "sorted"=none
 n_int:mg "int"=none
 n_set:mg "set"=none
 m5z:mg "_law_numbered"=some (.ref fn)
def boV:V->V
 |.bl b=>.int (if b then 1 else 0)
 |v=>v
def cl0(ys:List Bool):List Nat:=ys.map λb=>if b then 1 else 0
def gtN(cl:List Nat):V->V
 |.int t=>.int (cl.getD t.toNat 0:Nat)
 |v=>v
def cI(l:List Nat):List Int:=l.map λx:Nat=>(x:Int)
theorem jki:∀{a b:List Nat},cI a=cI b->a=b
 |[],[],_=>rfl
 |[],_::_,h=>by cases h
 |_::_,[],h=>by cases h
 |x::a,y::b,h=>by
  have h:(x:Int)::cI a=(y:Int)::cI b:=h
  injection h with h1 h2
  rw[jki h2,show x=y by omega]
theorem jog:∀k:List Nat,(cI k).map Int.toNat=k
 |[]=>rfl
 |x::k=>by
  show((x:Int)).toNat::(cI k).map Int.toNat=x::k
  rw[jog k,Int.toNat_natCast]
def kxV(bs':List Addr)(kf:Addr->List Int):V->V
 |.ref b=>.int ((bs'.map kf).idxOf (kf b):Nat)
 |v=>v
theorem jqr(l:List Nat):(cI l).map V.int=l.map nV:=by unfold cI;rw[A0];rfl
theorem jse(ks:List (List Nat))(k:List Nat):(ks.map cI).idxOf (cI k)=ks.idxOf k:=by
 induction ks with
 |nil=>rfl
 |cons x ks ih =>
  rw[Ay,Y7,Y7,ih]
  have:(cI x == cI k)=(x == k):=by
   by_cases c:x=k
   ·subst c;simp
   ·rw[Ox.mpr c,Ox.mpr λz=>c (jki z)]
  rw[this]
def jdh(H:Hp)(b:Addr):List Int:=match H b with
 |some (.tup vs)=>vs.map λv=>match v with|.int i=>i|_=>0
 |_=>[]
theorem jed{H:Hp}{b:Addr}{k:List Int}(e:H b=some (.tup (k.map V.int))):jdh H b=k:=by
 unfold jdh
 rw[e]
 show(k.map V.int).map _=k
 rw[A0]
 exact(Ih (λ_ _=>rfl)).trans (List.map_id k)
theorem jmd{cl:List Nat}{c:List Int}(nd:c.Nodup)(mem:∀x,x∈c↔x∈cl.map λx:Nat=>(x:Int)):c.length=(ddp cl).length:=by
 have nd2:((ddp cl).map λx:Nat=>(x:Int)).Nodup:=Ww.mpr (List.Pairwise.imp (λh=>by omega) (je1 cl))
 have p:c.Perm ((ddp cl).map λx:Nat=>(x:Int)):=(U6 nd nd2).mpr λx=>by
  rw[mem,An,An]
  exact⟨fun⟨y,h,e⟩=>⟨y,(jdf _ _).mpr h,e⟩,fun⟨y,h,e⟩=>⟨y,(jdf _ _).mp h,e⟩⟩
 rw[p.length_eq,Ad]
theorem cli0{mv:List (List Nat)}{m:Nat}{ys:List Bool}(yl:ys.length=mv.length):CLI (mcOf mv m ys) 0 (cl0 ys):=by
 have g:∀r,r<mv.length->(cl0 ys).getD r 0=if ys.getD r false then 1 else 0:=λr hr=>by
  unfold cl0
  rw[Ac,Ag,Ac,Aa (by omega)];rfl
 refine⟨by simp[cl0,mcOf,yl],λr s hr hs=>?_⟩
 rw[g r hr,g s hs]
 refine⟨λe w hw hl=>?_,λh=>?_⟩
 ·rw[Ul.mp (Nat.le_zero.mp hl)]
  show ys.getD r false=ys.getD s false
  revert e
  cases ys.getD r false <;> cases ys.getD s false <;> simp
 ·have:ys.getD r false=ys.getD s false:=h [] (by simp[Mc.ws]) (Ak _)
  rw[this]
theorem RowsM.snoc{H:Hp}{us:List V}{mv:List (List Nat)}{a:Addr}{row:List Nat}(h:RowsM H us mv)(e:H a=some (.tup (row.map nV))):RowsM H (us++[.ref a]) (mv++[row]):=by
 unfold RowsM at h⊢
 induction h with
 |nil=>exact .cons ⟨a,rfl,e⟩ .nil
 |cons r _ ih=>exact .cons r ih
section
variable{P:Program}{w:World}{K:PySem.W.Frag}{mg:Str->Option Value}{base:Heap}
abbrev ku:Stmt:=top 29
theorem j8:FnScope ["_law_machine_here","_law_letters_here","_law_moves","_law_yes","_law_classes","_law_many","_law_keys","_law_room","_law_some","_law_firsts","_law_begin","_law_order","_law_rows","_law_one"] ["_law_machine_here"] (jg ku):=⟨rfl,rfl,rfl,by decide +kernel,rfl,by decide +kernel,by decide +kernel⟩
theorem ok__law_least{f fn:Addr}{fd fdn:FuncData}(F:Fun K "_law_least" "_law_least" ku f fd)(T:TLst mg fn)(F5z:Fun K "_law_numbered" "_law_numbered" yd fn fdn)(b5z:Binds K fdn ["_law_letters_here","_law_moves","_law_yes"] [])(G5z:FnOk P w K mg base CX0 1 fn fdn ["_law_letters_here","_law_moves","_law_yes"] spNb):FnOk P w K mg base CX0 2 f fd ["_law_machine_here"] jq5:=by
 refine F.ok j8 (λvs H Q E h=>?_) (λcdv A outer s H vs Q E hr h=>?_)
 ·obtain⟨p,pm,py,z,us,mv,m,ys,rfl,_⟩:=h
  rfl
 ·obtain⟨p,pm,py,z,us,mv,m,ys,rfl,M,n64,m1,k⟩:=h
  have hu:=hr.units
  have hsz:sizeLine=16777216:=Ij
  have m9:=M.m9
  refine exQ (je (jao (ju G5z (hr.mono (by decide)) rfl T.m5z F5z.kp b5z .nil ka (ja (jo ix_U (qpv 0) jh (λ_ _=>rfl)) (ja (jo ix_U (qpv 0) jh (λ_ _=>rfl)) (ja (jo ix_U (qpv 0) jh (λ_ _=>rfl)) jc)))) (ja8 (n:=3) rfl (zg (jr (i:=1) j8.nd rfl (by ac_rfl)) (zg (jr (i:=2) j8.nd rfl (by ac_rfl)) (zg (jr (i:=3) j8.nd rfl (by ac_rfl)) ja0))) (K:=K) rfl))
  (je (jq (i:=4) j8.nd rfl (by ac_rfl) (yp rfl (jco (sc:=jg ku) (N:=["_law_machine_here","_law_letters_here","_law_moves","_law_yes","_law_classes","_law_many","_law_keys","_law_room","_law_some","_law_firsts","_law_begin","_law_order","_law_rows","_law_one"]) (Nc:=["_law_one"]) (js:=[none]) (by decide +kernel)) (kh (K:=K) (qpv 3) rfl) (λ_ _ _ _=>(jr (i:=0) (show List.Nodup [("_law_one":Str)]from by decide +kernel) rfl (by ac_rfl))) (λ_ _ _ _=>(jv ja2 (by rfl) T.n_int jb1 (ja (qpv 0) jc)))))
  (je (jq (i:=5) j8.nd rfl (by ac_rfl) jh)
  (yh (zy A8 (j5 jau (qpv 5) (jbd rfl rfl T.n_len rfl T.n_set (qpv 4)) (j9 _)) (je (jq (i:=5) j8.nd rfl (by ac_rfl) (jbd rfl rfl T.n_len rfl T.n_set (qpv 4)))
  (je (jq (i:=6) j8.nd rfl (by ac_rfl) (kx jc))
  (je (yc A8 rfl (yg rfl T.n_range (ja (jt jw (by rfl) T.n_len j6 (ja (qpv 3) jc)) jc)) (jr (i:=7) j8.nd rfl (by ac_rfl)) (jj (kj (ko A5 A6 ki (qpv 6) (ja (jz yo (yq (ja (jo ix_U (qpv 4) (qpv 7) (λ_ _=>rfl)) jc)) (jv kc (by rfl) T.n_tuple yj (ja (yp rfl (jco (sc:=jg ku) (N:=["_law_machine_here","_law_letters_here","_law_moves","_law_yes","_law_classes","_law_many","_law_keys","_law_room","_law_some","_law_firsts","_law_begin","_law_order","_law_rows","_law_one"]) (Nc:=["_law_goal","_law_classes"]) (js:=[none,some 4]) (by decide +kernel)) (kh (K:=K) (jo ix_U (qpv 2) (qpv 7) (λ_ _=>rfl)) rfl) (λ_ _ _ _=>(jr (i:=0) (show List.Nodup [("_law_goal":Str),("_law_classes":Str)]from by decide +kernel) rfl (by ac_rfl))) (λ_ _ _ _=>(jo ix_U (qpv 1) (qpv 0) (λ_ _=>rfl)))) jc))) jc) jcq))))
  (je (jq (i:=8) j8.nd rfl (by ac_rfl) (qpe_sortedSetT rfl hu rfl T.n_sorted rfl T.n_set (qpv 6)))
  (jj (jq (i:=4) j8.nd rfl (by ac_rfl) (yp rfl (jco (sc:=jg ku) (N:=["_law_machine_here","_law_letters_here","_law_moves","_law_yes","_law_classes","_law_many","_law_keys","_law_room","_law_some","_law_firsts","_law_begin","_law_order","_law_rows","_law_one"]) (Nc:=["_law_key","_law_some"]) (js:=[none,some 8]) (by decide +kernel)) (kh (K:=K) (qpv 6) rfl) (λ_ _ _ _=>(jr (i:=0) (show List.Nodup [("_law_key":Str),("_law_some":Str)]from by decide +kernel) rfl (by ac_rfl))) (λ_ _ _ _=>(ko Wk Wl (jas hu) (qpv 1) (ja (qpv 0) jc) jcq))))))))))
  (je (jq (i:=9) j8.nd rfl (by ac_rfl) (yp rfl (jco (sc:=jg ku) (N:=["_law_machine_here","_law_letters_here","_law_moves","_law_yes","_law_classes","_law_many","_law_keys","_law_room","_law_some","_law_firsts","_law_begin","_law_order","_law_rows","_law_one"]) (Nc:=["_law_one","_law_classes"]) (js:=[none,some 4]) (by decide +kernel)) (yg rfl T.n_range (ja (qpv 5) jc)) (λ_ _ _ _=>(jr (i:=0) (show List.Nodup [("_law_one":Str),("_law_classes":Str)]from by decide +kernel) rfl (by ac_rfl))) (λ_ _ _ _=>(ko Wk Wl (jas hu) (qpv 1) (ja (qpv 0) jc) jcq))))
  (je (jq (i:=10) j8.nd rfl (by ac_rfl) (jo ix_U (qpv 4) jh (λ_ _=>rfl)))
  (yh (jq (i:=11) j8.nd rfl (by ac_rfl) (jz yo (kx (ja (qpv 10) jc)) (jbk rfl (jco (sc:=jg ku) (N:=["_law_machine_here","_law_letters_here","_law_moves","_law_yes","_law_classes","_law_many","_law_keys","_law_room","_law_some","_law_firsts","_law_begin","_law_order","_law_rows","_law_one"]) (Nc:=["_law_one","_law_begin"]) (js:=[none,some 10]) (by decide +kernel)) (yg rfl T.n_range (ja (qpv 5) jc)) (λ_ _ _ _=>(jr (i:=0) (show List.Nodup [("_law_one":Str),("_law_begin":Str)]from by decide +kernel) rfl (by ac_rfl))) (λ_ _ _ _=>(j5 (jag hu) (qpv 0) (qpv 1) (j9 _))) (λ_ _ _ _=>(qpv 0)))))
  (je (jq (i:=12) j8.nd rfl (by ac_rfl) (kx jc))
  (yh (yc A8 rfl (kh (K:=K) (qpv 11) rfl) (jr (i:=13) j8.nd rfl (by ac_rfl)) (jj (kj (ko A5 A6 ki (qpv 12) (ja (jv kc (by rfl) T.n_tuple yj (ja (yp rfl (jco (sc:=jg ku) (N:=["_law_machine_here","_law_letters_here","_law_moves","_law_yes","_law_classes","_law_many","_law_keys","_law_room","_law_some","_law_firsts","_law_begin","_law_order","_law_rows","_law_one"]) (Nc:=["_law_goal","_law_order","_law_classes"]) (js:=[none,some 11,some 4]) (by decide +kernel)) (kh (K:=K) (jo ix_U (qpv 2) (jo ix_U (qpv 9) (qpv 13) (λ_ _=>rfl)) (λ_ _=>rfl)) rfl) (λ_ _ _ _=>(jr (i:=0) (show List.Nodup [("_law_goal":Str),("_law_order":Str),("_law_classes":Str)]from by decide +kernel) rfl (by ac_rfl))) (λ_ _ _ _=>(ko Wk Wl (jas hu) (qpv 1) (ja (jo ix_U (qpv 2) (qpv 0) (λ_ _=>rfl)) jc) jcq))) jc)) jc) jcq))))
  (jj (j3 (ju G5z (hr.mono (by decide)) rfl T.m5z F5z.kp b5z .nil ka (ja (qpv 1) (ja (jv kc (by rfl) T.n_tuple yj (ja (qpv 12) jc)) (ja (jv kc (by rfl) T.n_tuple yj (ja (yp rfl (jco (sc:=jg ku) (N:=["_law_machine_here","_law_letters_here","_law_moves","_law_yes","_law_classes","_law_many","_law_keys","_law_room","_law_some","_law_firsts","_law_begin","_law_order","_law_rows","_law_one"]) (Nc:=["_law_one","_law_yes","_law_firsts"]) (js:=[none,some 3,some 9]) (by decide +kernel)) (kh (K:=K) (qpv 11) rfl) (λ_ _ _ _=>(jr (i:=0) (show List.Nodup [("_law_one":Str),("_law_yes":Str),("_law_firsts":Str)]from by decide +kernel) rfl (by ac_rfl))) (λ_ _ _ _=>(jo ix_U (qpv 1) (jo ix_U (qpv 2) (qpv 0) (λ_ _=>rfl)) (λ_ _=>rfl)))) jc)) jc))))))))))))))) ?_
  simp! [M.hp]
  refine⟨pm,py,z,us,mv,m,ys,rfl,M.hm,M.rw,M.ok,M.hy,M.yl,M.n1,M.n9,M.m9,λq b1 b2 us1 rs H1 bf eq eb1 R1 eb2 k1=>?_⟩
  have bi:=bf.inv (n:=mv.length) M.n1 (λr a hr ha=>(M.ok.at_ hr ha).2)
  have rl:rs.length<=mv.length:=jdc bi.nd bi.lt
  have r1:1<=rs.length:=(Ae.mp bi.z).1
  have cok:=jey bi
  have cL:(cuM (dM mv) m rs).length=rs.length:=by simp[cuM]
  have yl:(rs.map λr=>ys.getD r false).length=rs.length:=by simp
  have fin:∀{cl order:List Nat}{many:Nat},cl.length=rs.length->(∀r s,r<rs.length->s<rs.length->(cl.getD r 0=cl.getD s 0↔(mcOf (cuM (dM mv) m rs) m (rs.map λr=>ys.getD r false)).eq r s))->(∀x,x∈cl↔x<many)->Ord cl order many->MvOk (mvN (cuM (dM mv) m rs) m cl order) m/\∀{rs3:List Nat},Bf (dM (mvN (cuM (dM mv) m rs) m cl order)) m 0 rs3.length rs3->Lst (mcOf mv m ys) (cuM (dM (mvN (cuM (dM mv) m rs) m cl order)) m rs3) m (rs3.map λr=>(ysN (rs.map λr=>ys.getD r false) cl order).getD r false):=fun{cl order many} h1 h2 h3 h4=>⟨(jkz M.ok M.n1 bf h1 h2 h3 h4).2.1,fun{rs3} h5=>jrt M.ok M.n1 bf h1 h2 h3 h4 h5⟩
  generalize hC:cuM (dM mv) m rs=C at R1 cok cL fin
  generalize hY:(rs.map λr=>ys.getD r false)=yC at eb2 yl fin
  generalize hn:rs.length=n at rl r1 cL yl fin
  have ul1:us1.length=n:=by rw[<-cL];exact Il R1
  have mok:=jds (ys:=yC) cok
  have yl':yC.length=C.length:=by omega
  have Cn:(mcOf C m yC).n=n:=cL
  refine⟨q,_,rfl,SqT.of eq,rfl,⟨_,_,rfl,⟨_,_,rfl,⟨_,_,rfl,rfl,?_⟩⟩⟩⟩
  simp! [eb2]
  intro D hD
  refine jdz boV eb2 hD (by rw[Ad];omega) (λx hx l Q' q=>?_) λvv=>?_
  ·obtain⟨b,_,rfl⟩:=An.mp hx
   simp!
   exact q
  dsimp only
  have k2:Kp [] H1 (upd H1 D (.lst ((yC.map V.bl).map boV))):=(Kp.refl [] H1).new hD
  have e2:upd H1 D (.lst ((yC.map V.bl).map boV)) D=some (.lst ((cl0 yC).map nV)):=by
   rw[jb,A0]
   unfold cl0
   rw[A0]
   congr 2
   refine Ih λb _=>?_
   cases b <;> rfl
  generalize upd H1 D (.lst ((yC.map V.bl).map boV))=H2 at k2 e2⊢
  obtain⟨V0,hV0⟩:∃V0:L2.St->Hp->Prop,∀σ' H',V0 σ' H'↔(∃(cl:List Nat)(many:Nat)(pc:Addr)(v6 v7 v8:Option V),σ'=[some (.ref p),some (.str z),some (.ref b1),some (.ref b2),some (.ref pc),some (.int (many:Int)),v6,v7,v8,none,none,none,none,none]/\H' pc=some (.lst (cl.map nV))/\cl.length=n/\(∀r s,r<n->s<n->(cl.getD r 0=cl.getD s 0↔(mcOf C m yC).eq r s))/\(∀x,x∈cl↔x<many)/\Kp [] H1 H'):=⟨_,λ_ _=>On⟩
  refine⟨V0,?_,?_⟩
  ·obtain⟨V1,hV1⟩:∃V1:Nat->L2.St->Hp->Prop,∀μ σ' H',V1 μ σ' H'↔(∃(i:Nat)(cl:List Nat)(many:Nat)(pc:Addr)(v6 v7 v8:Option V),σ'=[some (.ref p),some (.str z),some (.ref b1),some (.ref b2),some (.ref pc),some (.int (many:Int)),v6,v7,v8,none,none,none,none,none]/\H' pc=some (.lst (cl.map nV))/\CLI (mcOf C m yC) i cl/\(i=0/\many=0\/∃i' clp,i=i'+1/\CLI (mcOf C m yC) i' clp/\many=(ddp clp).length/\∀x,x∈cl↔x<(ddp cl).length)/\many<=n/\Kp [] H1 H'/\μ=n-many):=⟨_,λ_ _ _=>On⟩
   refine⟨V1,⟨_,(hV1 _ _ _).mpr ⟨0,cl0 yC,0,D,none,none,none,rfl,e2,cli0 yl',.inl ⟨rfl,rfl⟩,Oa _,k2,rfl⟩⟩,?_⟩
   intro μ σ H3 hw
   obtain⟨i,cl,many,pc,v6,v7,v8,rfl,e3,CL,st,mn,k3,rfl⟩:=(hV1 _ _ _).mp hw
   clear hw
   have cll:cl.length=n:=by rw[CL.ln,Cn]
   have dl:(ddp cl).length<=n:=by
    have:=L2.nodup_len (ddp cl) cl (je1 cl) λx hx=>(jdf _ _).mp hx
    omega
   have d1:1<=(ddp cl).length:=by
    cases cl with
    |nil=>simp at cll;omega
    |cons x l=>exact U1 ((jdf (x::l) x).mpr (.head _))
   simp!
   refine⟨cl.map λx:Nat=>(x:Int),by rw[e3,jic],by rw[Ad];omega,λc nd mem=>?_⟩
   rw[jmd nd mem]
   by_cases cc:many<(ddp cl).length
   ·rw[Ao (by simpa using cc)]
    obtain⟨V2,hV2⟩:∃V2:L2.St->Hp->Prop,∀σ' H',V2 σ' H'↔(∃(cl':List Nat)(pc':Addr)(v6 v7 v8:Option V),σ'=[some (.ref p),some (.str z),some (.ref b1),some (.ref b2),some (.ref pc'),some (.int ((ddp cl).length:Int)),v6,v7,v8,none,none,none,none,none]/\H' pc'=some (.lst (cl'.map nV))/\CLI (mcOf C m yC) (i+1) cl'/\(∀x,x∈cl'↔x<(ddp cl').length)/\Kp [] H1 H'):=⟨_,λ_ _=>On⟩
    refine⟨V2,λσ' H' hw=>?_,?_⟩
    ·obtain⟨cl',pc',w6,w7,w8,h1,h2,h3,h4,h5⟩:=(hV2 _ _).mp hw
     exact⟨n-(ddp cl).length,by omega,(hV1 _ _ _).mpr ⟨i+1,cl',(ddp cl).length,pc',w6,w7,w8,h1,h2,h3,.inr ⟨i,cl,rfl,CL,rfl,h4⟩,dl,h5,rfl⟩⟩
    refine⟨cl.map λx:Nat=>(x:Int),by rw[e3,jic],by rw[Ad];omega,λc nd mem=>?_⟩
    rw[jmd nd mem]
    refine⟨by omega,λpk hpk=>?_⟩
    have kK:Kp [] H3 (upd H3 pk (.lst [])):=(Kp.refl [] H3).new hpk
    have e4:upd H3 pk (.lst []) pk=some (.lst []):=jb
    generalize upd H3 pk (.lst [])=H4 at kK e4⊢
    rw[(k3.trans kK).tup _ _ eb2]
    refine⟨_,rfl,by rw[Ad];omega,by rw[Ad];omega,?_⟩
    rw[Ad,yl,show((n:Int)).toNat=n by omega]
    obtain⟨V3,hV3⟩:∃V3:Nat->L2.St->Hp->Prop,∀j σ H',V3 j σ H'↔(∃(bs:List Addr)(v7:Option V),σ=[some (.ref p),some (.str z),some (.ref b1),some (.ref b2),some (.ref pc),some (.int ((ddp cl).length:Int)),some (.ref pk),v7,v8,none,none,none,none,none]/\H' pk=some (.lst (bs.map V.ref))/\bs.length=j/\(∀(r:Nat)(b:Addr),bs[r]?=some b->H' b=some (.tup ((cI (keyL (mcOf C m yC) cl r)).map V.int)))/\Kp [] H3 H'):=⟨_,λ_ _ _=>On⟩
    refine jcw V3 ((hV3 _ _ _).mpr ⟨[],v7,rfl,e4,rfl,λr b e=>by simp at e,kK⟩) ?_ ?_
    ·intro j σ H5 hj hw
     obtain⟨bs,v7,rfl,e5,bl,bt,k5⟩:=(hV3 _ _ _).mp hw
     clear hw
     have e3':=k5.old _ _ e3 Af
     have eb1':=(k3.trans k5).tup _ _ eb1
     obtain⟨cr,hcx,hcr⟩:=(R1.kp (k3.trans k5)).get (show C[j]?=some (C.getD j [])by rw[Ac,Aa (by omega)];rfl)
     simp! [e5,e3',O6]
     refine⟨nV (cl.getD j 0),jcm (by rw[Ag,Ac,Aa (by omega)];rfl),by omega,λt1 ht1=>?_⟩
     have kA:Kp [] H5 (upd H5 t1 (.tup [nV (cl.getD j 0)])):=(Kp.refl [] H5).new ht1
     have f1:upd H5 t1 (.tup [nV (cl.getD j 0)]) t1=some (.tup [nV (cl.getD j 0)]):=jb
     generalize upd H5 t1 (.tup [nV (cl.getD j 0)])=H6 at kA f1⊢
     have hcr6:=kA.tup _ _ hcr
     have e36:=kA.old _ _ e3' Af
     rw[kA.tup _ _ eb1']
     refine⟨_,rfl,.ref cr,jcm hcx,?_⟩
     dsimp only
     rw[hcr6]
     intro D2 hD2
     have jC:j<C.length:=by omega
     have rowe:=jpd cok jC
     refine jdz (gtN cl) hcr6 hD2 (by rw[rowe];simp;omega) (λx hx l Q' q=>?_) λvv=>?_
     ·obtain⟨t,ht,rfl⟩:=An.mp hx
      have tn:t<n:=by
       rw[rowe]at ht
       obtain⟨a,ha,rfl⟩:=An.mp ht
       rw[<-cL];exact(cok.at_ jC (Ar.mp ha)).2
      have e7:=((Kp.refl [] H6).new (o:=.lst l) hD2).old _ _ e36 Af
      simp! [nV,e7]
      refine⟨.int (cl.getD t 0:Nat),jcm (by rw[Ag,Ac,Aa (by omega)];rfl),?_⟩
      exact q
     dsimp only
     refine jcr jb λt2 ht2=>?_
     have er:((C.getD j []).map nV).map (gtN cl)=((List.range m).map λa=>cl.getD (dM C j a) 0).map nV:=by
      rw[rowe,A0,A0,A0];rfl
     rw[er]at ht2⊢
     have kB:Kp [] H6 (upd (upd H6 D2 (.lst (((List.range m).map λa=>cl.getD (dM C j a) 0).map nV))) t2 (.tup (((List.range m).map λa=>cl.getD (dM C j a) 0).map nV))):=((Kp.refl [] H6).new hD2).new ht2
     have f2:upd (upd H6 D2 (.lst (((List.range m).map λa=>cl.getD (dM C j a) 0).map nV))) t2 (.tup (((List.range m).map λa=>cl.getD (dM C j a) 0).map nV)) t2=some (.tup (((List.range m).map λa=>cl.getD (dM C j a) 0).map nV)):=jb
     generalize upd (upd H6 D2 (.lst (((List.range m).map λa=>cl.getD (dM C j a) 0).map nV))) t2 (.tup (((List.range m).map λa=>cl.getD (dM C j a) 0).map nV))=H7 at kB f2⊢
     refine rAddW.tup (kB.tup _ _ f1) f2 (by simp) (by simp;omega) (by simp;omega) λt3 ht3=>?_
     have kC:Kp [] H7 (upd H7 t3 (.tup ([nV (cl.getD j 0)]++((List.range m).map λa=>cl.getD (dM C j a) 0).map nV))):=(Kp.refl [] H7).new ht3
     have f3:upd H7 t3 (.tup ([nV (cl.getD j 0)]++((List.range m).map λa=>cl.getD (dM C j a) 0).map nV)) t3=some (.tup ((cI (keyL (mcOf C m yC) cl j)).map V.int)):=by
      rw[jb,jqr];rfl
     generalize upd H7 t3 (.tup ([nV (cl.getD j 0)]++((List.range m).map λa=>cl.getD (dM C j a) 0).map nV))=H8 at kC f3⊢
     have k58:Kp [] H5 H8:=(kA.trans kB).trans kC
     have e8:=k58.old _ _ e5 Af
     rw[e8]
     refine⟨_,rfl,by rw[Ad];omega,(hV3 _ _ _).mpr ⟨bs++[t3],_,rfl,by rw[jb,A3];rfl,by rw[Av,bl];rfl,λr b hb=>?_,(k5.trans k58).set e8 (.inr hpk)⟩⟩
     have nb:∀{b:Addr}{xs:List V},H8 b=some (.tup xs)->b≠pk:=fun{b xs} h z=>by rw[z,e8]at h;cases h
     by_cases c1:r<bs.length
     ·rw[A2 c1]at hb
      have:=k58.tup _ _ (bt r b hb)
      rw[jd (nb this)];exact this
     ·rw[A9 (by omega)]at hb
      have:r=bs.length:=by have:=(Ae.mp hb).1;simp at this;omega
      subst this
      simp at hb
      subst hb
      rw[jd (nb f3),bl];exact f3
    ·intro σ H5 hw
     obtain⟨bs,v7,rfl,e5,bl,bt,k5⟩:=(hV3 _ _ _).mp hw
     clear hw
     simp!
     have mem:∀b∈bs,∃r,r<n/\H5 b=some (.tup ((cI (keyL (mcOf C m yC) cl r)).map V.int)):=λb hb=>by
      obtain⟨r,hr'⟩:=Iu hb
      exact⟨r,by have:=(Ae.mp hr').1;omega,bt r b hr'⟩
     refine⟨bs,e5,jdh H5,λb hb=>?_,by omega,λps bs' hps sub nd mm=>?_⟩
     ·obtain⟨r,_,e⟩:=mem b hb
      rw[jed e]
      exact⟨e,by simp[cI,keyL]⟩
     have kfb:∀(r:Nat)(b:Addr),bs[r]?=some b->jdh H5 b=cI (keyL (mcOf C m yC) cl r):=λr b hb=>jed (bt r b hb)
     let ks:List (List Nat):=bs'.map λb=>(jdh H5 b).map Int.toNat
     have ek:bs'.map (jdh H5)=ks.map cI:=by
      show _=(bs'.map λb=>(jdh H5 b).map Int.toNat).map cI
      rw[A0]
      refine Ih λb hb=>?_
      obtain⟨r,hr'⟩:=Iu (sub b hb)
      show jdh H5 b=cI ((jdh H5 b).map Int.toNat)
      rw[kfb r b hr',jog]
     have eb:bs.map (jdh H5)=((List.range n).map (keyL (mcOf C m yC) cl)).map cI:=by
      refine Wx λr=>?_
      rw[Ag,Ag,Ag]
      by_cases c1:r<n
      ·rw[Oo c1]
       have hb:bs[r]?=some bs[r]:=Aa (by omega)
       rw[hb]
       exact Um some (kfb r _ hb)
      ·rw[I0 (by omega),I0 (by rw[Az];omega)];rfl
     have nd':ks.Nodup:=by
      rw[ek]at nd
      exact List.Pairwise.imp (λh e=>h (by rw[e])) (Ww.mp nd)
     have mm':∀k,k∈ks↔k∈(List.range (mcOf C m yC).n).map (keyL (mcOf C m yC) cl):=λk=>by
      have q:=mm (cI k)
      rw[ek,eb]at q
      have inj:∀l:List (List Nat),cI k∈l.map cI↔k∈l:=λl=>⟨λh=>by obtain⟨x,h1,h2⟩:=An.mp h;rw[<-jki h2];exact h1,λh=>An.mpr ⟨k,h,rfl⟩⟩
      rw[inj,inj]at q
      rw[Cn];exact q
     obtain⟨CL',dc,dn⟩:=CLI.next mok CL nd' mm'
     rw[Cn]at CL' dc dn
     have kS:Kp [] H5 (upd H5 ps (.lst (bs'.map V.ref))):=(Kp.refl [] H5).new hps
     have e6:upd H5 ps (.lst (bs'.map V.ref)) ps=some (.lst (bs'.map V.ref)):=jb
     generalize upd H5 ps (.lst (bs'.map V.ref))=H6 at kS e6⊢
     have e56:=kS.old _ _ e5 Af
     rw[e56]
     intro D2 hD2
     refine jec (kxV bs' (jdh H5)) e56 hD2 (by rw[Ad];omega) (λx hx l Q' q=>?_) λvv=>?_
     ·obtain⟨b,hb,rfl⟩:=An.mp hx
      obtain⟨r,_,ebr⟩:=mem b hb
      have kN:=(Kp.refl [] H6).new (o:=.lst l) hD2
      have e67:=kN.old _ _ e6 Af
      have kf1:=jed ebr
      simp! [e67]
      refine jnu (kf:=jdh H5) e67 (λb' hb'=>?_) (kN.tup _ _ (kS.tup _ _ (by rw[kf1];exact ebr))) ((mm _).mpr (An.mpr ⟨b,hb,rfl⟩)) q
      obtain⟨r',_,er'⟩:=mem b' (sub b' hb')
      rw[jed er']
      exact kN.tup _ _ (kS.tup _ _ er')
     dsimp only
     refine(hV2 _ _).mpr ⟨_,D2,_,_,_,rfl,?_,CL',λx=>by rw[dc];exact dn x,(k3.trans k5).trans (kS.new hD2)⟩
     rw[jb,A0,A0]
     congr 2
     refine Wx λr=>?_
     rw[Ag,Ag]
     by_cases c1:r<n
     ·rw[Oo c1]
      have hb:bs[r]?=some bs[r]:=Aa (by omega)
      rw[hb]
      show some (V.int ((bs'.map (jdh H5)).idxOf (jdh H5 bs[r]):Nat))=some (V.int (ks.idxOf (keyL (mcOf C m yC) cl r):Nat))
      rw[kfb r _ hb,ek,jse]
     ·rw[I0 (by omega),I0 (by rw[Az];omega)];rfl
   ·rw[Am (by simpa using cc)]
    rcases st with⟨_,rfl⟩|⟨i',clp,rfl,CLp,rfl,dn⟩
    ·omega
    have sb:=(CLp.mono CL).2 (by omega)
    have le:=(CLp.mono CL).1
    have me:(ddp clp).length=(ddp cl).length:=by omega
    refine(hV0 _ _).mpr ⟨cl,(ddp clp).length,pc,_,_,_,rfl,e3,cll,λr s hr hs=>?_,by rw[me];exact dn,k3⟩
    rw[CL.eq r s (by rw[Cn];exact hr) (by rw[Cn];exact hs),<-Mc.eqN_eq mok sb (by rw[Cn];exact hr) (by rw[Cn];exact hs)]
    exact⟨λq=>((Mc.eqN_succ _ _ _ _).mp q).1,λq=>sb r s (by rw[Cn];exact hr) (by rw[Cn];exact hs) q⟩
  intro σ' H3 hw
  obtain⟨cl,many,pc,v6,v7,v8,rfl,e3,cll,ce,dn,k3⟩:=(hV0 _ _).mp hw
  clear hw
  have mn:many<=n:=by
   have:=L2.nodup_len (List.range many) cl Iq λx hx=>(dn x).mpr (Ar.mp hx)
   rw[Az]at this
   omega
  have c0:cl.getD 0 0<many:=(dn _).mp (by rw[Ac,Aa (by omega)];exact Ic _)
  simp!
  refine⟨by omega,by omega,λD2 hD2=>?_⟩
  rw[show((many:Int)).toNat=many by omega]
  refine jnj (λi=>nV (cl.idxOf i)) (by omega) (λi hi l Q' q=>?_) λvv=>?_
  ·have e4:=((Kp.refl [] H3).new (o:=.lst l) hD2).old _ _ e3 Af
   simp! [e4,O6]
   exact jfd e4 ((dn i).mpr hi) q
  dsimp only
  have k4:Kp [] H3 (upd H3 D2 (.lst ((List.range many).map λi=>nV (cl.idxOf i)))):=(Kp.refl [] H3).new hD2
  have f4:upd H3 D2 (.lst ((List.range many).map λi=>nV (cl.idxOf i))) D2=some (.lst (((List.range many).map cl.idxOf).map nV)):=by rw[jb,A0];rfl
  generalize upd H3 D2 (.lst ((List.range many).map λi=>nV (cl.idxOf i)))=H4 at k4 f4⊢
  have e4:=k4.old _ _ e3 Af
  rw[e4]
  refine⟨_,rfl,nV (cl.getD 0 0),jcm (j:=0) (by rw[Ag,Ac,Aa (by omega)];rfl),?_⟩
  obtain⟨V4,hV4⟩:∃V4:L2.St->Hp->Prop,∀σ' H',V4 σ' H'↔(∃(po:Addr)(order:List Nat),σ'=[some (.ref p),some (.str z),some (.ref b1),some (.ref b2),some (.ref pc),some (.int (many:Int)),v6,v7,v8,some (.ref D2),some (.int (cl.getD 0 0:Nat)),some (.ref po),none,none]/\H' po=some (.lst (order.map nV))/\Ord cl order many/\Kp [] H4 H'):=⟨_,λ_ _=>On⟩
  refine⟨V4,?_,?_⟩
  ·simp!
   refine⟨by omega,λpo hpo=>⟨by omega,by omega,λD3 hD3=>?_⟩⟩
   rw[show((many:Int)).toNat=many by omega]
   have kO:Kp [] H4 (upd H4 po (.lst [nV (cl.getD 0 0)])):=(Kp.refl [] H4).new hpo
   have f5:upd H4 po (.lst [nV (cl.getD 0 0)]) po=some (.lst [nV (cl.getD 0 0)]):=jb
   generalize upd H4 po (.lst [nV (cl.getD 0 0)])=H5 at kO f5 hD3⊢
   refine jfm (λi=>i != cl.getD 0 0) nV (by omega) (λi hi l Q' q=>?_) (λi hi hp l Q' q=>?_) λvv=>?_
   ·simp! [O6]
    rw[show nV (cl.getD 0 0)=.int (cl.getD 0 0:Nat)from rfl,jgw]
    refine⟨_,rfl,?_⟩
    rw[show(!decide ((i:Int)=(cl.getD 0 0:Nat)))=(i != cl.getD 0 0)by
     rw[W7];simp;omega]
    exact q
   ·simp! [O6]
    exact q
   dsimp only
   have kD:Kp [] H5 (upd H5 D3 (.lst (((List.range many).filter λi=>i != cl.getD 0 0).map nV))):=(Kp.refl [] H5).new hD3
   refine rAddW.lst (kD.old _ _ f5 Af) jb (by
    have:=Ud (λi=>i != cl.getD 0 0) (List.range many)
    rw[Az]at this
    simp only[Ad,List.length_cons,List.length_nil];omega) λp2 hp2=>?_
   refine(hV4 _ _).mpr ⟨p2,cl.getD 0 0::(List.range many).filter λi=>i != cl.getD 0 0,rfl,?_,⟨?_,λx=>?_,rfl⟩,(kO.trans kD).new hp2⟩
   ·rw[jb];rfl
   ·refine Of.mpr ⟨λh=>?_,List.Nodup.sublist List.filter_sublist Iq⟩
    have:=(Iy.mp h).2
    simp at this
   ·rw[Ap,Iy,Ar,bne_iff_ne]
    constructor
    ·rintro(rfl|⟨h,_⟩)
     ·exact c0
     ·exact h
    ·intro h
     by_cases c:x=cl.getD 0 0
     ·exact .inl c
     ·exact .inr ⟨h,c⟩
  intro σ' H5 hw
  obtain⟨po,order,rfl,e5,O,k5⟩:=(hV4 _ _).mp hw
  clear hw
  obtain⟨okN,fin⟩:=fin cll ce dn O
  have ol:order.length=many:=by
   have a:=L2.nodup_len (List.range many) order Iq λx hx=>(O.mem x).mpr (Ar.mp hx)
   have b:=L2.nodup_len order (List.range many) O.nd λx hx=>Ar.mpr ((O.mem x).mp hx)
   rw[Az]at a b
   omega
  simp!
  refine⟨by omega,λpw hpw=>?_⟩
  have kW:Kp [] H5 (upd H5 pw (.lst [])):=(Kp.refl [] H5).new hpw
  have e6:upd H5 pw (.lst []) pw=some (.lst []):=jb
  generalize upd H5 pw (.lst [])=H6 at kW e6⊢
  have mvl:(mvN C m cl order).length=order.length:=by simp[mvN]
  have k35:Kp [] H3 H5:=k4.trans k5
  have one_lt:∀one∈order,cl.idxOf one<n:=λone ho=>by
   rw[<-cll];exact Ib.mpr ((dn one).mpr ((O.mem one).mp ho))
  have goal_mem:∀g,g<n->cl.getD g 0∈order:=λg hg=>(O.mem _).mpr ((dn _).mp (by rw[Ac,Aa (by omega)];exact Ic _))
  obtain⟨V5,hV5⟩:∃V5:L2.St->Hp->Prop,∀σ' H',V5 σ' H'↔(∃(us3:List V)(v13:Option V),σ'=[some (.ref p),some (.str z),some (.ref b1),some (.ref b2),some (.ref pc),some (.int (many:Int)),v6,v7,v8,some (.ref D2),some (.int (cl.getD 0 0:Nat)),some (.ref po),some (.ref pw),v13]/\H' pw=some (.lst us3)/\RowsM H' us3 (mvN C m cl order)/\Kp [] H5 H'):=⟨_,λ_ _=>On⟩
  refine⟨V5,?_,?_⟩
  ·simp! [kW.old _ _ e5 Af]
   obtain⟨V6,hV6⟩:∃V6:Nat->L2.St->Hp->Prop,∀i σ' H',V6 i σ' H'↔(∃(us3:List V)(v13:Option V),σ'=[some (.ref p),some (.str z),some (.ref b1),some (.ref b2),some (.ref pc),some (.int (many:Int)),v6,v7,v8,some (.ref D2),some (.int (cl.getD 0 0:Nat)),some (.ref po),some (.ref pw),v13]/\H' pw=some (.lst us3)/\RowsM H' us3 ((mvN C m cl order).take i)/\Kp [] H5 H'):=⟨_,λ_ _ _=>On⟩
   refine jdm (xs:=order.map nV) V6 ((hV6 _ _ _).mpr ⟨[],none,rfl,e6,.nil,kW⟩) ?_ ?_ ?_
   ·intro i σ H' _ hw
    obtain⟨_,_,_,_,_,h⟩:=(hV6 _ _ _).mp hw
    exact h.old _ _ e5 Af
   ·intro i x σ H7 hx hw
    obtain⟨us3,v13,rfl,e7,R7,k7⟩:=(hV6 _ _ _).mp hw
    clear hw
    rw[Ag]at hx
    obtain⟨one,ho,rfl⟩:=Ie.mp hx
    have om:=Al ho
    have on:one<many:=(O.mem one).mp om
    have jn:=one_lt one om
    have f7:=(k5.trans k7).old _ _ f4 Af
    have k37:=(k3.trans k35).trans k7
    have eb7:=k37.tup _ _ eb1
    have ul7:us3.length<=order.length:=by
     have:=Il R7
     rw[Iz,mvl]at this;omega
    obtain⟨cr,hcx,hcr⟩:=(R1.kp k37).get (show C[cl.idxOf one]?=some (C.getD (cl.idxOf one) [])by rw[Ac,Aa (by omega)];rfl)
    simp! [e7,nV,f7]
    refine⟨nV (cl.idxOf one),jcm (by rw[Ag,Ag,Oo on];rfl),?_⟩
    simp! [nV,eb7]
    refine⟨.ref cr,jcm hcx,?_⟩
    dsimp only
    rw[hcr]
    intro D4 hD4
    have jC:cl.idxOf one<C.length:=by omega
    have rowe:=jpd cok jC
    have e37:=(k35.trans k7).old _ _ e3 Af
    have e57:=k7.old _ _ e5 Af
    refine jdz (λv=>ixV order (gtN cl v)) hcr hD4 (by rw[rowe];simp;omega) (λx hx l Q' q=>?_) λvv=>?_
    ·obtain⟨t,ht,rfl⟩:=An.mp hx
     have tn:t<n:=by
      rw[rowe]at ht
      obtain⟨a,ha,rfl⟩:=An.mp ht
      rw[<-cL];exact(cok.at_ jC (Ar.mp ha)).2
     have kN:=(Kp.refl [] H7).new (o:=.lst l) hD4
     have e38:=kN.old _ _ e37 Af
     have e58:=kN.old _ _ e57 Af
     simp! [nV,e38]
     refine⟨by rw[e58];rfl,.int (cl.getD t 0:Nat),jcm (by rw[Ag,Ac,Aa (by omega)];rfl),?_⟩
     exact jfd e58 (goal_mem t tn) q
    dsimp only
    refine jcr jb λt2 ht2=>?_
    have er:((C.getD (cl.idxOf one) []).map nV).map (λv=>ixV order (gtN cl v))=((List.range m).map λa=>order.idxOf (cl.getD (dM C (cl.idxOf one) a) 0)).map nV:=by
     rw[rowe,A0,A0,A0];rfl
    rw[er]at ht2⊢
    generalize hrow:(List.range m).map (λa=>order.idxOf (cl.getD (dM C (cl.idxOf one) a) 0))=row at ht2⊢
    have kB:Kp [] H7 (upd (upd H7 D4 (.lst (row.map nV))) t2 (.tup (row.map nV))):=((Kp.refl [] H7).new hD4).new ht2
    have f2:upd (upd H7 D4 (.lst (row.map nV))) t2 (.tup (row.map nV)) t2=some (.tup (row.map nV)):=jb
    generalize upd (upd H7 D4 (.lst (row.map nV))) t2 (.tup (row.map nV))=H8 at kB f2⊢
    have e8:=kB.old _ _ e7 Af
    rw[e8]
    have tk:(mvN C m cl order).take (i+1)=(mvN C m cl order).take i++[row]:=by
     have:(mvN C m cl order)[i]?=some row:=by
      unfold mvN
      rw[Ag,ho,<-hrow];rfl
     rw[Od,this];rfl
    have kP:Kp [pw] H8 (upd H8 pw (.lst (us3++[.ref t2]))):=(Kp.refl [pw] H8).set e8 (.inl (.head _))
    exact⟨_,rfl,by omega,(hV6 _ _ _).mpr ⟨_,_,rfl,jb,by rw[tk];exact((R7.kp kB).snoc f2).kp kP,(k7.trans kB).set e8 (.inr hpw)⟩⟩
   ·intro σ H7 hw
    obtain⟨us3,v13,rfl,e7,R7,k7⟩:=(hV6 _ _ _).mp hw
    clear hw
    rw[Ad,<-mvl,Ir]at R7
    exact(hV5 _ _).mpr ⟨us3,v13,rfl,e7,R7,k7⟩
  intro σ' H7 hw
  obtain⟨us3,v13,rfl,e7,R7,k7⟩:=(hV5 _ _).mp hw
  clear hw
  simp!
  refine jcr e7 λpm3 hpm3=>?_
  have k8:Kp [] H7 (upd H7 pm3 (.tup us3)):=(Kp.refl [] H7).new hpm3
  have e8:upd H7 pm3 (.tup us3) pm3=some (.tup us3):=jb
  generalize upd H7 pm3 (.tup us3)=H8 at k8 e8⊢
  have k08:=k7.trans k8
  have e58:=k08.old _ _ e5 Af
  rw[e58]
  intro D5 hD5
  refine jec (λv=>yV yC (ixV cl v)) e58 hD5 (by rw[Ad];omega) (λx hx l Q' q=>?_) λvv=>?_
  ·obtain⟨one,ho,rfl⟩:=An.mp hx
   have jn:=one_lt one ho
   have kN:=(Kp.refl [] H8).new (o:=.lst l) hD5
   have f8:=(k5.trans (k08.trans kN)).old _ _ f4 Af
   have eb8:=(((k3.trans k35).trans k08).trans kN).tup _ _ eb2
   simp! [nV,f8]
   refine⟨nV (cl.idxOf one),jcm (by rw[Ag,Ag,Oo ((O.mem one).mp ho)];rfl),?_⟩
   simp! [nV,eb8]
   refine⟨.bl (yC.getD (cl.idxOf one) false),jcm (by rw[Ag,Ac,Aa (by omega)];rfl),?_⟩
   exact q
  dsimp only
  have ey:(order.map nV).map (λv=>yV yC (ixV cl v))=(ysN yC cl order).map V.bl:=by
   unfold ysN
   rw[A0,A0];rfl
  rw[ey]at *
  refine jcr jb λpy3 hpy3=>?_
  have k9:Kp [] H8 (upd (upd H8 D5 (.lst ((ysN yC cl order).map V.bl))) py3 (.tup ((ysN yC cl order).map V.bl))):=((Kp.refl [] H8).new hD5).new hpy3
  have e9:upd (upd H8 D5 (.lst ((ysN yC cl order).map V.bl))) py3 (.tup ((ysN yC cl order).map V.bl)) py3=some (.tup ((ysN yC cl order).map V.bl)):=jb
  generalize upd (upd H8 D5 (.lst ((ysN yC cl order).map V.bl))) py3 (.tup ((ysN yC cl order).map V.bl))=H9 at k9 e9⊢
  refine⟨pm3,py3,z,us3,_,m,_,rfl,k9.tup _ _ e8,(R7.kp (k8.trans k9)),okN,e9,by simp[ysN,mvN],by omega,by omega,M.m9,λq3 a1 a2 us4 rs3 H10 b3 g1 g2 g3 g4 k10=>?_⟩
  exact k q3 a1 a2 us4 _ _ H10 (fin b3) g1 g2 g3 g4 ((((k1.trans k3).trans k35).trans (k08.trans k9)).trans k10)
end
def iV(x:Nat):V:=.int (x:Int)
theorem jqn{H:Hp}{a:Addr}{o:HO}(h:H a=some o):upd H a o=H:=by
 funext b
 unfold upd
 split
 ·rename_i e;rw[e,h]
 ·rfl
theorem jg5{h:List Nat}{x:Nat}(hx:x<h.length):atI (h.map iV) ((x:Nat):Int)=some (.int ((h.getD x 0:Nat):Int)):=by
 refine jcm ?_
 rw[Ag]
 simp[hx,iV]
theorem jmt{n x:Nat}(hx:x<n):ixN n (x:Int)=some x:=by
 unfold ixN
 rw[Ao (by omega),Ao (by omega)]
 simp
theorem jhk(h:List Nat)(x v:Nat):(h.map iV).set x (.int (v:Int))=(h.set x v).map iV:=by
 rw[List.map_set];rfl
def jpn:Sp:=λvs H Q _=>∃(a:Addr)(x n:Nat)(hs:List Nat)(d:Nat->Nat),vs=[.ref a,.int (x:Int)]/\H a=some (.lst (hs.map iV))/\UF n hs d/\x<n /\
 ∀(r:Nat)(h':List Nat),r<n->UF n h' d->jc5 n h'=jc5 n hs->h'.getD r 0=r->(∀S,Snd S n hs->Snd S n h'/\Cl S x r)->(∀y,y<n->hs.getD y 0=y->h'.getD y 0=y)->Q (.int (r:Int)) (upd H a (.lst (h'.map iV)))
def jpo:Sp:=λvs H Q _=>∃(a:Addr)(x y n:Nat)(hs:List Nat)(d:Nat->Nat),vs=[.ref a,.int (x:Int),.int (y:Int)]/\H a=some (.lst (hs.map iV))/\UF n hs d/\x<n/\y<n /\
 ∀(b:Bool)(h':List Nat)(d':Nat->Nat),UF n h' d'->(b=true->jc5 n h'+1=jc5 n hs)->(b=false->jc5 n h'=jc5 n hs)->(b=false->∀S,Snd S n hs->Cl S x y)->(∀S,S x y->Snd S n hs->Snd S n h')->Q (.bl b) (upd H a (.lst (h'.map iV)))
structure TJoin(mg:Str->Option Value)(fh:Addr):Prop where
 m7z:mg "head_of"=some (.ref fh)
section
variable{P:Program}{w:World}{K:PySem.W.Frag}{mg:Str->Option Value}{base:Heap}
abbrev z0:Stmt:=top 16
theorem jbn:FnScope ["heads","room"] ["heads","room"] (jg z0):=⟨rfl,rfl,rfl,by decide +kernel,rfl,by decide +kernel,by decide +kernel⟩
theorem ok_head_of{f:Addr}{fd:FuncData}(F:Fun K "head_of" "head_of" z0 f fd):FnOk P w K mg base CX0 1 f fd ["heads","room"] jpn:=by
 refine F.ok jbn (λvs H Q E h=>?_) (λcdv A outer s H vs Q E hr h=>?_)
 ·obtain⟨a,x,n,hs,d,rfl,_⟩:=h
  rfl
 ·obtain⟨a,x,n,hs,d,rfl,ha,u,hx,k⟩:=h
  have hu:=hr.units
  refine⟨_,(QSs.h (je (zy A8 (j5 (jag hu) (jo ix_U (qpv 0) (qpv 1) (λ_ _=>rfl)) (qpv 1) (j9 _)) (je (jao (jo ix_U (qpv 0) (jo ix_U (qpv 0) (qpv 1) (λ_ _=>rfl)) (λ_ _=>rfl)) (jav (qpv 0) (qpv 1) jht))
  (jj (jq (i:=1) jbn.nd rfl (by ac_rfl) (jo ix_U (qpv 0) (qpv 1) (λ_ _=>rfl))))))
  (jj (j3 (qpv 1))))),?_⟩
  simp!
  unfold jh2
  refine⟨λm σ H'=>∃(y:Nat)(h':List Nat),σ=[some (.ref a),some (.int (y:Int))]/\H'=upd H a (.lst (h'.map iV))/\m=d y/\y<n/\UF n h' d/\jc5 n h'=jc5 n hs/\(∀S,Snd S n hs->Snd S n h'/\Cl S x y)/\(∀y,y<n->hs.getD y 0=y->h'.getD y 0=y),
   ⟨d x,x,hs,rfl,(jqn ha).symm,rfl,hx,u,rfl,λS h=>⟨h,.refl x⟩,λ_ _ h=>h⟩,?_⟩
  rintro m σ H' ⟨y,h',rfl,rfl,rfl,hy,u',hrt,hS,hk⟩
  have hyl:y<h'.length:=by rw[u'.len];exact hy
  have hzl:h'.getD y 0<h'.length:=by rw[u'.len];exact u'.lt y hy
  simp! [jg5 hyl,Int.ofNat.injEq,Int.natCast_inj]
  by_cases e:h'.getD y 0=y
  ·simp only[e,decide_true,Uy,Ia,Ob]
   exact k y h' hy u' hrt e hS hk
  ·obtain⟨u2,r2,d2⟩:=u'.halve hy e
   have nt:(!decide (h'.getD y 0=y))=true:=by rw[Ol e];rfl
   rw[Ao nt]
   refine⟨_,λσ' H' q=>q,?_⟩
   simp! [jg5 hyl,jg5 hzl,Ad,jmt hyl,jhk]
   have hyl2:y<(h'.set y (h'.getD (h'.getD y 0) 0)).length:=by rw[Ua];exact hyl
   have g2:(h'.set y (h'.getD (h'.getD y 0) 0)).getD y 0=h'.getD (h'.getD y 0) 0:=by rw[jdg _ _ _ _ hyl,Ao rfl]
   refine⟨_,jg5 hyl2,d (h'.getD (h'.getD y 0) 0),d2,h'.getD (h'.getD y 0) 0,by rw[g2],_,rfl,rfl,u'.lt _ (u'.lt y hy),u2,by rw[r2];exact hrt,λS q=>?_,λy0 hy0 q=>?_⟩
   ·obtain⟨q1,q2⟩:=hS S q
    exact⟨q1.halve u' hy,(q2.trans (q1 y hy)).trans (q1 _ (u'.lt y hy))⟩
   ·have q1:=hk y0 hy0 q
    rw[jdg _ _ _ _ hyl]
    by_cases e0:y0=y
    ·subst e0;exact absurd q1 e
    ·rw[Am e0];exact q1
abbrev zf:Stmt:=top 15
theorem jah:FnScope ["heads","one","other","left","right"] ["heads","one","other"] (jg zf):=⟨rfl,rfl,rfl,by decide +kernel,rfl,by decide +kernel,by decide +kernel⟩
theorem ok_join_rooms{f fh:Addr}{fd fdh:FuncData}(F:Fun K "join_rooms" "join_rooms" zf f fd)(T:TJoin mg fh)(F7z:Fun K "head_of" "head_of" z0 fh fdh)(b7z:Binds K fdh ["heads","room"] [])
  (G7z:FnOk P w K mg base CX0 1 fh fdh ["heads","room"] jpn):FnOk P w K mg base CX0 2 f fd ["heads","one","other"] jpo:=by
 refine F.ok jah (λvs H Q E h=>?_) (λcdv A outer s H vs Q E hr h=>?_)
 ·obtain⟨a,x,y,n,hs,d,rfl,_⟩:=h
  rfl
 ·obtain⟨a,x,y,n,hs,d,rfl,ha,u,hx,hy,k⟩:=h
  have hu:=hr.units
  refine⟨_,(QSs.h (je (jq (i:=3) jah.nd rfl (by ac_rfl) (ju G7z (hr.mono (by decide)) rfl T.m7z F7z.kp b7z .nil ka (ja (qpv 0) (ja (qpv 1) jc))))
  (je (jq (i:=4) jah.nd rfl (by ac_rfl) (ju G7z (hr.mono (by decide)) rfl T.m7z F7z.kp b7z .nil ka (ja (qpv 0) (ja (qpv 2) jc))))
  (je (jao (qpv 4) (jav (qpv 0) (qpv 3) jht))
  (jj (j3 (jab (jag hu) (qpv 3) (qpv 4) (j9 _)))))))),?_⟩
  simp!
  refine⟨a,x,n,hs,d,rfl,ha,u,hx,λl h1 hl u1 r1 l1 s1 k1=>?_⟩
  simp!
  refine⟨a,y,n,h1,d,rfl,jb,u1,hy,λr h2 hr' u2 r2 rr s2 k2=>?_⟩
  have hll:l<h2.length:=by rw[u2.len];exact hl
  have ll:=k2 l hl l1
  simp! [Ad,jmt hll,jhk,Int.natCast_inj]
  have base':∀S,Snd S n hs->Snd S n h2/\Cl S x l/\Cl S y r:=λS q=>⟨(s2 S (s1 S q).1).1,(s1 S q).2,(s2 S (s1 S q).1).2⟩
  by_cases e:l=r
  ·subst e
   have es:h2.set l l=h2:=by
    apply Wx
    intro i
    rw[Yo]
    by_cases q:l=i
    ·subst q
     have:h2[l]?=some (h2.getD l 0):=by simp[hll]
     simp[hll,this,ll]
     have q2:h2.getD l 0=l:=ll
     simpa[hll]using q2.symm
    ·simp[q]
   rw[es]
   refine k _ h2 d u2 (λh=>by simp at h) (λ_=>by rw[r2,r1]) (λ_ S q=>?_) (λS _ q=>(base' S q).1)
   obtain⟨_,c1,c2⟩:=base' S q
   exact c1.trans c2.symm
  ·obtain⟨⟨d',u3⟩,r3⟩:=u2.join hl hr' ll rr e
   have nt:(!decide (l=r))=true:=by rw[Ol e];rfl
   rw[nt]
   refine k true _ d' u3 (λ_=>by rw[r3,r2,r1]) (λh=>nomatch h) (λh=>nomatch h) (λS q1 q=>?_)
   obtain⟨q2,c1,c2⟩:=base' S q
   exact q2.join u2 hl ((c1.symm.trans (.rel q1)).trans c2)
end
theorem jlm(y:V)(f:Bool):∀m:Nat,(List.replicate m [V.bl f]).flatten=(List.replicate m f).map V.bl
 |0=>rfl
 |m+1=>by rw[List.replicate_succ,List.flatten_cons,jlm y f m,List.replicate_succ];rfl
theorem jne:∀l:List Int,jdj (l.map PyData.int)=true
 |[]=>rfl
 |_::r=>by simp[jdj,jd4,jne r]
def rowD(r:List Int):PyData:=.tuple (r.map PyData.int)
theorem jd3:∀l:List (List Int),jdj (l.map rowD)=true
 |[]=>rfl
 |_::r=>by simp[jdj,jd4,rowD,jne,jd3 r]
structure Mach where
 z:Str
 mv:List (List Int)
 ye:List Bool
def Mach.D(m:Mach):PyData:=.tuple [.str m.z,.tuple (m.mv.map rowD),.tuple (m.ye.map PyData.bool)]
structure Mach.Ok(m:Mach)(most:Nat):Prop where
 let4:Letters m.z 4
 n1:1<=m.mv.length
 nh:m.mv.length<=most
 yl:m.ye.length=m.mv.length
 row:∀r∈m.mv,r.length=m.z.length/\∀t∈r,0<=t/\t<(m.mv.length:Int)
def jfy:Sp:=λvs H Q _=>∃(b:Addr)(z:Str)(n:Nat)(o:HO),vs=[.ref b,.str z,.int (n:Int)]/\H b=some o/\BoxO o/\Letters z 4/\1<=n/\n<=1000 /\
 ∀p m o' H',m.z=z->Mach.Ok m n->BoxO o'->H' b=some o'->Kp [b] H H'->Rep H' (.ref p) m.D->Q (.ref p) H'
def JG(b p q D:Addr)(z:Str)(n N:Nat)(kd tn:Int)(i j:Nat)(v12:Option V)(H2:Hp):L2.St->Hp->Prop:=λσ H3=>∃(g:Int)(o3:HO),σ=[some (.ref b),some (.str z),some (.int (n:Int)),some (.int (N:Int)),some (.int kd),some (.int tn),some (.ref D),some (.ref p),some (.int (0+(i:Int))),some (.ref q),some (.int (0+(j:Int))),some (.int g),v12] /\
 0<=g/\g<(N:Int)/\H3 b=some o3/\BoxO o3/\Kp [b] H2 H3
def JY(b p:Addr)(z:Str)(n N:Nat)(kd tn:Int)(D:Addr)(rs:List V)(rows:List (List Int))(v8 v9 v10 v11:Option V)(H:Hp):L2.St->Hp->Prop:=λσ H3=>∃(Y:Addr)(ys:List Bool)(o3:HO),σ=[some (.ref b),some (.str z),some (.int (n:Int)),some (.int (N:Int)),some (.int kd),some (.int tn),some (.ref D),some (.ref p),v8,v9,v10,v11,some (.ref Y)] /\
 H3 b=some o3/\BoxO o3/\H3 p=some (.lst rs)/\Reps H3 rs (rows.map rowD)/\H3 Y=some (.lst (ys.map V.bl))/\ys.length=N/\Kp [b] H H3
structure TMachine(mg:Str->Option Value)(ft:Addr):Prop where
 n_len:mg "len"=none
 n_max:mg "max"=none
 n_range:mg "range"=none
 n_tuple:mg "tuple"=none
 m0z:mg "_law_take"=some (.ref ft)
section
variable{P:Program}{w:World}{K:PySem.W.Frag}{mg:Str->Option Value}{base:Heap}
abbrev yt:Stmt:=top 26
theorem j7:FnScope ["_law_box_here","_law_letters_here","_law_most","_law_many","_law_kind","_law_turned","_law_goals","_law_moves","_law_room","_law_row","_law_k","_law_goal","_law_yes"] ["_law_box_here","_law_letters_here","_law_most"] (jg yt):=⟨rfl,rfl,rfl,by decide +kernel,rfl,by decide +kernel,by decide +kernel⟩
theorem ok__law_machine{f ft:Addr}{fd fdt:FuncData}(F:Fun K "_law_machine" "_law_machine" yt f fd)(T:TMachine mg ft)(F0z:Fun K "_law_take" "_law_take" y9 ft fdt)(b0z:Binds K fdt ["_law_box_here","_law_wide"] [])
  (G0z:FnOk P w K mg base CX0 1 ft fdt ["_law_box_here","_law_wide"] jhx):FnOk P w K mg base CX0 2 f fd ["_law_box_here","_law_letters_here","_law_most"] jfy:=by
 refine F.ok j7 (λvs H Q E h=>?_) (λcdv A outer s H vs Q E hr h=>?_)
 ·obtain⟨b,z,n,o,rfl,_⟩:=h
  rfl
 ·obtain⟨b,z,n,o,rfl,hb,ho,hz,n1,nh,k⟩:=h
  have hu:=hr.units
  have hsz:sizeLine=16777216:=Ij
  have zl:=hz.lo
  have zh:=hz.hi
  refine⟨_,(QSs.h (je (jq (i:=3) j7.nd rfl (by ac_rfl) (jz yo jh (ju G0z (hr.mono (by decide)) rfl T.m0z F0z.kp b0z .nil ka (ja (qpv 0) (ja (qpv 2) jc)))))
  (je (jq (i:=4) j7.nd rfl (by ac_rfl) (ju G0z (hr.mono (by decide)) rfl T.m0z F0z.kp b0z .nil ka (ja (qpv 0) (ja jh jc))))
  (je (jq (i:=5) j7.nd rfl (by ac_rfl) (ju G0z (hr.mono (by decide)) rfl T.m0z F0z.kp b0z .nil ka (ja (qpv 0) (ja (jt jw (by rfl) T.n_len j6 (ja (qpv 1) jc)) jc))))
  (je (jad (i:=6) j7.nd rfl (by ac_rfl) rfl (jco (sc:=jg yt) (N:=["_law_box_here","_law_letters_here","_law_most","_law_many","_law_kind","_law_turned","_law_goals","_law_moves","_law_room","_law_row","_law_k","_law_goal","_law_yes"]) (Nc:=["_law_letter","_law_box_here","_law_many"]) (js:=[none,some 0,some 3]) (by decide +kernel)) (kh (K:=K) (qpv 1) rfl) (λ_ _ _ _=>(jr (i:=0) (show List.Nodup [("_law_letter":Str),("_law_box_here":Str),("_law_many":Str)]from by decide +kernel) rfl (by ac_rfl))) (λ_ _ _ _=>(ju G0z (hr.mono (by decide)) rfl T.m0z F0z.kp b0z .nil ka (ja (qpv 1) (ja (qpv 2) jc)))))
  (je (jq (i:=7) j7.nd rfl (by ac_rfl) (kx jc))
  (je (yc A8 rfl (yg rfl T.n_range (ja (qpv 3) jc)) (jr (i:=8) j7.nd rfl (by ac_rfl)) (je (jq (i:=9) j7.nd rfl (by ac_rfl) (kx jc))
  (je (yc A8 rfl (yg rfl T.n_range (ja (jt jw (by rfl) T.n_len j6 (ja (qpv 1) jc)) jc)) (jr (i:=10) j7.nd rfl (by ac_rfl)) (je (jq (i:=11) j7.nd rfl (by ac_rfl) (ju G0z (hr.mono (by decide)) rfl T.m0z F0z.kp b0z .nil ka (ja (qpv 0) (ja (qpv 3) jc))))
  (yh (yf (QW.pt (jbm (j5 (zc hu) (qpv 4) jh (j9 _)) (jbb (j5 (zc hu) (qpv 4) jh (j9 _))))) (jj (jq (i:=11) j7.nd rfl (by ac_rfl) (jt (call_maxU rfl) (by rfl) T.n_max bt_max (ja (qpv 8) (ja (qpv 11) jc))))) kg)
  (yh (yf (j5 (zc hu) (qpv 4) jh (j9 _)) (jj (jq (i:=11) j7.nd rfl (by ac_rfl) (jo ix_U (kx (ja (qpv 8) (ja (jo ix_U (qpv 6) (qpv 10) (λ_ _=>rfl)) jc))) (ju G0z (hr.mono (by decide)) rfl T.m0z F0z.kp b0z .nil ka (ja (qpv 0) (ja jh jc))) (λ_ _=>rfl)))) kg)
  (yh (yf (QW.pt (qpw_and (j5 (zc hu) (qpv 4) jh (j9 _)) (qpw_and1 (j5 (zc hu) (qpv 10) (qpv 5) (j9 _))))) (jj (jq (i:=11) j7.nd rfl (by ac_rfl) (jz z8 (jz yo (qpv 8) jh) (qpv 3)))) kg)
  (jj (kj (ko A5 A6 ki (qpv 9) (ja (qpv 11) jc) jcq))))))))
  (jj (kj (ko A5 A6 ki (qpv 7) (ja (jv kc (by rfl) T.n_tuple yj (ja (qpv 9) jc)) jc) jcq))))))
  (je (jad (i:=12) j7.nd rfl (by ac_rfl) rfl (jco (sc:=jg yt) (N:=["_law_box_here","_law_letters_here","_law_most","_law_many","_law_kind","_law_turned","_law_goals","_law_moves","_law_room","_law_row","_law_k","_law_goal","_law_yes"]) (Nc:=["_law_room","_law_box_here"]) (js:=[none,some 0]) (by decide +kernel)) (yg rfl T.n_range (ja (qpv 3) jc)) (λ_ _ _ _=>(jr (i:=0) (show List.Nodup [("_law_room":Str),("_law_box_here":Str)]from by decide +kernel) rfl (by ac_rfl))) (λ_ _ _ _=>(jab (zc hu) (ju G0z (hr.mono (by decide)) rfl T.m0z F0z.kp b0z .nil ka (ja (qpv 1) (ja jh jc))) jh (j9 _))))
  (yh (yf (j5 (zc hu) (ju G0z (hr.mono (by decide)) rfl T.m0z F0z.kp b0z .nil ka (ja (qpv 0) (ja jh jc))) jh (j9 _)) (jj (jq (i:=12) j7.nd rfl (by ac_rfl) (jz zt (kx (ja (jo ix_U (qpv 12) jh (λ_ _=>rfl)) jc)) (qpv 3)))) kg)
  (jj (j3 (yq (ja (qpv 1) (ja (jv kc (by rfl) T.n_tuple yj (ja (qpv 7) jc)) (ja (jv kc (by rfl) T.n_tuple yj (ja (qpv 12) jc)) jc))))))))))))))),?_⟩
  simp!
  refine⟨b,(n:Int),o,rfl,hb,ho,by omega,by omega,λd o1 d0 d1 ho1=>?_⟩
  obtain⟨dn,rfl⟩:∃dn:Nat,d=(dn:Int):=⟨d.toNat,by omega⟩
  have eN:(1+(dn:Int))=((dn+1:Nat):Int):=by omega
  have ex:∀{H':Hp}{o':HO},BoxO o'->∃xs,o'=.lst xs:=λh=>let⟨_,_,e,_⟩:=h;⟨_,e⟩
  obtain⟨xs0,rfl⟩:=ex (H':=H) ho
  obtain⟨xs1,rfl⟩:=ex (H':=H) ho1
  have kp1:Kp [b] H (upd H b (.lst xs1)):=(Kp.refl [b] H).set hb (.inl (.head _))
  rw[jfr,eN]
  generalize hN:dn+1=N
  have N1:1<=N:=by omega
  have Nh:N<=n:=by omega
  simp!
  refine⟨b,5,_,rfl,jb,ho1,by omega,by omega,λkd o2 kd0 kd5 ho2=>?_⟩
  simp!
  refine⟨by omega,b,(z.length:Int),_,rfl,jb,ho2,by omega,by omega,λtn o3 tn0 tn1 ho3=>?_⟩
  simp!
  intro D hD
  obtain⟨xs3,rfl⟩:=ex (H':=H) ho3
  have kp3:Kp [b] H (upd H b (.lst xs3)):=(Kp.refl [b] H).set hb (.inl (.head _))
  have nbD:b≠D:=jf jb hD
  have hD0:H D=none:=kp3.free hD
  refine jk2 (λi σ' H'=>∃(v:Option V)(gs:List Int)(o':HO),σ'=[v,some (.ref b),some (.int (N:Int))]/\H' b=some o'/\BoxO o'/\H' D=some (.lst (gs.map V.int))/\gs.length=i/\(∀t∈gs,0<=t/\t<(N:Int))/\Kp [b] H H') ?_ ?_ ?_
  ·exact⟨none,[],_,rfl,by rw[jd nbD,jb],ho3,by rw[jb];rfl,rfl,(λt ht=>nomatch ht),kp3.new hD⟩
  ·rintro i c σ' H' hc ⟨v,gs,o',rfl,hb',ho',hD',hl,hg,kp⟩
   have hil:i<z.length:=by
    have:=(Ae.mp hc).1
    simpa[Str.length]using this
   obtain⟨xs',rfl⟩:=ex (H':=H) ho'
   simp! [jdy]
   refine⟨b,(N:Int),_,rfl,hb',ho',by omega,by omega,λe o4 e0 e1 ho4=>?_⟩
   have hD4:upd H' b o4 D=some (.lst (gs.map V.int)):=by rw[jd nbD.symm];exact hD'
   simp! [hD4,Ad]
   refine⟨by omega,gs++[e],o4,by rw[jd nbD,jb],ho4,by simp,by simp[hl],λt ht=>?_,(kp.set hb' (.inl (.head _))).set hD4 (.inr hD0)⟩
   rcases Aw.mp ht with ht|ht
   ·exact hg t ht
   ·simp at ht;subst ht;exact⟨e0,e1⟩
  ·rintro σ' H' ⟨v,gs,o',rfl,hb',ho',hD',hl,hg,kp⟩
   refine⟨by omega,λp hp=>⟨by omega,by omega,?_⟩⟩
   rw[Int.toNat_natCast]
   have nbp:b≠p:=jf hb' hp
   have nDp:D≠p:=jf hD' hp
   have hp0:H p=none:=kp.free hp
   obtain⟨V1,hV1⟩:∃V1:Nat->L2.St->Hp->Prop,∀i σ H',V1 i σ H'↔(∃(v8 v9 v10 v11 v12:Option V)(rs:List V)(rows:List (List Int))(o':HO),σ=[some (.ref b),some (.str z),some (.int (n:Int)),some (.int (N:Int)),some (.int kd),some (.int tn),some (.ref D),some (.ref p),v8,v9,v10,v11,v12]/\H' b=some o'/\BoxO o' /\
    H' D=some (.lst (gs.map V.int))/\H' p=some (.lst rs)/\Reps H' rs (rows.map rowD)/\rows.length=i/\(∀r∈rows,r.length=z.length/\∀t∈r,0<=t/\t<(N:Int))/\Kp [b] H H'):=⟨_,λ_ _ _=>On⟩
   refine jcw V1 ?_ ?_ ?_
   ·refine(hV1 _ _ _).mpr ⟨none,none,none,none,none,[],[],o',rfl,by rw[jd nbp];exact hb',ho',by rw[jd nDp];exact hD',jb,by simp[Reps],rfl,(λr hr=>nomatch hr),kp.new hp⟩
   ·intro i σ H1 hi hw
    obtain⟨v8,v9,v10,v11,v12,rs,rows,o1',rfl,hb1,ho1',hD1,hp1,hrs,hrl,hrg,kp1'⟩:=(hV1 _ _ _).mp hw
    clear hw
    simp!
    refine⟨by omega,λq hq=>⟨by omega,by omega,by omega,?_⟩⟩
    rw[Int.toNat_natCast]
    have nbq:b≠q:=jf hb1 hq
    have nDq:D≠q:=jf hD1 hq
    have npq:p≠q:=jf hp1 hq
    have hq0:H q=none:=kp1'.free hq
    have ei:(0:Int)+(i:Int)=(i:Int):=by omega
    obtain⟨V2,hV2⟩:∃V2:Nat->L2.St->Hp->Prop,∀j σ H',V2 j σ H'↔(∃(v10 v11:Option V)(row:List Int)(o':HO),σ=[some (.ref b),some (.str z),some (.int (n:Int)),some (.int (N:Int)),some (.int kd),some (.int tn),some (.ref D),some (.ref p),some (.int (0+(i:Int))),some (.ref q),v10,v11,v12]/\H' b=some o'/\BoxO o' /\
     H' D=some (.lst (gs.map V.int))/\H' p=some (.lst rs)/\Reps H' rs (rows.map rowD)/\H' q=some (.lst (row.map V.int))/\row.length=j/\(∀t∈row,0<=t/\t<(N:Int))/\Kp [b] H H'):=⟨_,λ_ _ _=>On⟩
    refine jcw V2 ?_ ?_ ?_
    ·exact(hV2 _ _ _).mpr ⟨v10,v11,[],o1',rfl,by rw[jd nbq];exact hb1,ho1',by rw[jd nDq];exact hD1,by rw[jd npq];exact hp1,Reps.kp ((Kp.refl [] H1).new hq) (jd3 rows) hrs,jb,rfl,(λt ht=>nomatch ht),kp1'.new hq⟩
    ·intro j σ H2 hj hw
     obtain⟨v10,v11,row,o2',rfl,hb2,ho2',hD2,hp2,hrs2,hq2,hrow,hgood,kp2⟩:=(hV2 _ _ _).mp hw
     clear hw
     obtain⟨xs2,rfl⟩:=ex (H':=H) ho2'
     simp!
     refine⟨b,(N:Int),_,rfl,hb2,ho2',by omega,by omega,λg o4 g0 g1 ho4=>?_⟩
     have kpb:Kp [b] H2 (upd H2 b o4):=(Kp.refl [b] H2).set hb2 (.inl (.head _))
     refine⟨JG b p q D z n N kd tn i j v12 H2,?_,?_⟩
     ·simp!
      have mx:∀x:Int,x=(if g>0+(i:Int)then g else 0+(i:Int))->0<=x/\x<(N:Int):=λx e=>by split at e <;> omega
      exact ite2 (λ_=>⟨_,o4,rfl,(mx _ rfl).1,(mx _ rfl).2,jb,ho4,kpb⟩) λ_=>ite2 (λ_=>⟨_,o4,rfl,(mx _ rfl).1,(mx _ rfl).2,jb,ho4,kpb⟩) λ_=>⟨g,o4,rfl,g0,g1,jb,ho4,kpb⟩
     ·rintro σ H3 ⟨g,o3,rfl,g0,g1,hb3,ho3,kk⟩
      refine⟨JG b p q D z n N kd tn i j v12 H2,?_,?_⟩
      ·simp!
       refine ite2 (λ_=>?_) λ_=>⟨g,o3,rfl,g0,g1,hb3,ho3,kk⟩
       have hD3:=kk.old _ _ hD2 (by simp[nbD.symm])
       have hjg:j<gs.length:=by omega
       have hat:atI (gs.map V.int) ((0:Int)+(j:Int))=some (.int (gs.getD j 0)):=by
        refine jke (by omega) ?_
        have:((0:Int)+(j:Int)).toNat=j:=by omega
        rw[this]
        simp[hjg]
       have hgj:=hg (gs.getD j 0) (by simp[Ac,hjg])
       refine⟨_,by rw[hD3];rfl,_,hat,by omega,λq2 hq2'=>?_⟩
       have nb2:b≠q2:=jf hb3 hq2'
       obtain⟨xs5,rfl⟩:=ex (H':=H) ho3
       refine⟨b,2,_,rfl,by rw[jd nb2];exact hb3,ho3,by omega,by omega,λe o5 e0 e1 ho5=>?_⟩
       have k5:Kp [b] H2 (upd (upd H3 q2 (.lst [.int (0+(i:Int)),.int (gs.getD j 0)])) b o5):=(kk.new hq2').set (by rw[jd nb2];exact hb3) (.inl (by simp))
       have hl2:upd (upd H3 q2 (.lst [.int (0+(i:Int)),.int (gs.getD j 0)])) b o5 q2=some (.lst [.int (0+(i:Int)),.int (gs.getD j 0)]):=by rw[jd nb2.symm,jb]
       have hb5:upd (upd H3 q2 (.lst [.int (0+(i:Int)),.int (gs.getD j 0)])) b o5 b=some o5:=jb
       generalize upd (upd H3 q2 (.lst [.int (0+(i:Int)),.int (gs.getD j 0)])) b o5=H5 at k5 hl2 hb5
       rcases(by omega:e=0\/e=1)with rfl|rfl
       ·simp! [hl2]
        exact⟨_,o5,rfl,by omega,by omega,hb5,ho5,k5⟩
       ·simp! [hl2]
        exact⟨_,o5,rfl,hgj.1,hgj.2,hb5,ho5,k5⟩
      ·rintro σ H3 ⟨g,o3,rfl,g0,g1,hb3,ho3,kk⟩
       refine⟨JG b p q D z n N kd tn i j v12 H2,?_,?_⟩
       ·simp!
        exact ite2 (λ_=>ite2 (λ_=>⟨by omega,_,o3,rfl,Y5 _ (by omega),Yd _ (by omega),hb3,ho3,kk⟩) λ_=>⟨g,o3,rfl,g0,g1,hb3,ho3,kk⟩) λ_=>⟨g,o3,rfl,g0,g1,hb3,ho3,kk⟩
       ·rintro σ H3 ⟨g,o3,rfl,g0,g1,hb3,ho3,kk⟩
        have hD3:=kk.old _ _ hD2 (by simp[nbD.symm])
        have hp3:=kk.old _ _ hp2 (by simp[nbp.symm])
        have hq3:=kk.old _ _ hq2 (by simp[nbq.symm])
        simp! [hq3,Ad]
        refine⟨by omega,(hV2 _ _ _).mpr ⟨_,_,row++[g],o3,rfl,by rw[jd nbq];exact hb3,ho3,by rw[jd nDq];exact hD3,by rw[jd npq];exact hp3,?_,by rw[jb,A3];rfl,by simp[hrow],λt ht=>?_,(kp2.trans kk).set hq3 (.inr hq0)⟩⟩
        ·exact Reps.kp ((Kp.refl [q] H3).set hq3 (.inl (.head _))) (jd3 rows) (Reps.kp kk (jd3 rows) hrs2)
        ·rcases Aw.mp ht with ht|ht
         ·exact hgood t ht
         ·simp at ht;subst ht;exact⟨g0,g1⟩
    ·intro σ H2 hw
     obtain⟨v10,v11,row,o2',rfl,hb2,ho2',hD2,hp2,hrs2,hq2,hrow,hgood,kp2⟩:=(hV2 _ _ _).mp hw
     clear hw
     simp! [hp2]
     refine jcr hq2 λl hl=>?_
     have npl:p≠l:=jf hp2 hl
     have nbl:b≠l:=jf hb2 hl
     have nDl:D≠l:=jf hD2 hl
     have hp3:upd H2 l (.tup (row.map V.int)) p=some (.lst rs):=by rw[jd npl];exact hp2
     simp! [hp3]
     have rsl:rs.length=i:=by rw[Reps.len hrs2,Ad];exact hrl
     refine⟨by omega,(hV1 _ _ _).mpr ⟨_,_,_,_,_,_,rows++[row],o2',rfl,by rw[jd nbp,jd nbl];exact hb2,ho2',by rw[jd nDp,jd nDl];exact hD2,jb,?_,by simp[hrl],λr hr'=>?_,(kp2.new hl).set hp3 (.inr hp0)⟩⟩
     ·have k3:Kp [p] H2 (upd (upd H2 l (.tup (row.map V.int))) p (.lst (rs++[.ref l]))):=((Kp.refl [p] H2).new hl).set hp3 (.inl (.head _))
      rw[A3]
      refine Reps.app (Reps.kp k3 (jd3 rows) hrs2) ?_
      simp only[Ay,Uq,Reps,Rep,rowD,Yf]
      exact⟨l,_,rfl,by rw[jd npl.symm,jb],Reps.ints _ row⟩
     ·rcases Aw.mp hr' with h|h
      ·exact hrg r h
      ·simp at h;subst h;exact⟨by omega,hgood⟩
   ·intro σ H1 hw
    obtain⟨v8,v9,v10,v11,v12,rs,rows,o1',rfl,hb1,ho1',hD1,hp1,hrs,hrl,hrg,kp1'⟩:=(hV1 _ _ _).mp hw
    clear hw
    simp!
    refine⟨by omega,by omega,λY hY=>?_⟩
    rw[Int.toNat_natCast]
    have nbY:b≠Y:=jf hb1 hY
    have npY:p≠Y:=jf hp1 hY
    refine jcw (λi σ' H'=>∃(v:Option V)(ys:List Bool)(o':HO),σ'=[v,some (.ref b)]/\H' b=some o'/\BoxO o'/\H' Y=some (.lst (ys.map V.bl))/\ys.length=i/\Kp [b] H1 H') ?_ ?_ ?_
    ·exact⟨none,[],o1',rfl,by rw[jd nbY];exact hb1,ho1',by rw[jb];rfl,rfl,(Kp.refl [b] H1).new hY⟩
    ·rintro i σ' H2 hi ⟨v,ys,o2',rfl,hb2,ho2',hY2,hyl,kp2⟩
     obtain⟨xs2,rfl⟩:=ex (H':=H) ho2'
     simp! [jdy]
     refine⟨b,2,_,rfl,hb2,ho2',by omega,by omega,λe o4 e0 e1 ho4=>?_⟩
     have hY4:upd H2 b o4 Y=some (.lst (ys.map V.bl)):=by rw[jd nbY.symm];exact hY2
     simp! [hY4,Ad]
     exact⟨by omega,ys++[decide (e=1)],o4,by rw[jd nbY,jb],ho4,by simp,by simp[hyl],(kp2.set hb2 (.inl (.head _))).set hY4 (.inr hY)⟩
    ·rintro σ' H2 ⟨v,ys,o2',rfl,hb2,ho2',hY2,hyl,kp2⟩
     obtain⟨xs2,rfl⟩:=ex (H':=H) ho2'
     refine⟨JY b p z n N kd tn D rs rows v8 v9 v10 v11 H,?_,?_⟩
     ·simp!
      refine⟨b,8,_,rfl,hb2,ho2',by omega,by omega,λe o4 e0 e1 ho4=>?_⟩
      have kk:Kp [b] H1 (upd H2 b o4):=kp2.set hb2 (.inl (.head _))
      have hY4:upd H2 b o4 Y=some (.lst (ys.map V.bl)):=by rw[jd nbY.symm];exact hY2
      have hp4:upd H2 b o4 p=some (.lst rs):=kk.old _ _ hp1 (by simp[nbp.symm])
      simp! [hY4]
      refine ite2 (λ_=>?_) λ_=>⟨Y,ys,o4,rfl,jb,ho4,hp4,Reps.kp kk (jd3 rows) hrs,hY4,hyl,kp1'.trans kk⟩
      cases ys with
      |nil=>simp at hyl;omega
      |cons y0 yr =>
       refine⟨.bl y0,by rw[Ay];exact je9 _ _,by omega,λp1 hp1'=>⟨by omega,by omega,by omega,λp2 hp2'=>?_⟩⟩
       rw[jlm .non]
       have k5:Kp [b] H1 (upd (upd (upd H2 b o4) p1 (.lst [.bl y0])) p2 (.lst ((List.replicate N y0).map V.bl))):=(kk.new hp1').new hp2'
       have n1:b≠p1:=jf jb hp1'
       have n2:b≠p2:=jf (by rw[jd n1,jb]) hp2'
       exact⟨p2,_,o4,rfl,by rw[jd n2,jd n1,jb],ho4,k5.old _ _ hp1 (by simp[nbp.symm]),Reps.kp k5 (jd3 rows) hrs,jb,by simp,kp1'.trans k5⟩
     ·rintro σ H3 ⟨Y,ys,o3',rfl,hb3,ho3',hp3,hrs3,hY3,hyl,kp3⟩
      simp!
      refine jcr hp3 λl1 hl1=>?_
      have nY1:Y≠l1:=jf hY3 hl1
      refine jcr (ys:=ys.map V.bl) (by rw[jd nY1];exact hY3) λl2 hl2=>⟨by omega,λl3 hl3=>?_⟩
      have n12:l1≠l2:=jf jb hl2
      have n13:l1≠l3:=jf (by rw[jd n12,jb]) hl3
      have n23:l2≠l3:=jf jb hl3
      have kA:Kp [] H3 (upd (upd (upd H3 l1 (.tup rs)) l2 (.tup (ys.map V.bl))) l3 (.tup [.str z,.ref l1,.ref l2])):=(((Kp.refl [] H3).new hl1).new hl2).new hl3
      refine k l3 ⟨z,rows,ys⟩ o3' _ rfl ⟨hz,by show 1<=rows.length;omega,by show rows.length<=n;omega,by show ys.length=rows.length;omega,λr hr=>?_⟩ ho3' (kA.old _ _ hb3 Af) (kp3.trans (kA.mono (λ_ h=>nomatch h))) ?_
      ·have:=hrg r hr
       exact⟨this.1,λt ht=>by have:=this.2 t ht;show 0<=t/\t<(rows.length:Int);omega⟩
      ·simp only[Mach.D,Rep]
       refine⟨l3,_,rfl,jb,?_⟩
       simp only[Reps,Rep,Yf]
       exact⟨trivial,⟨l1,rs,rfl,by rw[jd n13,jd n12,jb],Reps.kp kA (jd3 rows) hrs3⟩,⟨l2,_,rfl,by rw[jd n23,jb],Reps.bools _ ys⟩⟩
end
structure MA(H:Hp)(m:Mach)(p a1 a2:Addr)(rs:List V):Prop where
 t0:H p=some (.tup [.str m.z,.ref a1,.ref a2])
 t1:H a1=some (.tup rs)
 t2:H a2=some (.tup (m.ye.map V.bl))
 rl:rs.length=m.mv.length
 rw:∀i,i<m.mv.length->∃r,rs[i]?=some (.ref r)/\H r=some (.tup ((m.mv.getD i []).map V.int))
theorem MA.kp{S:List Addr}{H H':Hp}(k:Kp S H H'){m:Mach}{p a1 a2:Addr}{rs:List V}(h:MA H m p a1 a2 rs):MA H' m p a1 a2 rs :=
 ⟨k.tup _ _ h.t0,k.tup _ _ h.t1,k.tup _ _ h.t2,h.rl,λi hi=>let⟨r,e1,e2⟩:=h.rw i hi;⟨r,e1,k.tup _ _ e2⟩⟩
theorem jd9{H:Hp}:∀{vs:List V}{ds:List PyData}{i:Nat}{d:PyData},Reps H vs ds->ds[i]?=some d->∃v,vs[i]?=some v/\Rep H v d
 |[],[],_,_,_,e=>by simp at e
 |[],_::_,_,_,h,_=>by simp only[Reps]at h
 |_::_,[],_,_,h,_=>by simp only[Reps]at h
 |v::vs,d::ds,0,_,h,e=>by simp only[Reps]at h;simp at e;subst e;exact⟨v,rfl,h.1⟩
 |v::vs,d::ds,i+1,_,h,e=>by simp only[Reps]at h;exact jd9 (i:=i) h.2 (by simpa using e)
theorem jgx{H:Hp}{α:Type}{f:α->V}{g:α->PyData}(hv:∀x v,Rep H v (g x)->v=f x):∀{l:List α}{vs:List V},Reps H vs (l.map g)->vs=l.map f
 |[],[],_=>rfl
 |[],_::_,h=>by simp only[Uq,Reps]at h
 |_::_,[],h=>by simp only[Ay,Reps]at h
 |x::l,v::vs,h=>by simp only[Ay,Reps]at h;rw[Ay,hv x v h.1,jgx hv h.2]
theorem v3L{C:List V->Prop}(h:∀v0 v1 v2:V,C [v0,v1,v2])(us:List V)(e:us.length=3):C us:=by
 cases us with
 |nil=>exact absurd e.symm (Iv _)
 |cons v0 us =>
  cases us with
  |nil=>exact absurd (Ip (e.symm)) (Iv _)
  |cons v1 us =>
   cases us with
   |nil=>exact absurd (Ip (Ip (e.symm))) (Iv _)
   |cons v2 us =>
    cases us with
    |nil=>exact h v0 v1 v2
    |cons _ _=>exact absurd (Ip (Ip (Ip (e)))) (Iv _)
theorem Mach.opened{H:Hp}{m:Mach}{p:Addr}(h:Rep H (.ref p) m.D):∃a1 a2 rs,MA H m p a1 a2 rs:=by
 simp only[Mach.D,Rep]at h
 obtain⟨a,vs,e,h0,hr⟩:=h
 cases e
 obtain⟨v0,e0,r0⟩:=jd9 (i:=0) hr rfl
 obtain⟨v1,e1,r1⟩:=jd9 (i:=1) hr rfl
 obtain⟨v2,e2,r2⟩:=jd9 (i:=2) hr rfl
 have hl:=Reps.len hr
 simp only[Rep]at r0 r1 r2
 subst r0
 obtain⟨a1,rs,rfl,h1,hr1⟩:=r1
 obtain⟨a2,ys,rfl,h2,hr2⟩:=r2
 have ev:vs=[.str m.z,.ref a1,.ref a2]:=by
  exact v3L (C:=λvs=>vs[0]?=some _->vs[1]?=some _->vs[2]?=some _->vs=_) (λx y w e0 e1 e2=>by simp at e0 e1 e2;rw[e0,e1,e2]) vs hl e0 e1 e2
 subst ev
 have ey:ys=m.ye.map V.bl:=jgx (f:=V.bl) (λx v h=>by simpa only[Rep]using h) hr2
 subst ey
 refine⟨a1,a2,rs,h0,h1,h2,by rw[Reps.len hr1,Ad],λi hi=>?_⟩
 obtain⟨v,ev,rv⟩:=jd9 (i:=i) (d:=rowD (m.mv.getD i [])) hr1 (by rw[Ag];simp[hi])
 simp only[rowD,Rep]at rv
 obtain⟨r,us,rfl,hr',hu⟩:=rv
 have eu:us=(m.mv.getD i []).map V.int:=jgx (f:=V.int) (λx v h=>by simpa only[Rep]using h) hu
 subst eu
 exact⟨r,ev,hr'⟩
theorem getD_some{α:Type}(l:List α)(i:Nat)(d:α)(h:i<l.length):l[i]?=some (l.getD i d):=by
 rw[Ac,Aa h]
 rfl
theorem jet{α:Type}(l:List α)(i:Nat)(d:α)(h:i<l.length):l.getD i d∈l:=Al (getD_some l i d h)
def dl(m:Mach)(p a:Nat):Nat:=((m.mv.getD p []).getD a 0).toNat
def yy(m:Mach)(p:Nat):Bool:=m.ye.getD p false
theorem Mach.Ok.cell{m:Mach}{N:Nat}(ok:Mach.Ok m N){p a:Nat}(hp:p<m.mv.length)(ha:a<m.z.length):(m.mv.getD p []).length=m.z.length/\(m.mv.getD p []).getD a 0=((dl m p a:Nat):Int)/\dl m p a<m.mv.length:=by
 have hm:m.mv.getD p []∈m.mv:=jet _ _ _ hp
 obtain⟨h1,h2⟩:=ok.row _ hm
 have h3:=h2 ((m.mv.getD p []).getD a 0) (jet _ _ _ (by omega))
 unfold dl
 refine⟨h1,by omega,by omega⟩
theorem jg6{m:Mach}{N p:Nat}(ok:Mach.Ok m N)(hp:p<m.mv.length):atI (m.ye.map V.bl) ((p:Nat):Int)=some (.bl (yy m p)):=by
 refine jcm ?_
 have:p<m.ye.length:=by rw[ok.yl];exact hp
 rw[Ag]
 simp[yy,this]
theorem joe{m:Mach}{N p a:Nat}(ok:Mach.Ok m N)(hp:p<m.mv.length)(ha:a<m.z.length):atI ((m.mv.getD p []).map V.int) ((a:Nat):Int)=some (.int ((dl m p a:Nat):Int)):=by
 obtain⟨h1,h2,h3⟩:=ok.cell hp ha
 refine jcm ?_
 rw[Ag]
 have:(m.mv.getD p [])[a]?=some ((m.mv.getD p []).getD a 0):=getD_some _ _ _ (by omega)
 rw[this,h2];rfl
def mvD(m:Mach):List (List Nat):=m.mv.map λr=>r.map Int.toNat
theorem jm6{H:Hp}:∀{rs:List V}{mv:List (List Int)},rs.length=mv.length->(∀i,i<mv.length->∃r,rs[i]?=some (.ref r)/\H r=some (.tup ((mv.getD i []).map V.int)))->(∀r∈mv,∀t∈r,0<=t)->RowsM H rs (mv.map λr=>r.map Int.toNat)
 |[],[],_,_,_=>.nil
 |v::rs,r::mv,hl,h,nn=>by
  refine .cons ?_ (jm6 (by simpa using hl) (λi hi=>?_) λr' h'=>nn r' (.tail _ h'))
  ·obtain⟨a,e1,e2⟩:=h 0 (by simp)
   have e1:v=.ref a:=by simpa using e1
   refine⟨a,e1,?_⟩
   rw[e2,A0]
   congr 2
   refine Ih λt ht=>?_
   have:=nn r (.head _) t (by simpa using ht)
   show V.int t=V.int ((t.toNat:Nat):Int)
   rw[Int.toNat_of_nonneg this]
  ·obtain⟨a,e1,e2⟩:=h (i+1) (by simpa using hi)
   exact⟨a,by simpa using e1,by simpa using e2⟩
theorem MA.mh{H:Hp}{m:Mach}{p a1 a2:Addr}{rs:List V}{n:Nat}(h:MA H m p a1 a2 rs)(ok:Mach.Ok m n)(n9:n<=1000):MH H p m.z a1 a2 rs (mvD m) m.z.length m.ye:=by
 have zl:m.z.length<=1000:=by have:=ok.let4.hi;omega
 refine⟨h.t0,h.t1,jm6 h.rl h.rw λr hr t ht=>((ok.row r hr).2 t ht).1,⟨λrow hrow=>?_,λrow hrow x hx=>?_⟩,h.t2,by rw[ok.yl];simp[mvD],by simpa[mvD]using ok.n1,by have:=ok.nh;simp[mvD];omega,zl⟩
 ·obtain⟨r,hr,rfl⟩:=An.mp hrow
  rw[Ad];exact(ok.row r hr).1
 ·obtain⟨r,hr,rfl⟩:=An.mp hrow
  obtain⟨t,ht,rfl⟩:=An.mp hx
  have:=(ok.row r hr).2 t ht
  simp[mvD];omega
def txt(m:Mach)(w:List Nat):Str:=toS (w.map λa=>m.z.cps.toList.getD a 0)
theorem jlz(m:Mach)(w:List Nat)(a:Nat):txt m w++(⟨#[m.z.cps.toList.getD a 0]⟩:Str)=txt m (w++[a]):=by
 unfold txt
 rw[jnd,A3]
 rfl
theorem jr7(m:Mach)(w:List Nat):(txt m w).length=w.length:=by simp[txt,je8]
theorem jhr{m:Mach}{N:Nat}(ok:Mach.Ok m N):∀{w:List Nat}{p:Nat},p<m.mv.length->Ov m.z.length w->run (dl m) p w<m.mv.length
 |[],_,hp,_=>hp
 |a::w,p,hp,ho=>jhr ok (w:=w) (p:=dl m p a) (ok.cell hp (ho a (by simp))).2.2 λb hb=>ho b (by simp[hb])
theorem jlp(m:Mach)(p:Nat)(w:List Nat)(a:Nat):run (dl m) p (w++[a])=dl m (run (dl m) p w) a:=by rw[je7];rfl
structure MS(H:Hp)(m:Mach)(p a1 a2:Addr)(rs:List V):Prop where
 t0:H p=some (.tup [.str m.z,.ref a1,.ref a2])
 t1:jda (H a1)=some rs
 t2:jda (H a2)=some (m.ye.map V.bl)
 rl:rs.length=m.mv.length
 rw:∀i,i<m.mv.length->∃r,rs[i]?=some (.ref r)/\H r=some (.tup ((m.mv.getD i []).map V.int))
theorem jph{H H':Hp}(k:Kp [] H H'){a:Addr}{xs:List V}(h:jda (H a)=some xs):jda (H' a)=some xs:=by
 cases e:H a with
 |none=>rw[e]at h;cases h
 |some o=>rw[k.old _ _ e Af,<-e];exact h
theorem MS.kp{H H':Hp}(k:Kp [] H H'){m:Mach}{p a1 a2:Addr}{rs:List V}(h:MS H m p a1 a2 rs):MS H' m p a1 a2 rs :=
 ⟨k.tup _ _ h.t0,jph k h.t1,jph k h.t2,h.rl,λi hi=>let⟨r,e1,e2⟩:=h.rw i hi;⟨r,e1,k.tup _ _ e2⟩⟩
theorem MA.ms{H:Hp}{m:Mach}{p a1 a2:Addr}{rs:List V}(h:MA H m p a1 a2 rs):MS H m p a1 a2 rs:=⟨h.t0,by rw[h.t1];rfl,by rw[h.t2];rfl,h.rl,h.rw⟩
def resV(m:Mach):Option (List Nat)->V
 |Option.none=>.non
 |some w=>.str (txt m w)
def jih:Sp:=λvs H Q _=>∃(p:Addr)(m:Mach)(one other N:Nat),vs=[.ref p,.int (one:Int),.int (other:Int)]/\(∃a1 a2 rs,MS H m p a1 a2 rs)/\Mach.Ok m N/\N<=1000/\one<m.mv.length/\other<m.mv.length /\
 ∀r H',Res (dl m) (yy m) m.z.length one other r->(∀w,r=some w->w.length<=1000001)->Kp [] H H'->Q (resV m r) H'
def itD(m:Mach)(one other:Nat)(w:List Nat):PyData:=.tuple [.int ((run (dl m) one w:Nat):Int),.int ((run (dl m) other w:Nat):Int),.str (txt m w)]
theorem jfe(m:Mach)(one other:Nat):∀Q:List (List Nat),jdj (Q.map (itD m one other))=true
 |[]=>rfl
 |_::r=>by simp[jdj,jd4,itD,jfe m one other r]
def Sk(m:Mach)(one other:Nat)(Q:List (List Nat))(k:Nat)(p q:Nat):Prop:=∃i u,i<k/\Q[i]?=some u/\p=run (dl m) one u/\q=run (dl m) other u
def Par(L:Nat)(Qs:List (List Nat))(kk:Nat):Prop:=∀v∈Qs,v=[]\/∃(i:Nat)(t:List Nat)(b:Nat),i<kk/\Qs[i]?=some t/\v=t++[b]/\b<L
structure TApart(mg:Str->Option Value)(fj:Addr):Prop where
 n_len:mg "len"=none
 n_list:mg "list"=none
 n_range:mg "range"=none
 n_enumerate:mg "enumerate"=none
 m16z:mg "join_rooms"=some (.ref fj)
section
variable{P:Program}{w:World}{K:PySem.W.Frag}{mg:Str->Option Value}{base:Heap}
abbrev z7:Stmt:=top 14
theorem y8:FnScope ["machine","one","other","letters","moves","yes","heads","due","place","pair","sign","letter","left","right"] ["machine","one","other"] (jg z7):=⟨rfl,rfl,rfl,by decide +kernel,rfl,by decide +kernel,by decide +kernel⟩
theorem ok_apart{f fj:Addr}{fd fdj:FuncData}(F:Fun K "apart" "apart" z7 f fd)(T:TApart mg fj)(F16z:Fun K "join_rooms" "join_rooms" zf fj fdj)(b16z:Binds K fdj ["heads","one","other"] [])
  (G16z:FnOk P w K mg base CX0 2 fj fdj ["heads","one","other"] jpo):FnOk P w K mg base CX0 3 f fd ["machine","one","other"] jih:=by
 refine F.ok y8 (λvs H Q E h=>?_) (λcdv A outer s H vs Q E hr h=>?_)
 ·obtain⟨p,m,one,other,N,rfl,_⟩:=h
  rfl
 ·obtain⟨p,m,one,other,N,rfl,hm,ok,hN,h1,h2,k⟩:=h
  have hu:=hr.units
  have hsz:sizeLine=16777216:=Ij
  have zl:=ok.let4.lo
  have zh:=ok.let4.hi
  have nh:=ok.nh
  have n1:=ok.n1
  obtain⟨a1,a2,rs,ma⟩:=hm
  refine exQ (je (jq (i:=3) y8.nd rfl (by ac_rfl) (jo ix_U (qpv 0) jh (λ_ _=>rfl)))
  (je (jq (i:=4) y8.nd rfl (by ac_rfl) (jo ix_U (qpv 0) jh (λ_ _=>rfl)))
  (je (jq (i:=5) y8.nd rfl (by ac_rfl) (jo ix_U (qpv 0) jh (λ_ _=>rfl)))
  (yh (yf (j5 (jag hu) (jo ix_U (qpv 5) (qpv 1) (λ_ _=>rfl)) (jo ix_U (qpv 5) (qpv 2) (λ_ _=>rfl)) (j9 _)) (jj (j3 jac)) kg)
  (je (jq (i:=6) y8.nd rfl (by ac_rfl) (jv (jbh rfl) (by rfl) T.n_list jan (ja (jv jbc (by rfl) T.n_range jb2 (ja (jt jw (by rfl) T.n_len j6 (ja (qpv 4) jc)) jc)) jc)))
  (je (jq (i:=7) y8.nd rfl (by ac_rfl) (kx (ja (yq (ja (qpv 1) (ja (qpv 2) (ja jac jc)))) jc)))
  (je (jq (i:=8) y8.nd rfl (by ac_rfl) jh)
  (je (zy A8 (j5 jau (qpv 8) (jt jw (by rfl) T.n_len j6 (ja (qpv 7) jc)) (j9 _)) (je (jq (i:=9) y8.nd rfl (by ac_rfl) (jo ix_U (qpv 7) (qpv 8) (λ_ _=>rfl)))
  (je (qps_aug (i:=8) y8.nd rfl (by ac_rfl) jh jsh)
  (yh (yf (jba (jap (ju G16z (hr.mono (by decide)) rfl T.m16z F16z.kp b16z .nil ka (ja (qpv 6) (ja (jo ix_U (qpv 9) jh (λ_ _=>rfl)) (ja (jo ix_U (qpv 9) jh (λ_ _=>rfl)) jc)))))) (jj qps_continue) kg)
  (jj (yc A8 rfl (qpi_enumerate rfl T.n_enumerate (ja (qpv 3) jc)) (ja8 (n:=2) rfl (zg (jr (i:=10) y8.nd rfl (by ac_rfl)) (zg (jr (i:=11) y8.nd rfl (by ac_rfl)) ja0)) (K:=K) rfl) (je (jq (i:=12) y8.nd rfl (by ac_rfl) (jo ix_U (jo ix_U (qpv 4) (jo ix_U (qpv 9) jh (λ_ _=>rfl)) (λ_ _=>rfl)) (qpv 10) (λ_ _=>rfl)))
  (je (jq (i:=13) y8.nd rfl (by ac_rfl) (jo ix_U (jo ix_U (qpv 4) (jo ix_U (qpv 9) jh (λ_ _=>rfl)) (λ_ _=>rfl)) (qpv 10) (λ_ _=>rfl)))
  (yh (yf (j5 (jag hu) (jo ix_U (qpv 5) (qpv 12) (λ_ _=>rfl)) (jo ix_U (qpv 5) (qpv 13) (λ_ _=>rfl)) (j9 _)) (jj (j3 (jz yo (jo ix_U (qpv 9) jh (λ_ _=>rfl)) (qpv 11)))) kg)
  (jj (kj (ko A5 A6 ki (qpv 7) (ja (yq (ja (qpv 12) (ja (qpv 13) (ja (jz yo (jo ix_U (qpv 9) jh (λ_ _=>rfl)) (qpv 11)) jc)))) jc) jcq))))))))))))
  (jj (j3 jbr)))))))))) ?_
  simp! [ma.t0]
  obtain⟨J0,hJ0⟩:∃J0:L2.St->Hp->Prop,∀s H',J0 s H'↔(s=[some (.ref p),some (.int (one:Int)),some (.int (other:Int)),some (.str m.z),some (.ref a1),some (.ref a2),none,none,none,none,none,none,none,none]/\H=H'/\yy m one=yy m other):=⟨_,λ_ _=>On⟩
  refine⟨J0,?_,λs H' hJ=>?_⟩
  ·simp! [ma.t2,jg6 ok h1,jg6 ok h2]
   refine ite2 (λhd=>?_) (λhd=>(hJ0 _ _).mpr ⟨rfl,rfl,by simpa using hd⟩)
   refine k (some []) H ⟨Ov.nil,by simpa[run]using hd,λw _ h=>?_⟩ (λw e=>by cases e;simp) (Kp.refl [] H)
   exact absurd h (Nat.not_lt_zero _)
  ·obtain⟨rfl,rfl,hd0⟩:=(hJ0 _ _).mp hJ
   clear hJ hJ0
   simp! [ma.t1]
   have nl:rs.length=m.mv.length:=ma.rl
   rw[nl]
   refine⟨by omega,by omega,λpr hpr=>⟨0,(m.mv.length:Int),jb,by omega,by omega,by omega,by omega,by omega,λha hha=>?_⟩⟩
   have eh:((List.range ((m.mv.length:Int)-0).toNat).map fun(i:Nat)=>V.int ((0:Int)+(i:Nat)))=(List.range m.mv.length).map iV:=by
    have:((m.mv.length:Int)-0).toNat=m.mv.length:=by omega
    rw[this]
    apply Ih
    intro i _
    simp[iV]
   rw[eh]
   refine⟨by omega,λt0 ht0=>⟨by omega,λdu hdu=>?_⟩⟩
   have nhd:ha≠du:=jf (by rw[jd (jf jb ht0),jb]) hdu
   have kp0:Kp [] H (upd (upd (upd (upd H pr (.rng 0 (m.mv.length:Int))) ha (.lst ((List.range m.mv.length).map iV))) t0 (.tup [.int (one:Int),.int (other:Int),.str (Str.ofString "")])) du (.lst [.ref t0])):=((((Kp.refl [] H).new hpr).new hha).new ht0).new hdu
   have hha0:H ha=none:=((Kp.refl [] H).new hpr).free hha
   have hdu0:H du=none:=((((Kp.refl [] H).new hpr).new hha).new ht0).free hdu
   have ntd:t0≠du:=jf jb hdu
   unfold jh2
   let L:=m.z.length
   let n:=m.mv.length
   obtain⟨W0,hW0⟩:∃W0:Nat->L2.St->Hp->Prop,∀μ σ H',W0 μ σ H'↔(∃(Qs:List (List Nat))(kk:Nat)(hs:List Nat)(d:Nat->Nat)(rq:List V)(v9 v10 v11 v12 v13:Option V),σ=[some (.ref p),some (.int (one:Int)),some (.int (other:Int)),some (.str m.z),some (.ref a1),some (.ref a2),some (.ref ha),some (.ref du),some (.int (kk:Int)),v9,v10,v11,v12,v13] /\
     H' ha=some (.lst (hs.map iV))/\H' du=some (.lst rq)/\Reps H' rq (Qs.map (itD m one other))/\Kp [] H H'/\UF n hs d/\Snd (Sk m one other Qs kk) n hs/\Bfs (dl m) (yy m) one other L Qs kk/\kk<=Qs.length/\Qs.length+L*jc5 n hs<=1+L*n /\
     (∀(i:Nat)(u:List Nat),Qs[i]?=some u->u.length<=i)/\Par L Qs kk/\μ=jc5 n hs*(L+1)+(Qs.length-kk)):=⟨_,λ_ _ _=>On⟩
   refine⟨W0,?_,?_⟩
   ·refine⟨_,(hW0 _ _ _).mpr ⟨[[]],0,List.range n,λ_=>0,[.ref t0],none,none,none,none,none,rfl,?_,jb,?_,kp0,jqm n,jpl _ n,⟨by simp,?_,?_,?_,λi u h=>absurd h (Nat.not_lt_zero _)⟩,by simp,?_,?_,λv hv=>.inl (by simpa using hv),rfl⟩⟩
    ·rw[jd nhd,jd (jf jb ht0),jb]
    ·simp only[Ay,Uq,Reps,Yf,itD,Rep]
     refine⟨t0,_,rfl,by rw[jd ntd,jb],?_⟩
     simp only[Reps,Rep,Yf]
     exact⟨rfl,rfl,rfl⟩
    ·intro u hu'
     simp at hu';subst hu';exact Ov.nil
    ·intro i j u v hij e1 e2
     have:=(Ae.mp e2).1
     simp at this;omega
    ·intro u hu'
     simp at hu';subst hu';exact hd0
    ·have:=Nat.mul_le_mul_left L (jlo n (List.range n))
     simp only[List.length_cons,List.length_nil]
     omega
    ·intro i u e
     have h3:=(Ae.mp e).1
     simp at h3;subst h3;simp at e;subst e;simp
   ·intro μ σ H' hW
    obtain⟨Qs,kk,hs,d,rq,v9,v10,v11,v12,v13,rfl,e1,e2,hrq,kp,uf,sd,B,hkk,hcap,hlen,hpar,rfl⟩:=(hW0 _ _ _).mp hW
    clear hW
    have ma':=ma.kp kp
    have rql:rq.length=Qs.length:=by rw[Reps.len hrq,Ad]
    have rts:=jlo n hs
    have capL:Qs.length<=4001:=by
     have h4:L*n<=4*1000:=Nat.mul_le_mul zh (Im nh hN)
     omega
    simp! [e2,rql]
    refine ite2 (λhlt=>?_) (λhge=>?_)
    ·have hlt':kk<Qs.length:=by omega
     obtain⟨u,hu'⟩:∃u,Qs[kk]?=some u:=⟨Qs[kk],by simp[hlt']⟩
     have uo:=B.ov u (Al hu')
     have p1:run (dl m) one u<n:=jhr ok h1 uo
     have p2:run (dl m) other u<n:=jhr ok h2 uo
     obtain⟨vq,evq,rvq⟩:=jd9 (i:=kk) (d:=itD m one other u) hrq (by rw[Ag,hu'];rfl)
     simp only[itD,Rep]at rvq
     obtain⟨pq,vs3,rfl,hpq,hvs3⟩:=rvq
     have evs:vs3=[.int ((run (dl m) one u:Nat):Int),.int ((run (dl m) other u:Nat):Int),.str (txt m u)]:=by
      match vs3,Reps.len hvs3,hvs3 with
      |[x,y,q],_,h=>simp only[Reps,Rep,Yf]at h;obtain⟨q1,q2,q3⟩:=h;rw[q1,q2,q3]
     subst evs
     refine⟨_,λσ' H' q=>q,?_⟩
     have atq:atI rq ((kk:Nat):Int)=some (.ref pq):=jcm evq
     simp! [e2,atq]
     refine⟨_,?_,λ_ _ h=>h⟩
     simp! [hpq]
     refine⟨ha,run (dl m) one u,run (dl m) other u,n,hs,d,rfl,e1,uf,p1,p2,λb h' d' uf' rt rf cf sf=>?_⟩
     have e2':∀o,upd H' ha o du=some (.lst rq):=λo=>by rw[jd nhd.symm];exact e2
     have kph:Kp [] H (upd H' ha (.lst (h'.map iV))):=kp.set e1 (.inr hha0)
     have kph':Kp [ha] H' (upd H' ha (.lst (h'.map iV))):=(Kp.refl [ha] H').set e1 (.inl (.head _))
     have skm:∀a b,Sk m one other Qs kk a b->Sk m one other Qs (kk+1) a b:=λa b ⟨i,t,hi,r⟩=>⟨i,t,by omega,r⟩
     have sd':Snd (Sk m one other Qs (kk+1)) n h':=sf _ ⟨kk,u,by omega,hu',rfl,rfl⟩ (sd.mono skm)
     cases b with
     |false =>
      simp!
      have c0:=cf rfl _ sd
      have r0:=rf rfl
      refine⟨_,?_,(hW0 _ _ _).mpr ⟨Qs,kk+1,h',d',rq,_,_,_,_,_,rfl,jb,e2' _,Reps.kp kph' (jfe m one other Qs) hrq,kph,uf',sd',⟨B.q0,B.ov,B.inc,B.eqv,λi t hi ht=>?_⟩,by omega,by rw[r0];exact hcap,hlen,λv hv=>(hpar v hv).imp_right fun⟨i,t,b,hi,r⟩=>⟨i,t,b,by omega,r⟩,rfl⟩⟩
      ·rw[r0];omega
      ·by_cases hik:i<kk
       ·exact B.step i t hik ht
       ·have:i=kk:=by omega
        subst this
        rw[hu']at ht;cases ht
        refine .inr (c0.mono λa b ⟨j,t,hj,et,ea,eb⟩=>⟨t,Al et,B.inc j i t u hj et hu',ea,eb⟩)
     |true =>
      have r1:=rt rfl
      simp!
      obtain⟨W1,hW1⟩:∃W1:Nat->L2.St->Hp->Prop,∀j σ H2,W1 j σ H2↔(∃(rq':List V)(v10 v11 v12 v13:Option V),σ=[some (.ref p),some (.int (one:Int)),some (.int (other:Int)),some (.str m.z),some (.ref a1),some (.ref a2),some (.ref ha),some (.ref du),some (.int ((kk:Int)+1)),some (.ref pq),v10,v11,v12,v13] /\
       H2 ha=some (.lst (h'.map iV))/\H2 du=some (.lst rq')/\Reps H2 rq' ((Qs++(List.range j).map (λa=>u++[a])).map (itD m one other))/\Kp [] H H2/\Kp [ha,du] H' H2/\∀a,a<j->yy m (run (dl m) one (u++[a]))=yy m (run (dl m) other (u++[a]))):=⟨_,λ_ _ _=>On⟩
      refine jsr W1 ?_ ?_ ?_
      ·refine(hW1 _ _ _).mpr ⟨rq,v10,v11,v12,v13,rfl,jb,e2' _,?_,kph,kph'.mono (by simp),λa h=>absurd h (Nat.not_lt_zero _)⟩
       simp only[List.range_zero,Uq,O9]
       exact Reps.kp kph' (jfe m one other Qs) hrq
      ·intro j σ H2 Tt hj hW hTt
       obtain⟨rq',w10,w11,w12,w13,rfl,f1,f2,hrq',kp2,kk2,hy⟩:=(hW1 _ _ _).mp hW
       clear hW
       refine⟨Tt,jhb m.z j,rfl,SqT.of jb,rfl,?_⟩
       have kT:Kp [] H2 (upd H2 Tt (.tup (jhb m.z j))):=(Kp.refl [] H2).new hTt
       have kA:=kp2.trans kT
       have ma3:=ma.kp kA
       have hpq3:=(kk2.trans (kT.mono (by simp))).tup _ _ hpq
       have f1':=kT.old _ _ f1 Af
       have f2':=kT.old _ _ f2 Af
       generalize hH3:upd H2 Tt (.tup (jhb m.z j))=H3 at kT kA ma3 hpq3 f1' f2'
       obtain⟨r1',er1,hr1'⟩:=ma3.rw _ p1
       obtain⟨r2',er2,hr2'⟩:=ma3.rw _ p2
       have q1:=(ok.cell p1 hj).2.2
       have q2:=(ok.cell p2 hj).2.2
       have rl':rq'.length=Qs.length+j:=by rw[Reps.len hrq'];simp
       refine⟨_,_,rfl,⟨_,_,rfl,rfl,?_⟩⟩
       simp! [ma3.t1,hpq3,jcm er1,jcm er2,hr1',hr2',joe ok p1 hj,joe ok p2 hj]
       obtain⟨J1,hJ1⟩:∃J1:L2.St->Hp->Prop,∀s H',J1 s H'↔(s=[some (.ref p),some (.int (one:Int)),some (.int (other:Int)),some (.str m.z),some (.ref a1),some (.ref a2),some (.ref ha),some (.ref du),some (.int ((kk:Int)+1)),some (.ref pq),some (.int (j:Int)),some (.str ⟨#[m.z.cps.toList.getD j 0]⟩),some (.int ((dl m (run (dl m) one u) j:Nat):Int)),some (.int ((dl m (run (dl m) other u) j:Nat):Int))]/\H3=H'/\yy m (dl m (run (dl m) one u) j)=yy m (dl m (run (dl m) other u) j)):=⟨_,λ_ _=>On⟩
       have ul:u.length<=4001:=Im (hlen kk u hu') (by omega)
       have sl:(txt m u).length+(⟨#[m.z.cps.toList.getD j 0]⟩:Str).length<=sizeLine:=by
        rw[jr7]
        show u.length+1<=sizeLine
        omega
       have s1:run (dl m) one (u++[j])=dl m (run (dl m) one u) j:=jlp m one u j
       have s2:run (dl m) other (u++[j])=dl m (run (dl m) other u) j:=jlp m other u j
       refine⟨J1,?_,λs H' hJ=>?_⟩
       ·simp! [ma3.t2,hpq3,jg6 ok q1,jg6 ok q2]
        refine ite2 (λhne=>?_) (λheq=>(hJ1 _ _).mpr ⟨rfl,rfl,by simpa using heq⟩)
        refine⟨sl,?_⟩
        rw[jlz]
        refine k (some (u++[j])) H3 ⟨uo.app (Ov.one hj),?_,B.first zl hu' hj hy⟩ (λw e=>by cases e;simp;omega) kA
        rw[s1,s2]
        simpa using hne
       ·obtain⟨rfl,rfl,heq'⟩:=(hJ1 _ _).mp hJ
        clear hJ hJ1
        simp! [hpq3,f2']
        refine⟨sl,by omega,λt1 ht1=>?_⟩
        have f2'':upd H3 t1 (.tup [.int ((dl m (run (dl m) one u) j:Nat):Int),.int ((dl m (run (dl m) other u) j:Nat):Int),.str (txt m u++⟨#[m.z.cps.toList.getD j 0]⟩)]) du=some (.lst rq'):=by rw[jd (jf f2' ht1)];exact f2'
        have kB:Kp [du] H3 (upd (upd H3 t1 (.tup [.int ((dl m (run (dl m) one u) j:Nat):Int),.int ((dl m (run (dl m) other u) j:Nat):Int),.str (txt m u++⟨#[m.z.cps.toList.getD j 0]⟩)])) du (.lst (rq'++[.ref t1]))):=((Kp.refl [du] H3).new ht1).set f2'' (.inl (.head _))
        have ndt:t1≠du:=(jf f2' ht1).symm
        refine⟨rq',by rw[f2''];rfl,by omega,(hW1 _ _ _).mpr ⟨_,_,_,_,_,rfl,by rw[jd nhd,jd (jf f1' ht1)];exact f1',jb,?_,(kA.new ht1).set f2'' (.inr hdu0),(kk2.trans (kT.mono (by simp))).trans (kB.mono (by simp)),λa ha'=>?_⟩⟩
        ·have er:(Qs++(List.range (j+1)).map (λa=>u++[a])).map (itD m one other)=(Qs++(List.range j).map (λa=>u++[a])).map (itD m one other)++[itD m one other (u++[j])]:=by
          rw[Ub]
          simp only[A3,Ay,Uq,Uo]
         rw[er]
         refine Reps.app (Reps.kp ((kT.mono (S':=[du]) (by simp)).trans kB) (jfe m one other _) hrq') ?_
         simp only[Reps,Yf,itD,Rep]
         refine⟨t1,_,rfl,by rw[jd ndt,jb],?_⟩
         simp only[Reps,Rep,Yf]
         rw[s1,s2,jlz]
         exact⟨rfl,rfl,rfl⟩
        ·by_cases ea:a<j
         ·exact hy a ea
         ·have:a=j:=by omega
          subst this
          rw[s1,s2];exact heq'
      ·intro σ H2 hW
       obtain⟨rq',w10,w11,w12,w13,rfl,f1,f2,hrq',kp2,kk2,hy⟩:=(hW1 _ _ _).mp hW
       clear hW
       have ck:((kk:Int)+1)=((kk+1:Nat):Int):=by omega
       rw[ck]
       have memC:∀v,v∈Qs++(List.range m.z.length).map (λa=>u++[a])->v∈Qs\/∃a,a<m.z.length/\v=u++[a]:=λv hv=>by
        rcases Aw.mp hv with h|h
        ·exact .inl h
        ·obtain⟨a,ha',e⟩:=An.mp h
         exact .inr ⟨a,Ar.mp ha',e.symm⟩
       have up:∀v,v∈Qs->v∈Qs++(List.range m.z.length).map (λa=>u++[a]):=λv hv=>Iw _ hv
       have upg:∀(i:Nat)(t:List Nat),Qs[i]?=some t->(Qs++(List.range m.z.length).map (λa=>u++[a]))[i]?=some t:=λi t h=>by
        rw[A2 (Ae.mp h).1];exact h
       have low:∀v,v∈Qs->∀a,a<m.z.length->cd m.z.length v<cd m.z.length (u++[a]):=λv hv a ha'=>by
        rcases hpar v hv with rfl|⟨i,t,b,hi,ht,rfl,hb⟩
        ·rw[jc9,jkk];omega
        ·exact jg9 hb (B.inc i kk t u hi ht hu')
       have r2:jc5 n hs=jc5 n h'+1:=r1.symm
       have getC:∀(i:Nat)(v:List Nat),(Qs++(List.range m.z.length).map (λa=>u++[a]))[i]?=some v->Qs[i]?=some v\/(Qs.length<=i/\i-Qs.length<m.z.length/\v=u++[i-Qs.length]):=λi v h=>by
        by_cases hi:i<Qs.length
        ·rw[A2 hi]at h;exact .inl h
        ·rw[A9 (by omega),Ag]at h
         cases q:(List.range m.z.length)[i-Qs.length]? with
         |none=>rw[q]at h;cases h
         |some a =>
          rw[q]at h
          obtain⟨q1,q2⟩:=Ae.mp q
          simp at q1 q2
          subst q2
          exact .inr ⟨by omega,q1,(Aq h).symm⟩
       refine⟨_,?_,(hW0 _ _ _).mpr ⟨Qs++(List.range m.z.length).map (λa=>u++[a]),kk+1,h',d',rq',_,_,_,_,_,rfl,f1,f2,hrq',kp2,uf',sd'.mono (λa b ⟨i,t,hi,ht,r⟩=>⟨i,t,hi,upg i t ht,r⟩),
        ⟨up _ B.q0,λv hv=>?_,λi j v w hij e1' e2'=>?_,λv hv=>?_,λi t hi ht=>?_⟩,?_,?_,λi v h=>?_,λv hv=>?_,rfl⟩⟩
       ·rw[r2,Y0,Av,Ad,Az]
        show jc5 n h'*(m.z.length+1)+(Qs.length+m.z.length-(kk+1))<jc5 n h'*(m.z.length+1)+(m.z.length+1)+(Qs.length-kk)
        omega
       ·rcases memC v hv with h|⟨a,ha',rfl⟩
        ·exact B.ov v h
        ·exact uo.app (Ov.one ha')
       ·rcases getC i v e1' with g1|⟨g1,g2,rfl⟩
        ·rcases getC j w e2' with g3|⟨g3,g4,rfl⟩
         ·exact B.inc i j v w hij g1 g3
         ·exact low v (Al g1) _ g4
        ·rcases getC j w e2' with g3|⟨g3,g4,rfl⟩
         ·have:=(Ae.mp g3).1
          omega
         ·rw[jc9,jc9];omega
       ·rcases memC v hv with h|⟨a,ha',rfl⟩
        ·exact B.eqv v h
        ·exact hy a ha'
       ·have upA:∀v a b,jg2 (dl m) one other m.z.length Qs v a b->jg2 (dl m) one other m.z.length (Qs++(List.range m.z.length).map (λa=>u++[a])) v a b:=λv a b ⟨t,ht,r⟩=>⟨t,up t ht,r⟩
        by_cases hik:i<kk
        ·rcases getC i t ht with g|⟨g1,g2,g3⟩
         ·rcases B.step i t hik g with h|h
          ·exact .inl λa ha'=>(h a ha').imp (up _) (Cl.mono (upA _))
          ·exact .inr (h.mono (upA _))
         ·omega
        ·have:i=kk:=by omega
         subst this
         rcases getC i t ht with g|⟨g1,g2,g3⟩
         ·rw[hu']at g;cases g
          exact .inl λa ha'=>.inl (Io _ (An.mpr ⟨a,Ar.mpr ha',rfl⟩))
         ·omega
       ·rw[Av,Ad,Az];omega
       ·rw[Av,Ad,Az]
        rw[r2,Nat.mul_add]at hcap
        show Qs.length+m.z.length+m.z.length*jc5 n h'<=1+m.z.length*n
        have hc':Qs.length+(m.z.length*jc5 n h'+m.z.length*1)<=1+m.z.length*n:=hcap
        omega
       ·rcases getC i v h with g|⟨g1,g2,rfl⟩
        ·exact hlen i v g
        ·have:=hlen kk u hu'
         simp
         omega
       ·rcases memC v hv with h|⟨a,ha',rfl⟩
        ·exact(hpar v h).imp_right fun⟨i,t,b,hi,ht,r⟩=>⟨i,t,b,by omega,upg i t ht,r⟩
        ·exact .inr ⟨kk,u,a,by omega,upg kk u hu',rfl,ha'⟩
    ·have ek:kk=Qs.length:=by omega
     subst ek
     refine k Option.none H' (B.none zl) (λw e=>nomatch e) kp
end
def spLS:Sp:=λvs H Q _=>∃(p q:Addr)(z:Str)(x1 x2 y1 y2:V),vs=[.ref p,.ref q]/\H p=some (.tup [.str z,x1,x2])/\H q=some (.tup [.str z,y1,y2])/\Q .non H
def jcu(m m':Mach):Mach:=⟨m.z,m.mv++m'.mv.map (λr=>r.map λt=>(m.mv.length:Int)+t),m.ye++m'.ye⟩
def adV(n:Nat):V->V
 |.int t=>.int ((n:Int)+t)
 |v=>v
def spSd:Sp:=λvs H Q _=>∃(p q a1 a2 b1 b2:Addr)(m m':Mach)(rs ss:List V),vs=[.ref p,.ref q]/\MA H m p a1 a2 rs/\MA H m' q b1 b2 ss/\m.mv.length<=1000/\m'.mv.length<=1000/\(∀r∈m'.mv,r.length<=1000)/\m.ye.length<=1000/\m'.ye.length<=1000 /\
 ∀r c1 c2 us H',MS H' (jcu m m') r c1 c2 us->Kp [] H H'->Q (.ref r) H'
structure TSd(mg:Str->Option Value):Prop where
 n_len:mg "len"=none
 n_list:mg "list"=none
 n_tuple:mg "tuple"=none
section
variable{P:Program}{w:World}{K:PySem.W.Frag}{mg:Str->Option Value}{base:Heap}
abbrev ym:Stmt:=top 19
theorem sc_look_same_letters:FnScope ["one","other"] ["one","other"] (jg ym):=⟨rfl,rfl,rfl,by decide +kernel,rfl,by decide +kernel,by decide +kernel⟩
theorem ok_look_same_letters{f:Addr}{fd:FuncData}(F:Fun K "look_same_letters" "look_same_letters" ym f fd):FnOk P w K mg base CX0 1 f fd ["one","other"] spLS:=by
 refine F.ok sc_look_same_letters (λvs H Q E h=>?_) (λcdv A outer s H vs Q E hr h=>?_)
 ·obtain⟨p,q,z,x1,x2,y1,y2,rfl,_⟩:=h
  rfl
 ·obtain⟨p,q,z,x1,x2,y1,y2,rfl,hp,hq,k⟩:=h
  have hu:=hr.units
  refine exQ (jj (yf (j5 (jag hu) (jo ix_U (qpv 0) jh (λ_ _=>rfl)) (jo ix_U (qpv 1) jh (λ_ _=>rfl)) (j9 _)) (jj ja5) kg)) ?_
  simp! [hp,hq]
  rw[Am (by simp)]
  exact k
abbrev yv:Stmt:=top 20
theorem zw:FnScope ["one","other","many","moves","row"] ["one","other"] (jg yv):=⟨rfl,rfl,rfl,by decide +kernel,rfl,by decide +kernel,by decide +kernel⟩
theorem ok_side_by_side{f:Addr}{fd:FuncData}(F:Fun K "side_by_side" "side_by_side" yv f fd)(T:TSd mg):FnOk P w K mg base CX0 1 f fd ["one","other"] spSd:=by
 refine F.ok zw (λvs H Q E h=>?_) (λcdv A outer s H vs Q E hr h=>?_)
 ·obtain⟨p,q,a1,a2,b1,b2,m,m',rs,ss,rfl,_⟩:=h
  rfl
 ·obtain⟨p,q,a1,a2,b1,b2,m,m',rs,ss,rfl,ma,mb,l1,l2,l3,l4,l5,k⟩:=h
  have hu:=hr.units
  have hsz:sizeLine=16777216:=Ij
  refine exQ (je (jq (i:=2) zw.nd rfl (by ac_rfl) (jt jw (by rfl) T.n_len j6 (ja (jo ix_U (qpv 0) jh (λ_ _=>rfl)) jc)))
  (je (jq (i:=3) zw.nd rfl (by ac_rfl) (jv (jaj rfl) (by rfl) T.n_list jan (ja (jo ix_U (qpv 0) jh (λ_ _=>rfl)) jc)))
  (je (yc A8 rfl (kh (K:=K) (jo ix_U (qpv 1) jh (λ_ _=>rfl)) rfl) (jr (i:=4) zw.nd rfl (by ac_rfl)) (jj (kj (ko A5 A6 ki (qpv 3) (ja (jv kc (by rfl) T.n_tuple yj (ja (yp rfl (jco (sc:=jg yv) (N:=["one","other","many","moves","row"]) (Nc:=["target","many"]) (js:=[none,some 2]) (by decide +kernel)) (kh (K:=K) (qpv 4) rfl) (λ_ _ _ _=>(jr (i:=0) (show List.Nodup [("target":Str),("many":Str)]from by decide +kernel) rfl (by ac_rfl))) (λ_ _ _ _=>(jz yo (qpv 1) (qpv 0)))) jc)) jc) jcq))))
  (jj (j3 (yq (ja (jo ix_U (qpv 0) jh (λ_ _=>rfl)) (ja (qpv 3) (ja (jz yo (jv (jaj rfl) (by rfl) T.n_list jan (ja (jo ix_U (qpv 0) jh (λ_ _=>rfl)) jc)) (jv (jaj rfl) (by rfl) T.n_list jan (ja (jo ix_U (qpv 1) jh (λ_ _=>rfl)) jc))) jc))))))))) ?_
  simp! [ma.t0,ma.t1,ma.t2,mb.t0,mb.t1,mb.t2]
  intro l hl
  have k1:Kp [] H (upd H l (.lst rs)):=(Kp.refl [] H).new hl
  have el:upd H l (.lst rs) l=some (.lst rs):=jb
  generalize upd H l (.lst rs)=H1 at k1 el⊢
  have ma1:=ma.kp k1
  have mb1:=mb.kp k1
  refine⟨_,by rw[mb1.t0];rfl,_,rfl,?_⟩
  simp only[mb1.t1]
  have rl:=ma.rl
  have sl:=mb.rl
  refine jfg (xs:=ss) (λi σ H'=>∃(v:Option V)(us:List V),σ=[some (.ref p),some (.ref q),some (.int (rs.length:Int)),some (.ref l),v]/\H' l=some (.lst (rs++us))/\us.length=i/\(∀j u,us[j]?=some u->∃r,u=.ref r/\H' r=some (.tup (((m'.mv.getD j []).map λt=>(m.mv.length:Int)+t).map V.int)))/\Kp [] H H') ?_ ?_ ?_ ?_
  ·exact⟨none,[],rfl,by simpa using el,rfl,by simp,k1⟩
  ·rintro i σ H' _ ⟨_,_,rfl,_,_,_,k2⟩
   exact(mb.kp k2).t1
  ·rintro i x σ H2 hx ⟨v,us,rfl,el2,ul,hus,k2⟩
   have hi:i<m'.mv.length:=by have:=(Ae.mp hx).1;omega
   obtain⟨r,er,hr2⟩:=(mb.kp k2).rw i hi
   rw[hx]at er
   cases er
   simp! [hr2]
   refine⟨by rw[el2];rfl,λD hD=>?_⟩
   refine jdz (adV m.mv.length) hr2 hD (by have:=l3 _ (jet m'.mv i [] hi);rw[Ad];omega) (λu hu' l' Q' q'=>?_) λv'=>?_
   ·obtain⟨t,_,rfl⟩:=An.mp hu'
    simp!
    rw[rl]
    exact q'
   have k3:Kp [] H2 (upd H2 D (.lst (((m'.mv.getD i []).map V.int).map (adV m.mv.length)))):=(Kp.refl [] H2).new hD
   have eD:upd H2 D (.lst (((m'.mv.getD i []).map V.int).map (adV m.mv.length))) D=some (.lst (((m'.mv.getD i []).map λt=>(m.mv.length:Int)+t).map V.int)):=by
    rw[jb];congr 2;simp[adV,Function.comp_def]
   generalize upd H2 D (.lst (((m'.mv.getD i []).map V.int).map (adV m.mv.length)))=H3 at k3 eD⊢
   dsimp only
   refine jcr eD λb hb=>?_
   have el3:=k3.old _ _ el2 Af
   have nlb:l≠b:=jf el3 hb
   have el4:upd H3 b (.tup (((m'.mv.getD i []).map λt=>(m.mv.length:Int)+t).map V.int)) l=some (.lst (rs++us)):=by rw[jd nlb];exact el3
   have k5:Kp [l] H2 (upd (upd H3 b (.tup (((m'.mv.getD i []).map λt=>(m.mv.length:Int)+t).map V.int))) l (.lst ((rs++us)++[.ref b]))):=((k3.mono (by simp)).new hb).set el4 (.inl (.head _))
   refine⟨rs++us,by rw[el4];rfl,by simp;omega,us++[.ref b],by rw[Uo],by simp[ul],λj u hj=>?_,((k2.trans k3).new hb).set el4 (.inr hl)⟩
   by_cases c:j<i
   ·rw[A2 (by omega)]at hj
    obtain⟨r',e,h⟩:=hus j u hj
    exact⟨r',e,k5.tup _ _ h⟩
   ·have hj':=(Ae.mp hj).1
    rw[Av,List.length_singleton]at hj'
    obtain rfl:j=i:=by omega
    rw[A9 (by omega),ul,Nat.sub_self]at hj
    exact⟨b,by simpa using hj.symm,by rw[jd nlb.symm,jb]⟩
  ·rintro σ H2 ⟨v,us,rfl,el2,ul,hus,k2⟩
   have ma2:=ma.kp k2
   have mb2:=mb.kp k2
   simp! [ma2.t0,ma2.t2,mb2.t0,mb2.t2]
   intro l2 hl2
   have k3:Kp [] H2 (upd H2 l2 (.lst (m.ye.map V.bl))):=(Kp.refl [] H2).new hl2
   have e3:upd H2 l2 (.lst (m.ye.map V.bl)) l2=some (.lst (m.ye.map V.bl)):=jb
   generalize upd H2 l2 (.lst (m.ye.map V.bl))=H3 at k3 e3⊢
   have mb3:=mb2.kp k3
   refine⟨_,by rw[mb3.t0];rfl,_,rfl,?_⟩
   simp! [mb3.t2]
   intro l3' hl3
   have k4:Kp [] H3 (upd H3 l3' (.lst (m'.ye.map V.bl))):=(Kp.refl [] H3).new hl3
   have e4:upd H3 l3' (.lst (m'.ye.map V.bl)) l3'=some (.lst (m'.ye.map V.bl)):=jb
   generalize upd H3 l3' (.lst (m'.ye.map V.bl))=H4 at k4 e4⊢
   have e34:=k4.old _ _ e3 Af
   simp! [e34,e4]
   refine⟨by omega,λc hc=>⟨by omega,λr hr'=>?_⟩⟩
   have k6:Kp [] H2 (upd (upd H4 c (.lst (m.ye.map V.bl++m'.ye.map V.bl))) r (.tup [.str m.z,.ref l,.ref c])):=((k3.trans k4).new hc).new hr'
   have ncr:c≠r:=jf jb hr'
   refine k r l c (rs++us) _ ⟨jb,by rw[k6.old _ _ el2 Af];rfl,?_,?_,λi hi=>?_⟩ (k2.trans k6)
   ·rw[jd ncr,jb]
    show some _=some ((m.ye++m'.ye).map V.bl)
    rw[A3]
   ·show _=(m.mv++m'.mv.map _).length
    rw[Av,Av,Ad]
    omega
   ·show ∃r',(rs++us)[i]?=some (.ref r')/\_=some (HO.tup (((m.mv++m'.mv.map (λr=>r.map λt=>(m.mv.length:Int)+t)).getD i []).map V.int))
    have hi:i<(m.mv++m'.mv.map (λr=>r.map λt=>(m.mv.length:Int)+t)).length:=hi
    rw[Av,Ad]at hi
    by_cases ci:i<m.mv.length
    ·obtain⟨r',e,h⟩:=ma2.rw i ci
     refine⟨r',by rw[A2 (by omega)];exact e,?_⟩
     rw[Ac,A2 ci,<-Ac]
     exact k6.tup _ _ h
    ·have hu':i-rs.length<us.length:=by omega
     obtain⟨r',e,h⟩:=hus (i-rs.length) _ (Aa hu')
     refine⟨r',by rw[A9 (by omega),Aa hu',e],?_⟩
     rw[Ac,A9 (by omega),Ag,<-rl]
     have hm:i-rs.length<m'.mv.length:=by omega
     rw[Aa hm]
     rw[Ac,Aa hm,<-rl]at h
     exact k6.tup _ _ h
end
def kN(x:Nat):L2.Key:=.inl (x:Int)
theorem jky(l:List Nat):(l.map kN).map kV=l.map nV:=by rw[A0];rfl
theorem jsj{l k:List Nat}(h:l.map kN=k.map kN):l=k:=by
 refine(List.map_inj_right λx y e=>?_).mp h
 have:(x:Int)=y:=Sum.inl.inj e
 omega
theorem jmw{S:List Addr}{H H1:Hp}(k:Kp S H H1){b:Addr}{kvs:List (List L2.Key×V)}{o:HO}(hb:H1 b=some (.dT kvs))(h:b∈S\/H b=none):Kp S H (upd H1 b o):=by
 have ne:∀c u,H c=some u->c∉S->c≠b:=λc u e n z=>by
  subst z
  rcases h with h|h
  ·exact n h
  ·rw[h]at e;cases e
 refine⟨λc u e n=>by rw[jd (ne c u e n)];exact k.old c u e n,λc ys e=>?_,λc u e=>?_⟩
 ·have e1:=k.tup c ys e
  have:c≠b:=λz=>by rw[z,hb]at e1;cases e1
  rw[jd this];exact e1
 ·obtain⟨o',e'⟩:=k.dom c u e
  by_cases q:c=b
  ·subst q;exact⟨o,jb⟩
  ·exact⟨o',by rw[jd q];exact e'⟩
structure NmT(dec:Nat->List Nat)(n:Nat)(rs:List Nat)(kvs:List (List L2.Key×V)):Prop where
 num:∀x,x<n->valV kvs ((dec x).map kN)=if x∈rs then some (nV (rs.idxOf x))else none
 kl:kvs.length<=rs.length
theorem NmT.new{dec:Nat->List Nat}{n:Nat}{rs:List Nat}{kvs:List (List L2.Key×V)}(h:NmT dec n rs kvs)(inj:∀x y,x<n->y<n->dec x=dec y->x=y){y:Nat}(yn:y<n)(m:y∉rs):NmT dec n (rs++[y]) (putK kvs ((dec y).map kN) (nV rs.length)):=by
 refine⟨λx xn=>?_,?_⟩
 ·rw[jg1,h.num x xn]
  by_cases c:x=y
  ·subst c
   rw[Ao rfl,Ao (by simp),Ux,Am m]
   simp
  ·rw[Am (λz=>c (inj x y xn yn (jsj z)))]
   by_cases hx:x∈rs
   ·rw[Ao hx,Ao (Iw _ hx),ixa hx]
   ·rw[Am hx,Am (λz=>(Aw.mp z).elim hx (by simpa using c))]
 ·have:=jde kvs ((dec y).map kN) (nV rs.length)
  have:=h.kl
  rw[Av,List.length_cons,List.length_nil]
  omega
def spST(g:Nat->Nat->Nat)(dec:Nat->List Nat)(n m:Nat)(R:Hp->Prop):Sp:=λvs H Q _=>∃(b:Addr)(r a:Nat),vs=[.ref b,.int (a:Int)]/\H b=some (.tup ((dec r).map nV))/\r<n/\a<m/\R H/\∀(b':Addr)(H':Hp),Kp [] H H'->H' b'=some (.tup ((dec (g r a)).map nV))->Q (.ref b') H'
structure LgT(P:Program)(w:World)(K:PySem.W.Frag)(mg:Str->Option Value)(base:Heap)(fp:Addr)(o:Obj)(fd:FuncData)(psp:List Str)(g:Nat->Nat->Nat)(dec:Nat->List Nat)(n m:Nat)(R:Hp->Prop):Prop where
 dat:o.data=.func fd
 fn:FnOk P w K mg base CX0 3 fp fd psp (spST g dec n m R)
 bi:Binds K fd psp []
 at_:∀H,R H->H fp=some (FZ o)
 kr:∀H H',Kp [] H H'->R H->R H'
def spCT(P:Program)(w:World)(K:PySem.W.Frag)(mg:Str->Option Value)(base:Heap):Sp:=λvs H Q _=>∃(fp b0:Addr)(o:Obj)(fd:FuncData)(psp:List Str)(g:Nat->Nat->Nat)(dec:Nat->List Nat)(n m first:Nat)(R:Hp->Prop),LgT P w K mg base fp o fd psp g dec n m R/\R H/\vs=[.ref b0,.int (m:Int),.ref fp,.non,.int 0]/\H b0=some (.tup ((dec first).map nV))/\first<n/\n<=1000/\m<=1000/\(∀r a,r<n->a<m->g r a<n)/\(∀x y,x<n->y<n->dec x=dec y->x=y) /\
 ∀(q a1 a2:Addr)(vs' us':List V)(rs:List Nat)(H':Hp),Bf g m first rs.length rs->H' q=some (.tup [.ref a1,.ref a2])->H' a1=some (.lst vs')->RowsM H' vs' (rs.map dec)->H' a2=some (.tup us')->RowsM H' us' (cuM g m rs)->Kp [] H H'->Q (.ref q) H'
section
variable{P:Program}{w:World}{K:PySem.W.Frag}{mg:Str->Option Value}{base:Heap}
theorem ok_come_upT{f td:Addr}{fd:FuncData}(F:FunD K "come_up" "come_up" za f fd td)(T:TCU mg):FnOk P w K mg base CX0 4 f fd ["first","signs","step","most","at"] (spCT P w K mg base):=by
 refine F.ok yb (λvs H Q E h=>?_) (λcdv A outer s H vs Q E hr h=>?_)
 ·obtain⟨fp,b0,o,fd,psp,g,dec,n,m,first,R,_,_,rfl,_⟩:=h
  rfl
 ·obtain⟨fp,b0,o,fd',psp,g,dec,n,m,first,R,L,hR,rfl,hb0,f0,n9,m9,gl,inj,k⟩:=h
  have hu:=hr.units
  have hsz:sizeLine=16777216:=Ij
  have hu1:(A.deeper (PyProof.Rows.envOfC (Str.ofString "come_up") (jg za) s.heap.objs.size f cdv)).units+1<cLine:=by omega
  refine exQ (je (jq (i:=5) yb.nd rfl (by ac_rfl) (qpe_disp1 hu1 (qpv 0) jh))
  (je (jq (i:=6) yb.nd rfl (by ac_rfl) (kx (ja (qpv 0) jc)))
  (je (jq (i:=7) yb.nd rfl (by ac_rfl) (kx jc))
  (je (zy A8 (j5 jau (jt jw (by rfl) T.n_len j6 (ja (qpv 7) jc)) (jt jw (by rfl) T.n_len j6 (ja (qpv 6) jc)) (j9 _)) (je (jq (i:=8) yb.nd rfl (by ac_rfl) (jo ix_U (qpv 6) (jt jw (by rfl) T.n_len j6 (ja (qpv 7) jc)) (λ_ _=>rfl)))
  (je (jq (i:=9) yb.nd rfl (by ac_rfl) (kx jc))
  (je (yc A8 rfl (yg rfl T.n_range (ja (qpv 1) jc)) (jr (i:=10) yb.nd rfl (by ac_rfl)) (je (jq (i:=11) yb.nd rfl (by ac_rfl) (jbw (P:=P) (w:=w) (K:=K) (mg:=mg) (base:=base) (k:=3) rfl rfl rfl rfl rfl 2 (hr.mono (by decide)) (ja (qpv 8) (ja (qpv 10) jc))))
  (yh (yf (ja9 (jal hu1 (qpv 11) (qpv 5)) (by with_unfolding_all rfl)) (yh (yf (j5 (zc hu) (jt jw (by rfl) T.n_len j6 (ja (qpv 6) jc)) (qpv 3) (j9 _)) (jj ja5) kg)
  (je (jbg hu1 (qpv 5) (qpv 11) (jt jw (by rfl) T.n_len j6 (ja (qpv 6) jc)) rfl)
  (jj (kj (ko A5 A6 ki (qpv 6) (ja (qpv 11) jc) jcq))))) kg)
  (jj (kj (ko A5 A6 ki (qpv 9) (ja (jaz hu1 (qpv 5) (qpv 11) (λ_ _=>rfl)) jc) jcq))))))
  (jj (kj (ko A5 A6 ki (qpv 7) (ja (jv kc (by rfl) T.n_tuple yj (ja (qpv 9) jc)) jc) jcq)))))))
  (jj (j3 (yq (ja (qpv 6) (ja (jv kc (by rfl) T.n_tuple yj (ja (qpv 7) jc)) jc))))))))) ?_
  simp!
  intro pn hpn
  have nb0:b0≠pn:=jf hb0 hpn
  refine⟨_,rfl,(dec first).map kN,by rw[jd nb0,jky];exact hb0,by show 0<sizeLine;omega,by omega,λpr hpr=>⟨by omega,λpv hpv=>?_⟩⟩
  have nnr:pn≠pr:=jf jb hpr
  have nnv:pn≠pv:=jf (by rw[jd nnr,jb]) hpv
  have nrv:pr≠pv:=jf jb hpv
  have k0:=(((Kp.refl [] H).new (o:=.dT (putK [] ((dec first).map kN) (.int 0))) hpn).new (o:=.lst [.ref b0]) hpr).new (o:=.lst []) hpv
  have hpr0:H pr=none:=((Kp.refl [] H).new hpn).free hpr
  have hpv0:H pv=none:=(((Kp.refl [] H).new hpn).new hpr).free hpv
  obtain⟨W0,hW0⟩:∃W0:Nat->L2.St->Hp->Prop,∀μ σ H',W0 μ σ H'↔(∃(rs:List Nat)(kvs:List (List L2.Key×V))(vs us:List V)(j:Nat)(v8 v9 v10 v11:Option V),σ=[some (.ref b0),some (.int (m:Int)),some (.ref fp),some .non,some (.int 0),some (.ref pn),some (.ref pr),some (.ref pv),v8,v9,v10,v11]/\Bf g m first j rs/\NmT dec n rs kvs/\H' pn=some (.dT kvs)/\H' pr=some (.lst vs)/\RowsM H' vs (rs.map dec)/\H' pv=some (.lst us)/\us.length=j/\RowsM H' us ((rs.take j).map λr=>(List.range m).map λa=>rs.idxOf (g r a))/\Kp [] H H'/\μ=n-j):=⟨_,λ_ _ _=>On⟩
  refine⟨W0,?_,?_⟩
  ·have n0:NmT dec n [first] (putK [] ((dec first).map kN) (.int 0)):=NmT.new (rs:=[]) (kvs:=[]) ⟨λx _=>by simp[valV],Ak _⟩ inj (y:=first) f0 (by simp)
   exact⟨_,(hW0 _ _ _).mpr ⟨[first],_,[.ref b0],[],0,none,none,none,none,rfl,.z,n0,by rw[jd nnv,jd nnr,jb],by rw[jd nrv,jb],.cons ⟨b0,rfl,k0.tup _ _ hb0⟩ .nil,jb,rfl,.nil,k0,rfl⟩⟩
  intro μ σ H1 hW
  obtain⟨rs,kvs,vs,us,j,v8,v9,v10,v11,rfl,bf,N,e1,e2,e5,e3,ul,R1,kp,rfl⟩:=(hW0 _ _ _).mp hW
  clear hW
  have bi:=bf.inv f0 gl
  have rl:rs.length<=n:=jdc bi.nd bi.lt
  have jl:=bi.jl
  have vl:vs.length=rs.length:=by have:=Il e5;rw[Ad]at this;exact this
  simp! [e2,e3]
  rw[vl,ul]
  by_cases c:j<rs.length
  ·rw[Ao (by simpa using c)]
   have er:rs[j]?=some (rs[j]):=Aa c
   generalize rs[j]=r at er
   have rn:=bi.lt r (Al er)
   obtain⟨br,hvr,hbr⟩:=e5.get (show(rs.map dec)[j]?=some (dec r)by rw[Ag,er];rfl)
   refine⟨_,λ_ _ h=>h,.ref br,jcm hvr,by omega,λpw hpw=>⟨by omega,by omega,?_⟩⟩
   rw[show((m:Int)).toNat=m by omega]
   have nnw:pn≠pw:=jf e1 hpw
   have nrw:pr≠pw:=jf e2 hpw
   have nvw:pv≠pw:=jf e3 hpw
   have hpw0:H pw=none:=kp.free hpw
   have kw:Kp [] H1 (upd H1 pw (.lst [])):=(Kp.refl [] H1).new hpw
   obtain⟨W1,hW1⟩:∃W1:Nat->L2.St->Hp->Prop,∀a σ H',W1 a σ H'↔(∃(kvs:List (List L2.Key×V))(vs:List V)(v10 v11:Option V),σ=[some (.ref b0),some (.int (m:Int)),some (.ref fp),some .non,some (.int 0),some (.ref pn),some (.ref pr),some (.ref pv),some (.ref br),some (.ref pw),v10,v11]/\NmT dec n (cuR g r a rs) kvs/\H' pn=some (.dT kvs)/\H' pr=some (.lst vs)/\RowsM H' vs ((cuR g r a rs).map dec)/\H' pv=some (.lst us)/\H' pw=some (.lst ((List.range a).map λb=>nV ((cuR g r a rs).idxOf (g r b))))/\RowsM H' us ((rs.take j).map λr=>(List.range m).map λa=>rs.idxOf (g r a))/\Kp [] H H'/\H' br=some (.tup ((dec r).map nV))):=⟨_,λ_ _ _=>On⟩
   refine jcw W1 ?_ ?_ ?_
   ·exact(hW1 _ _ _).mpr ⟨kvs,vs,v10,v11,rfl,N,kw.old _ _ e1 Af,kw.old _ _ e2 Af,e5.kp kw,kw.old _ _ e3 Af,jb,R1.kp kw,kp.trans kw,kw.tup _ _ hbr⟩
   ·intro a σ H2 ha hW
    obtain⟨kvs,vs,v10,v11,rfl,N,e1,e2,e5,e3,e4,R1,kp,hbr⟩:=(hW1 _ _ _).mp hW
    clear hW
    have cl:(cuR g r a rs).length<=n:=jdc (jez bi.nd a) λx hx=>by
     rcases jd0 a x hx with h|⟨b,h1,h2⟩
     ·exact bi.lt x h
     ·rw[h2];exact gl r b rn (by omega)
    simp!
    rw[O6]
    refine⟨o,fd',L.dat,psp,spST g dec n m R,L.fn,L.bi,L.at_ _ (L.kr _ _ kp hR),br,r,a,rfl,hbr,rn,ha,L.kr _ _ kp hR,λbt H3 k3 hbt=>?_⟩
    have e1:=k3.old _ _ e1 Af
    have e2:=k3.old _ _ e2 Af
    have e3:=k3.old _ _ e3 Af
    have e4:=k3.old _ _ e4 Af
    have e5:=e5.kp k3
    have hbr:=k3.tup _ _ hbr
    have R1:=R1.kp k3
    have kp:=kp.trans k3
    have kl:=N.kl
    have gn:=gl r a rn ha
    have hbt':H3 bt=some (.tup (((dec (g r a)).map kN).map kV)):=by rw[jky];exact hbt
    clear k3
    obtain⟨W2,hW2⟩:∃W2:L2.St->Hp->Prop,∀σ' H',W2 σ' H'↔(∃(kvs:List (List L2.Key×V))(vs:List V),σ'=[some (.ref b0),some (.int (m:Int)),some (.ref fp),some .non,some (.int 0),some (.ref pn),some (.ref pr),some (.ref pv),some (.ref br),some (.ref pw),some (.int (a:Int)),some (.ref bt)]/\NmT dec n (cuR g r (a+1) rs) kvs/\H' pn=some (.dT kvs)/\H' pr=some (.lst vs)/\RowsM H' vs ((cuR g r (a+1) rs).map dec)/\H' pv=some (.lst us)/\H' pw=some (.lst ((List.range a).map λb=>nV ((cuR g r a rs).idxOf (g r b))))/\RowsM H' us ((rs.take j).map λr=>(List.range m).map λa=>rs.idxOf (g r a))/\Kp [] H H'/\H' br=some (.tup ((dec r).map nV))/\H' bt=some (.tup ((dec (g r a)).map nV))):=⟨_,λ_ _=>On⟩
    refine⟨W2,?_,?_⟩
    ·simp!
     refine⟨_,DGet.t (k:=(dec (g r a)).map kN) e1 hbt',?_⟩
     rw[N.num (g r a) gn]
     have ec:=jdb (g:=g) (r:=r) (a:=a) (rs:=rs)
     unfold cu1 at ec
     by_cases c:g r a∈cuR g r a rs
     ·rw[Ao c]at ec
      rw[Ao c]
      simp only[Option.isSome_some,Uy,Ia,Ob]
      exact(hW2 _ _).mpr ⟨kvs,vs,rfl,by rw[ec];exact N,e1,e2,by rw[ec];exact e5,e3,e4,R1,kp,hbr,hbt⟩
     ·rw[Am c]at ec
      rw[Am c]
      simp only[Option.isSome_none,Yk,O0]
      have cl1:(cuR g r a rs).length+1<=n:=by
       have:=jdc (S:=cuR g r a rs++[g r a]) (n:=n) (by
        rw[Om]
        exact⟨jez bi.nd a,by simp,λx hx y hy e=>c ((e.trans (Aj.mp hy))▸hx)⟩) (λx hx=>by
        rcases Aw.mp hx with h|h
        ·rcases jd0 a x h with h|⟨b,h1,h2⟩
         ·exact bi.lt x h
         ·rw[h2];exact gl r b rn (by omega)
        ·cases Aj.mp h;exact gn)
       simpa using this
      have vl:vs.length=(cuR g r a rs).length:=by have:=Il e5;rw[Ad]at this;exact this
      refine⟨λσ' H'=>σ'=[some (.ref b0),some (.int (m:Int)),some (.ref fp),some .non,some (.int 0),some (.ref pn),some (.ref pr),some (.ref pv),some (.ref br),some (.ref pw),some (.int (a:Int)),some (.ref bt)]/\H3=H',?_,?_⟩
      ·simp! [e2]
       refine⟨rfl,_,rfl,?_⟩
       rw[Am (by simp)]
      rintro _ _ ⟨rfl,rfl⟩
      simp! [e2]
      have e2p:upd H3 pn (.dT (putK kvs ((dec (g r a)).map kN) (nV (cuR g r a rs).length))) pr=some (.lst vs):=by rw[jd nnr.symm];exact e2
      have kq:Kp [pn] H3 (upd H3 pn (.dT (putK kvs ((dec (g r a)).map kN) (nV (cuR g r a rs).length)))):=jmw (Kp.refl [pn] H3) e1 (.inl (by simp))
      have kq2:Kp [pr] (upd H3 pn (.dT (putK kvs ((dec (g r a)).map kN) (nV (cuR g r a rs).length)))) (upd (upd H3 pn (.dT (putK kvs ((dec (g r a)).map kN) (nV (cuR g r a rs).length)))) pr (.lst (vs++[.ref bt]))):=(Kp.refl [pr] _).set e2p (.inl (.head _))
      refine⟨upd H3 pn (.dT (putK kvs ((dec (g r a)).map kN) (nV (cuR g r a rs).length))),by rw[vl];exact DPut.t (k:=(dec (g r a)).map kN) (v:=nV (cuR g r a rs).length) e1 hbt' (by omega),by rw[e2p];rfl,_,by rw[e2p];rfl,by omega,(hW2 _ _).mpr ⟨_,_,rfl,by rw[ec];exact N.new inj gn c,by rw[jd nnr,jb],jb,?_,?_,?_,(R1.kp kq).kp kq2,(jmw kp e1 (.inr hpn)).set e2p (.inr hpr0),kq2.tup _ _ (kq.tup _ _ hbr),kq2.tup _ _ (kq.tup _ _ hbt)⟩⟩
      ·rw[ec,A3];exact Wt ((e5.kp kq).kp kq2) ⟨bt,rfl,kq2.tup _ _ (kq.tup _ _ hbt)⟩
      ·rw[jd nrv.symm,jd nnv.symm];exact e3
      ·rw[jd nrw.symm,jd nnw.symm];exact e4
    intro σ' H4 hW
    obtain⟨kvs,vs,rfl,N,e1,e2,e5,e3,e4,R1,kp,hbr,hbt⟩:=(hW2 _ _).mp hW
    clear hW
    simp! [e4]
    have hbt':H4 bt=some (.tup (((dec (g r a)).map kN).map kV)):=by rw[jky];exact hbt
    have kw4:∀x,Kp [pw] H4 (upd H4 pw (.lst ((List.range a).map (λb=>nV ((cuR g r a rs).idxOf (g r b)))++[x]))):=λx=>(Kp.refl [pw] H4).set e4 (.inl (.head _))
    refine⟨nV ((cuR g r (a+1) rs).idxOf (g r a)),.inr ⟨kvs,(dec (g r a)).map kN,bt,.inl e1,rfl,hbt',?_⟩,by rw[Ad,Az];omega,(hW1 _ _ _).mpr ⟨kvs,vs,_,_,rfl,N,by rw[jd nnw];exact e1,by rw[jd nrw];exact e2,e5.kp (kw4 _),by rw[jd nvw];exact e3,?_,R1.kp (kw4 _),kp.set e4 (.inr hpw0),(kw4 _).tup _ _ hbr⟩⟩
    ·rw[N.num _ gn,Ao (jeg g r rs (a+1) a (by omega))]
    ·rw[jb,Ub,A3]
     refine Um (λl=>some (HO.lst (l++[nV ((cuR g r (a+1) rs).idxOf (g r a))]))) (Ih λb hb=>?_)
     obtain⟨t,et⟩:=jf2 g r (cuR g r a rs) a
     rw[jdb,et,ixa (jeg g r rs a b (Ar.mp hb))]
   ·intro σ H2 hW
    obtain⟨kvs,vs,v10,v11,rfl,N,e1,e2,e5,e3,e4,R2,kp,hbr⟩:=(hW1 _ _ _).mp hW
    clear hW
    simp!
    refine⟨by rw[e3];rfl,?_⟩
    refine jcr e4 λl hl=>?_
    have kl:Kp [] H2 (upd H2 l (.tup ((List.range m).map λb=>nV ((cuR g r m rs).idxOf (g r b))))):=(Kp.refl [] H2).new hl
    have el:upd H2 l (.tup ((List.range m).map λb=>nV ((cuR g r m rs).idxOf (g r b)))) l=some (.tup (((List.range m).map λb=>(cuR g r m rs).idxOf (g r b)).map nV)):=by rw[jb,A0];rfl
    generalize upd H2 l (.tup ((List.range m).map λb=>nV ((cuR g r m rs).idxOf (g r b))))=H3 at kl el⊢
    have e33:=kl.old _ _ e3 Af
    have kv:Kp [pv] H3 (upd H3 pv (.lst (us++[.ref l]))):=(Kp.refl [pv] H3).set e33 (.inl (.head _))
    refine⟨us,by rw[e33];rfl,by omega,n-(j+1),by omega,(hW0 _ _ _).mpr ⟨cuR g r m rs,kvs,vs,us++[.ref l],j+1,_,_,_,_,rfl,.s bf er,N,by rw[jd nnv];exact kl.old _ _ e1 Af,by rw[jd nrv];exact kl.old _ _ e2 Af,(e5.kp kl).kp kv,jb,by simp[ul],?_,(kp.trans kl).set e33 (.inr hpv0),rfl⟩⟩
    obtain⟨t,et⟩:=je0 g r rs m
    have e5:(cuR g r m rs).take (j+1)=rs.take j++[r]:=by rw[et,Ue (by omega),Od,er];rfl
    rw[e5,A3]
    have e6:(rs.take j).map (λr'=>(List.range m).map λa=>(cuR g r m rs).idxOf (g r' a))=(rs.take j).map λr'=>(List.range m).map λa=>rs.idxOf (g r' a):=Ih λx hx=>Ih λa ha=>by
     rw[et,ixa (bi.cl x hx a (Ar.mp ha))]
    rw[e6]
    exact Wt ((R2.kp kl).kp kv) ⟨l,rfl,kv.tup _ _ el⟩
  ·have ej:j=rs.length:=by omega
   subst ej
   rw[Am (by simpa using c)]
   refine jcr e3 λa2 ha2=>⟨by omega,λq hq=>?_⟩
   rw[Ir]at R1
   have k2:Kp [] H1 (upd H1 a2 (.tup us)):=(Kp.refl [] H1).new ha2
   have k3:Kp [] (upd H1 a2 (.tup us)) (upd (upd H1 a2 (.tup us)) q (.tup [.ref pr,.ref a2])):=(Kp.refl [] _).new hq
   exact k q pr a2 vs us rs _ bf jb (k3.old _ _ (k2.old _ _ e2 Af) (by simp)) ((e5.kp k2).kp k3) (k3.tup _ _ jb) ((R1.kp k2).kp k3) ((kp.trans k2).trans k3)
end
def zN(n:Nat):Int:=n
def toM(z:Str)(mv:List (List Nat))(ys:List Bool):Mach:=⟨z,mv.map λr=>r.map zN,ys⟩
theorem jnc(z:Str)(mv:List (List Nat))(ys:List Bool)(i:Nat):(toM z mv ys).mv.getD i []=(mv.getD i []).map zN:=by
 show(mv.map λr=>r.map zN).getD i []=_
 rw[Ac,Ag,Ac]
 cases mv[i]? <;> rfl
theorem jsw(z:Str)(mv:List (List Nat))(ys:List Bool)(r a:Nat):dl (toM z mv ys) r a=dM mv r a:=by
 unfold dl dM
 rw[jnc,Ac,Ag,Ac (l:=mv.getD r [])]
 cases(mv.getD r [])[a]? <;> rfl
theorem jej(z:Str)(mv:List (List Nat))(ys:List Bool)(m r:Nat)(u:List Nat):run (dl (toM z mv ys)) r u=(mcOf mv m ys).led r u:=by
 have:dl (toM z mv ys)=dM mv:=by funext r a;exact jsw z mv ys r a
 rw[this];rfl
theorem MH.ma{H:Hp}{p:Addr}{z:Str}{pm py:Addr}{us:List V}{mv:List (List Nat)}{m:Nat}{ys:List Bool}(M:MH H p z pm py us mv m ys):MA H (toM z mv ys) p pm py us:=by
 refine⟨M.hp,M.hm,M.hy,by rw[Il M.rw];simp[toM],λi hi=>?_⟩
 have hi:i<mv.length:=by simpa[toM]using hi
 obtain⟨r,e1,e2⟩:=M.rw.get (getD_some mv i [] hi)
 exact⟨r,e1,by rw[e2,jnc,A0];rfl⟩
theorem MH.mok{H:Hp}{p:Addr}{z:Str}{pm py:Addr}{us:List V}{mv:List (List Nat)}{m:Nat}{ys:List Bool}(M:MH H p z pm py us mv m ys)(hz:Letters z 4)(zm:z.length=m):Mach.Ok (toM z mv ys) mv.length:=by
 refine⟨hz,by simpa[toM]using M.n1,by simp[toM],by simpa[toM]using M.yl,λr hr=>?_⟩
 obtain⟨r0,h0,rfl⟩:=An.mp hr
 refine⟨by rw[Ad,M.ok.ln _ h0];exact zm.symm,λt ht=>?_⟩
 obtain⟨t0,h1,rfl⟩:=An.mp ht
 have:=M.ok.lt _ h0 _ h1
 simp only[toM,Ad,zN]
 omega
section
variable{m m':Mach}{N N':Nat}
theorem jof(a:Mach.Ok m N)(b:Mach.Ok m' N')(e:m'.z=m.z):Mach.Ok (jcu m m') (N+N'):=by
 have h1:=a.n1
 have h2:=a.nh
 have h3:=b.nh
 have l:(jcu m m').mv.length=m.mv.length+m'.mv.length:=by simp[jcu]
 refine⟨a.let4,by omega,by omega,by rw[l];simp[jcu,a.yl,b.yl],λr hr=>?_⟩
 rw[l]
 rcases Aw.mp hr with h|h
 ·obtain⟨q1,q2⟩:=a.row r h
  exact⟨q1,λt ht=>by have:=q2 t ht;omega⟩
 ·obtain⟨r0,h0,rfl⟩:=An.mp h
  obtain⟨q1,q2⟩:=b.row r0 h0
  refine⟨by rw[Ad,q1,e];rfl,λt ht=>?_⟩
  obtain⟨t0,h1,rfl⟩:=An.mp ht
  have:=q2 t0 h1
  omega
theorem jkf(a:Mach.Ok m N){p x:Nat}(hp:p<m.mv.length):dl (jcu m m') p x=dl m p x/\yy (jcu m m') p=yy m p:=by
 have yl:=a.yl
 refine⟨?_,?_⟩
 ·unfold dl jcu
  dsimp only
  rw[Ac (l:=_++_),A2 hp,<-Ac]
 ·unfold yy jcu
  dsimp only
  rw[Ac,A2 (by omega),<-Ac]
theorem jkg(a:Mach.Ok m N)(b:Mach.Ok m' N'){p x:Nat}(hp:p<m'.mv.length)(hx:x<m'.z.length):dl (jcu m m') (m.mv.length+p) x=m.mv.length+dl m' p x/\yy (jcu m m') (m.mv.length+p)=yy m' p:=by
 have yl:=a.yl
 refine⟨?_,?_⟩
 ·obtain⟨c1,c2,c3⟩:=b.cell hp hx
  unfold dl at c2⊢
  unfold jcu
  dsimp only
  rw[Ac (l:=_++_),A9 (by omega),Ag,show m.mv.length+p-m.mv.length=p by omega,Aa hp]
  have e:m'.mv.getD p []=m'.mv[p]:=by rw[Ac,Aa hp];rfl
  rw[e]at c1 c2⊢
  show(((m'.mv[p].map λt=>(m.mv.length:Int)+t).getD x 0)).toNat=_
  rw[Ac,Ag,Aa (by omega)]
  rw[Ac,Aa (by omega)]at c2⊢
  show((m.mv.length:Int)+m'.mv[p][x]).toNat=m.mv.length+(m'.mv[p][x]).toNat
  have c2:m'.mv[p][x]=_:=c2
  rw[c2];omega
 ·unfold yy jcu
  dsimp only
  rw[Ac,A9 (by omega),show m.mv.length+p-m.ye.length=p by omega,<-Ac]
theorem jgc(a:Mach.Ok m N):∀(u:List Nat)(p:Nat),p<m.mv.length->Ov m.z.length u->run (dl (jcu m m')) p u=run (dl m) p u
 |[],_,_,_=>rfl
 |x::u,p,hp,ho=>by
  show run (dl (jcu m m')) (dl (jcu m m') p x) u=run (dl m) (dl m p x) u
  rw[(jkf a hp).1]
  exact jgc a u _ (a.cell hp (ho x (.head _))).2.2 λb hb=>ho b (.tail _ hb)
theorem jgd(a:Mach.Ok m N)(b:Mach.Ok m' N'):∀(u:List Nat)(p:Nat),p<m'.mv.length->Ov m'.z.length u->run (dl (jcu m m')) (m.mv.length+p) u=m.mv.length+run (dl m') p u
 |[],_,_,_=>rfl
 |x::u,p,hp,ho=>by
  show run (dl (jcu m m')) (dl (jcu m m') (m.mv.length+p) x) u=_+run (dl m') (dl m' p x) u
  rw[(jkg a b hp (ho x (.head _))).1]
  exact jgd a b u _ (b.cell hp (ho x (.head _))).2.2 λb hb=>ho b (.tail _ hb)
theorem jl2(a:Mach.Ok m N)(b:Mach.Ok m' N')(e:m'.z=m.z)(la:∀u,Ov m.z.length u->yy m (run (dl m) 0 u)=yy m' (run (dl m') 0 u)){r:Option (List Nat)}(h:Res (dl (jcu m m')) (yy (jcu m m')) m.z.length 0 m.mv.length r):r=Option.none:=by
 cases r with
 |none=>rfl
 |some u =>
  obtain⟨o,ne,_⟩:=h
  have a1:=a.n1
  have b1:=b.n1
  have o':Ov m'.z.length u:=by rw[e];exact o
  have q:=jgd a b u 0 b1 o'
  rw[Nat.add_zero]at q
  have lt:∀{m:Mach}{N:Nat}(a:Mach.Ok m N),Ov m.z.length u->run (dl m) 0 u<m.mv.length:=λa ho=>jhr a a.n1 ho
  rw[jgc a u 0 a1 o,q,(jkf a (x:=0) (lt a o)).2,(jkg a b (x:=0) (lt b o') (by have:=b.let4.lo;omega)).2]at ne
  exact absurd (la u o) ne
end
section
variable{mv mv':List (List Nat)}{m:Nat}{ys ys':List Bool}{rs fr:List Nat}{G:Nat->Nat}
theorem LS.lst0(S:LS mv m ys 0 mv' ys' rs G fr)(ok:MvOk mv m)(n1:1<=mv.length):Lst (mcOf mv m ys) mv' m ys':=by
 have bi:=S.bf.inv (n:=mv.length) n1 (λr a hr ha=>(ok.at_ hr ha).2)
 obtain⟨L,ok',yl'⟩:=S.lean ok n1
 exact⟨⟨_,L⟩,(L.can ok' (jll ok n1 S.bf) S.bf).1 (S.rg bi.nd),ok',yl'⟩
theorem Lang.refl(M:Mc):Lang M M:=⟨rfl,λ_ _=>rfl⟩
theorem LeanM.pairs{h:Nat->Nat}(L:LeanM (mcOf mv m ys) (mcOf mv' m ys') h)(ok:MvOk mv m)(n1:1<=mv.length):∃(n:Nat)(g:Nat->Nat->Nat)(fx fy:Nat->Nat),1<=n/\n<=mv.length/\fx 0=0/\fy 0=0/\(∀r,r<n->fx r<mv.length/\fy r<mv'.length)/\(∀r a,r<n->a<m->g r a<n/\fx (g r a)=dM mv (fx r) a/\fy (g r a)=dM mv' (fy r) a)/\∀x y,x<n->y<n->fx x=fx y->x=y:=by
 classical
 let M:=mcOf mv m ys
 have z:M.rc 0:=⟨[],by simp[Mc.ws],rfl⟩
 have mok:=jds (ys:=ys) ok
 have lt:∀r,M.rc r->r<mv.length:=λr hr=>Mc.rc_lt mok n1 hr
 let rl:List Nat:=0::(List.range mv.length).filter λr=>decide (M.rc r/\r≠0)
 have mem:∀r,r∈rl↔M.rc r:=λr=>by
  simp only[rl,Ap,Iy,Ar,Uv]
  constructor
  ·rintro(rfl|⟨_,h,_⟩)
   ·exact z
   ·exact h
  ·intro h
   by_cases c:r=0
   ·exact .inl c
   ·exact .inr ⟨lt r h,h,c⟩
 have nd:rl.Nodup:=by
  refine Of.mpr ⟨λq=>?_,Iq.filter _⟩
  have:=(Iy.mp q).2
  simp at this
 have at_:∀i,i<rl.length->M.rc (rl.getD i 0):=λi hi=>(mem _).mp (jet rl i 0 hi)
 have ix:∀r,M.rc r->rl.idxOf r<rl.length/\rl.getD (rl.idxOf r) 0=r:=λr hr=>by
  have hl:=Ib.mpr ((mem r).mpr hr)
  refine⟨hl,?_⟩
  rw[Ac,Aa hl,Oe];rfl
 refine⟨rl.length,λi a=>rl.idxOf (dM mv (rl.getD i 0) a),λi=>rl.getD i 0,λi=>h (rl.getD i 0),by simp[rl],jdc nd λr hr=>lt r ((mem r).mp hr),rfl,L.z,λr hr=>⟨lt _ (at_ r hr),L.lt _ (at_ r hr)⟩,λr a hr ha=>?_,λx y hx hy e=>?_⟩
 ·have s:M.rc (dM mv (rl.getD r 0) a):=Mc.rc_step (at_ r hr) ha
  obtain⟨q1,q2⟩:=ix _ s
  refine⟨q1,q2,?_⟩
  show h (rl.getD (rl.idxOf _) 0)=_
  rw[q2]
  exact L.st _ a (at_ r hr) ha
 ·have e2:rl[x]=rl[y]:=by
   simp only[Ac,Aa hx,Aa hy,Option.getD_some]at e
   exact e
  exact(List.getElem_inj nd).mp e2
end
abbrev WQ:Str:="walked_pairs"++".<locals>."++"<lambda>"
structure TWp(P:Program)(w:World)(K:PySem.W.Frag)(mg:Str->Option Value)(base:Heap)(fcu c Pt:Addr)(pm:Value):Prop where
 n_len:mg "len"=none
 m3z:mg "come_up"=some (.ref fcu)
 pm:(mg "__name__").getD .none=pm
 hd:PySem.W.CodeHd base c Pt
 bl:base.BuiltinsAt mg Pt
structure WPr(mv mv':List (List Nat))(m n:Nat)(g:Nat->Nat->Nat)(fx fy:Nat->Nat):Prop where
 n1:1<=n
 x0:fx 0=0
 y0:fy 0=0
 lt:∀r,r<n->fx r<mv.length/\fy r<mv'.length
 st:∀r a,r<n->a<m->g r a<n/\fx (g r a)=dM mv (fx r) a/\fy (g r a)=dM mv' (fy r) a
 inj:∀x y,x<n->y<n->fx x=fx y->x=y
def prF(fx fy:Nat->Nat)(r:Nat):List Nat:=[fx r,fy r]
def spWP(Pt:Addr):Sp:=λvs H Q _=>∃(p p' a1 a2 b1 b2:Addr)(z:Str)(us us':List V)(mv mv':List (List Nat))(m:Nat)(ys ys':List Bool)(n:Nat)(g:Nat->Nat->Nat)(fx fy:Nat->Nat),vs=[.ref p,.ref p',.non]/\MH H p z a1 a2 us mv m ys/\MH H p' z b1 b2 us' mv' m ys'/\z.length=m/\n<=1000/\WPr mv mv' m n g fx fy/\TabOk H Pt WQ /\
 ∀(q q1 q2:Addr)(vs':List V)(rs:List Nat)(H':Hp),rs.length<=n->H' q=some (.tup [.ref q1,.ref q2])->H' q1=some (.lst vs')->RowsM H' vs' (rs.map (prF fx fy))->Kp [Pt] H H'->TabOk H' Pt WQ->Q (.ref q) H'
section
variable{P:Program}{w:World}{K:PySem.W.Frag}{mg:Str->Option Value}{base:Heap}
abbrev yw:Stmt:=top 21
theorem sc_walked_pairs:FnScope ["one","other","most"] ["one","other","most"] (jg yw):=⟨rfl,rfl,rfl,by decide +kernel,rfl,by decide +kernel,by decide +kernel⟩
def jnx:Expr:=match jx yw with
 |.Return (some (.Call _ [_,_,l,_] _ _)) _::_=>l
 |_=>.Name "" ⟨0,0,0,0⟩
def jjx:Arguments:=match jnx with
 |.Lambda a _ _ _=>a
 |_=>jy (.Pass ⟨0,0,0,0⟩)
def jjy:Expr:=match jnx with
 |.Lambda _ b _ _=>b
 |_=>.Name "" ⟨0,0,0,0⟩
def lamS2:Scope:=match jnx with
 |.Lambda _ _ c _=>c
 |_=>jg (.Pass ⟨0,0,0,0⟩)
theorem jsq:LamScope ["pair","sign"] ["one","other"] lamS2:=⟨rfl,rfl,rfl,by decide +kernel,by decide +kernel,by decide +kernel,by decide +kernel,λx h=>by
 have hn:lamS2.names=[(Str.ofString "pair",.local),(Str.ofString "sign",.local),(Str.ofString "one",.free),(Str.ofString "other",.free)]:=rfl
 rw[hn]at h
 by_cases h1:x=Str.ofString "one"
 ·rw[h1];exact .head _
 by_cases h2:x=Str.ofString "other"
 ·rw[h2];exact .tail _ (.head _)
 have b1:(x == Str.ofString "one")=false:=by simpa using h1
 have b2:(x == Str.ofString "other")=false:=by simpa using h2
 simp only[List.lookup_cons,List.lookup_nil,b1,b2]at h
 repeat (split at h <;> try (cases h))⟩
theorem ok_walked_pairs{f fcu c Pt td tdw:Addr}{fd fdc:FuncData}{pm:Value}{dfs:List Value}(F:FunD K "walked_pairs" "walked_pairs" yw f fd tdw)(T:TWp P w K mg base fcu c Pt pm)(hcd:fd.code=.ref c)
  (F3z:FunD K "come_up" "come_up" za fcu fdc td) (b3z:Binds K fdc ["first","signs","step","most","at"] dfs) (h_come_up:Vals [.int 0] dfs) (G3z:FnOk P w K mg base CX0 4 fcu fdc ["first","signs","step","most","at"] (spCT P w K mg base)):FnOk P w K mg base CX0 5 f fd ["one","other","most"] (spWP Pt):=by
 refine F.okC sc_walked_pairs (λvs H Q E h=>?_) (λA outer s H vs Q E hr h=>?_)
 ·obtain⟨p,p',a1,a2,b1,b2,z,us,us',mv,mv',m,ys,ys',n,g,fx,fy,rfl,_⟩:=h
  rfl
 ·obtain⟨p,p',a1,a2,b1,b2,z,us,us',mv,mv',m,ys,ys',n,g,fx,fy,rfl,M,M',zl,n9,W,tb,k⟩:=h
  have hu:=hr.units
  have hsz:sizeLine=16777216:=Ij
  have m9:=M.m9
  refine exQ (jj (j3 (jbj [(0,s.heap.objs.size+1),(1,s.heap.objs.size+2)] (by intro j hj;simp only[Ap,Af,O2]at hj;rcases hj with rfl|rfl <;> exact⟨_,rfl,rfl,rfl,rfl⟩) G3z (hr.mono (by decide)) rfl T.m3z F3z.kp b3z h_come_up (ja (yq (ja jh (ja jh jc))) (ja (jt jw (by rfl) T.n_len j6 (ja (jo ix_U (qpv 0) jh (λ_ _=>rfl)) jc)) (ja (jbl (Pt:=Pt) rfl T.pm hcd T.hd T.bl) (ja (qpv 2) jc))))))) ?_
  simp! [M.hp]
  refine⟨by omega,λt0 ht0=>?_⟩
  have kA:Kp [] H (upd H t0 (.tup [.int 0,.int 0])):=(Kp.refl [] H).new ht0
  have et0:upd H t0 (.tup [.int 0,.int 0]) t0=some (.tup [.int 0,.int 0]):=jb
  generalize upd H t0 (.tup [.int 0,.int 0])=HA at kA et0⊢
  have MA:=M.kp kA
  have MB:=M'.kp kA
  have tbA:=tb.kp kA (by simp) (by simp)
  refine⟨_,by rw[MA.hp];rfl,_,rfl,?_⟩
  simp!
  rw[zl]
  refine⟨by omega,tbA,λfl c' ct H1 hfl k1 e1 cz tb1=>?_⟩
  refine⟨λj hj=>by simp only[Ap,Af,O2]at hj;rcases hj with rfl|rfl <;> exact⟨_,rfl⟩,λcs hcs=>?_⟩
  obtain⟨o1,o2,rfl,hn1,hn2,⟨u1,d1,r1⟩,⟨u2,d2,r2⟩⟩:∃o1 o2,cs=[(s.heap.objs.size+1,o1),(s.heap.objs.size+2,o2)]/\H1 (s.heap.objs.size+1)=none/\H1 (s.heap.objs.size+2)=none/\(∃u,o1.data=.cell (some u)/\RelV (.ref p) u)/\∃u,o2.data=.cell (some u)/\RelV (.ref p') u:=by
   cases hcs with
   |cons h t =>
    cases t with
    |cons h' t' =>
     cases t'
     rename_i p1 p2
     obtain⟨x1,o1⟩:=p1
     obtain⟨x2,o2⟩:=p2
     obtain⟨e1,e2,v,u,e3,e4,e5⟩:=h
     obtain⟨e1',e2',v',u',e3',e4',e5'⟩:=h'
     cases(Aq (Aq e3))
     cases(Aq (Aq e3'))
     cases(show x1=s.heap.objs.size+1 from e1)
     cases(show x2=s.heap.objs.size+2 from e1')
     exact⟨o1,o2,rfl,e2,e2',⟨u,e4,e5⟩,⟨u',e4',e5'⟩⟩
  have n12:s.heap.objs.size+1≠s.heap.objs.size+2:=by omega
  have e1':H1 fl=some (FZ (PySem.W.kla_obj "<lambda>" WQ jjx jjy lamS2 [("other",s.heap.objs.size+2),("one",s.heap.objs.size+1)] pm c' ct)):=e1
  clear e1
  generalize s.heap.objs.size+2=n2 at e1' hn2 n12⊢
  generalize s.heap.objs.size+1=n1 at e1' hn1 n12⊢
  have b12:(n2 == n1)=false:=by simpa using n12.symm
  have lk:∀b,b≠n1->b≠n2->([(n1,o1),(n2,o2)]:List (Addr×Obj)).lookup b=none:=λb h h'=>by
   have q1:(b == n1)=false:=by simpa using h
   have q2:(b == n2)=false:=by simpa using h'
   simp only[List.lookup_cons,q1,q2,List.lookup_nil]
  have sh:∀b v,H1 b=some v->jc6 H1 [(n1,o1),(n2,o2)] b=some v:=λb v e=>by rw[jc1 (lk b (jf e hn1) (jf e hn2))];exact e
  have kS:Kp [] H1 (jc6 H1 [(n1,o1),(n2,o2)]):=⟨λb v e _=>sh b v e,λb xs e=>sh b _ e,λb v e=>⟨v,sh b v e⟩⟩
  have en1:jc6 H1 [(n1,o1),(n2,o2)] n1=some (FZ o1):=jd1 (by simp[List.lookup])
  have en2:jc6 H1 [(n1,o1),(n2,o2)] n2=some (FZ o2):=jd1 (by simp[List.lookup,b12])
  have cap:Caps (jc6 H1 [(n1,o1),(n2,o2)]) [("other",n2),("one",n1)] ["one","other"] [.ref p,.ref p']:=by
   refine⟨rfl,λi x v q1 q2=>?_,λx hx=>?_,λq hq=>?_,λx y c q1 q2=>?_⟩
   ·cases i with
    |zero=>cases q1;cases q2;exact⟨n1,o1,u1,rfl,en1,d1,r1⟩
    |succ i =>
     cases i with
     |zero=>cases q1;cases q2;exact⟨n2,o2,u2,rfl,en2,d2,r2⟩
     |succ i=>simp at q1
   ·simp only[Ap,Af,O2]at hx
    rcases hx with rfl|rfl
    ·exact⟨n1,rfl⟩
    ·exact⟨n2,rfl⟩
   ·simp only[Ap,Af,O2]at hq
    rcases hq with rfl|rfl
    ·exact⟨o2,some u2,en2,d2⟩
    ·exact⟨o1,some u1,en1,d1⟩
   ·simp only[List.lookup_cons,List.lookup_nil]at q1 q2
    split at q1
    ·cases q1
     split at q2
     ·rename_i z1 _ z2;rw[eq_of_beq z1,eq_of_beq z2]
     ·split at q2
      ·exact absurd (Aq q2) n12
      ·cases q2
    ·split at q1
     ·cases q1
      split at q2
      ·exact absurd (Aq q2).symm n12
      ·split at q2
       ·rename_i z1 _ _ _ z2;rw[eq_of_beq z1,eq_of_beq z2]
       ·cases q2
     ·cases q1
  obtain⟨R,hRd⟩:∃R:Hp->Prop,∀H,R H↔(H fl=some (FZ (PySem.W.kla_obj "<lambda>" WQ jjx jjy lamS2 [("other",n2),("one",n1)] pm c' ct))/\CodeZ H c' WQ/\Caps H [("other",n2),("one",n1)] ["one","other"] [.ref p,.ref p']/\MH H p z a1 a2 us mv m ys/\MH H p' z b1 b2 us' mv' m ys'):=⟨_,λ_=>On⟩
  have L:LgT P w K mg base fl (PySem.W.kla_obj "<lambda>" WQ jjx jjy lamS2 [("other",n2),("one",n1)] pm c' ct) (PySem.W.kla_fn "<lambda>" WQ jjx jjy lamS2 [("other",n2),("one",n1)] pm (.ref c') ct) ["pair","sign"] g (prF fx fy) n m R:=by
   refine⟨rfl,jox (fs:=["one","other"]) jsq (λvs H Q E h=>?_) (λvs H Q E h=>?_),.all (us2 λ_ _=>rfl),λH h=>((hRd H).mp h).1,λH H' k h=>?_⟩
   ·obtain⟨b,r,a,rfl,_⟩:=h
    rfl
   ·obtain⟨b,r,a,rfl,hb,hr',ha,hR,q⟩:=h
    obtain⟨R1,R2,R3,R4,R5⟩:=(hRd H).mp hR
    refine⟨R1,R2,[.ref p,.ref p'],R3,λA outer s hr=>⟨_,QE.h (yq (ja (jo ix_U (jo ix_U (jo ix_U (qpv 2) jh (λ_ _=>rfl)) (jo ix_U (qpv 0) jh (λ_ _=>rfl)) (λ_ _=>rfl)) (qpv 1) (λ_ _=>rfl)) (ja (jo ix_U (jo ix_U (jo ix_U (qpv 3) jh (λ_ _=>rfl)) (jo ix_U (qpv 0) jh (λ_ _=>rfl)) (λ_ _=>rfl)) (qpv 1) (λ_ _=>rfl)) jc))),?_⟩⟩
    simp!
    have tk:∀b xs,H b=some (.tup xs)->hideC H [n2,n1] b=some (.tup xs):=λb xs e=>by
     rw[jcs (λmm=>by
      obtain⟨o2',u2',e2,_⟩:=R3.fz ("other",n2) (.head _)
      obtain⟨o1',u1',e1,_⟩:=R3.fz ("one",n1) (.tail _ (.head _))
      simp only[Ap,Af,O2]at mm
      rcases mm with rfl|rfl
      ·rw[show H b=_ from e2]at e;cases e
      ·rw[show H b=_ from e1]at e;cases e)]
     exact e
    obtain⟨xl,yl⟩:=W.lt r hr'
    obtain⟨gl,gx,gy⟩:=W.st r a hr' ha
    obtain⟨x,hx,hxr⟩:=R4.rw.get (getD_some mv (fx r) [] xl)
    obtain⟨y,hy,hyr⟩:=R5.rw.get (getD_some mv' (fy r) [] yl)
    refine⟨_,by rw[tk _ _ R4.hp];rfl,_,rfl,_,by rw[tk _ _ hb];rfl,.int (fx r:Nat),rfl,?_⟩
    rw[jcp,tk _ _ R4.hm]
    refine⟨_,rfl,.ref x,jcm hx,?_⟩
    rw[jcp,tk _ _ hxr]
    refine⟨_,rfl,nV (dM mv (fx r) a),jcm (by rw[Ag,(R4.ok.at_ xl ha).1];rfl),?_⟩
    refine⟨_,by rw[tk _ _ R5.hp];rfl,_,rfl,_,by rw[tk _ _ hb];rfl,.int (fy r:Nat),rfl,?_⟩
    rw[jcp,tk _ _ R5.hm]
    refine⟨_,rfl,.ref y,jcm hy,?_⟩
    rw[jcp,tk _ _ hyr]
    refine⟨_,rfl,nV (dM mv' (fy r) a),jcm (by rw[Ag,(R5.ok.at_ yl ha).1];rfl),by omega,λb' hb' hc=>q b' _ ((Kp.refl [] (hideC H [n2,n1])).new hb').backC ?_⟩
    rw[jc7 (λmm=>by have:=hc _ mm;rw[jb]at this;cases this),jb]
    unfold prF
    rw[gx,gy];rfl
   ·obtain⟨R1,R2,R3,R4,R5⟩:=(hRd H).mp h
    exact(hRd H').mpr ⟨k.old _ _ R1 Af,R2.kp k (by simp),R3.kp k (by simp),R4.kp k,R5.kp k⟩
  have hR:R (jc6 H1 [(n1,o1),(n2,o2)]):=(hRd _).mpr ⟨sh _ _ e1',cz.kp kS (by simp),cap,(MA.kp k1).kp kS,(MB.kp k1).kp kS⟩
  refine⟨fl,t0,_,_,_,g,prF fx fy,n,m,0,R,L,hR,rfl,?_,W.n1,n9,m9,λr a hr ha=>(W.st r a hr ha).1,λx y hx hy e=>W.inj x y hx hy (by unfold prF at e;injection e),λq q1 q2 vs' us1 rs H2 bf eq0 eb1 Rv eb2 R2 k2=>?_⟩
  ·rw[sh _ _ (k1.tup _ _ et0)];unfold prF;rw[W.x0,W.y0];rfl
  have kk:=kS.trans k2
  have k3:Kp [] H1 (hideC H2 [n1,n2]):=by
   have ne:∀b v,H1 b=some v->b∉[n1,n2]:=λb v e mm=>by
    simp only[Ap,Af,O2]at mm
    rcases mm with rfl|rfl
    ·rw[hn1]at e;cases e
    ·rw[hn2]at e;cases e
   exact⟨λb v e mm=>by rw[jcs (ne b _ e)];exact kk.old b v e mm,λb xs e=>by rw[jcs (ne b _ e)];exact kk.tup b xs e,λb v e=>by rw[jcs (ne b _ e)];exact kk.dom b v e⟩
  have f1:H2 n1=some (FZ o1):=k2.old _ _ en1 Af
  have f2:H2 n2=some (FZ o2):=k2.old _ _ en2 Af
  have hd2:∀b v,H2 b=some v->(∀o,v≠FZ o)->hideC H2 [n1,n2] b=some v:=λb v e nn=>by
   rw[jcs (λmm=>by
    simp only[Ap,Af,O2]at mm
    rcases mm with rfl|rfl
    ·rw[f1]at e;exact nn o1 (Aq e).symm
    ·rw[f2]at e;exact nn o2 (Aq e).symm)]
   exact e
  have bi:=bf.inv W.n1 (λr a hr ha=>(W.st r a hr ha).1)
  exact k q q1 q2 vs' rs _ (jdc bi.nd bi.lt) (hd2 _ _ eq0 (λ_ z=>by cases z)) (hd2 _ _ eb1 (λ_ z=>by cases z)) (Paired.mapP Rv λ_ _ ⟨b,z1,z2⟩=>⟨b,z1,hd2 _ _ z2 (λ_ z=>by cases z)⟩) ((kA.mono (by simp)).trans (k1.trans (k3.mono (by simp)))) (tb1.kp k3 (by simp) (by simp))
end
structure TCp(mg:Str->Option Value)(fls fap fsd fwp:Addr):Prop where
 n_len:mg "len"=none
 n_sorted:mg "sorted"=none
 m20z:mg "look_same_letters"=some (.ref fls)
 m2z:mg "apart"=some (.ref fap)
 m22z:mg "side_by_side"=some (.ref fsd)
 m23z:mg "walked_pairs"=some (.ref fwp)
def spCp(Pt:Addr):Sp:=λvs H Q _=>∃(p p' a1 a2 b1 b2:Addr)(z:Str)(us us':List V)(mv mv':List (List Nat))(m:Nat)(ys ys':List Bool)(h:Nat->Nat),vs=[.ref p,.ref p']/\MH H p z a1 a2 us mv m ys/\MH H p' z b1 b2 us' mv' m ys'/\Letters z 4/\z.length=m/\mv.length<64/\mv'.length<64/\LeanM (mcOf mv m ys) (mcOf mv' m ys') h/\TabOk H Pt WQ /\
 ∀(q l:Addr)(H':Hp),H' q=some (.tup [.str (Str.ofString "alike"),.ref l])->Kp [Pt] H H'->TabOk H' Pt WQ->Q (.ref q) H'
theorem jji{H:Hp}:∀{us:List V}{mv:List (List Nat)},RowsM H us mv->∃bs:List Addr,us=bs.map V.ref/\bs.length=mv.length/\∀b∈bs,∃row∈mv,H b=some (.tup (row.map nV))
 |[],[],_=>⟨[],rfl,rfl,by simp⟩
 |_::us,row::mv,.cons ⟨a,e,h⟩ t=>by
  obtain⟨bs,e2,l2,q⟩:=jji t
  refine⟨a::bs,by rw[e,e2];rfl,by simp[l2],λb hb=>?_⟩
  rcases Ap.mp hb with rfl|hb
  ·exact⟨row,.head _,h⟩
  ·obtain⟨r,hr,q⟩:=q b hb
   exact⟨r,.tail _ hr,q⟩
section
variable{P:Program}{w:World}{K:PySem.W.Frag}{mg:Str->Option Value}{base:Heap}
abbrev zq:Stmt:=top 18
theorem jbe:FnScope ["one","other","text"] ["one","other"] (jg zq):=⟨rfl,rfl,rfl,by decide +kernel,rfl,by decide +kernel,by decide +kernel⟩
theorem ok_compared{f fls fap fsd fwp Pt tdw:Addr}{fd fdl fda fds fdw:FuncData}{dfw:List Value}(F:Fun K "compared" "compared" zq f fd)(T:TCp mg fls fap fsd fwp)
  (F20z:Fun K "look_same_letters" "look_same_letters" ym fls fdl) (b20z:Binds K fdl ["one","other"] []) (G20z:FnOk P w K mg base CX0 1 fls fdl ["one","other"] spLS)
  (F2z:Fun K "apart" "apart" z7 fap fda) (b2z:Binds K fda ["machine","one","other"] []) (G2z:FnOk P w K mg base CX0 3 fap fda ["machine","one","other"] jih)
  (F22z:Fun K "side_by_side" "side_by_side" yv fsd fds) (b22z:Binds K fds ["one","other"] []) (G22z:FnOk P w K mg base CX0 1 fsd fds ["one","other"] spSd)
  (F23z:FunD K "walked_pairs" "walked_pairs" yw fwp fdw tdw) (b23z:Binds K fdw ["one","other","most"] dfw) (h_walked_pairs:Vals [.non] dfw) (G23z:FnOk P w K mg base CX0 5 fwp fdw ["one","other","most"] (spWP Pt)):FnOk P w K mg base CX0 6 f fd ["one","other"] (spCp Pt):=by
 refine F.ok jbe (λvs H Q E h=>?_) (λcdv A outer s H vs Q E hr h=>?_)
 ·obtain⟨p,p',a1,a2,b1,b2,z,us,us',mv,mv',m,ys,ys',h,rfl,_⟩:=h
  rfl
 ·obtain⟨p,p',a1,a2,b1,b2,z,us,us',mv,mv',m,ys,ys',h,rfl,M,M',hz,zl,n64,n64',L,tb,k⟩:=h
  have hu:=hr.units
  have hsz:sizeLine=16777216:=Ij
  have ok1:=M.mok hz zl
  have ok2:=M'.mok hz zl
  have n1:=M.n1
  have z4:=hz.hi
  refine exQ (je (kj (ju G20z (hr.mono (by decide)) rfl T.m20z F20z.kp b20z .nil ka (ja (qpv 0) (ja (qpv 1) jc))))
  (je (jq (i:=2) jbe.nd rfl (by ac_rfl) (ju G2z (hr.mono (by decide)) rfl T.m2z F2z.kp b2z .nil ka (ja (ju G22z (hr.mono (by decide)) rfl T.m22z F22z.kp b22z .nil ka (ja (qpv 0) (ja (qpv 1) jc))) (ja jh (ja (jt jw (by rfl) T.n_len j6 (ja (jo ix_U (qpv 0) jh (λ_ _=>rfl)) jc)) jc)))))
  (je (yf (j5 op_notN (qpv 2) jbr (j9 _)) (jj (j3 (yq (ja jac (ja (qpv 2) jc))))) kg)
  (jj (j3 (yq (ja jac (ja (jt call_sortedT (by rfl) T.n_sorted jbs (ja (jo ix_U (ju G23z (hr.mono (by decide)) rfl T.m23z F23z.kp b23z h_walked_pairs ka (ja (qpv 0) (ja (qpv 1) jc))) jh (λ_ _=>rfl)) jc)) jc)))))))) ?_
  simp!
  refine⟨p,p',z,_,_,_,_,rfl,M.hp,M'.hp,?_⟩
  dsimp only
  refine⟨p,p',a1,a2,b1,b2,toM z mv ys,toM z mv' ys',us,us',rfl,M.ma,M'.ma,by simp[toM];omega,by simp[toM];omega,λr hr=>?_,by simp[toM,M.yl];omega,by simp[toM,M'.yl];omega,λr c1 c2 ws H1 ms k1=>?_⟩
  ·have:=(ok2.row r hr).1
   have e:(toM z mv' ys').z.length=z.length:=rfl
   omega
  have M1:=M.kp k1
  have M1':=M'.kp k1
  simp! [M1.hp,M1.hm]
  have ul:us.length=mv.length:=Il M.rw
  have el:(toM z mv ys).mv.length=mv.length:=by simp[toM]
  have bl:(jcu (toM z mv ys) (toM z mv' ys')).mv.length=mv.length+mv'.length:=by simp[jcu,toM]
  have bok:=jof ok1 ok2 rfl
  have n1':=M'.n1
  refine⟨r,jcu (toM z mv ys) (toM z mv' ys'),0,mv.length,_,by rw[ul];rfl,⟨c1,c2,ws,ms⟩,bok,by omega,by omega,by omega,λrr H2 res _ k2=>?_⟩
  have e0:rr=Option.none:=by
   refine jl2 ok1 ok2 rfl (λu hu'=>?_) (r:=rr) (by rw[el];exact res)
   rw[jej z mv ys m,jej z mv' ys' m]
   exact L.tells.2 u λa ha=>by have:=hu' a ha;show a<m;rw[<-zl];exact this
  subst e0
  unfold resV
  dsimp only
  rw[Am (by simp)]
  obtain⟨n,g,fx,fy,w1,w2,w3,w4,w5,w6,w7⟩:=L.pairs M.ok n1
  have kk:=k1.trans k2
  refine⟨p,p',a1,a2,b1,b2,z,us,us',mv,mv',m,ys,ys',n,g,fx,fy,rfl,M.kp kk,M'.kp kk,zl,by omega,⟨w1,w3,w4,w5,w6,w7⟩,tb.kp kk (by simp) (by simp),λq q1 q2 vs' rs H3 rl e0 e1 Rv k3 tb3=>?_⟩
  dsimp only
  rw[jcp,e0]
  refine⟨_,rfl,.ref q1,rfl,?_⟩
  obtain⟨bs,rfl,bl',hb⟩:=jji Rv
  rw[Ad]at bl'
  refine⟨q1,bs,jdh H3,rfl,e1,λb hb'=>?_,by omega,λpp bs' hpp _=>⟨by omega,λq' hq'=>?_⟩⟩
  ·obtain⟨row,hrow,e⟩:=hb b hb'
   obtain⟨r0,_,rfl⟩:=An.mp hrow
   have e':H3 b=some (.tup ((cI (prF fx fy r0)).map V.int)):=by rw[jqr];exact e
   rw[jed e']
   exact⟨e',by unfold prF cI;simp⟩
  ·have k4:=((Kp.refl [] H3).new (o:=.lst (bs'.map V.ref)) hpp).new (o:=.tup [.str (Str.ofString "alike"),.ref pp]) hq'
   exact k q' pp _ jb ((kk.mono (by simp)).trans (k3.trans (k4.mono (by simp)))) (tb3.kp k4 (by simp) (by simp))
end
theorem apl(a b:Str):(a++b).length=a.length+b.length:=by
 show(a.cps++b.cps).size=_
 simp[Str.length]
theorem jrn{i:Int}(h:i.natAbs<=2000000000):(Str.ofString (toString i)).length<=21:=by
 have b:(2000000001:Nat)<10^20:=by decide
 have hb:i.natAbs<10^20:=by omega
 have e:=int_text_length_le10 (a:=i) (k:=20) (by decide) hb
 rw[PySem.ofString_length]
 omega
theorem jsg{i:Int}(h:i.natAbs<=2000000000):(PyData.int i).showable=true:=by
 simp only[PyData.showable,Uv]
 by_cases h1:i.natAbs=0
 ·rw[h1];decide
 ·have b:(2000000001:Nat)<2^40:=by decide
  have hb:i.natAbs<2^40:=by omega
  have:=(Nat.log2_lt (k:=40) h1).mpr hb
  omega
def Sh(d:PyData)(n k:Nat):Prop:=d.showable=true/\d.hasDict=false/\d.depth<=k/\d.shown.length<=n
theorem jpi{α:Type}{f:α->PyData}{n k:Nat}:∀{l:List α},(∀x∈l,Sh (f x) n k)->PyData.showableAll (l.map f)=true/\PyData.hasDictAll (l.map f)=false/\PyData.depthAll (l.map f)<=k/\((PyData.shownAll (l.map f)).map (·.length)).sum<=l.length*n/\(PyData.shownAll (l.map f)).length=l.length
 |[],_=>by simp[PyData.showableAll,PyData.hasDictAll,PyData.depthAll,PyData.shownAll]
 |x::l,h=>by
  obtain⟨a1,a2,a3,a4⟩:=h x (.head _)
  obtain⟨b1,b2,b3,b4,b5⟩:=jpi (l:=l) λy hy=>h y (.tail _ hy)
  simp only[Ay,PyData.showableAll,PyData.hasDictAll,PyData.depthAll,PyData.shownAll,a1,a2,b1,b2,List.sum_cons,List.length_cons,b5,Y0]
  refine⟨by simp,by simp,?_,?_,by simp⟩
  ·first|omega|exact Nat.max_le.mpr ⟨a3,b3⟩
  ·omega
theorem jhu{α:Type}{f:α->PyData}{n k:Nat}{l:List α}(h:∀x∈l,Sh (f x) n k):Sh (.tuple (l.map f)) (l.length*(n+2)+4) (k+1):=by
 obtain⟨b1,b2,b3,b4,b5⟩:=jpi h
 refine⟨by simpa[PyData.showable]using b1,by simpa[PyData.hasDict]using b2,by simp[PyData.depth];omega,?_⟩
 have e:(PyData.tuple (l.map f)).shown=tupleText (PyData.shownAll (l.map f)):=by simp only[PyData.shown]
 rw[e]
 have h2:=PySem.StrLaws.join_length_le (Str.ofString ", ") (PyData.shownAll (l.map f))
 have h3:(Str.ofString ", ").length=2:=by decide +kernel
 have h4:(Str.ofString "(").length=1:=by decide +kernel
 have h5:(Str.ofString (if(PyData.shownAll (l.map f)).length == 1 then",)"else")")).length<=2:=by
  split <;> decide +kernel
 unfold tupleText
 rw[apl,apl]
 rw[h3,b5]at h2
 have:l.length*(n+2)=l.length*n+l.length*2:=Nat.mul_add _ _ _
 omega
theorem Sh.mono{d:PyData}{n n' k k':Nat}(h:Sh d n k)(h1:n<=n')(h2:k<=k'):Sh d n' k':=⟨h.1,h.2.1,Im h.2.2.1 h2,Im h.2.2.2 h1⟩
def nD(n:Nat):PyData:=.int (n:Int)
def rwD(r:List Nat):PyData:=.tuple (r.map nD)
def mhD(z:Str)(mv:List (List Nat))(ys:List Bool):PyData:=.tuple [.str z,.tuple (mv.map rwD),.tuple (ys.map PyData.bool)]
theorem Reps.nats(H:Hp):∀l:List Nat,Reps H (l.map nV) (l.map nD)
 |[]=>by simp[Reps]
 |x::r=>by simp[Reps,Rep,Reps.nats H r,nV,nD]
theorem Reps.bools(H:Hp):∀l:List Bool,Reps H (l.map V.bl) (l.map PyData.bool)
 |[]=>by simp[Reps]
 |x::r=>by simp[Reps,Rep,Reps.bools H r]
theorem RowsM.reps{H:Hp}:∀{us:List V}{mv:List (List Nat)},RowsM H us mv->Reps H us (mv.map rwD)
 |[],[],_=>by simp[Reps]
 |_::_,_::_,.cons ⟨a,e,h⟩ t=>by
  refine⟨?_,RowsM.reps t⟩
  rw[e]
  simp only[rwD,Rep]
  exact⟨a,_,rfl,h,Reps.nats H _⟩
theorem MH.rep{H:Hp}{p:Addr}{z:Str}{pm py:Addr}{us:List V}{mv:List (List Nat)}{m:Nat}{ys:List Bool}(h:MH H p z pm py us mv m ys):Rep H (.ref p) (mhD z mv ys):=by
 unfold mhD
 simp only[Rep]
 refine⟨p,_,rfl,h.hp,?_⟩
 simp only[Reps,Rep]
 exact⟨trivial,⟨pm,us,rfl,h.hm,h.rw.reps⟩,⟨py,_,rfl,h.hy,Reps.bools H ys⟩,trivial⟩
theorem jqw{z:Str}{mv:List (List Nat)}{ys:List Bool}{m:Nat}(hz:Letters z 4)(ok:MvOk mv m)(m4:m<=4)(n64:mv.length<64)(yl:ys.length=mv.length):Sh (mhD z mv ys) 200000 10:=by
 have zl:=hz.hi
 have s1:Sh (.str z) 200 1:=by
  refine⟨rfl,rfl,by simp[PyData.depth],?_⟩
  have:=PySem.StrLaws.reprText_len z λc hc=>by have:=hz.az c (by simpa using hc);omega
  show(reprText z).length<=200
  omega
 have s2:Sh (.tuple (mv.map rwD)) 40000 4:=by
  refine(jhu (n:=400) (k:=2) λr hr=>?_).mono (by have:=Y6 402 (Wb n64);omega) (by omega)
  have h1:=ok.ln r hr
  refine(jhu (f:=nD) (n:=21) (k:=1) λt ht=>?_).mono (by omega) (by omega)
  have:=ok.lt r hr t ht
  exact⟨jsg (by omega),rfl,by simp[PyData.depth,nD],jrn (by omega)⟩
 have s3:Sh (.tuple (ys.map PyData.bool)) 2000 4:=by
  refine(jhu (n:=5) (k:=1) λb _=>⟨rfl,rfl,by simp[PyData.depth],?_⟩).mono (by omega) (by omega)
  cases b <;> decide +kernel
 have s:Sh (.tuple ([PyData.str z,.tuple (mv.map rwD),.tuple (ys.map PyData.bool)].map id)) (3*(40000+2)+4) (4+1):=by
  refine jhu (n:=40000) (k:=4) λx hx=>?_
  simp only[Ap,Af,O2]at hx
  rcases hx with rfl|rfl|rfl
  ·exact s1.mono (by omega) (by omega)
  ·exact s2
  ·exact s3.mono (by omega) (by omega)
 have e:mhD z mv ys=.tuple ([PyData.str z,.tuple (mv.map rwD),.tuple (ys.map PyData.bool)].map id):=by simp[mhD]
 rw[e]
 exact⟨s.1,s.2.1,by have:=s.2.2.1;omega,by have:=s.2.2.2;omega⟩
theorem jif{H:Hp}{v:V}{d:PyData}{Q:VK}{n k:Nat}(r:Rep H v d)(s:Sh d n k)(hn:n<=10000000)(hk:k<=60)(h:Q (.str d.shown) H):jli [v] H Q:=by
 have hsz:sizeLine=16777216:=Ij
 exact⟨d,r,s.1,s.2.1,Im s.2.2.1 hk,by have:=s.2.2.2;omega,h⟩
def tz(z:Str)(w:List Nat):Str:=toS (w.map λa=>z.cps.toList.getD a 0)
theorem jsz(z:Str)(w:List Nat):(tz z w).length=w.length:=by simp[tz,je8]
theorem jta{z:Str}{w:List Nat}{i c:Nat}(h:(tz z w).cps.toList[i]?=some c):∃a,w[i]?=some a/\c=z.cps.toList.getD a 0:=by
 have:(tz z w).cps.toList=w.map λa=>z.cps.toList.getD a 0:=by simp[tz,toS]
 rw[this,Ag]at h
 obtain⟨a,h1,h2⟩:=Ie.mp h
 exact⟨a,h1,h2.symm⟩
theorem plc_at{z:Str}(nd:z.cps.toList.Nodup){a:Nat}(h:a<z.length):z.cps.toList.getD a 0∈z.cps.toList/\plc z.cps.toList (z.cps.toList.getD a 0)=(a:Int):=by
 have hl:a<z.cps.toList.length:=by simpa[Str.length]using h
 have e:z.cps.toList.getD a 0=z.cps.toList[a]:=by rw[Ac,Aa hl];rfl
 have m:z.cps.toList[a]∈z.cps.toList:=Ic hl
 rw[e]
 refine⟨m,?_⟩
 unfold plc
 rw[Ao m,nd.idxOf_getElem a hl]
def jq4:Sp:=λvs H Q _=>∃(p pm py:Addr)(z:Str)(us:List V)(mv:List (List Nat))(m:Nat)(ys:List Bool)(r:Nat)(u:List Nat),vs=[.ref p,.int (r:Int),.str (tz z u)]/\MH H p z pm py us mv m ys/\z.length=m/\z.cps.toList.Nodup/\r<mv.length/\(∀a∈u,a<m)/\Q (.int ((mcOf mv m ys).led r u:Nat)) H
def spSm:Sp:=λvs H Q _=>∃(v v':V)(d:PyData),vs=[v,v']/\Rep H v d/\Rep H v' d/\Sh d 200000 10/\Q (.bl true) H
structure TSm(mg:Str->Option Value):Prop where
 n_repr:mg "repr"=none
section
variable{P:Program}{w:World}{K:PySem.W.Frag}{mg:Str->Option Value}{base:Heap}
abbrev zp:Stmt:=top 27
theorem jat:FnScope ["_law_machine_here","_law_room","_law_text","_law_letter"] ["_law_machine_here","_law_room","_law_text"] (jg zp):=⟨rfl,rfl,rfl,by decide +kernel,rfl,by decide +kernel,by decide +kernel⟩
abbrev zk:Stmt:=top 30
theorem sc__law_same:FnScope ["_law_found","_law_due"] ["_law_found","_law_due"] (jg zk):=⟨rfl,rfl,rfl,by decide +kernel,rfl,by decide +kernel,by decide +kernel⟩
theorem ok__law_led{f:Addr}{fd:FuncData}(F:Fun K "_law_led" "_law_led" zp f fd):FnOk P w K mg base CX0 1 f fd ["_law_machine_here","_law_room","_law_text"] jq4:=by
 refine F.ok jat (λvs H Q E h=>?_) (λcdv A outer s H vs Q E hr h=>?_)
 ·obtain⟨p,pm,py,z,us,mv,m,ys,r,u,rfl,_⟩:=h
  rfl
 ·obtain⟨p,pm,py,z,us,mv,m,ys,r,u,rfl,M,zm,nd,rn,hw,k⟩:=h
  have hu:=hr.units
  have mok:=jds (ys:=ys) M.ok
  refine exQ (je (yc A8 rfl (kh (K:=K) (qpv 2) rfl) (jr (i:=3) jat.nd rfl (by ac_rfl)) (jj (jq (i:=1) jat.nd rfl (by ac_rfl) (jo ix_U (jo ix_U (jo ix_U (qpv 0) jh (λ_ _=>rfl)) (qpv 1) (λ_ _=>rfl)) (qpe_bmT PySem.F.slot_str_index PySem.F.type_str_index mt_indexU (jo ix_U (qpv 0) jh (λ_ _=>rfl)) (ja (qpv 3) jc)) (λ_ _=>rfl)))))
  (jj (j3 (qpv 1)))) ?_
  simp!
  refine jk2 (λi σ H'=>∃v3:Option V,σ=[some (.ref p),some (.int ((mcOf mv m ys).led r (u.take i):Nat)),some (.str (tz z u)),v3]/\H'=H) ⟨none,rfl,rfl⟩ ?_ ?_
  ·rintro i c σ H' hc ⟨v3,rfl,rfl⟩
   obtain⟨a,ha,rfl⟩:=jta hc
   have am:=hw a (Al ha)
   obtain⟨q1,q2⟩:=plc_at nd (show a<z.length by omega)
   have rl:(mcOf mv m ys).led r (u.take i)<mv.length:=Mc.led_lt mok rn λb hb=>hw b (Y3 hb)
   have tk:u.take (i+1)=u.take i++[a]:=by rw[Od,ha];rfl
   rw[tk,Mc.led_app']
   generalize(mcOf mv m ys).led r (u.take i)=r1 at rl⊢
   have hi:mv[r1]?=some (mv.getD r1 []):=by rw[Ac,Aa rl];rfl
   obtain⟨c,hcx,hcr⟩:=M.rw.get hi
   simp! [M.hp,M.hm]
   refine⟨.ref c,jcm hcx,_,rfl,q1,?_⟩
   rw[q2,jcp,hcr]
   exact⟨_,rfl,_,jcm (by rw[Ag,(M.ok.at_ rl am).1];rfl),_,⟨rfl,rfl⟩,rfl⟩
  ·rintro σ H' ⟨v3,rfl,rfl⟩
   rw[jsz,Ir]
   simp!
   exact k
theorem ok__law_same{f:Addr}{fd:FuncData}(F:Fun K "_law_same" "_law_same" zk f fd)(T:TSm mg):FnOk P w K mg base CX0 1 f fd ["_law_found","_law_due"] spSm:=by
 refine F.ok sc__law_same (λvs H Q E h=>?_) (λcdv A outer s H vs Q E hr h=>?_)
 ·obtain⟨v,v',d,rfl,_⟩:=h
  rfl
 ·obtain⟨v,v',d,rfl,r1,r2,sh,k⟩:=h
  have hu:=hr.units
  have hgd:=hr.gd
  refine exQ (jj (j3 (jab (zc hu) (jt (jak hgd hu) (by rfl) T.n_repr ja7 (ja (qpv 0) jc)) (jt (jak hgd hu) (by rfl) T.n_repr ja7 (ja (qpv 1) jc)) (j9 _)))) ?_
  simp!
  refine jif r1 sh (by omega) (by omega) ?_
  refine jif r2 sh (by omega) (by omega) ?_
  simp! [decide_true]
  exact k
end
theorem jf0{H H':Hp}{P1 P2:Addr}{q1 q2:Str}(ne:P2≠P1)(t1:TabOk H P1 q1)(t2:TabOk H P2 q2)(k:Kp [P1] H H'):TabOk H' P2 q2:=by
 refine t2.kp k (by simpa using ne) λc o e m=>?_
 obtain⟨ps,hp,_⟩:=t1
 rw[Aj.mp m,hp]at e
 cases e
structure TRt(mg:Str->Option Value)(fll fle fsm fcp fap fld:Addr):Prop where
 n_range:mg "range"=none
 n_min:mg "min"=none
 n_len:mg "len"=none
 m10z:mg "_law_least"=some (.ref fll)
 m1z:mg "least"=some (.ref fle)
 m6z:mg "_law_same"=some (.ref fsm)
 m14z:mg "compared"=some (.ref fcp)
 m2z:mg "apart"=some (.ref fap)
 m4z:mg "_law_led"=some (.ref fld)
def spRt(P1 P2:Addr):Sp:=λvs H Q _=>∃(p a1 a2:Addr)(z:Str)(us:List V)(mv:List (List Nat))(m:Nat)(ys:List Bool),vs=[.ref p]/\MH H p z a1 a2 us mv m ys/\Letters z 4/\z.length=m/\mv.length<64/\TabOk H P1 LQ/\TabOk H P2 WQ/\∀H',Kp [P1,P2] H H'->TabOk H' P1 LQ->TabOk H' P2 WQ->Q (.bl true) H'
section
variable{P:Program}{w:World}{K:PySem.W.Frag}{mg:Str->Option Value}{base:Heap}
abbrev ze:Stmt:=top 32
theorem zb:FnScope ["_law_machine_here","_law_due","_law_found","_law_one","_law_other","_law_text","_law_here"] ["_law_machine_here"] (jg ze):=⟨rfl,rfl,rfl,by decide +kernel,rfl,by decide +kernel,by decide +kernel⟩
theorem ok__law_right{f fll fle fsm fcp fap fld P1 P2:Addr}{fd fdll fdle fdsm fdcp fdap fdld:FuncData}(nP:P2≠P1)(F:Fun K "_law_right" "_law_right" ze f fd)(T:TRt mg fll fle fsm fcp fap fld)
  (F10z:Fun K "_law_least" "_law_least" ku fll fdll) (b10z:Binds K fdll ["_law_machine_here"] []) (G10z:FnOk P w K mg base CX0 2 fll fdll ["_law_machine_here"] jq5)
  (F1z:Fun K "least" "least" jae fle fdle) (b1z:Binds K fdle ["machine"] []) (G1z:FnOk P w K mg base CX0 6 fle fdle ["machine"] (spLe P1))
  (F6z:Fun K "_law_same" "_law_same" zk fsm fdsm) (b6z:Binds K fdsm ["_law_found","_law_due"] []) (G6z:FnOk P w K mg base CX0 1 fsm fdsm ["_law_found","_law_due"] spSm)
  (F14z:Fun K "compared" "compared" zq fcp fdcp) (b14z:Binds K fdcp ["one","other"] []) (G14z:FnOk P w K mg base CX0 6 fcp fdcp ["one","other"] (spCp P2))
  (F2z:Fun K "apart" "apart" z7 fap fdap) (b2z:Binds K fdap ["machine","one","other"] []) (G2z:FnOk P w K mg base CX0 3 fap fdap ["machine","one","other"] jih)
  (F4z:Fun K "_law_led" "_law_led" zp fld fdld) (b4z:Binds K fdld ["_law_machine_here","_law_room","_law_text"] []) (G4z:FnOk P w K mg base CX0 1 fld fdld ["_law_machine_here","_law_room","_law_text"] jq4):FnOk P w K mg base CX0 7 f fd ["_law_machine_here"] (spRt P1 P2):=by
 refine F.ok zb (λvs H Q E h=>?_) (λcdv A outer s H vs Q E hr h=>?_)
 ·obtain⟨p,a1,a2,z,us,mv,m,ys,rfl,_⟩:=h
  rfl
 ·obtain⟨p,a1,a2,z,us,mv,m,ys,rfl,M,hz,zl,n64,tb1,tb2,k⟩:=h
  have hu:=hr.units
  have hsz:sizeLine=16777216:=Ij
  have n1:=M.n1
  have z1:=hz.lo
  have z4:=hz.hi
  refine exQ (je (jq (i:=1) zb.nd rfl (by ac_rfl) (ju G10z (hr.mono (by decide)) rfl T.m10z F10z.kp b10z .nil ka (ja (qpv 0) jc)))
  (je (jq (i:=2) zb.nd rfl (by ac_rfl) (ju G1z (hr.mono (by decide)) rfl T.m1z F1z.kp b1z .nil ka (ja (qpv 0) jc)))
  (je (yf (QW.pt (jbm (jba (jap (ju G6z (hr.mono (by decide)) rfl T.m6z F6z.kp b6z .nil ka (ja (qpv 2) (ja (qpv 1) jc))))) (jbb (jba (jap (ju G6z (hr.mono (by decide)) rfl T.m6z F6z.kp b6z .nil ka (ja (ju G1z (hr.mono (by decide)) rfl T.m1z F1z.kp b1z .nil ka (ja (qpv 2) jc)) (ja (qpv 1) jc)))))))) (jj (j3 zr)) kg)
  (je (yf (j5 (jag hu) (jo ix_U (ju G14z (hr.mono (by decide)) rfl T.m14z F14z.kp b14z .nil ka (ja (qpv 0) (ja (qpv 2) jc))) jh (λ_ _=>rfl)) jac (j9 _)) (jj (j3 zr)) kg)
  (je (yc A8 rfl (yg rfl T.n_range (ja (jt (call_minU rfl) (by rfl) T.n_min bt_min (ja jh (ja (jt jw (by rfl) T.n_len j6 (ja (jo ix_U (qpv 2) jh (λ_ _=>rfl)) jc)) jc))) jc)) (jr (i:=3) zb.nd rfl (by ac_rfl)) (jj (yc A8 rfl (yg rfl T.n_range (ja (qpv 3) jc)) (jr (i:=4) zb.nd rfl (by ac_rfl)) (je (jq (i:=5) zb.nd rfl (by ac_rfl) (ju G2z (hr.mono (by decide)) rfl T.m2z F2z.kp b2z .nil ka (ja (qpv 2) (ja (qpv 3) (ja (qpv 4) jc)))))
  (je (yf (j5 op_isN (qpv 5) jbr (j9 _)) (jj (j3 zr)) kg)
  (je (jq (i:=6) zb.nd rfl (by ac_rfl) (ju G4z (hr.mono (by decide)) rfl T.m4z F4z.kp b4z .nil ka (ja (qpv 2) (ja (qpv 3) (ja (qpv 5) jc)))))
  (jj (yf (j5 (zc hu) (jo ix_U (jo ix_U (qpv 2) jh (λ_ _=>rfl)) (qpv 6) (λ_ _=>rfl)) (jo ix_U (jo ix_U (qpv 2) jh (λ_ _=>rfl)) (ju G4z (hr.mono (by decide)) rfl T.m4z F4z.kp b4z .nil ka (ja (qpv 2) (ja (qpv 4) (ja (qpv 5) jc)))) (λ_ _=>rfl)) (j9 _)) (jj (j3 zr)) kg))))))))
  (jj (j3 zr))))))) ?_
  simp!
  refine⟨p,a1,a2,z,us,mv,m,ys,rfl,M,n64,by omega,λq d1 d2 ud mvd ysd H1 ld e0 e1 Rd e2 k1=>?_⟩
  have M1:=M.kp k1
  have tb11:=tb1.kp k1 (by simp) (by simp)
  have tb21:=tb2.kp k1 (by simp) (by simp)
  have dl1:mvd.length<=mv.length:=ld.h.elim λ_ l=>l.le
  have D1:MH H1 q z d1 d2 ud mvd m ysd:=⟨e0,e1,Rd,ld.ok,e2,ld.yl,ld.h.elim λ_ l=>l.n1,by omega,M.m9⟩
  dsimp only
  refine⟨p,a1,a2,z,us,mv,m,ys,rfl,M1.hp,M1.hm,M1.rw,M.ok,by rw[M1.hy];rfl,M.yl,n1,by omega,M.m9,tb11,λq' c1 c2 uc mvc ysc rs G fr H2 S f0 f1 Rc f2 k2 tb12=>?_⟩
  have lc:=S.lst0 M.ok n1
  obtain⟨rfl,rfl⟩:=lc.one ld (Lang.refl _)
  obtain⟨h,L⟩:=lc.h
  have C2:MH H2 q' z c1 c2 uc mvc m ysc:=⟨f0,f1,Rc,lc.ok,f2,lc.yl,L.n1,by omega,M.m9⟩
  have D2:=D1.kp k2
  have M2:=M1.kp k2
  have tb22:=jf0 nP tb11 tb21 k2
  have sh:=jqw hz lc.ok (by omega) (by omega) lc.yl
  dsimp only
  refine⟨_,_,_,rfl,C2.rep,D2.rep,sh,?_⟩
  simp!
  refine⟨q',c1,c2,z,uc,mvc,m,ysc,rfl,C2.hp,C2.hm,C2.rw,C2.ok,by rw[C2.hy];rfl,C2.yl,C2.n1,C2.n9,M.m9,tb12,λq'' g1 g2 ug mvg ysg rs' G' fr' H3 S' h0 h1 Rg h2 k3 tb13=>?_⟩
  have lg:=S'.lst0 C2.ok C2.n1
  obtain⟨rfl,rfl⟩:=lc.one lg L.tells
  have C3:=C2.kp k3
  have D3:=D2.kp k3
  have M3:=M2.kp k3
  have G3:MH H3 q'' z g1 g2 ug mvc m ysc:=⟨h0,h1,Rg,lg.ok,h2,lg.yl,C2.n1,C2.n9,M.m9⟩
  have tb23:=jf0 nP tb12 tb22 k3
  dsimp only
  refine⟨_,_,_,rfl,G3.rep,D3.rep,sh,?_⟩
  simp!
  refine⟨p,q',a1,a2,c1,c2,z,us,uc,mv,mvc,m,ys,ysc,h,rfl,M3,C3,hz,zl,n64,by omega,L,tb23,λq2 l H4 e4 k4 tb24=>?_⟩
  have C4:=C3.kp k4
  have tb14:=jf0 nP.symm tb23 tb13 k4
  have kH:Kp [P1,P2] H H4:=(k1.mono (by simp)).trans ((k2.mono (by simp)).trans ((k3.mono (by simp)).trans (k4.mono (by simp))))
  dsimp only
  rw[jcp,e4]
  refine⟨_,rfl,_,rfl,?_⟩
  simp! [C4.hp,C4.hm]
  have ul:uc.length=mvc.length:=Il C2.rw
  rw[Am (by simp)]
  generalize hB:(if(uc.length:Int)<8 then(uc.length:Int)else 8)=B
  have bB:0<=B/\B<=(mvc.length:Int)/\B<=8:=by subst hB;split <;> omega
  refine⟨by omega,by omega,?_⟩
  obtain⟨LR,rc⟩:=L.refl
  obtain⟨J0,hJ0⟩:∃J0:Nat->L2.St->Hp->Prop,∀i s H',J0 i s H'↔(∃(v3 v4 v5 v6:Option V),s=[some (.ref p),some (.ref q),some (.ref q'),v3,v4,v5,v6]/\Kp [P1,P2] H H'/\TabOk H' P1 LQ/\TabOk H' P2 WQ/\MH H' q' z c1 c2 uc mvc m ysc):=⟨_,λ_ _ _=>On⟩
  refine jcw J0 ((hJ0 _ _ _).mpr ⟨none,none,none,none,rfl,kH,tb14,tb24,C4⟩) ?_ ?_
  ·intro i σ H5 hi hJ
   obtain⟨v3,v4,v5,v6,rfl,k5,t1,t2,C5⟩:=(hJ0 _ _ _).mp hJ
   have hi:i<mvc.length:=by omega
   simp! [O6]
   refine⟨by omega,by omega,?_⟩
   rw[show((i:Int)).toNat=i by omega]
   obtain⟨J1,hJ1⟩:∃J1:Nat->L2.St->Hp->Prop,∀j s H',J1 j s H'↔(∃(v4 v5 v6:Option V),s=[some (.ref p),some (.ref q),some (.ref q'),some (.int (i:Int)),v4,v5,v6]/\Kp [P1,P2] H H'/\TabOk H' P1 LQ/\TabOk H' P2 WQ/\MH H' q' z c1 c2 uc mvc m ysc):=⟨_,λ_ _ _=>On⟩
   refine jcw J1 ((hJ1 _ _ _).mpr ⟨v4,v5,v6,rfl,k5,t1,t2,C5⟩) ?_ ?_
   ·intro j σ H6 hj hJ
    obtain⟨v4,v5,v6,rfl,k6,t1,t2,C6⟩:=(hJ1 _ _ _).mp hJ
    have hj':j<mvc.length:=by omega
    simp! [O6]
    refine⟨q',toM z mvc ysc,i,j,mvc.length,rfl,⟨c1,c2,uc,C6.ma.ms⟩,C6.mok hz zl,C6.n9,by simp[toM];omega,by simp[toM];omega,λrr H7 res _ k7=>?_⟩
    obtain⟨u,rfl⟩:∃u,rr=some u:=by
     cases rr with
     |some u=>exact⟨u,rfl⟩
     |none =>
      have e:i=j:=(LR.inj i j ((rc i).mpr hi) ((rc j).mpr hj')).mpr λu hu'=>by
       have:=res u λa ha=>by have:=hu' a ha;show a<z.length;rw[zl];exact this
       rw[jej z mvc ysc m,jej z mvc ysc m]at this
       exact this
      omega
    obtain⟨ou,ne,_⟩:=res
    have hw:∀a∈u,a<m:=λa ha=>by have:=ou a ha;rw[<-zl];exact this
    rw[jej z mvc ysc m,jej z mvc ysc m]at ne
    have C7:=C6.kp k7
    have mok:=jds (ys:=ysc) C7.ok
    have l1:(mcOf mvc m ysc).led i u<mvc.length:=Mc.led_lt mok hi hw
    have l2:(mcOf mvc m ysc).led j u<mvc.length:=Mc.led_lt mok hj' hw
    unfold resV
    dsimp only
    rw[Am (by simp)]
    have ya:∀r,r<mvc.length->atI (ysc.map V.bl) ((r:Nat):Int)=some (.bl ((mcOf mvc m ysc).y r)):=λr hr=>jcm (by
     rw[Ag,Aa (by rw[C7.yl];exact hr)]
     show some (V.bl _)=some (V.bl (ysc.getD r false))
     rw[Ac,Aa (by rw[C7.yl];exact hr)];rfl)
    refine⟨q',c1,c2,z,uc,mvc,m,ysc,i,u,rfl,C7,zl,hz.nd,hi,hw,?_⟩
    refine⟨_,by rw[C7.hp];rfl,_,rfl,?_⟩
    rw[jcp,C7.hy]
    refine⟨_,rfl,_,ya _ l1,_,by rw[C7.hp];rfl,_,rfl,?_⟩
    refine⟨q',c1,c2,z,uc,mvc,m,ysc,j,u,rfl,C7,zl,hz.nd,hj',hw,?_⟩
    dsimp only
    rw[jcp,C7.hy]
    refine⟨_,rfl,_,ya _ l2,?_⟩
    simp!
    have ne:(mcOf mvc m ysc).y ((mcOf mvc m ysc).led i u)≠(mcOf mvc m ysc).y ((mcOf mvc m ysc).led j u):=ne
    rw[Am (by simpa using ne)]
    exact(hJ1 _ _ _).mpr ⟨_,_,_,rfl,k6.trans (k7.mono (by simp)),t1.kp k7 (by simp) (by simp),t2.kp k7 (by simp) (by simp),C7⟩
   ·intro σ H6 hJ
    obtain⟨v4,v5,v6,rfl,k6,t1,t2,C6⟩:=(hJ1 _ _ _).mp hJ
    exact(hJ0 _ _ _).mpr ⟨_,_,_,_,rfl,k6,t1,t2,C6⟩
  ·intro σ H5 hJ
   obtain⟨v3,v4,v5,v6,rfl,k5,t1,t2,C5⟩:=(hJ0 _ _ _).mp hJ
   simp!
   exact k H5 k5 t1 t2
end
def jm7:Sp:=λvs H Q _=>∃(b:Addr)(z:Str)(kk:Int)(o:HO),vs=[.ref b,.str z,.int kk]/\H b=some o/\BoxO o/\Letters z 4 /\
 ∀p m o' H',m.z=z->Mach.Ok m 60->BoxO o'->H' b=some o'->Kp [b] H H'->Rep H' (.ref p) m.D->Q (.ref p) H'
structure TDrawn(mg:Str->Option Value)(ft fm:Addr):Prop where
 n_int:mg "int"=none
 m0z:mg "_law_take"=some (.ref ft)
 m12z:mg "_law_machine"=some (.ref fm)
section
variable{P:Program}{w:World}{K:PySem.W.Frag}{mg:Str->Option Value}{base:Heap}
abbrev zd:Stmt:=top 31
theorem sc__law_drawn:FnScope ["_law_box_here","_law_letters_here","_law_k"] ["_law_box_here","_law_letters_here","_law_k"] (jg zd):=⟨rfl,rfl,rfl,by decide +kernel,rfl,by decide +kernel,by decide +kernel⟩
theorem ok__law_drawn{f ft fm:Addr}{fd fdt fdm:FuncData}(F:Fun K "_law_drawn" "_law_drawn" zd f fd)(T:TDrawn mg ft fm)(F0z:Fun K "_law_take" "_law_take" y9 ft fdt)(b0z:Binds K fdt ["_law_box_here","_law_wide"] [])
  (G0z:FnOk P w K mg base CX0 1 ft fdt ["_law_box_here","_law_wide"] jhx) (F12z:Fun K "_law_machine" "_law_machine" yt fm fdm) (b12z:Binds K fdm ["_law_box_here","_law_letters_here","_law_most"] [])
  (G12z:FnOk P w K mg base CX0 2 fm fdm ["_law_box_here","_law_letters_here","_law_most"] jfy):FnOk P w K mg base CX0 3 f fd ["_law_box_here","_law_letters_here","_law_k"] jm7:=by
 refine F.ok sc__law_drawn (λvs H Q E h=>?_) (λcdv A outer s H vs Q E hr h=>?_)
 ·obtain⟨b,z,kk,o,rfl,_⟩:=h
  rfl
 ·obtain⟨b,z,kk,o,rfl,hb,ho,hz,k⟩:=h
  have hu:=hr.units
  have hsz:sizeLine=16777216:=Ij
  refine⟨_,(QSs.h (jj (j3 (ju G12z (hr.mono (by decide)) rfl T.m12z F12z.kp b12z .nil ka (ja (qpv 0) (ja (qpv 1) (ja (jo ix_U (kx (ja jh (ja jh jc))) (jv ja2 (by rfl) T.n_int jb1 (ja (qpe_and (jab (zc hu) (qpv 2) jh (j9 _)) (qpe_one (jab (zc hu) (ju G0z (hr.mono (by decide)) rfl T.m0z F0z.kp b0z .nil ka (ja (qpv 0) (ja jh jc))) jh (j9 _)))) jc)) (λ_ _=>rfl)) jc))))))),?_⟩
  simp!
  refine⟨by omega,λq hq=>?_⟩
  have nbq:b≠q:=jf hb hq
  have kq:Kp [b] H (upd H q (.lst [.int 8,.int 60])):=(Kp.refl [b] H).new hq
  have mach:∀(n:Nat)(H1:Hp)(o1:HO),1<=n->n<=60->H1 b=some o1->BoxO o1->Kp [b] H H1->jfy [.ref b,.str z,.int (n:Int)] H1 Q E0:=λn H1 o1 n1 nh hb1 ho1 kp1 =>
   ⟨b,z,n,o1,rfl,hb1,ho1,hz,n1,by omega,λp m o' H' ez ok ho' hb' kp' rp=>k p m o' H' ez ⟨ok.let4,ok.n1,Im ok.nh nh,ok.yl,ok.row⟩ ho' hb' (kp1.trans kp') rp⟩
  have hbq:upd H q (.lst [.int 8,.int 60]) b=some o:=by rw[jd nbq];exact hb
  refine ite2 (λ_=>?_) (λ_=>?_)
  ·obtain⟨c,s0,rfl,_⟩:=id ho
   refine⟨b,8,_,rfl,hbq,ho,by omega,by omega,λd o1 d0 d1 ho1=>?_⟩
   have hq1:upd (upd H q (.lst [.int 8,.int 60])) b o1 q=some (.lst [.int 8,.int 60]):=by rw[jd nbq.symm,jb]
   have k1:Kp [b] H (upd (upd H q (.lst [.int 8,.int 60])) b o1):=kq.set hbq (.inl (.head _))
   by_cases e:d=1
   ·subst e
    simp! [hq1,Int.reduceEq,decide_true]
    exact mach 60 _ o1 (by omega) (by omega) jb ho1 k1
   ·simp! [hq1,e,decide_false]
    exact mach 8 _ o1 (by omega) (by omega) jb ho1 k1
  ·exact mach 8 _ o (by omega) (by omega) hbq ho kq
end
theorem BoxO.lst{o:HO}(h:BoxO o):∃xs,o=.lst xs:=by
 obtain⟨c,s,e,_⟩:=h
 exact⟨_,e⟩
def jhw(K:PySem.W.Frag)(P1 P2:Addr):Sp:=λvs H Q _=>∃(a:Addr)(ns:List Int),vs=[.ref a]/\SqL K H a (ns.map V.int)/\ns.length<=63/\a≠P1/\a≠P2/\TabOk H P1 LQ/\TabOk H P2 WQ/\∀H',Q (.bl true) H'
def IsM(H:Hp)(v:V):Prop:=∃(q a1 a2:Addr)(z:Str)(us:List V)(mv:List (List Nat))(ys:List Bool),v=.ref q/\MH H q z a1 a2 us mv z.length ys/\Letters z 4/\mv.length<64
theorem IsM.kp{S:List Addr}{H H':Hp}{v:V}(k:Kp S H H')(h:IsM H v):IsM H' v:=by
 obtain⟨q,a1,a2,z,us,mv,ys,e,M,r⟩:=h
 exact⟨q,a1,a2,z,us,mv,ys,e,M.kp k,r⟩
theorem jm9{H H':Hp}{b Pt:Addr}{qual:Str}(hb:∃o,H b=some o/\BoxO o)(t:TabOk H Pt qual)(k:Kp [b] H H'):TabOk H' Pt qual:=by
 obtain⟨o,hb,ho⟩:=hb
 obtain⟨xs,rfl⟩:=ho.lst
 refine t.kp k (λm=>?_) λc o e m=>?_
 ·obtain⟨ps,hp,_⟩:=t
  rw[Aj.mp m,hb]at hp
  cases hp
 ·rw[Aj.mp m,hb]at e
  cases e
theorem jna{H H':Hp}{p Pt:Addr}{qual:Str}{xs:List V}(hp:H p=some (.lst xs))(t:TabOk H Pt qual)(k:Kp [p] H H'):TabOk H' Pt qual:=by
 refine t.kp k (λm=>?_) λc o e m=>?_
 ·obtain⟨ps,h,_⟩:=t
  rw[Aj.mp m,hp]at h
  cases h
 ·rw[Aj.mp m,hp]at e
  cases e
theorem jnb{H:Hp}{p Pt:Addr}{qual:Str}{xs:List V}(hp:H p=some (.lst xs))(t:TabOk H Pt qual):p≠Pt:=λz=>by
 obtain⟨ps,hp',_⟩:=t
 rw[z,hp']at hp
 cases hp
structure TLw(mg:Str->Option Value)(fb fl fd fr:Addr):Prop where
 n_len:mg "len"=none
 n_range:mg "range"=none
 n_repr:mg "repr"=none
 m8z:mg "_law_box"=some (.ref fb)
 m11z:mg "_law_letters"=some (.ref fl)
 m9z:mg "_law_drawn"=some (.ref fd)
 m13z:mg "_law_right"=some (.ref fr)
section
variable{P:Program}{w:World}{K:PySem.W.Frag}{mg:Str->Option Value}{base:Heap}
abbrev jam:Stmt:=top 33
theorem jaw:FnScope ["_law_script","_law_some","_law_k","_law_box_here","_law_machine_here","_law_kept"] ["_law_script"] (jg jam):=⟨rfl,rfl,rfl,by decide +kernel,rfl,by decide +kernel,by decide +kernel⟩
theorem ok_law{f fb fl fdr frt P1 P2:Addr}{fd fdb fdl fdd fdt:FuncData}(F:Fun K "law" "law" jam f fd)(T:TLw mg fb fl fdr frt)
  (F8z:Fun K "_law_box" "_law_box" zo fb fdb) (b8z:Binds K fdb ["_law_script","_law_k"] []) (G8z:FnOk P w K mg base CX0 1 fb fdb ["_law_script","_law_k"] (jq2 K))
  (F11z:Fun K "_law_letters" "_law_letters" yz fl fdl) (b11z:Binds K fdl ["_law_box_here","_law_most"] []) (G11z:FnOk P w K mg base CX0 2 fl fdl ["_law_box_here","_law_most"] jjo)
  (F9z:Fun K "_law_drawn" "_law_drawn" zd fdr fdd) (b9z:Binds K fdd ["_law_box_here","_law_letters_here","_law_k"] []) (G9z:FnOk P w K mg base CX0 3 fdr fdd ["_law_box_here","_law_letters_here","_law_k"] jm7)
  (F13z:Fun K "_law_right" "_law_right" ze frt fdt) (b13z:Binds K fdt ["_law_machine_here"] []) (G13z:FnOk P w K mg base CX0 7 frt fdt ["_law_machine_here"] (spRt P1 P2)):FnOk P w K mg base CX0 8 f fd ["_law_script"] (jhw K P1 P2):=by
 refine F.ok jaw (λvs H Q E h=>?_) (λcdv A outer s H vs Q E hr h=>?_)
 ·obtain⟨a,ns,rfl,_⟩:=h
  rfl
 ·obtain⟨a,ns,rfl,hS,hn,na1,na2,tb1,tb2,kQ⟩:=h
  have hu:=hr.units
  have hgd:=hr.gd
  have hsz:sizeLine=16777216:=Ij
  refine exQ (je (jq (i:=1) jaw.nd rfl (by ac_rfl) (kx jc))
  (je (yc A8 rfl (yg rfl T.n_range (ja (jz yo jh (jt jw (by rfl) T.n_len j6 (ja (jby (jcl (K:=K) rfl) (qpv 0) jb8 (jb9 jh)) jc))) jc)) (jr (i:=2) jaw.nd rfl (by ac_rfl)) (je (jq (i:=3) jaw.nd rfl (by ac_rfl) (ju G8z (hr.mono (by decide)) rfl T.m8z F8z.kp b8z .nil ka (ja (qpv 0) (ja (qpv 2) jc))))
  (jj (kj (ko A5 A6 ki (qpv 1) (ja (ju G9z (hr.mono (by decide)) rfl T.m9z F9z.kp b9z .nil ka (ja (qpv 3) (ja (ju G11z (hr.mono (by decide)) rfl T.m11z F11z.kp b11z .nil ka (ja (qpv 3) (ja jh jc))) (ja (qpv 2) jc)))) jc) jcq)))))
  (je (yc A8 rfl (kh (K:=K) (jz yo (qpv 1) (jby (jcl (K:=K) rfl) (qpv 1) jb8 (jb9 jh))) rfl) (jr (i:=4) jaw.nd rfl (by ac_rfl)) (je (jq (i:=5) jaw.nd rfl (by ac_rfl) (jt (jak hgd hu) (by rfl) T.n_repr ja7 (ja (qpv 4) jc)))
  (jj (yf (QW.pt (jbm (jba (jap (ju G13z (hr.mono (by decide)) rfl T.m13z F13z.kp b13z .nil ka (ja (qpv 4) jc)))) (jbb (j5 (jag hu) (jt (jak hgd hu) (by rfl) T.n_repr ja7 (ja (qpv 4) jc)) (qpv 5) (j9 _))))) (jj (j3 zr)) kg))))
  (jj (j3 zr))))) ?_
  simp!
  refine⟨by omega,λp hp=>?_⟩
  have k0:Kp [] H (upd H p (.lst [])):=(Kp.refl [] H).new hp
  have ep:upd H p (.lst []) p=some (.lst []):=jb
  generalize upd H p (.lst [])=H0 at k0 ep⊢
  refine rSlU.sq (k0.seq (by simp) hS) λp0 hp0=>?_
  have cl:(cutV (ns.map V.int) none (some 6)).length<=ns.length:=by
   unfold cutV
   rw[Iz,W3,Ad]
   omega
  simp!
  generalize hc:(cutV (ns.map V.int) none (some 6)).length=c at cl
  refine⟨by omega,by omega,?_⟩
  have kp0:Kp [] H0 (upd H0 p0 (.lst (cutV (ns.map V.int) none (some 6)))):=(Kp.refl [] H0).new hp0
  generalize upd H0 p0 (.lst (cutV (ns.map V.int) none (some 6)))=H1 at kp0⊢
  obtain⟨J0,hJ0⟩:∃J0:Nat->L2.St->Hp->Prop,∀i s H',J0 i s H'↔(∃(v2 v3 v4 v5:Option V)(vs:List V),s=[some (.ref a),some (.ref p),v2,v3,v4,v5]/\H' p=some (.lst vs)/\vs.length=i/\(∀v∈vs,IsM H' v)/\Kp [] H H'/\TabOk H' P1 LQ/\TabOk H' P2 WQ):=⟨_,λ_ _ _=>On⟩
  have kH:=k0.trans kp0
  refine jcw J0 ((hJ0 _ _ _).mpr ⟨none,none,none,none,[],rfl,kp0.old _ _ ep Af,rfl,by simp,kH,tb1.kp kH (by simp) (by simp),tb2.kp kH (by simp) (by simp)⟩) ?_ ?_
  ·intro i σ H2 hi hJ
   obtain⟨v2,v3,v4,v5,vs,rfl,e2,vl,hv,k2,t1,t2⟩:=(hJ0 _ _ _).mp hJ
   simp!
   refine⟨a,0+(i:Int),ns,rfl,k2.seq (by simp) hS,by omega,by omega,λb o hb ho=>?_⟩
   have kb:Kp [] H2 (upd H2 b o):=(Kp.refl [] H2).new hb
   have nbp:p≠b:=jf e2 hb
   have e3:=kb.old _ _ e2 Af
   have t13:=t1.kp kb (by simp) (by simp)
   have t23:=t2.kp kb (by simp) (by simp)
   have eb:upd H2 b o b=some o:=jb
   generalize upd H2 b o=H3 at kb e3 t13 t23 eb⊢
   dsimp only
   refine⟨by rw[e3];rfl,b,4,o,rfl,eb,ho,by omega,by omega,λz o1 H4 hz ho1 hb1 k4=>?_⟩
   refine⟨b,z,0+(i:Int),o1,rfl,hb1,ho1,hz,λq m o2 H5 ez ok ho2 hb2 k5 rp=>?_⟩
   obtain⟨a1,a2,rs,ma⟩:=Mach.opened rp
   have mh:=ma.mh ok (by omega)
   have k35:Kp [b] H3 H5:=k4.trans k5
   have e5:H5 p=some (.lst vs):=k35.old _ _ e3 (by simpa using nbp)
   have t15:=jm9 ⟨o,eb,ho⟩ t13 k35
   have t25:=jm9 ⟨o,eb,ho⟩ t23 k35
   have kp6:Kp [p] H5 (upd H5 p (.lst (vs++[.ref q]))):=(Kp.refl [p] H5).set e5 (.inl (.head _))
   have hb0:H b=none:=k2.free hb
   have kH5:Kp [] H H5:=(k2.trans kb).trans' k35 (λx hx=>.inr (by cases Aj.mp hx;exact hb0))
   refine⟨vs,by rw[e5];rfl,by omega,(hJ0 _ _ _).mpr ⟨_,_,_,_,vs++[.ref q],rfl,jb,by simp[vl],λv hv'=>?_,kH5.set e5 (.inr hp),jna e5 t15 kp6,jna e5 t25 kp6⟩⟩
   rcases Aw.mp hv' with h|h
   ·exact(((hv v h).kp kb).kp k35).kp kp6
   ·cases Aj.mp h
    exact⟨q,a1,a2,m.z,rs,mvD m,m.ye,rfl,mh.kp kp6,ok.let4,by have:=ok.nh;simp[mvD];omega⟩
  ·intro σ H2 hJ
   obtain⟨v2,v3,v4,v5,vs,rfl,e2,vl,hv,k2,t1,t2⟩:=(hJ0 _ _ _).mp hJ
   simp!
   refine rSlU.lst e2 λp1 hp1=>?_
   have k3:Kp [] H2 (upd H2 p1 (.lst (cutV vs none (some 2)))):=(Kp.refl [] H2).new hp1
   have e3:=k3.old _ _ e2 Af
   have f3:upd H2 p1 (.lst (cutV vs none (some 2))) p1=some (.lst (cutV vs none (some 2))):=jb
   have cl2:(cutV vs none (some 2)).length<=vs.length:=by
    unfold cutV
    rw[Iz,W3]
    omega
   generalize upd H2 p1 (.lst (cutV vs none (some 2)))=H3 at k3 e3 f3⊢
   refine rAddW.lst e3 f3 (by omega) λp2 hp2=>?_
   have k4:Kp [] H3 (upd H3 p2 (.lst (vs++cutV vs none (some 2)))):=(Kp.refl [] H3).new hp2
   have e4:upd H3 p2 (.lst (vs++cutV vs none (some 2))) p2=some (.lst (vs++cutV vs none (some 2))):=jb
   generalize upd H3 p2 (.lst (vs++cutV vs none (some 2)))=H4 at k4 e4⊢
   have k24:=k3.trans k4
   have hv4:∀v∈vs++cutV vs none (some 2),IsM H4 v:=λv h=>((Aw.mp h).elim (hv v) λh=>hv v (jpx h)).kp k24
   generalize vs++cutV vs none (some 2)=ws at e4 hv4
   have t14:=t1.kp k24 (by simp) (by simp)
   have t24:=t2.kp k24 (by simp) (by simp)
   dsimp only
   rw[e4]
   dsimp only
   obtain⟨J1,hJ1⟩:∃J1:Nat->L2.St->Hp->Prop,∀i s H',J1 i s H'↔(∃(v4 v5:Option V),s=[some (.ref a),some (.ref p),v2,v3,v4,v5]/\H' p2=some (.lst ws)/\Kp [P1,P2] H4 H'/\TabOk H' P1 LQ/\TabOk H' P2 WQ):=⟨_,λ_ _ _=>On⟩
   refine jdm (xs:=ws) J1 ((hJ1 _ _ _).mpr ⟨_,_,rfl,e4,Kp.refl _ _,t14,t24⟩) (λi σ H' _ hJ=>?_) (λi v σ H5 hx hJ=>?_) (λσ H5 hJ=>?_)
   ·obtain⟨_,_,_,e,_⟩:=(hJ1 _ _ _).mp hJ
    exact e
   ·obtain⟨v4,v5,rfl,e5,k5,t15,t25⟩:=(hJ1 _ _ _).mp hJ
    obtain⟨q,a1,a2,z,us,mv,ys,rfl,M,hz,n64⟩:=(hv4 v (Al hx)).kp k5
    have sh:=jqw hz M.ok hz.hi n64 M.yl
    simp!
    refine jif M.rep sh (by omega) (by omega) ?_
    simp!
    refine⟨q,a1,a2,z,us,mv,z.length,ys,rfl,M,hz,rfl,n64,t15,t25,λH6 k6 t16 t26=>?_⟩
    have n1:=jnb e5 t15
    have n2:=jnb e5 t25
    exact .inr ⟨rfl,_,(M.kp k6).rep,sh.1,sh.2.1,by have:=sh.2.2.1;omega,by have:=sh.2.2.2;omega,.inl ⟨rfl,(hJ1 _ _ _).mpr ⟨_,_,rfl,k6.old _ _ e5 (by simp[n1,n2]),k5.trans k6,t16,t26⟩⟩⟩
   ·obtain⟨v4,v5,rfl,_⟩:=(hJ1 _ _ _).mp hJ
    simp!
    exact kQ H5
end
theorem c_of{K:PySem.W.Frag}{hh:Heap}{tb:Addr}{m:Str}(X:K.In hh){b c:Addr}{fd:FuncData}{oc:Value}{od:Option Addr}{osl:Array (Option Value)}(h3:PySem.W.nsIn K mainGlobals m=some (some (.ref b)))(h4:K.lookup b=some ⟨oc,od,.func fd,osl⟩)(h5:fd.code=.ref c)(h6:PySem.W.codeHdIn K c tb=true):∃c,PySem.W.CodeHd hh c tb:=⟨c,Y8 X h6⟩
theorem us1{C:List Value->Prop}(h:∀v0:Value,C [v0])(us:List Value)(e:us.length=1):C us:=by
 cases us with
 |nil=>exact absurd e.symm (Iv _)
 |cons v0 us =>
  cases us with
  |nil=>exact h v0
  |cons _ _=>exact absurd (Ip (e)) (Iv _)
theorem us3{C:List Value->Prop}(h:∀v0 v1 v2:Value,C [v0,v1,v2])(us:List Value)(e:us.length=3):C us:=by
 cases us with
 |nil=>exact absurd e.symm (Iv _)
 |cons v0 us =>
  cases us with
  |nil=>exact absurd (Ip (e.symm)) (Iv _)
  |cons v1 us =>
   cases us with
   |nil=>exact absurd (Ip (Ip (e.symm))) (Iv _)
   |cons v2 us =>
    cases us with
    |nil=>exact h v0 v1 v2
    |cons _ _=>exact absurd (Ip (Ip (Ip (e)))) (Iv _)
theorem us4{C:List Value->Prop}(h:∀v0 v1 v2 v3:Value,C [v0,v1,v2,v3])(us:List Value)(e:us.length=4):C us:=by
 cases us with
 |nil=>exact absurd e.symm (Iv _)
 |cons v0 us =>
  cases us with
  |nil=>exact absurd (Ip (e.symm)) (Iv _)
  |cons v1 us =>
   cases us with
   |nil=>exact absurd (Ip (Ip (e.symm))) (Iv _)
   |cons v2 us =>
    cases us with
    |nil=>exact absurd (Ip (Ip (Ip (e.symm)))) (Iv _)
    |cons v3 us =>
     cases us with
     |nil=>exact h v0 v1 v2 v3
     |cons _ _=>exact absurd (Ip (Ip (Ip (Ip (e))))) (Iv _)
theorem all_mk{l:PySem.W.OpenLaw}{w:World}{K:PySem.W.Frag}{h:Heap}{mg:Str->Option Value}{fa f1 f2 f3 f4 f5 f6 f7 f8 f9 f10 f11 f12 f13 f14 f15 f16 f17 f18 f19 f20 f21 f22 f23 f24:Addr}(X:K.In h)(G:h.Ns mainGlobals mg)(hfa:mg "law"=some (.ref fa))
  {od1 od2 od3 od4 od5 od6 od7 od8 od9 od10 od11 od12 od13 od14 od15 od16 od17 od18 od19 od20 od21 od22 od23 od24 an1 an2 an3 an4 an5 an6 an7 an8 an9 an10 an11 an12 an13 an14 an15 an16 an17 an18 an19 an20 an21 an22 an23 an24:Option Addr}{sl1 sl2 sl3 sl4 sl5 sl6 sl7 sl8 sl9 sl10 sl11 sl12 sl13 sl14 sl15 sl16 sl17 sl18 sl19 sl20 sl21 sl22 sl23 sl24:Array (Option Value)}{oc1 kV1 dc1 pm1 cd1 ct1 oc2 kV2 dc2 pm2 cd2 ct2 oc3 kV3 dc3 pm3 cd3 ct3 oc4 kV4 dc4 pm4 cd4 ct4 oc5 kV5 dc5 pm5 cd5 ct5 oc6 kV6 dc6 pm6 cd6 ct6 oc7 kV7 dc7 pm7 cd7 ct7 oc8 kV8 dc8 pm8 cd8 ct8 oc9 kV9 dc9 pm9 cd9 ct9 oc10 kV10 dc10 pm10 cd10 ct10 oc11 kV11 dc11 pm11 cd11 ct11 oc12 kV12 dc12 pm12 cd12 ct12 oc13 kV13 dc13 pm13 cd13 ct13 oc14 kV14 dc14 pm14 cd14 ct14 oc15 kV15 dc15 pm15 cd15 ct15 oc16 kV16 dc16 pm16 cd16 ct16 oc17 kV17 dc17 pm17 cd17 ct17 oc18 kV18 dc18 pm18 cd18 ct18 oc19 kV19 dc19 pm19 cd19 ct19 oc20 kV20 dc20 pm20 cd20 ct20 oc21 kV21 dc21 pm21 cd21 ct21 oc22 kV22 dc22 pm22 cd22 ct22 oc23 kV23 dc23 pm23 cd23 ct23 oc24 kV24 dc24 pm24 cd24 ct24:Value}
  {cc cy fcu fwp td tdw:Addr}{occu kVcu dccu pmcu cdcu ctcu octd ocwp kVwp dcwp pmwp cdwp ctwp octw:Value}{odcu ancu odtd odwp anwp odtw:Option Addr}{slcu sltd slwp sltw:Array (Option Value)}{tkd:Tok}{ntd ntw:Nat}
  (a1:PySem.W.nsIn K mainGlobals "least"=some (some (.ref f1))) (l1:K.lookup f1=some ⟨oc1,od1,.func (PySem.W.fnOf "least" "least" (jy jae) (jx jae) (jg jae) .none kV1 dc1 pm1 an1 cd1 ct1),sl1⟩) (c1:PySem.W.codeIn K cd1 "least"=true) (k1:PySem.W.keepIn K (.ref f1)=true)
  (a2:PySem.W.nsIn K mainGlobals "least_from"=some (some (.ref f2))) (l2:K.lookup f2=some ⟨oc2,od2,.func (PySem.W.fnOf "least_from" "least_from" (jy yx) (jx yx) (jg yx) .none kV2 dc2 pm2 an2 cd2 ct2),sl2⟩) (c2:PySem.W.codeIn K cd2 "least_from"=true) (k2:PySem.W.keepIn K (.ref f2)=true)
  (a3:PySem.W.nsIn K mainGlobals "merged"=some (some (.ref f3))) (l3:K.lookup f3=some ⟨oc3,od3,.func (PySem.W.fnOf "merged" "merged" (jy zn) (jx zn) (jg zn) .none kV3 dc3 pm3 an3 cd3 ct3),sl3⟩) (c3:PySem.W.codeIn K cd3 "merged"=true) (k3:PySem.W.keepIn K (.ref f3)=true)
  (a4:PySem.W.nsIn K mainGlobals "groups_of_rooms"=some (some (.ref f4))) (l4:K.lookup f4=some ⟨oc4,od4,.func (PySem.W.fnOf "groups_of_rooms" "groups_of_rooms" (jy j4) (jx j4) (jg j4) .none kV4 dc4 pm4 an4 cd4 ct4),sl4⟩) (c4:PySem.W.codeIn K cd4 "groups_of_rooms"=true) (k4:PySem.W.keepIn K (.ref f4)=true)
  (a5:PySem.W.nsIn K mainGlobals "led_from"=some (some (.ref f5))) (l5:K.lookup f5=some ⟨oc5,od5,.func (PySem.W.fnOf "led_from" "led_from" (jy zi) (jx zi) (jg zi) .none kV5 dc5 pm5 an5 cd5 ct5),sl5⟩) (c5:PySem.W.codeIn K cd5 "led_from"=true) (k5:PySem.W.keepIn K (.ref f5)=true)
  (a6:PySem.W.nsIn K mainGlobals "leading_into"=some (some (.ref f6))) (l6:K.lookup f6=some ⟨oc6,od6,.func (PySem.W.fnOf "leading_into" "leading_into" (jy yu) (jx yu) (jg yu) .none kV6 dc6 pm6 an6 cd6 ct6),sl6⟩) (c6:PySem.W.codeIn K cd6 "leading_into"=true) (k6:PySem.W.keepIn K (.ref f6)=true)
  (a7:PySem.W.nsIn K mainGlobals "cut"=some (some (.ref f7))) (l7:K.lookup f7=some ⟨oc7,od7,.func (PySem.W.fnOf "cut" "cut" (jy jaa) (jx jaa) (jg jaa) .none kV7 dc7 pm7 an7 cd7 ct7),sl7⟩) (c7:PySem.W.codeIn K cd7 "cut"=true) (k7:PySem.W.keepIn K (.ref f7)=true)
  (a8:PySem.W.nsIn K mainGlobals "apart"=some (some (.ref f8))) (l8:K.lookup f8=some ⟨oc8,od8,.func (PySem.W.fnOf "apart" "apart" (jy z7) (jx z7) (jg z7) .none kV8 dc8 pm8 an8 cd8 ct8),sl8⟩) (c8:PySem.W.codeIn K cd8 "apart"=true) (k8:PySem.W.keepIn K (.ref f8)=true)
  (a9:PySem.W.nsIn K mainGlobals "join_rooms"=some (some (.ref f9))) (l9:K.lookup f9=some ⟨oc9,od9,.func (PySem.W.fnOf "join_rooms" "join_rooms" (jy zf) (jx zf) (jg zf) .none kV9 dc9 pm9 an9 cd9 ct9),sl9⟩) (c9:PySem.W.codeIn K cd9 "join_rooms"=true) (k9:PySem.W.keepIn K (.ref f9)=true)
  (a10:PySem.W.nsIn K mainGlobals "head_of"=some (some (.ref f10))) (l10:K.lookup f10=some ⟨oc10,od10,.func (PySem.W.fnOf "head_of" "head_of" (jy z0) (jx z0) (jg z0) .none kV10 dc10 pm10 an10 cd10 ct10),sl10⟩) (c10:PySem.W.codeIn K cd10 "head_of"=true) (k10:PySem.W.keepIn K (.ref f10)=true)
  (a11:PySem.W.nsIn K mainGlobals "compared"=some (some (.ref f11))) (l11:K.lookup f11=some ⟨oc11,od11,.func (PySem.W.fnOf "compared" "compared" (jy zq) (jx zq) (jg zq) .none kV11 dc11 pm11 an11 cd11 ct11),sl11⟩) (c11:PySem.W.codeIn K cd11 "compared"=true) (k11:PySem.W.keepIn K (.ref f11)=true)
  (a12:PySem.W.nsIn K mainGlobals "look_same_letters"=some (some (.ref f12))) (l12:K.lookup f12=some ⟨oc12,od12,.func (PySem.W.fnOf "look_same_letters" "look_same_letters" (jy ym) (jx ym) (jg ym) .none kV12 dc12 pm12 an12 cd12 ct12),sl12⟩) (c12:PySem.W.codeIn K cd12 "look_same_letters"=true) (k12:PySem.W.keepIn K (.ref f12)=true)
  (a13:PySem.W.nsIn K mainGlobals "side_by_side"=some (some (.ref f13))) (l13:K.lookup f13=some ⟨oc13,od13,.func (PySem.W.fnOf "side_by_side" "side_by_side" (jy yv) (jx yv) (jg yv) .none kV13 dc13 pm13 an13 cd13 ct13),sl13⟩) (c13:PySem.W.codeIn K cd13 "side_by_side"=true) (k13:PySem.W.keepIn K (.ref f13)=true)
  (a14:PySem.W.nsIn K mainGlobals "_law_box"=some (some (.ref f14))) (l14:K.lookup f14=some ⟨oc14,od14,.func (PySem.W.fnOf "_law_box" "_law_box" (jy zo) (jx zo) (jg zo) .none kV14 dc14 pm14 an14 cd14 ct14),sl14⟩) (c14:PySem.W.codeIn K cd14 "_law_box"=true) (k14:PySem.W.keepIn K (.ref f14)=true)
  (a15:PySem.W.nsIn K mainGlobals "_law_take"=some (some (.ref f15))) (l15:K.lookup f15=some ⟨oc15,od15,.func (PySem.W.fnOf "_law_take" "_law_take" (jy y9) (jx y9) (jg y9) .none kV15 dc15 pm15 an15 cd15 ct15),sl15⟩) (c15:PySem.W.codeIn K cd15 "_law_take"=true) (k15:PySem.W.keepIn K (.ref f15)=true)
  (a16:PySem.W.nsIn K mainGlobals "_law_letters"=some (some (.ref f16))) (l16:K.lookup f16=some ⟨oc16,od16,.func (PySem.W.fnOf "_law_letters" "_law_letters" (jy yz) (jx yz) (jg yz) .none kV16 dc16 pm16 an16 cd16 ct16),sl16⟩) (c16:PySem.W.codeIn K cd16 "_law_letters"=true) (k16:PySem.W.keepIn K (.ref f16)=true)
  (a17:PySem.W.nsIn K mainGlobals "_law_machine"=some (some (.ref f17))) (l17:K.lookup f17=some ⟨oc17,od17,.func (PySem.W.fnOf "_law_machine" "_law_machine" (jy yt) (jx yt) (jg yt) .none kV17 dc17 pm17 an17 cd17 ct17),sl17⟩) (c17:PySem.W.codeIn K cd17 "_law_machine"=true) (k17:PySem.W.keepIn K (.ref f17)=true)
  (a18:PySem.W.nsIn K mainGlobals "_law_led"=some (some (.ref f18))) (l18:K.lookup f18=some ⟨oc18,od18,.func (PySem.W.fnOf "_law_led" "_law_led" (jy zp) (jx zp) (jg zp) .none kV18 dc18 pm18 an18 cd18 ct18),sl18⟩) (c18:PySem.W.codeIn K cd18 "_law_led"=true) (k18:PySem.W.keepIn K (.ref f18)=true)
  (a19:PySem.W.nsIn K mainGlobals "_law_numbered"=some (some (.ref f19))) (l19:K.lookup f19=some ⟨oc19,od19,.func (PySem.W.fnOf "_law_numbered" "_law_numbered" (jy yd) (jx yd) (jg yd) .none kV19 dc19 pm19 an19 cd19 ct19),sl19⟩) (c19:PySem.W.codeIn K cd19 "_law_numbered"=true) (k19:PySem.W.keepIn K (.ref f19)=true)
  (a20:PySem.W.nsIn K mainGlobals "_law_least"=some (some (.ref f20))) (l20:K.lookup f20=some ⟨oc20,od20,.func (PySem.W.fnOf "_law_least" "_law_least" (jy ku) (jx ku) (jg ku) .none kV20 dc20 pm20 an20 cd20 ct20),sl20⟩) (c20:PySem.W.codeIn K cd20 "_law_least"=true) (k20:PySem.W.keepIn K (.ref f20)=true)
  (a21:PySem.W.nsIn K mainGlobals "_law_same"=some (some (.ref f21))) (l21:K.lookup f21=some ⟨oc21,od21,.func (PySem.W.fnOf "_law_same" "_law_same" (jy zk) (jx zk) (jg zk) .none kV21 dc21 pm21 an21 cd21 ct21),sl21⟩) (c21:PySem.W.codeIn K cd21 "_law_same"=true) (k21:PySem.W.keepIn K (.ref f21)=true)
  (a22:PySem.W.nsIn K mainGlobals "_law_drawn"=some (some (.ref f22))) (l22:K.lookup f22=some ⟨oc22,od22,.func (PySem.W.fnOf "_law_drawn" "_law_drawn" (jy zd) (jx zd) (jg zd) .none kV22 dc22 pm22 an22 cd22 ct22),sl22⟩) (c22:PySem.W.codeIn K cd22 "_law_drawn"=true) (k22:PySem.W.keepIn K (.ref f22)=true)
  (a23:PySem.W.nsIn K mainGlobals "_law_right"=some (some (.ref f23))) (l23:K.lookup f23=some ⟨oc23,od23,.func (PySem.W.fnOf "_law_right" "_law_right" (jy ze) (jx ze) (jg ze) .none kV23 dc23 pm23 an23 cd23 ct23),sl23⟩) (c23:PySem.W.codeIn K cd23 "_law_right"=true) (k23:PySem.W.keepIn K (.ref f23)=true)
  (a24:PySem.W.nsIn K mainGlobals "law"=some (some (.ref f24))) (l24:K.lookup f24=some ⟨oc24,od24,.func (PySem.W.fnOf "law" "law" (jy jam) (jx jam) (jg jam) .none kV24 dc24 pm24 an24 cd24 ct24),sl24⟩) (c24:PySem.W.codeIn K cd24 "law"=true) (k24:PySem.W.keepIn K (.ref f24)=true)
  (z_len:PySem.W.nsIn K mainGlobals "len"=some none)
  (z_int:PySem.W.nsIn K mainGlobals "int"=some none)
  (z_range:PySem.W.nsIn K mainGlobals "range"=some none)
  (z_list:PySem.W.nsIn K mainGlobals "list"=some none)
  (z_tuple:PySem.W.nsIn K mainGlobals "tuple"=some none)
  (z_dict:PySem.W.nsIn K mainGlobals "dict"=some none)
  (z_enumerate:PySem.W.nsIn K mainGlobals "enumerate"=some none)
  (z_max:PySem.W.nsIn K mainGlobals "max"=some none)
  (z_min:PySem.W.nsIn K mainGlobals "min"=some none)
  (z_sorted:PySem.W.nsIn K mainGlobals "sorted"=some none)
  (z_set:PySem.W.nsIn K mainGlobals "set"=some none)
  (z_repr:PySem.W.nsIn K mainGlobals "repr"=some none)
  (acu:PySem.W.nsIn K mainGlobals "come_up"=some (some (.ref fcu)))
  (lcu:K.lookup fcu=some ⟨occu,odcu,.func (PySem.W.fnOf "come_up" "come_up" (jy za) (jx za) (jg za) (.ref td) kVcu dccu pmcu ancu cdcu ctcu),slcu⟩)
  (ccu:PySem.W.codeIn K cdcu "come_up"=true)
  (kcu:PySem.W.keepIn K (.ref fcu)=true)
  (ltd:K.lookup td=some ⟨octd,odtd,.seq #[.none,.int 0 tkd] ntd,sltd⟩)
  (awp:PySem.W.nsIn K mainGlobals "walked_pairs"=some (some (.ref fwp)))
  (lwp:K.lookup fwp=some ⟨ocwp,odwp,.func (PySem.W.fnOf "walked_pairs" "walked_pairs" (jy yw) (jx yw) (jg yw) (.ref tdw) kVwp dcwp pmwp anwp cdwp ctwp),slwp⟩)
  (cwp:PySem.W.codeIn K cdwp "walked_pairs"=true)
  (kwp:PySem.W.keepIn K (.ref fwp)=true)
  (ltw:K.lookup tdw=some ⟨octw,odtw,.seq #[.none] ntw,sltw⟩)
  (ecd:cd2=.ref cc)
  (hcin:PySem.W.codeHdIn K cc 75=true)
  (ecy:cdwp=.ref cy)
  (hcy:PySem.W.codeHdIn K cy 148=true)
  : ∃fd:FuncData,(∀(s:Shared)(v:Value),BindsTo s fd ⟨[v],[]⟩ [("_law_script",v)])/\∀base:Heap,K.In base->base.Ns mainGlobals mg->(∀t∈[148,75],base.BuiltinsAt mg t)->FnOk l.prog w K mg base CX0 8 fa fd ["_law_script"] (jhw K 75 148):=by
 have e:=hfa.symm.trans (Ik X G a24)
 cases e
 have F1z:=jcv (st:=jae) l1 c1 k1
 have m1z:=Ik X G a1
 have b1z:=F1z.binds (ps:=["machine"]) λ_ _ _ _ _ _=>us1 λ_=>rfl
 have F18z:=jcv (st:=yx) l2 c2 k2
 have m18z:=Ik X G a2
 have b18z:=F18z.binds (ps:=["moves","yes","first"]) λ_ _ _ _ _ _=>us3 λ_ _ _=>rfl
 have F21z:=jcv (st:=zn) l3 c3 k3
 have m21z:=Ik X G a3
 have b21z:=F21z.binds (ps:=["moves","yes","groups"]) λ_ _ _ _ _ _=>us3 λ_ _ _=>rfl
 have F15z:=jcv (st:=j4) l4 c4 k4
 have m15z:=Ik X G a4
 have b15z:=F15z.binds (ps:=["moves","yes"]) λ_ _ _ _ _ _=>us2 λ_ _=>rfl
 have F19z:=jcv (st:=zi) l5 c5 k5
 have m19z:=Ik X G a5
 have b19z:=F19z.binds (ps:=["moves","sign"]) λ_ _ _ _ _ _=>us2 λ_ _=>rfl
 have F17z:=jcv (st:=yu) l6 c6 k6
 have m17z:=Ik X G a6
 have b17z:=F17z.binds (ps:=["part","sources","groups"]) λ_ _ _ _ _ _=>us3 λ_ _ _=>rfl
 have F_cut:=jcv (st:=jaa) l7 c7 k7
 have m_cut:=Ik X G a7
 have b_cut:=F_cut.binds (ps:=["parts","groups","number","share"]) λ_ _ _ _ _ _=>us4 λ_ _ _ _=>rfl
 have F2z:=jcv (st:=z7) l8 c8 k8
 have m2z:=Ik X G a8
 have b2z:=F2z.binds (ps:=["machine","one","other"]) λ_ _ _ _ _ _=>us3 λ_ _ _=>rfl
 have F16z:=jcv (st:=zf) l9 c9 k9
 have m16z:=Ik X G a9
 have b16z:=F16z.binds (ps:=["heads","one","other"]) λ_ _ _ _ _ _=>us3 λ_ _ _=>rfl
 have F7z:=jcv (st:=z0) l10 c10 k10
 have m7z:=Ik X G a10
 have b7z:=F7z.binds (ps:=["heads","room"]) λ_ _ _ _ _ _=>us2 λ_ _=>rfl
 have F14z:=jcv (st:=zq) l11 c11 k11
 have m14z:=Ik X G a11
 have b14z:=F14z.binds (ps:=["one","other"]) λ_ _ _ _ _ _=>us2 λ_ _=>rfl
 have F20z:=jcv (st:=ym) l12 c12 k12
 have m20z:=Ik X G a12
 have b20z:=F20z.binds (ps:=["one","other"]) λ_ _ _ _ _ _=>us2 λ_ _=>rfl
 have F22z:=jcv (st:=yv) l13 c13 k13
 have m22z:=Ik X G a13
 have b22z:=F22z.binds (ps:=["one","other"]) λ_ _ _ _ _ _=>us2 λ_ _=>rfl
 have F8z:=jcv (st:=zo) l14 c14 k14
 have m8z:=Ik X G a14
 have b8z:=F8z.binds (ps:=["_law_script","_law_k"]) λ_ _ _ _ _ _=>us2 λ_ _=>rfl
 have F0z:=jcv (st:=y9) l15 c15 k15
 have m0z:=Ik X G a15
 have b0z:=F0z.binds (ps:=["_law_box_here","_law_wide"]) λ_ _ _ _ _ _=>us2 λ_ _=>rfl
 have F11z:=jcv (st:=yz) l16 c16 k16
 have m11z:=Ik X G a16
 have b11z:=F11z.binds (ps:=["_law_box_here","_law_most"]) λ_ _ _ _ _ _=>us2 λ_ _=>rfl
 have F12z:=jcv (st:=yt) l17 c17 k17
 have m12z:=Ik X G a17
 have b12z:=F12z.binds (ps:=["_law_box_here","_law_letters_here","_law_most"]) λ_ _ _ _ _ _=>us3 λ_ _ _=>rfl
 have F4z:=jcv (st:=zp) l18 c18 k18
 have m4z:=Ik X G a18
 have b4z:=F4z.binds (ps:=["_law_machine_here","_law_room","_law_text"]) λ_ _ _ _ _ _=>us3 λ_ _ _=>rfl
 have F5z:=jcv (st:=yd) l19 c19 k19
 have m5z:=Ik X G a19
 have b5z:=F5z.binds (ps:=["_law_letters_here","_law_moves","_law_yes"]) λ_ _ _ _ _ _=>us3 λ_ _ _=>rfl
 have F10z:=jcv (st:=ku) l20 c20 k20
 have m10z:=Ik X G a20
 have b10z:=F10z.binds (ps:=["_law_machine_here"]) λ_ _ _ _ _ _=>us1 λ_=>rfl
 have F6z:=jcv (st:=zk) l21 c21 k21
 have m6z:=Ik X G a21
 have b6z:=F6z.binds (ps:=["_law_found","_law_due"]) λ_ _ _ _ _ _=>us2 λ_ _=>rfl
 have F9z:=jcv (st:=zd) l22 c22 k22
 have m9z:=Ik X G a22
 have b9z:=F9z.binds (ps:=["_law_box_here","_law_letters_here","_law_k"]) λ_ _ _ _ _ _=>us3 λ_ _ _=>rfl
 have F13z:=jcv (st:=ze) l23 c23 k23
 have m13z:=Ik X G a23
 have b13z:=F13z.binds (ps:=["_law_machine_here"]) λ_ _ _ _ _ _=>us1 λ_=>rfl
 have F_law:=jcv (st:=jam) l24 c24 k24
 have m_law:=Ik X G a24
 have b_law:=F_law.binds (ps:=["_law_script"]) λ_ _ _ _ _ _=>us1 λ_=>rfl
 have n_len:=Oj X G z_len
 have n_int:=Oj X G z_int
 have n_range:=Oj X G z_range
 have n_list:=Oj X G z_list
 have n_tuple:=Oj X G z_tuple
 have n_dict:=Oj X G z_dict
 have n_enumerate:=Oj X G z_enumerate
 have n_max:=Oj X G z_max
 have n_min:=Oj X G z_min
 have n_sorted:=Oj X G z_sorted
 have n_set:=Oj X G z_set
 have n_repr:=Oj X G z_repr
 refine⟨PySem.W.fnOf "law" "law" (jy jam) (jx jam) (jg jam) .none kV24 dc24 pm24 an24 cd24 ct24,λs v=>.of_eq rfl,λbase kb _ hbt=>?_⟩
 have hd1:PySem.W.CodeHd base cc 75:=Y8 kb hcin
 have hd2:PySem.W.CodeHd base cy 148:=Y8 kb hcy
 have nn12:(148:Addr)≠75:=by decide
 have m3z:=Ik X G acu
 have F3z:=jmp (st:=za) lcu ccu kcu
 have b3z:Binds K _ ["first","signs","step","most","at"] [.none,.int 0 tkd]:=F3z.binds ltd rfl λ_ _ _ _ _ _ us hl=>by obtain⟨_,_,_,rfl⟩:=us3 (C:=λus=>∃a b c,us=[a,b,c]) (λa b c=>⟨a,b,c,rfl⟩) us (by simpa using hl);exact⟨_,rfl,rfl⟩
 have b_come_up2:Binds K _ ["first","signs","step","most","at"] [.int 0 tkd]:=F3z.binds ltd rfl λ_ _ _ _ _ _ us hl=>by obtain⟨_,_,_,_,rfl⟩:=us4 (C:=λus=>∃a b c d,us=[a,b,c,d]) (λa b c d=>⟨a,b,c,d,rfl⟩) us (by simpa using hl);exact⟨_,rfl,rfl⟩
 have h_come_up:Vals [.non,.int 0] [.none,.int 0 tkd]:=.cons rfl (.cons ⟨_,rfl⟩ .nil)
 have h_come_up2:Vals [.int 0] [.int 0 tkd]:=.cons ⟨_,rfl⟩ .nil
 have g3z:=ok_come_up (P:=l.prog) (w:=w) (base:=base)  F3z ⟨n_len,n_tuple,n_range⟩
 have g_come_upT:=ok_come_upT (P:=l.prog) (w:=w) (base:=base)  F3z ⟨n_len,n_tuple,n_range⟩
 have m23z:=Ik X G awp
 have F23z:=jmp (st:=yw) lwp cwp kwp
 have b23z:Binds K _ ["one","other","most"] [.none]:=F23z.binds ltw rfl λ_ _ _ _ _ _ us hl=>by obtain⟨_,_,rfl⟩:=us2 (C:=λus=>∃a b,us=[a,b]) (λa b=>⟨a,b,rfl⟩) us (by simpa using hl);exact⟨_,rfl,rfl⟩
 have h_walked_pairs:Vals [.non] [.none]:=.cons rfl .nil
 have g23z:=ok_walked_pairs (P:=l.prog) (w:=w) (base:=base) (Pt:=148) F23z ⟨n_len,m3z,rfl,hd2,hbt 148 (.head _)⟩ ecy F3z b_come_up2 h_come_up2 g_come_upT
 have g0z:=ok__law_take (P:=l.prog) (w:=w) (mg:=mg) (base:=base) F0z
 have g8z:=ok__law_box (P:=l.prog) (w:=w) (base:=base)  F8z ⟨n_len,n_int⟩
 have g11z:=ok__law_letters (P:=l.prog) (w:=w) (base:=base)  F11z ⟨n_len,n_list,n_range,m0z⟩ F0z b0z g0z
 have g12z:=ok__law_machine (P:=l.prog) (w:=w) (base:=base)  F12z ⟨n_len,n_max,n_range,n_tuple,m0z⟩ F0z b0z g0z
 have g_cut:=ok_cut (P:=l.prog) (w:=w) (base:=base)  F_cut ⟨n_len,n_dict⟩
 have g17z:=ok_leading_into (P:=l.prog) (w:=w) (mg:=mg) (base:=base) F17z
 have g19z:=ok_led_from (P:=l.prog) (w:=w) (base:=base)  F19z ⟨n_enumerate⟩
 have g15z:=ok_groups_of_rooms (P:=l.prog) (w:=w) (base:=base)  F15z ⟨n_len,n_list,n_range,n_dict,m_cut,m19z,m17z⟩ F_cut b_cut g_cut F19z b19z g19z F17z b17z g17z
 have g21z:=ok_merged (P:=l.prog) (w:=w) (base:=base)  F21z ⟨n_len,n_tuple,n_enumerate⟩
 have g18z:=ok_least_from (P:=l.prog) (w:=w) (base:=base) (Pt:=75) F18z ⟨n_len,m3z,m21z,m15z,rfl,hd1,hbt 75 (.tail _ (.head _))⟩ ecd F3z b3z h_come_up g3z F21z b21z g21z F15z b15z g15z
 have g1z:=ok_least (P:=l.prog) (w:=w) (base:=base)  F1z ⟨m18z⟩ F18z b18z g18z
 have g7z:=ok_head_of (P:=l.prog) (w:=w) (mg:=mg) (base:=base) F7z
 have g16z:=ok_join_rooms (P:=l.prog) (w:=w) (base:=base)  F16z ⟨m7z⟩ F7z b7z g7z
 have g2z:=ok_apart (P:=l.prog) (w:=w) (base:=base)  F2z ⟨n_len,n_list,n_range,n_enumerate,m16z⟩ F16z b16z g16z
 have g20z:=ok_look_same_letters (P:=l.prog) (w:=w) (mg:=mg) (base:=base) F20z
 have g22z:=ok_side_by_side (P:=l.prog) (w:=w) (base:=base)  F22z ⟨n_len,n_list,n_tuple⟩
 have g14z:=ok_compared (P:=l.prog) (w:=w) (base:=base)  F14z ⟨n_len,n_sorted,m20z,m2z,m22z,m23z⟩ F20z b20z g20z F2z b2z g2z F22z b22z g22z F23z b23z h_walked_pairs g23z
 have g4z:=ok__law_led (P:=l.prog) (w:=w) (mg:=mg) (base:=base) F4z
 have g5z:=ok__law_numbered (P:=l.prog) (w:=w) (base:=base)  F5z ⟨n_len,n_tuple⟩
 have g10z:=ok__law_least (P:=l.prog) (w:=w) (base:=base)  F10z ⟨n_range,n_tuple,n_len,n_sorted,n_int,n_set,m5z⟩ F5z b5z g5z
 have g6z:=ok__law_same (P:=l.prog) (w:=w) (base:=base)  F6z ⟨n_repr⟩
 have g9z:=ok__law_drawn (P:=l.prog) (w:=w) (base:=base)  F9z ⟨n_int,m0z,m12z⟩ F0z b0z g0z F12z b12z g12z
 have g13z:=ok__law_right (P:=l.prog) (w:=w) (base:=base)  nn12  F13z ⟨n_range,n_min,n_len,m10z,m1z,m6z,m14z,m2z,m4z⟩ F10z b10z g10z F1z b1z g1z F6z b6z g6z F14z b14z g14z F2z b2z g2z F4z b4z g4z
 exact ok_law F_law ⟨n_len,n_range,n_repr,m8z,m11z,m9z,m13z⟩ F8z b8z g8z F11z b11z g11z F9z b9z g9z F13z b13z g13z
theorem jq6{K:PySem.W.Frag}{H:Hp}{a t:Addr}{xs:List V}{ps:Array Value}(hS:SqL K H a xs)(hT:H t=some (.tbl ps))(hK:K.lookup t=none):a≠t:=by
 rintro rfl
 rcases hS with(h|⟨o,h⟩)|⟨o,its,n,h,_⟩
 ·rw[hT]at h;cases h
 ·rw[hT]at h;cases h
 ·rw[hK]at h;cases h
theorem walk{l:PySem.W.OpenLaw}{q:Program}{loose:List Str}{XP:(Str->Option Value)->Heap->Prop}{YP:World->Heap->Prop}{d:DefRec}{K:Params->PySem.W.Frag}(hn:l.most=some 63)(hdf:d.params.defaults=[])
  (hY:∀(w:World)(h:Heap),YP w h->(K w.params).In h) (hT:∀(w:World)(h:Heap),YP w h->∀t∈[148,75],h.get? t=some (PySem.W.tabObj #[]))
  (hC:∀(w:World)(h:Heap),(K w.params).In h->∀t∈[148,75],∃c,PySem.W.CodeHd h c t) (hN:∀w:World,∀t∈[148,75],(K w.params).lookup t=none)
  (F:∀(w:World)(mg:Str->Option Value)(fa:Addr)(h:Heap),(K w.params).In h->h.Ns mainGlobals mg->mg d.name=some (.ref fa) ->
   ∃fd:FuncData,(∀(s:Shared)(u:Value),BindsTo s fd ⟨[u],[]⟩ [("_law_script",u)])/\∀base:Heap,(K w.params).In base->base.Ns mainGlobals mg->(∀t∈[148,75],base.BuiltinsAt mg t)->FnOk l.prog w (K w.params) mg base CX0 8 fa fd ["_law_script"] (jhw (K w.params) 75 148)) :
  PySem.W.WalkO q loose XP YP l.row.toRowW d [] (λf vs=>PySem.call f vs) :=
 L2.walk_ofT (n:=63) (k:=8) (x:="_law_script") (ts:=[148,75]) (CX:=λ_=>CX0) (sp:=λw=>jhw (K w.params) 75 148) hn (by decide) hdf ⟨rfl,by decide,by decide,rfl⟩ hY hT hC hN F
  (λw _ a ns hl hS hT=>⟨a,ns,rfl,hS,hl,jq6 hS (hT 75 (.tail _ (.head _))) (hN w 75 (.tail _ (.head _))),jq6 hS (hT 148 (.head _)) (hN w 148 (.head _)),⟨#[],hT 75 (.tail _ (.head _)),trivial,λp cv e=>by cases e⟩,⟨#[],hT 148 (.head _),trivial,λp cv e=>by cases e⟩,λ_=>rfl⟩) λ_ _ _ _ _ z=>z
end My
namespace PySem.W.Fast
theorem tw16780371532618582005:True:=trivial
theorem tw3753264404613837858:True:=trivial
theorem tw8685854205494853606:True:=trivial
theorem tw13361981272421224464:True:=trivial
theorem tw10017899684460997284:True:=trivial
theorem tw16659076260361228943:True:=trivial
theorem tw9630957259819422080:True:=trivial
theorem tw10349110021062079032:True:=trivial
theorem tw3326524232310834374:True:=trivial
theorem tw6910320921310585794:True:=trivial
theorem tw4041440792046963575:True:=trivial
theorem tw3923248419601359359:True:=trivial
theorem tw1304579068593883205:True:=trivial
theorem tw16632206945162934895:True:=trivial
theorem tw18440238925827661824:True:=trivial
theorem tw3287037724834415947:True:=trivial
theorem tw17267568602825327763:True:=trivial
theorem tw810554816157436344:True:=trivial
theorem tw13777933734039297415:True:=trivial
theorem tw4261724259095448319:True:=trivial
theorem tw5506894464391277376:True:=trivial
theorem tw18437691038222579653:True:=trivial
theorem tw10244468323797670208:True:=trivial
theorem tw8940726853592260590:True:=trivial
theorem tw409462912707511757:True:=trivial
theorem tw13580927363045876740:True:=trivial
theorem tw13017176314788565758:True:=trivial
theorem tw10227126200615405434:True:=trivial
theorem tw5034008468655776557:True:=trivial
theorem tw9267512938543188685:True:=trivial
theorem tw17965495434493661993:True:=trivial
theorem tw965063861122864111:True:=trivial
theorem tw2518509174956971825:True:=trivial
theorem tw11584196237821742782:True:=trivial
theorem tw17826293085974847069:True:=trivial
theorem tw7195596782091892340:True:=trivial
theorem tw16031804487072019266:True:=trivial
theorem tw16157249938552743461:True:=trivial
theorem tw16494614740769545808:True:=trivial
theorem tw14191012545765213746:True:=trivial
theorem tw8928363144222377422:True:=trivial
theorem tw15777230400843730414:True:=trivial
theorem tw3526294935948421204:True:=trivial
theorem tw14317950192185806899:True:=trivial
theorem tw6207732000511453293:True:=trivial
theorem tw1832266635090186658:True:=trivial
theorem tw1039841435189293989:True:=trivial
theorem tw873406448748912274:True:=trivial
theorem tw9577835231974514036:True:=trivial
theorem tw3285446404128735930:True:=trivial
theorem tw10332575468697468110:True:=trivial
theorem tw8290341026905379741:True:=trivial
theorem tw11049195892009484803:True:=trivial
theorem tw1685738875027902805:True:=trivial
theorem tw10088431994336001646:True:=trivial
theorem tw2363873372588897305:True:=trivial
theorem tw10775531822077656061:True:=trivial
theorem tw15315664037381508633:True:=trivial
theorem tw5294145422383350833:True:=trivial
theorem tw11800315023576213805:True:=trivial
theorem tw460270012558967086:True:=trivial
theorem tw1992044139958496293:True:=trivial
theorem tw6512851576290897957:True:=trivial
theorem tw2448065443984644201:True:=trivial
theorem tw16845302522197440887:True:=trivial
theorem tw6654851977184779383:True:=trivial
theorem tw14180414237449347599:True:=trivial
theorem tw6288855510694251572:True:=trivial
theorem tw4425374774662119882:True:=trivial
theorem tw9414850964928830537:True:=trivial
theorem tw672429674293965277:True:=trivial
theorem tw6977504872754098647:True:=trivial
theorem tw2843489308968470199:True:=trivial
theorem tw3548368750480531116:True:=trivial
theorem tw16114282080622370376:True:=trivial
theorem tw9971365841692193579:True:=trivial
theorem tw11031943042132285129:True:=trivial
theorem tw9847792762452556056:True:=trivial
theorem tw15456495711921944167:True:=trivial
theorem tw4152109534474476782:True:=trivial
theorem tw4516270251257009627:True:=trivial
theorem tw1665226278285211908:True:=trivial
theorem tw4531830799795586156:True:=trivial
theorem tw12119908214396503984:True:=trivial
theorem tw10318300425482555753:True:=trivial
theorem tw18402891343278169502:True:=trivial
theorem tw7816059085865044648:True:=trivial
theorem tw8534526901443811679:True:=trivial
theorem tw17417777538750897588:True:=trivial
theorem tw6474182112507459976:True:=trivial
theorem tw15432948787275606776:True:=trivial
theorem tw4755079525150516034:True:=trivial
theorem tw1491549157837747993:True:=trivial
theorem tw13958250594855287140:True:=trivial
theorem tw17662797201588289364:True:=trivial
theorem tw6392099387003208510:True:=trivial
theorem tw18348138867590726750:True:=trivial
theorem tw1908310124435434834:True:=trivial
theorem tw3211648502800835211:True:=trivial
theorem tw5485975049969557626:True:=trivial
theorem tw1377252796084585218:True:=trivial
theorem tw10560873229570851498:True:=trivial
theorem tw15989197508843742067:True:=trivial
theorem tw5825397323346962272:True:=trivial
theorem tw275875393052550188:True:=trivial
theorem tw11212309423570056640:True:=trivial
theorem tw3941706999136268228:True:=trivial
theorem tw2027942866277373521:True:=trivial
theorem tw17976497304389183550:True:=trivial
theorem tw15330976060418010496:True:=trivial
theorem tw15940164417177686305:True:=trivial
theorem tw9998180343880823144:True:=trivial
theorem tw9363321089143086569:True:=trivial
theorem tw10382872972946362145:True:=trivial
theorem tw9322581367055028985:True:=trivial
theorem tw6504990569304874643:True:=trivial
theorem tw1308037099218264530:True:=trivial
theorem tw14881978867715225985:True:=trivial
theorem tw15565690798583568216:True:=trivial
theorem tw8222900543288464371:True:=trivial
theorem tw12844315148415753826:True:=trivial
theorem tw6846310536501320290:True:=trivial
theorem tw10938257849588596280:True:=trivial
theorem tw12151915690014793281:True:=trivial
theorem tw14502202600534699883:True:=trivial
theorem tw14613919716604327909:True:=trivial
theorem tw8482764892828415302:True:=trivial
theorem tw8259286489344917974:True:=trivial
theorem tw11716949570868524717:True:=trivial
theorem tw2014678687899948545:True:=trivial
theorem tw9897468073409951315:True:=trivial
theorem tw8753489787667545240:True:=trivial
theorem tw2996858462360391559:True:=trivial
theorem tw17129438867343722528:True:=trivial
theorem tw10924400514008767824:True:=trivial
theorem tw5918392248742635829:True:=trivial
theorem tw7249709927035579477:True:=trivial
theorem tw1777676805103279287:True:=trivial
theorem tw4283258738173119793:True:=trivial
theorem tw773435934434227186:True:=trivial
theorem tw15781949620058723829:True:=trivial
theorem tw12366619286449362111:True:=trivial
theorem tw1561778214925232860:True:=trivial
theorem tw4273696257478294139:True:=trivial
theorem tw17581336652277946267:True:=trivial
theorem tw15835761028591339363:True:=trivial
theorem tw10045278109361999152:True:=trivial
theorem tw16950182508978665333:True:=trivial
theorem tw15104883437912320687:True:=trivial
theorem tw13796719365655043412:True:=trivial
theorem tw15296196762915003389:True:=trivial
theorem tw4524621381294645979:True:=trivial
theorem tw6194137849218388201:True:=trivial
theorem tw4300739326323911742:True:=trivial
theorem tw9361193296083808867:True:=trivial
theorem tw2606742144376116837:True:=trivial
theorem tw14213772583068831719:True:=trivial
theorem tw10501273946163804554:True:=trivial
theorem tw9911294972281270742:True:=trivial
theorem tw9624973227221696070:True:=trivial
theorem tw9618195278381196595:True:=trivial
theorem tw9457241903344828817:True:=trivial
theorem tw9456765940852445534:True:=trivial
theorem tw9327682160297242855:True:=trivial
theorem tw8573532970070868244:True:=trivial
theorem tw8331866904061797851:True:=trivial
theorem tw8098948124635267700:True:=trivial
theorem tw6440102930750504641:True:=trivial
theorem tw6030295441112798656:True:=trivial
theorem tw5764053433974836918:True:=trivial
theorem tw4659601031632151170:True:=trivial
theorem tw4618952726230245430:True:=trivial
theorem tw4267038870025031240:True:=trivial
theorem tw3853850990313864657:True:=trivial
theorem tw3680354654109008331:True:=trivial
theorem tw3325769437108570080:True:=trivial
theorem tw33168274406636925:True:=trivial
theorem tw3058554652188017569:True:=trivial
theorem tw2955303834281493978:True:=trivial
theorem tw2946322673217990556:True:=trivial
theorem tw293333822690353435:True:=trivial
theorem tw243026071415557248:True:=trivial
theorem tw2061901126654524947:True:=trivial
theorem tw18199515574348047870:True:=trivial
theorem tw17509106991408191827:True:=trivial
theorem tw16788913624894647238:True:=trivial
theorem tw16505162434652949508:True:=trivial
theorem tw16475090207382232994:True:=trivial
theorem tw16387063127880505378:True:=trivial
theorem tw15413846445295053934:True:=trivial
theorem tw15115424192902149146:True:=trivial
theorem tw15009965791932680709:True:=trivial
theorem tw14805792409534896216:True:=trivial
theorem tw14553547835048914549:True:=trivial
theorem tw13735057980650802780:True:=trivial
theorem tw1291736812796495151:True:=trivial
theorem tw12852407495326078598:True:=trivial
theorem tw12790828322990957230:True:=trivial
theorem tw12502650005977299374:True:=trivial
theorem tw12008029676566986789:True:=trivial
theorem tw1190034135284630554:True:=trivial
theorem tw11549197436303024719:True:=trivial
theorem tw11456819166210320562:True:=trivial
theorem tw10951092930275186611:True:=trivial
theorem tw10907801143507711784:True:=trivial
theorem tw10853413116585064824:True:=trivial
theorem tw10508241417711810099:True:=trivial
theorem tw10460283669125270263:True:=trivial
end PySem.W.Fast
open PySem PySem.W PyProof.Rows
set_option maxRecDepth 100000 in
set_option maxHeartbeats 0 in
theorem PySem.Challenge.cw_calmword_k07_whole_the_fewest_rooms_holds : PySem.Challenge.rw_calmword_k07_whole_the_fewest_rooms.Holds := by
 w_on;o_law;k_head;(case hw=>w_witness2)
 k_fill
 refine My.walk (l:=PySem.Challenge.rw_calmword_k07_whole_the_fewest_rooms) rfl rfl (λw h Y=>PySem.W.km_in_of Y) (λw h Y=>PySem.W.km_tabs_of Y) ?cC ?cN ?F
 case cC =>
  intro w h X t ht
  rcases Ap.mp ht with rfl|ht
  ·(refine' My.c_of (m:="walked_pairs") (tb:=148) X ?h3 ?h4 ?h5 ?h6;(case h3=>k_is);(case h4=>k_is);(case h5=>rfl);(case h6=>kernel_rfl))
  ·cases Aj.mp ht;(refine' My.c_of (m:="least_from") (tb:=75) X ?h3 ?h4 ?h5 ?h6;(case h3=>k_is);(case h4=>k_is);(case h5=>rfl);(case h6=>kernel_rfl))
 case cN =>
  intro w t ht
  rcases Ap.mp ht with rfl|ht
  ·rfl
  ·cases Aj.mp ht;rfl
 case F =>
  intro w mg fa h KX G hmg
  refine' My.all_mk KX G hmg ?a1 ?l1 ?c1 ?k1 ?a2 ?l2 ?c2 ?k2 ?a3 ?l3 ?c3 ?k3 ?a4 ?l4 ?c4 ?k4 ?a5 ?l5 ?c5 ?k5 ?a6 ?l6 ?c6 ?k6 ?a7 ?l7 ?c7 ?k7 ?a8 ?l8 ?c8 ?k8 ?a9 ?l9 ?c9 ?k9 ?a10 ?l10 ?c10 ?k10 ?a11 ?l11 ?c11 ?k11 ?a12 ?l12 ?c12 ?k12 ?a13 ?l13 ?c13 ?k13 ?a14 ?l14 ?c14 ?k14 ?a15 ?l15 ?c15 ?k15 ?a16 ?l16 ?c16 ?k16 ?a17 ?l17 ?c17 ?k17 ?a18 ?l18 ?c18 ?k18 ?a19 ?l19 ?c19 ?k19 ?a20 ?l20 ?c20 ?k20 ?a21 ?l21 ?c21 ?k21 ?a22 ?l22 ?c22 ?k22 ?a23 ?l23 ?c23 ?k23 ?a24 ?l24 ?c24 ?k24 ?z_len ?z_int ?z_range ?z_list ?z_tuple ?z_dict ?z_enumerate ?z_max ?z_min ?z_sorted ?z_set ?z_repr ?acu ?lcu ?ccu ?kcu ?ltd ?awp ?lwp ?cwp ?kwp ?ltw ?ecd ?hcin ?ecy ?hcy
  (case a1=>k_is)
  (case l1=>k_is)
  (case c1=>k_is)
  (case k1=>k_is)
  (case a2=>k_is)
  (case l2=>k_is)
  (case c2=>k_is)
  (case k2=>k_is)
  (case a3=>k_is)
  (case l3=>k_is)
  (case c3=>k_is)
  (case k3=>k_is)
  (case a4=>k_is)
  (case l4=>k_is)
  (case c4=>k_is)
  (case k4=>k_is)
  (case a5=>k_is)
  (case l5=>k_is)
  (case c5=>k_is)
  (case k5=>k_is)
  (case a6=>k_is)
  (case l6=>k_is)
  (case c6=>k_is)
  (case k6=>k_is)
  (case a7=>k_is)
  (case l7=>k_is)
  (case c7=>k_is)
  (case k7=>k_is)
  (case a8=>k_is)
  (case l8=>k_is)
  (case c8=>k_is)
  (case k8=>k_is)
  (case a9=>k_is)
  (case l9=>k_is)
  (case c9=>k_is)
  (case k9=>k_is)
  (case a10=>k_is)
  (case l10=>k_is)
  (case c10=>k_is)
  (case k10=>k_is)
  (case a11=>k_is)
  (case l11=>k_is)
  (case c11=>k_is)
  (case k11=>k_is)
  (case a12=>k_is)
  (case l12=>k_is)
  (case c12=>k_is)
  (case k12=>k_is)
  (case a13=>k_is)
  (case l13=>k_is)
  (case c13=>k_is)
  (case k13=>k_is)
  (case a14=>k_is)
  (case l14=>k_is)
  (case c14=>k_is)
  (case k14=>k_is)
  (case a15=>k_is)
  (case l15=>k_is)
  (case c15=>k_is)
  (case k15=>k_is)
  (case a16=>k_is)
  (case l16=>k_is)
  (case c16=>k_is)
  (case k16=>k_is)
  (case a17=>k_is)
  (case l17=>k_is)
  (case c17=>k_is)
  (case k17=>k_is)
  (case a18=>k_is)
  (case l18=>k_is)
  (case c18=>k_is)
  (case k18=>k_is)
  (case a19=>k_is)
  (case l19=>k_is)
  (case c19=>k_is)
  (case k19=>k_is)
  (case a20=>k_is)
  (case l20=>k_is)
  (case c20=>k_is)
  (case k20=>k_is)
  (case a21=>k_is)
  (case l21=>k_is)
  (case c21=>k_is)
  (case k21=>k_is)
  (case a22=>k_is)
  (case l22=>k_is)
  (case c22=>k_is)
  (case k22=>k_is)
  (case a23=>k_is)
  (case l23=>k_is)
  (case c23=>k_is)
  (case k23=>k_is)
  (case a24=>k_is)
  (case l24=>k_is)
  (case c24=>k_is)
  (case k24=>k_is)
  (case z_len=>k_is)
  (case z_int=>k_is)
  (case z_range=>k_is)
  (case z_list=>k_is)
  (case z_tuple=>k_is)
  (case z_dict=>k_is)
  (case z_enumerate=>k_is)
  (case z_max=>k_is)
  (case z_min=>k_is)
  (case z_sorted=>k_is)
  (case z_set=>k_is)
  (case z_repr=>k_is)
  (case acu=>k_is)
  (case lcu=>k_is)
  (case ccu=>k_is)
  (case kcu=>k_is)
  (case ltd=>k_is)
  (case awp=>k_is)
  (case lwp=>k_is)
  (case cwp=>k_is)
  (case kwp=>k_is)
  (case ltw=>k_is)
  (case ecd=>rfl)
  (case hcin=>kernel_rfl)
  (case ecy=>rfl)
  (case hcy=>kernel_rfl)